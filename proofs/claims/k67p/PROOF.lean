import PyProof.Rows.All
import Wide.All
import OpenK.AllK
import Wide.FinOn
import Lean
import PyProof.EqAt
import PyProof.EqKinds
import PyProof.TupleCall
import PyProof.StationsW
import PyProof.PassesOwn
import PyProof.RulesAs
import PyProof.ExcClass3
import PyProof.Rows.CatchOwn
import OpenK.KMake
import OpenK.KWalk
import PyProof.InstStoreFacts
import PyProof.ExcBaseAll.ValueError
import PyProof.RangeIter
import OpenK.KRaise
import PyProof.NsDelKeeps
import KE.KIsAll
import PyProof.P3In
import PyProof.NeData
import PyProof.CompUse
import PyProof.ReprLen
import KE.KSortTup
import PyProof.SumAny
import PyProof.Rows.SeqCalls
import KE.KRevIter
import PyProof.TupleOfGen
import PyProof.CollectIter
import PyProof.Draws
import PyProof.EnumMake
import KE.KEqDict
import KE.KDictSum
import PyProof.ConsumeS
import PyProof.WalkInts
import PySem.Challenge.RW_thinnet_k67_keepers_deeds
open PySem.W (Frag nsIn keepIn fnOf codeIn mg_of mg_none_of)
set_option compiler.extract_closed false
set_option Elab.async false
set_option linter.all false
set_option maxRecDepth 100000
open Array renaming length_toList->cq,getElem?_eq_getElem->fD,getElem?_toList->fc,getElem?_eq_some_iff->iH,getElem?_eq_none->iq
open Array.Perm renaming refl->ig
open Bool renaming false_ne_true->cD,and_eq_true->cP,eq_iff_iff->ce,false_eq_true->cm,eq_false_iff->c8,beq_eq_decide_eq->gh,not_eq_true'->iK
open Classical renaming propDecidable->eO,em->fZ
open False renaming elim->cz
open ForInStep renaming yield->fL
open Int renaming toNat_natCast->e8,mul_le_mul_of_nonneg_left->gy,le_refl->hZ,emod_lt_of_pos->h8,emod_nonneg->ie
open List renaming length_map->FM,getElem?_eq_getElem->No,mem_singleton->Op,mem_cons_self->Re,mem_map->TM,mem_cons_of_mem->TW,replicate->T0,getElem?_eq_some_iff->UF,mem_cons->Uf,getElem?_map->XV,size_toArray->b7,mem_append_right->cC,mem_append->cE,nodup_cons->cF,getD_eq_getElem?_getD->cI,map_cons->cL,toArray->cM,mem_filter->cR,length_cons->cT,range->cV,append_nil->cX,not_mem_nil->cb,length_filter_le->cf,nodup_nil->ci,length_append->cj,mem_append_left->cu,pairwise_cons->cw,map_append->c0,nil_append->dB,getElem_mem->dE,cons_ne_nil->dG,nodup_append->dJ,length_singleton->dM,length_nil->dR,mem_flatMap->de,length_zip->d6,map_congr_left->d8,zipWith->d_,mem_range->eB,drop_eq_getElem_cons->eF,Nodup->eI,flatMap_cons->eK,filter_congr->eM,zip_cons_cons->eX,map_map->eg,getElem?_append_right->eo,perm_append_singleton->e7,append_assoc->fB,getElem?_append_left->fC,lookup_cons->fG,any_eq_true->fH,lookup->fQ,map_id->fS,mem_iff_getElem?->fe,getElem?_eq_none->fg,mem_of_getElem?->fi,drop_length->fm,mem_iff_getElem->fq,lt_trans->ft,of_mem_zip->fu,length_set->f6,getElem?_zip_eq_some->f7,filter_map->f8,lt_irrefl->gI,getElem?_replicate->gJ,length_eq_zero_iff->gK,getElem?_cons_succ->gL,filter_cons_of_neg->gM,reverse_cons->gN,length_range->gP,pairwise_map->gR,length_take->gW,all_eq_true->gX,singleton_append->ge,forIn_cons->gp,length_reverse->g0,filter_eq_self->g8,length->hV,perm_ext_iff_of_nodup->iG,ext_getElem?->iL,pairwise_iff_getElem->iN,mem_of_find?_eq_some->iO,getElem?_eq_none_iff->iP,take_length->iU,ext_getElem->iV,getElem_map->iW,pairwise_singleton->iY,filter_cons_of_pos->iZ,filter_nil->ii,getElem?_set_self->ik,length_replicate->iu,forIn_nil->iw,getElem?_zipWith->iz
open List.Perm renaming trans->ij,swap->i6
open Nat renaming le_refl->Rs,ne_of_lt->b9,zero_le->cB,le_trans->cG,lt_of_lt_of_le->cO,le_succ->c_,lt_irrefl->dC,lt_succ_of_lt->di,lt_of_le_of_lt->eC,lt_succ_self->eQ,succ_le_succ->fk,not_lt->gG,le_succ_of_le->gQ,le_of_lt->gi,ne_of_gt->gk,le_of_eq->gl,min_le_right->iT,mod_lt->i7
open Ne renaming symm->cY
open Option renaming map_eq_some_iff->cU,isSome_map->iI
open Option.some renaming inj->bz
open Or renaming inl->ZB,inr->e_
open PyProof.Rows renaming slot_tuple_getitem->c7,callWith_type1->dn,boot_repr->eh,listUpdate_at->et,get?_update_seq->fN,boot_tuple->fP,boot_sorted->fR,AllBare->gE,listItems_at->gv,seqEpoch_at->hX,lt_int->im
open PyProof.Rows.KeyOrd renaming kle_refl->dS,kle_of_klt->gO,kle_trans->gZ,kle_antisymm->i9
open PySem renaming Addr->Ch,wpAny_bind->Cn,Value->Db,Shared->Go,wpAny_pure->On,Heap->cA,Program->cH,Expr->cJ,World->cN,Stmt->cS,Around->cW,sizeLine_eq->cZ,FuncData->cv,wpAny_callSpecial?_slot->c6,wpAny_mono->c9,wpAny_holding->dD,wpAny_newObj_type->dI,wpAny_field->dO,wpAny_call_entry->dP,wpAny_seqItems->dQ,codeAny_builtin->dU,wpAny_pyIter_tuple->dW,wpAny_Call_Name_kw->dX,IsPair->dZ,wpAny_dictEntries->dk,plainId_quiet->eA,tupleKind_room_in1->eE,wpAny_pyIter_list->eJ,wpAny_typeNameOfWhole_keyiter->eN,NameKind->eR,Scope->eS,wpAny_letGo->eU,wpAny_setField_rec->eY,wpAny_passesOwn->ei,Builtin->ej,wpAny_typeNameOf_keyiter->fI,wpAny_getItem_str_slice->fJ,DictEntry->fK,wpAny_loadPart'->fM,wpAny_updateSeq->fO,wpAny_truthy_bool->fT,IsZip->fW,Keyword->fX,call_meetsIn->fY,codeAny_mono->f9,wpAny_typeOf->f_,PyData->gB,typeIs_str->gF,wpAny_rule->gH,wpAny_attempt->gU,wpAny_isInstance->gY,wpAny_notOrdered_dict->gf,wpAny_execs_nil->gj,IsPart->gm,PlainAttrs->gn,post_val_or_str->gq,wpAny_updateSeq_pair->gs,wpAny_dictEpoch->gw,wpAny_setField->g_,wpAny_tryCatch->hG,wpAny_onRaise->iD,wpAny_newList->iF,BindsTo->iR,noFill_tuple_add->iS,PassesOwn->ia,wpAny_specialOf->ic,wpAny_of_eq->ip
open PySem.Around renaming under_plainId->eG
open PySem.Builtin.Builtins renaming bindParams->h9
open PySem.Builtin.Dict renaming showsAll->gg,dictSlotArgs->iQ,samePairs->ir,takeOut->i8
open PySem.Builtin.Dict_items renaming ownsTuple->hU
open PySem.Builtin.List renaming listExtendWith->eZ,listLengthHint->h_,listSameRef->iX
open PySem.Builtin.Slice renaming slicePlaces->fw,sliceAdjust->iM
open PySem.Builtin.SmallTypes renaming nextOf->dH,ownedTupleIsFree->dg,ownedTupleHandOut->gD
open PySem.Builtin.Tuple renaming tupleExact->gA,tupleItemsOf->iC,tupleIsExact->iE
open PySem.Calls renaming callWith_builtin->d9,spliced_cons->eW,spliced_nil->fV,evalArgs_plain->fj,Name_function_global->iB
open PySem.Expr renaming Call->iA
open PySem.F renaming slot_dict_keyiterator_next->dh,slot_tuple_iterator_next->eq,slot_zip_next->gu,args_dict_keyiterator_next_1->gx,entry_dict_keyiterator_next->gz,args_tuple_iterator_next_1->g9,entry_tuple_iterator_next->h7,called_tuple->i5
open PySem.Heap renaming get?_push_of_some->Ev,get?_push_size->Sc,lt_size->Tk,get?_update_other->b8,size_push->dA,get?_update_self->dL,SameBut->eV,ExtBut->io,IsTuple->jB
open PySem.Heap.SameBut renaming update->eP
open PySem.NameKind renaming free->cr,cell->gT
open PySem.Obj renaming mapSeq->cn,data_mapFields->gC
open PySem.PassesOwn renaming never->c5
open PySem.PyData renaming depthAll->dq,canLayAll0->fA,hasDict->fb,eqv->fo,hasDictAll->iJ,leavesShortAll->i4
open PySem.SeqAt.EqAt renaming int_str->i_,str_int->jA
open PySem.Shared renaming heap->gS
open PySem.Str renaming ofString->dY
open PySem.Value renaming ref->b_,none->cQ,type->cx,str->fE,bool->fh
open Sum renaming inr->d7,inl->gc
open Sum.inr renaming inj->fF
open True renaming intro->df
open PySem PySem.Spec PyProof.Rows
local macro_rules | `(tactic| walk_at "s")=>`(tactic| (constructor <;> first | rfl | decide +kernel))
namespace _p

local macro_rules|`(tactic|let#[$x,*]:=$e)=>open Lean Parser Tactic in do
 let q k a:=mkNode ``rcasesPatLo #[mkNode ``rcasesPatMed #[mkNullNode #[mkNode k a]],mkNullNode]
 let p:Syntax:=(← `(term|⟨$x,*⟩)).raw.rewriteBottomUp fun s=>if s.isIdent then q ``rcasesPat.one #[s] else if s.getKind= ``Term.hole then q ``rcasesPat.ignore s.getArgs else if s.getKind= ``Term.anonymousCtor||s.getKind= `«term#[_,]» then q ``rcasesPat.tuple s.getArgs else s
 let m:TSyntax ``rcasesPatMed:=⟨p[0]⟩
 `(tactic|obtain $m:rcasesPatMed:=$e)
local macro_rules|`(tactic|exists $x,*)=>`(tactic|refine⟨$x,*, ?_⟩)
local macro_rules|`(tactic|lk)=>`(tactic|first|lia|omega)
local macro_rules|`(tactic|cbv)=>`(tactic|decide)
local macro_rules|`($f^$x)=>if f.raw.getTrailingSize>0 then Lean.Macro.throwUnsupported else match f with|`($g $a*)=>`($g $a* $x)|_=>`($f $x)
local macro_rules|`(#[%$t $y,*])=>if t.getTrailingSize>0||y.getElems.size=0 then Lean.Macro.throwUnsupported else `(⟨$y,*⟩)
open Option renaming some->P3,none->k_
open Bool renaming true->l_,false->m_
abbrev n_(a:Type u):=List a
abbrev o_(a:Type u):=Option a
def zau0 (h:True:=by first|exact .inl rfl|exact .inr rfl|assumption):True:=h
def zau1 (h:True:=by decide):True:=h
def zau2 (h:True:=by intro _;rfl):True:=h
def zau3 (h:True:=by rfl):True:=h
def zau4 (h:True:=by first|exact ZB rfl|exact e_ (ZB rfl)|exact e_ (e_ rfl)):True:=h
def zau5 (h:True:=by rintro⟨_,z⟩;cases z):True:=h
def zau6 (h:True:=by intro _ _;rfl):True:=h
def zau7 (h:True:=by intro z;cases z):True:=h
def zau8 (h:True:=by intro _ z;cases z):True:=h
def zau9 (h:True:=by exact#[rfl,rfl,rfl,rfl]):True:=h
def zau10 (h:True:=by walk_at "L"):True:=h
def zau11 (h:True:=by walk_at "B"):True:=h
namespace L2
noncomputable abbrev Key:=Sum Int Str
noncomputable def LD:Key->Db->Bool
 |.inl k,v=>Value.isInt k v
 |.inr x,v=>Value.isStrOf x v
noncomputable def ar(w:cN):Key->Int
 |.inl k=>hashInt k
 |.inr x=>hashStr w x
theorem BG:∀{k:Key}{v:Db},LD k v=l_->(∃i t,k=gc i/\v=Value.int i t)\/(∃x t,k=d7 x/\v=fE x t)
 |.inl i,v,h=>by
  let#[t,e]:=Value.isInt_shape h;exact .inl #[i,t,rfl,e]
 |.inr x,v,h=>by
  let#[t,e]:=Value.isStrOf_shape h;exact .inr #[x,t,rfl,e]
def R7(i:Int)(t:Tok):LD (.inl i)^.int i t=l_:=by simp[LD,Value.isInt]
def R6(x:Str)(t:Tok):LD (.inr x)^.str x t=l_:=by simp[LD,Value.isStrOf]
def YT(a b:Int):decide ((gc a:Key)=gc b)=(a==b):=by
 grind
def YQ(a b:Str):decide ((d7 a:Key)=d7 b)=decide (a=b):=by
 grind
def YS(a:Int)(b:Str):decide ((gc a:Key)=d7 b)=m_:=decide_eq_false λq=>nomatch q
def YR(a:Str)(b:Int):decide ((d7 a:Key)=gc b)=m_:=decide_eq_false λq=>nomatch q
noncomputable def A9(prog:cH)(w:cN):PySem.KeyKind prog w Key where
 is:=LD
 hash:=ar w
 inj:=λv a b ha hb=>by
  rcases BG ha with⟨i,t,rfl,rfl⟩|⟨x,t,rfl,rfl⟩
  .rcases BG hb with⟨j,u,rfl,e⟩|⟨y,u,rfl,e⟩
   .injection e with e1 _;rw[e1]
   .exact nomatch e
  .rcases BG hb with⟨j,u,rfl,e⟩|⟨y,u,rfl,e⟩
   .exact nomatch e
   .injection e with e1 _;rw[e1]
 byValue:=λk v h=>by
  rcases BG h with⟨i,t,rfl,rfl⟩|⟨x,t,rfl,rfl⟩ <;>rfl
 pyHash:=λhv h=>by
  rcases BG hv with⟨i,t,rfl,rfl⟩|⟨x,t,rfl,rfl⟩
  .exact wpAny_pyHash_int h
  .exact wpAny_pyHash_str h
 eqBool:=λhu hv h=>by
  rcases BG hu with⟨i,t,rfl,rfl⟩|⟨x,t,rfl,rfl⟩
  .rcases BG hv with⟨j,u,rfl,rfl⟩|⟨y,u,rfl,rfl⟩
   .rw[YT]at h;exact wpAny_eqBool_int h
   .rw[YS]at h;exact i_ i t y u _ _ _ _ h
  .rcases BG hv with⟨j,u,rfl,rfl⟩|⟨y,u,rfl,rfl⟩
   .rw[YR]at h;exact jA x t j u _ _ _ _ h
   .rw[YQ]at h;exact wpAny_eqBool_str h
 «strs»:=λk x t v h=>by
  rcases BG h with⟨i,u,rfl,e⟩|⟨y,u,rfl,e⟩
  .exact nomatch e
  .injection e with e1 _
   subst e1
   cases v <;>rfl
def Nk(prog:cH)(w:cN)(i:Int)(t:Tok):(A9 prog w).is (.inl i)^.int i t=l_:=R7 i t
def Nj(prog:cH)(w:cN)(x:Str)(t:Tok):(A9 prog w).is (.inr x)^.str x t=l_:=R6 x t
inductive V where
 |non|bl (b:Bool)|int (i:Int)|str (x:Str)|byt (b:Array UInt8)|flt (b:UInt64)|ref (a:Ch)|ty (n:String)
 deriving DecidableEq
noncomputable def RelV:V->Db->Prop
 |.non,u=>u=cQ
 |.bl b,u=>u=fh b
 |.int i,u=>∃t,u=Value.int i t
 |.str x,u=>∃t,u=fE x t
 |.byt b,u=>∃t,u=Value.bytes b t
 |.flt b,u=>∃t,u=Value.float b t
 |.ref a,u=>u=b_ a
 |.ty n,u=>u=cx n
noncomputable abbrev Vals:n_ V->n_ Db->Prop:=Paired RelV
def Vals.length{xs:n_ V}{us:n_ Db}(r:Vals xs us):xs.length=us.length:=Paired.length r
theorem Vals.get:∀{xs:n_ V}{us:n_ Db}{i:Nat}{x:V},Vals xs us->xs[i]?=P3 x->∃u,us[i]?=P3 u/\RelV x u
 |_,_,_,_,.nil,e=>by simp at e
 |_,_,0,_,.cons r _,e=>by simp_all
 |_,_,i+1,x,.cons _ t,e=>by
  let#[u,h1,h2]:=Vals.get t^by simpa using e
  simp_all
theorem Vals.set{x:V}{u:Db}(r:RelV x u):∀{xs:n_ V}{us:n_ Db} (i:Nat),Vals xs us->Vals (xs.set i x)^us.set i u
 |_,_,_,.nil=>.nil
 |_,_,0,.cons _ t=>.cons r t
 |_,_,i+1,.cons q t=>.cons q^Vals.set r i t
theorem Vals.append:∀{xs ys:n_ V}{us ws:n_ Db},Vals xs us->Vals ys ws->Vals (xs++ys) (us++ws)
 |_,_,_,_,.nil,s=>s
 |_,_,_,_,.cons r t,s=>.cons r^Vals.append t s
theorem Vals.take:∀{xs:n_ V}{us:n_ Db} (n:Nat),Vals xs us->Vals (xs.take n)^us.take n
 |_,_,0,_=>.nil
 |_,_,_+1,.nil=>.nil
 |_,_,n+1,.cons r t=>.cons r^Vals.take n t
theorem Vals.drop:∀{xs:n_ V}{us:n_ Db} (n:Nat),Vals xs us->Vals (xs.drop n)^us.drop n
 |_,_,0,r=>r
 |_,_,_+1,.nil=>.nil
 |_,_,n+1,.cons _ t=>Vals.drop n t
noncomputable def RelO:o_ V->o_ Db->Prop
 |some v,P3 u=>RelV v u
 |none,k_=>True
 |_,_=>False
noncomputable def KV{κ:Type}:n_ (κ×V)->n_ (κ×Db)->Prop:=Paired fun(p:κ×V) (q:κ×Db)=>p.1=q.1/\RelV p.2 q.2
noncomputable def kV:Key->V
 |.inl i=>.int i
 |.inr x=>.str x
inductive HO where
 |lst (xs:List V)
 |tup (xs:List V)
 |dK (kvs:List (Key×V))|dT (kvs:List (List Key×V))
 |set (S:Int->Bool) (n:Nat)
 |ins (C dx:Ch) (fs:List (Str×V))
 |own (x:Ch)
 |xd (fs:List (Str×V))
 |met (f x:Ch)
 |rng (lo hi:Int)
 |frz (o:Obj) (u:HO)
 |tbl (ps:Array Db)
 |ext (φ:cA->Prop)
 |vol (u:HO)
noncomputable abbrev Hp:=Ch->o_ HO
noncomputable def Aq(H:Hp)(a:Ch)(o:HO):Hp:=λb=>if b=a then P3 o else H b
def AM{H:Hp}{a:Ch}{o:HO}:Aq H a o a=P3 o:=by unfold Aq;grind
def AL{H:Hp}{a b:Ch}{o:HO}(h:b≠a):Aq H a o b=H b:=by unfold Aq;rw[if_neg h]
def XB{H:Hp}{a b:Ch}{o u:HO}(h:H a=P3 o)(h':H b=P3 u)(d:o≠u):a≠b:=by
 grind
def Ah{H:Hp}{a b:Ch}{o:HO}(h:H a=P3 o)(h':H b=k_):a≠b:=by
 grind
noncomputable def IsTupN(h:cA)(a:Ch)(items:Array Db):Prop:=∃o,h.get? a=P3 o/\o.cls=.type "tuple"/\∃n,o.data=.seq items n/\o.dict=k_/\o.slots=#[]
def IsTupN.tup{h:cA}{a:Ch}{items:Array Db}(x:IsTupN h a items):IsTup h a items:=let #[o,h1,h2,n,h3,_]:=x;#[o,h1,h2,n,h3]
def IsTupN.new(h:cA)(items:Array Db):IsTupN (h.push {cls:=.type "tuple",data:=.seq items}) h.objs.size items:=#[_,Sc _ rfl,rfl,_,rfl,rfl,rfl]
section
variable (P:Program)(w:World)
noncomputable def ObjOk(H:Hp)(h:cA)(a:Ch):HO->Prop
 |.lst xs=>xs.length<=sizeLine/\∃(its:n_ Db) (n:Nat),Vals xs its/\h.get? a=P3 {cls:=.type "list",data:=.seq its.toArray n}
 |.tup xs=>xs.length<=sizeLine/\∃its:n_ Db,Vals xs its/\IsTupN h a its.toArray
 |.dK kvs=>kvs.length<=sizeLine/\(a==sysModules)=m_/\∃vs,KV kvs vs/\h.DictOf (A9 P w) a vs
 | .dT kvs=>kvs.length<=sizeLine/\(a==sysModules)=m_/\∃xs:n_ (n_ Key×Ch×Db),
   Paired (fun(p:n_ Key×V) (q:n_ Key×Ch×Db)=>p.1=q.1/\H q.2.1=P3^.tup^p.1.map kV/\RelV p.2 q.2.2) kvs xs /\
   ∃o es ep,h.get? a=P3 o/\o.ExactDict/\o.data=.dict es ep/\es.toList=xs.map^entryOfKey^tupleKind^A9 P w/\(xs.map (·.1)).Nodup
 |.set S n=>h.SetOf (intKind P w) a S n
 | .ins C dx fs=>H dx=P3^.own a/\fs.length<=1000/\dx≠a/\h.get? a=P3^PySem.W.instObj C dx /\
   ∃mA,h.Ns1 dx mA/\(∀f,RelO (fs.lookup f)^mA f)/\PySem.Within mA (fs.map (·.1))
 |.own _=>∃o,h.get? a=P3 o
 |.xd fs=>∃mA,h.Ns1 a mA/\∀f,RelO (fs.lookup f)^mA f
 |.rng lo hi=>∃t u v,h.get? a=P3 {cls:=.type "range",data:=.fields #[ .int lo t,.int hi u,.int 1 v]}
 |.frz o u=>h.get? a=P3 o/\ObjOk H h a u
 |.tbl ps=>h.get? a=P3 {cls:=.none,data:=.fields ps}
 |.met f x=>h.get? a=P3^PySem.W.methodObj (.ref f)^.ref x
 |.vol u=>ObjOk H h a u
 |.ext φ=>φ h/\(∃o,h.get? a=P3 o)/\∀h1 h2:cA,φ h1->(∀o,h1.get? a=P3 o->h2.get? a=P3 o)->φ h2
noncomputable def HOk(H:Hp)(h:cA):Prop:=∀a o,H a=P3 o->ObjOk P w H h a o
end
section
variable {P:Program}{w:World}{H H':Hp}{h h':Heap}{a:Addr}{o:HO}
def ObjOk.lt(x:ObjOk P w H h a o):a<h.objs.size:=by
 induction o with
 |lst xs=>let#[_,_,_,_,e]:=x;exact Tk e
 |tup xs=>let#[_,_,_,p]:=x;exact p.tup.lt
 |dK kvs=>let#[_,_,_,_,o,_,_,e,_]:=x;exact Tk e
 |dT kvs=>let#[_,_,_,_,o,_,_,e,_]:=x;exact Tk e
 |set S n=>let#[o,_,_,_,e,_]:=x;exact Tk e
 |ins C dx fs=>let#[_,_,_,e,_]:=x;exact Tk e
 |own y=>let#[_,e]:=x;exact Tk e
 |xd fs=>let#[_,#[_,_,_,e,_],_]:=x;exact Tk e
 |rng lo hi=>let#[_,_,_,e]:=x;exact Tk e
 |vol u ih=>exact ih x
 |frz ob u ih=>let#[e,_]:=x;exact Tk e
 |tbl ps=>exact Tk (show h.get? a=P3 _ from x)
 |met f y=>exact Tk (show h.get? a=P3 _ from x)
 |ext φ=>let#[_,#[_,e],_]:=x;exact Tk e
theorem Paired.mapP{α β:Type}{F G:α->β->Prop}:∀{l₁:n_ α}{l₂:n_ β},Paired F l₁ l₂->(∀a b,F a b->G a b)->Paired G l₁ l₂
 |_,_,.nil,_=>.nil
 |_,_,.cons r t,f=>.cons (f _ _ r)^Paired.mapP t f
def Paired.imp'{α β:Type}{F G:α->β->Prop}(f:∀a b,F a b->G a b){l₁:n_ α}{l₂:n_ β}(r:Paired F l₁ l₂):Paired G l₁ l₂:=Paired.mapP r f
def ObjOk.stay(x:ObjOk P w H h a o)(k:∀b u,(b=a\/H b=P3^.own a)->h.get? b=P3 u->h'.get? b=P3 u)
  (ho:∀b,H b=P3^.own a->H' b=P3^.own a) (ht:∀b xs,H b=P3^.tup xs->H' b=P3^.tup xs):ObjOk P w H' h' a o:=by
 induction o with
 |lst xs=>let#[z,its,n,r,e]:=x;exact#[z,its,n,r,k _ _ (.inl rfl) e]
 |tup xs=>let#[z,its,r,ob,e,c]:=x;exact#[z,its,r,ob,k _ _ (.inl rfl) e,c]
 |dK kvs=>let#[z,y,vs,r,ob,es,ep,e,c]:=x;exact#[z,y,vs,r,ob,es,ep,k _ _ (.inl rfl) e,c]
 |dT kvs=>
  let#[z,y,xs,r,ob,es,ep,e,c]:=x;exact#[z,y,xs,Paired.mapP r λp q z=>#[z.1,ht _ _ z.2.1,z.2.2],ob,es,ep,k _ _ (.inl rfl) e,c]
 |set S n=>let#[ob,es,ep,t,e,c]:=x;exact#[ob,es,ep,t,k _ _ (.inl rfl) e,c]
 |ins C dx fs=>
  let#[d,z,ne,e,mA,#[od,es,ep,e2,c],r]:=x;exact#[ho _ d,z,ne,k _ _ (.inl rfl) e,mA,#[od,es,ep,k _ _ (.inr d) e2,c],r]
 |own y=>let#[ob,e]:=x;exact#[ob,k _ _ (.inl rfl) e]
 |xd fs=>let#[mA,#[od,es,ep,e,c],r]:=x;exact#[mA,#[od,es,ep,k _ _ (.inl rfl) e,c],r]
 |rng lo hi=>let#[t,u,v,e]:=x;exact#[t,u,v,k _ _ (.inl rfl) e]
 |vol u ih=>exact ih x
 |frz ob u ih=>let#[e,q]:=x;exact#[k _ _ (.inl rfl) e,ih q]
 |tbl ps=>
  have e:h.get? a=P3 {cls:=.none,data:=.fields ps}:=x;show h'.get? a=P3 {cls:=.none,data:=.fields ps};exact k a _ (.inl rfl) e
 |met f y=>
  have e:h.get? a=P3^PySem.W.methodObj (.ref f)^.ref y:=x;show h'.get? a=P3^PySem.W.methodObj (.ref f)^.ref y;exact k a _ (.inl rfl) e
 |ext φ=>let#[p,#[o,e],st]:=x;exact#[st _ _ p λo q=>k _ _ (.inl rfl) q,#[o,k _ _ (.inl rfl) e],st]
def HOk.lt(x:HOk P w H h)(e:H a=P3 o):a<h.objs.size:=(x a o e).lt
def HOk.fresh(x:HOk P w H h)(e:h.objs.size<=a):H a=k_:=by
 cases q:H a with
 |none=>rfl
 |some u=>exact absurd (cO (x.lt q) e)^dC _
def HOk.kept(x:HOk P w H h)(k:∀b u,h.get? b=P3 u->h'.get? b=P3 u):HOk P w H h':=λa o e=>
 (x a o e).stay (λb u _ q=>k b u q) (λ_ q=>q) λ_ _ q=>q
def HOk.laid(x:HOk P w H h)(k:∀b u,h.get? b=P3 u->h'.get? b=P3 u)(hp:h.objs.size<=a)(new:ObjOk P w (Aq H a o) h' a o):HOk P w (Aq H a o) h':=λb u e=>by
 have hn:=x.fresh hp
 by_cases hb:b=a
 .subst hb;rw[AM]at e;grind
 .rw[AL hb]at e
  exact(x b u e).stay (λc v _ q=>k c v q) (λc q=>by rw[AL^Ah q hn];exact q) λc xs q=>by rw[AL^Ah q hn];exact q
end
noncomputable def Rd(H:Hp)(a:Ch)(u:HO):Prop:=H a=P3 u\/∃o,H a=P3^.frz o u
def Rd.ok{P:cH}{w:cN}{H:Hp}{h:cA}{a:Ch}{u:HO}(r:Rd H a u)(x:HOk P w H h):ObjOk P w H h a u:=by
 rcases r with r|⟨o,r⟩
 .exact x a u r
 .let#[_,q]:=x a _ r
  exact q
noncomputable def aJ:o_ HO->Prop
 |some (.lst _)=>True
 |some (.dK _)=>True
 |some (.dT _)=>True
 |some (.set _ _)=>True
 |some (.vol _)=>True
 |some (.ext _)=>True
 |_=>False
section
variable {P:Program}{w:World}{H:Hp}{h h':Heap}{x e:Addr}{o':HO}
def HOk.write(ok:HOk P w H h)(mu:aJ^H x)(he:e=x\/H e=P3^.own x)(k:∀b u,b≠e->h.get? b=P3 u->h'.get? b=P3 u)(heo:∃u,h'.get? e=P3 u)
  (new:ObjOk P w (Aq H x o') h' x o'):HOk P w (Aq H x o') h':=λb u q=>by
 have nown:∀c y,H c=P3^.own y->c≠x:=λc y r z=>by subst z;rw[r]at mu;exact mu
 have ntup:∀c xs,H c=P3^.tup xs->c≠x:=λc xs r z=>by subst z;rw[r]at mu;exact mu
 by_cases hb:b=x
 .subst hb;rw[AM]at q;cases q;exact new
 .rw[AL hb]at q
  by_cases hbe:b=e
  .have q':H b=P3^.own x:=by
    grind
   rw[q]at q';cases q'
   let#[v,hv]:=heo;exact#[v,by rw[hbe];exact hv]
  .refine(ok b u q).stay (λc v hc r=>k c v ?_ r) (λc r=>by rw[AL^nown c b r];exact r) λc xs r=>by rw[AL^ntup c xs r];exact r
   grind
end
structure Un (fs ex:List Ch) (H H':Hp) (h h':cA):Prop where
 keep:∀b o,h.get? b=P3 o->H b=k_->b∉fs->b∉ex->h'.get? b=P3 o
 slot:∀b o,h.get? b=P3 o->H b=k_->b∈fs->b∉ex->∃sl,h'.get? b=P3 {o with slots:=sl}
 free:∀b o,h.get? b=P3 o->H b=k_->b∉ex->H' b=k_
 there:∀b o,h.get? b=P3 o->b∉ex->∃o',h'.get? b=P3 o'
 tups:∀b xs,H b=P3^.tup xs->H' b=P3 (.tup xs)
 frzs:∀b o u,H b=P3^.frz o u->H' b=P3 (.frz o u)
 tbls:∀b ps,H b=P3^.tbl ps->∃more,H' b=P3^.tbl (ps++more)
section
variable {fs ex:n_ Addr}{H H1:Hp}{h h1 h':Heap}{a x e:Addr}{o:HO}
def Un.any(u:Un fs ex H H1 h h1){b:Ch}{ob:Obj}(q:h.get? b=P3 ob)(n:H b=k_)(hx:b∉ex):∃sl,h1.get? b=P3 {ob with slots:=sl}:=by
 by_cases hb:b∈fs
 .exact u.slot b ob q n hb hx
 .exact#[_,u.keep b ob q n hb hx]
def Un.kept(k:∀b u,h.get? b=P3 u->h'.get? b=P3 u):Un fs ex H H h h':=
 #[λb ob q _ _ _=>k b ob q,λb ob q _ _ _=>#[_,k b ob q],λ_ _ _ n _=>n,λb ob q _=>#[ob,k b ob q],λ_ _ q=>q,λ_ _ _ q=>q,λ_ ps q=>#[#[],by rw[q];simp]]
def Un.refl:Un fs ex H H h h:=Un.kept λ_ _ q=>q
def Un.laid(k:∀b u,h.get? b=P3 u->h'.get? b=P3 u)(hp:h.objs.size<=a)(hn:H a=k_):Un fs ex H (Aq H a o) h h' where
 keep:=λb u q _ _ _=>k b u q
 slot:=λb u q _ _ _=>#[_,k b u q]
 free:=λb u q n _=>by rw[AL^b9^cO (Tk q) hp];exact n
 there:=λb u q _=>#[u,k b u q]
 tups:=λb xs q=>by rw[AL^Ah q hn];exact q
 frzs:=λb u xs q=>by rw[AL^Ah q hn];exact q
 tbls:=λb ps q=>#[#[],by rw[AL^Ah q hn,q];simp]
def Un.write(mu:aJ^H x)(he:e=x\/H e=P3^.own x)(k:∀b u,b≠e->h.get? b=P3 u->h'.get? b=P3 u)(heo:∃u,h'.get? e=P3 u):Un fs ex H (Aq H x o) h h':=by
 have hx:∀b,H b=k_->b≠x:=λb n z=>by subst z;rw[n]at mu;exact mu
 have hb:∀b,H b=k_->b≠e:=λb n z=>by
  grind
 have hm:∀b u,H b=P3 u->¬aJ^P3 u->b≠x:=λb u q nm z=>by grind
 refine#[λb u q n _ _=>k b u (hb b n) q,λb u q n _ _=>#[u.slots,k b u (hb b n) q],λb u q n _=>by rw[AL^hx b n];exact n,λb u q _=>?_,
  λb xs q=>by rw[AL^hm b _ q λz=>z];exact q,λb u xs q=>by rw[AL^hm b _ q λz=>z];exact q,λb ps q=>#[#[],by rw[AL^hm b _ q λz=>z,q];simp]]
 by_cases hbe:b=e
 .simp_all
 .exact#[u,k b u hbe q]
end
noncomputable def bg(h:cA)(H:Hp):n_ Ch:=(cV h.objs.size).filter λa=>(H a).isSome
noncomputable def MP(h:cA)(H:Hp):cA:=PySem.W.hideAll h^bg h H
def SA(h:cA)(H:Hp):(MP h H).objs.size=h.objs.size:=PySem.W.hideAll_size _ _
def Ud{h:cA}{H:Hp}{b:Ch}{o:Obj}(e:h.get? b=P3 o)(n:H b=k_):(MP h H).get? b=P3 o:=
 PySem.W.hideAll_get _ e λhm=>by
  have q:=(cR.mp hm).2
  grind
def V2{h:cA}{H:Hp}{b:Ch}{o:Obj}(e:(MP h H).get? b=P3 o):h.get? b=P3 o/\H b=k_:=by
 have e':=PySem.W.of_hideAll _ e;refine#[e',?_];cases q:H b with
 |none=>rfl
 |some x=>
  have z:(MP h H).get? b=k_:=PySem.W.hideAll_none _^cR.mpr #[eB.mpr^Tk e',by simp[q]]
  grind
structure Mod (K:Frag) (mg:Str->Option Db) (base:cA):Prop where
 kin:K.In base
 glob:base.Ns mainGlobals mg
 blt:∃mb,base.Ns builtinsNs mb/\∀x:Str,x ≠ "__name__"->mb x=bootBuiltins x
 nolimit:base.NoLimit
/-- the context:a def's body (or a comprehension's block) running. base:fixed through the whole law;s₀,H₀:the entry;outer:the frames whose slots others may change (a def's callers);stack:all frames that run;
   ex:iterators that were made ahead of the entry and are walked here^a comprehension's;fn:the names whose cells were made at the entry (a def:all;a comprehension's block:its own);calm:not within an except suite;pn:zG that every state bears;xe:what is wanted of an exception that leaves the code -/
structure Cx where
 prog:cH
 w:cN
 K:Frag
 mg:Str->Option Db
 base:cA
 A:cW
 N:List Str
 s₀:Go
 H₀:Hp
 env:Env
 outer:List Env
 stack:List Env
 ex:List Ch
 fn:Str->Bool
 calm:Bool
 pn:List (Ch×Obj)
 xe:Db->Go->Prop
noncomputable def Qi(l:n_ Env):n_ Ch:=l.filterMap (·.frame)
noncomputable abbrev Cx.fs(X:Cx):n_ Ch:=Qi X.outer
noncomputable def Yx(sc:eS)(x:Str):Prop:=sc.names.lookup x=P3 .local\/sc.names.lookup x=P3 .cell\/sc.names.lookup x=P3 .free
noncomputable def Loc(sc:eS)(x:Str):Prop:=sc.names.lookup x=P3 .local\/sc.names.lookup x=P3 .cell
noncomputable def Look(env:Env)(h:cA)(m:Str->o_ Db)(x:Str)(u:Db):Prop:=
 (env.kindOf x=P3 .local/\m x=P3 u)\/((env.kindOf x=P3 .cell\/env.kindOf x=P3 .free)/\∃c,env.cells.lookup x=P3 c/\h.IsCell c^P3 u)
structure Cx.Ok (X:Cx):Prop where
 mod:Mod X.K X.mg X.base
 kind:X.env.scope.kind=.function
 glob:X.env.globals=mainGlobals
 blt:X.env.builtins=builtinsNs
 above:X.s₀.heap.objs.size<=X.env.locals
 inj:∀x y c,X.env.cells.lookup x=P3 c->X.env.cells.lookup y=P3 c->x=y
 has:∀x,(X.env.kindOf x=P3 .cell\/X.env.kindOf x=P3 .free)->∃c,X.env.cells.lookup x=P3 c
 cab:∀x c,X.fn x=l_->X.env.cells.lookup x=P3 c->X.s₀.heap.objs.size<=c
 hd:X.calm=l_->X.A.handled=k_
 frames:X.A.frames=P3 X.stack
 stk:X.stack=X.outer\/(X.stack=X.env::X.outer/\X.env.frame=P3 X.env.locals)
 exf:∀b∈X.ex,b≠X.env.locals/\∀x c,X.env.cells.lookup x=P3 c->c≠b
 bs:∀b o,X.base.get? b=P3 o->X.s₀.heap.get? b=P3 o/\X.H₀ b=k_
 bsz:X.base.objs.size<=X.s₀.heap.objs.size
 noex:∀b o,X.base.get? b=P3 o->b∉X.ex
 exfs:∀b∈X.ex,b∉X.fs
 funs:X.s₀.heap.FunFrames X.base X.outer
 frf:∀b∈X.fs,X.H₀ b=k_
structure Inv (X:Cx) (zG:List (Ch×Obj)) (Z:List^Option V) (H:Hp) (s:Go):Prop where
 ok:X.Ok
 os:s.os=X.s₀.os
 bare:gE s.gens
 base:Un X.fs X.ex X.H₀ H X.s₀.heap s.heap
 loc:∃m,s.heap.Ns X.env.locals m/\∀(i:Nat) (x:Str) (v:V),X.N[i]?=P3 x->Z[i]?=P3^P3 v->Yx X.env.scope x->∃u,RelV v u/\Look X.env s.heap m x u
 cell:∀x c,X.env.cells.lookup x=P3 c->∃v,s.heap.IsCell c v
 free:H X.env.locals=k_
 freeC:∀x c,X.env.cells.lookup x=P3 c->H c=k_
 pin:∀p∈X.pn++zG,s.heap.get? p.1=P3 p.2/\H p.1=k_/\p.1≠X.env.locals/\p.1∉X.fs/\∀v,p.2.data≠.cell v
 hok:HOk X.prog X.w H s.heap
 len:Z.length=X.N.length
section
variable {X:Cx}{zG:n_ (Addr×Obj)}{Z:n_^o_ V}{H H':Hp}{s:Shared}{h':Heap}
def Cx.Ok.nofr(ok:X.Ok){b:Ch}{o:Obj}(e:X.base.get? b=P3 o):b∉X.fs:=λhb=>by
 have:=(ok.funs.mem hb).1
 grind
def Inv.bs(I:Inv X zG Z H s):∀b o,X.base.get? b=P3 o->s.heap.get? b=P3 o/\H b=k_:=λb o e=>
 #[I.base.keep b o (I.ok.bs b o e).1 (I.ok.bs b o e).2 (I.ok.nofr e)^I.ok.noex b o e,I.base.free b o (I.ok.bs b o e).1 (I.ok.bs b o e).2 (I.ok.noex b o e)]
def Inv.bk(I:Inv X zG Z H s):∀b o,X.base.get? b=P3 o->s.heap.get? b=P3 o:=λb o e=>(I.bs b o e).1
def Inv.mod(I:Inv X zG Z H s):Mod X.K X.mg X.base:=I.ok.mod
def Inv.kIn(I:Inv X zG Z H s):X.K.In s.heap:=I.ok.mod.kin.keeps I.bk
def Inv.lt(I:Inv X zG Z H s):X.env.locals<s.heap.objs.size:=let #[_,hn,_]:=I.loc;hn.lt
def Inv.sz(I:Inv X zG Z H s):X.s₀.heap.objs.size<=s.heap.objs.size:=cG I.ok.above^gi I.lt
def Inv.nofs(I:Inv X zG Z H s){a:Ch}(h:s.heap.objs.size<=a):a∉X.fs:=λhb=>by
 let#[_,o,ho,_]:=I.ok.funs.mem hb;exact absurd (cO (Tk ho)^cG I.sz h)^dC _
def Inv.cne(I:Inv X zG Z H s):∀x c,X.env.cells.lookup x=P3 c->c≠X.env.locals:=λx c e z=>by
 let#[v,o,ho,hd]:=I.cell x c e;let#[m,#[o',es,ep,ho',hd',_],_]:=I.loc
 grind
def Inv.funs(I:Inv X zG Z H s):s.heap.FunFrames X.base X.outer:=by
 have all:∀(l:n_ _),(∀b∈Qi l,b∈X.fs)->X.s₀.heap.FunFrames X.base l->s.heap.FunFrames X.base l:=by
  intro l
  induction l with
  |nil=>intro _ _;trivial
  |cons env r ih=>
   intro hs hl;let#[hk,#[L,o,hf,hn,ho,hd],hr]:=hl;have hL:=hs L (by unfold Qi;simp_all);let#[sl,e]:=I.base.slot L o ho (I.ok.frf L hL) hL λz=>I.ok.exfs L z hL;exact#[hk,#[L,_,hf,hn,e,hd],ih (λb hb=>hs b^by unfold Qi;rw[List.filterMap_cons,hf];exact TW _ hb) hr]
 exact all _ (λ_ hb=>hb) I.ok.funs
def Inv.stack(I:Inv X zG Z H s):s.heap.FunFrames X.base X.stack:=by
 rcases I.ok.stk with e|⟨e,hf⟩
 .rw[e];exact I.funs
 .rw[e]
  let#[m,hn,_]:=I.loc;exact .cons (by rw[I.ok.kind];decide) hf hn (Heap.get?_none_of_le^cG I.ok.bsz I.ok.above) I.funs
def Inv.stkSub(I:Inv X zG Z H s):∀b∈Qi X.stack,b∈X.env.locals::X.fs:=λb hb=>by
 rcases I.ok.stk with e|⟨e,hf⟩
 .grind
 .rw[e]at hb
  unfold Qi at hb;rw[List.filterMap_cons,hf]at hb;exact hb
def Inv.stkFree(I:Inv X zG Z H s):∀b∈Qi X.stack,H b=k_:=λb hb=>by
 rcases Uf.mp^I.stkSub b hb with e|hb
 .rw[e];exact I.free
 .let#[_,o,ho,_]:=I.ok.funs.mem hb
  exact I.base.free b o ho (I.ok.frf b hb) λz=>I.ok.exfs b z hb
def Inv.step{g':Array GenState}{t':Nat}{d':Drawn}{ch:n_ Ch}(I:Inv X zG Z H s)
  (hch:∀b∈ch,(b∈X.ex\/X.s₀.heap.objs.size<=b)/\b≠X.env.locals/\(∀x c,X.env.cells.lookup x=P3 c->c≠b)/\∀p∈X.pn++zG,p.1≠b)
  (keep:∀b o,b≠X.env.locals->b∉X.fs->b∉ch->s.heap.get? b=P3 o->H b=k_->h'.get? b=P3 o)
  (slot:∀b o,b≠X.env.locals->b∈X.fs->b∉ch->s.heap.get? b=P3 o->H b=k_->∃sl,h'.get? b=P3 {o with slots:=sl}) (free:∀b o,b∉ch->s.heap.get? b=P3 o->H b=k_->H' b=k_)
  (there:∀b o,b∉ch->s.heap.get? b=P3 o->∃o',h'.get? b=P3 o')
  (tups:∀b xs,H b=P3^.tup xs->H' b=P3^.tup xs) (frzs:∀b o u,H b=P3^.frz o u->H' b=P3^.frz o u) (tbls:∀b ps,H b=P3^.tbl ps->∃more,H' b=P3^.tbl (ps++more))
  (ns:∀m,s.heap.Ns X.env.locals m->h'.Ns X.env.locals m) (hok:HOk X.prog X.w H' h') (hg:gE g'):
  Inv X zG Z H' {s with heap:=h',gens:=g',drawn:=d',toks:=t'}:=by
 have neL:∀b o,X.s₀.heap.get? b=P3 o->b≠X.env.locals:=λb o e=>b9^cO (Tk e) I.ok.above
 have neC:∀b o,X.s₀.heap.get? b=P3 o->b∉X.ex->b∉ch:=λb o e hx hb=>by
  rcases(hch b hb).1 with z|z
  .exact hx z
  .exact absurd (cO (Tk e) z)^dC _
 have cellK:∀x c,X.env.cells.lookup x=P3 c->∀v,s.heap.IsCell c v->h'.IsCell c v:=λx c e v #[o,ho,hd]=>by
  have nch:c∉ch:=λz=>(hch c z).2.2.1 x c e rfl
  by_cases hc:c∈X.fs
  .let#[sl,q]:=slot c o (I.cne x c e) hc nch ho^I.freeC x c e
   exact#[_,q,hd]
  .exact#[o,keep c o (I.cne x c e) hc nch ho^I.freeC x c e,hd]
 refine#[I.ok,I.os,hg,#[λb o e n hb hx=>?_,λb o e n hb hx=>?_,λb o e n hx=>?_,λb o e hx=>?_,λb xs e=>tups b xs^I.base.tups b xs e,λb o xs e=>frzs b o xs^I.base.frzs b o xs e,λb ps e=>?_],?_,λx c e=>?_,?_,λx c e=>?_,λp hp=>?_,hok,I.len]
 .exact keep b o (neL b o e) hb (neC b o e hx) (I.base.keep b o e n hb hx)^I.base.free b o e n hx
 .let#[sl,e1]:=I.base.slot b o e n hb hx
  let#[sl',e2]:=slot b _ (neL b o e) hb (neC b o e hx) e1^I.base.free b o e n hx;exact#[sl',e2]
 .let#[o',e1]:=I.base.there b o e hx
  exact free b o' (neC b o e hx) e1^I.base.free b o e n hx
 .let#[o',e1]:=I.base.there b o e hx
  exact there b o' (neC b o e hx) e1
 .let#[m1,e1]:=I.base.tbls b ps e
  let#[m2,e2]:=tbls b _ e1;exact#[m1++m2,by rw[e2,Array.append_assoc]]
 .let#[m,hn,hl]:=I.loc
  refine#[m,ns m hn,λi x v e1 e2 e3=>?_];let#[u,r,l]:=hl i x v e1 e2 e3;refine#[u,r,?_]
  rcases l with l|⟨k,c,e,z⟩
  .exact .inl l
  .exact .inr #[k,c,e,cellK x c e _ z]
 .let#[v,z]:=I.cell x c e
  exact#[v,cellK x c e v z]
 .let#[m,#[o,_,_,ho,_],_]:=I.loc
  exact free _ o (λz=>(hch _ z).2.1 rfl) ho I.free
 .let#[v,o,ho,hd]:=I.cell x c e
  exact free c o (λz=>(hch c z).2.2.1 x c e rfl) ho^I.freeC x c e
 .let#[e,n,ne,nf,d]:=I.pin p hp
  have nch:p.1∉ch:=λz=>(hch p.1 z).2.2.2 p hp rfl;exact#[keep p.1 p.2 ne nf nch e n,free p.1 p.2 nch e n,ne,nf,d]
def Inv.un{t':Nat}(I:Inv X zG Z H s)(u:Un X.fs [] H H' s.heap h')(hok:HOk X.prog X.w H' h'):Inv X zG Z H' {s with heap:=h',toks:=t'}:=by
 let#[m,#[o,es,ep,ho,r],_]:=id I.loc;let#[sl,hL]:=u.any ho I.free^by simp
 exact I.step (ch:=[]) (λ_ z=>nomatch z) (λb o _ hb _ e n=>u.keep b o e n hb^by simp) (λb o _ hb _ e n=>u.slot b o e n hb^by simp) (λb o _ e n=>u.free b o e n^by simp) (λb o _ e=>u.there b o e^by simp) u.tups u.frzs u.tbls (λm' hm=>by
  let#[o',es',ep',ho',r']:=hm;rw[ho]at ho';cases ho'
  exact#[_,_,_,hL,r']) hok I.bare
def Inv.call{g':Array GenState}{t':Nat}{d':Drawn}{ch:n_ Ch}(I:Inv X zG Z H s)(u:Un (Qi X.stack) ch H H' s.heap h')(hok:HOk X.prog X.w H' h')(hg:gE g')
  (hch:∀b∈ch,(b∈X.ex\/X.s₀.heap.objs.size<=b)/\b≠X.env.locals/\(∀x c,X.env.cells.lookup x=P3 c->c≠b)/\∀p∈X.pn++zG,p.1≠b):
  Inv X zG Z H' {s with heap:=h',gens:=g',drawn:=d',toks:=t'}:=by
 let#[m,#[o,es,ep,ho,r],_]:=id I.loc;let#[sl,hL]:=u.any ho I.free λz=>(hch _ z).2.1 rfl
 exact I.step hch (λb o hL hb hc e n=>u.keep b o e n (λz=>(Uf.mp^I.stkSub b z).elim hL hb) hc) (λb o _ _ hc e n=>u.any e n hc) (λb o hc e n=>u.free b o e n hc) (λb o hc e=>u.there b o e hc) u.tups u.frzs u.tbls (λm' hm=>by
  let#[o',es',ep',ho',r']:=hm;rw[ho]at ho';cases ho'
  exact#[_,_,_,hL,r']) hok hg
def Inv.turned{t':Nat}{it:Ch}(I:Inv X zG Z H s)(k:∀b o,b≠it->s.heap.get? b=P3 o->h'.get? b=P3 o)(hn:H it=k_)(hL:it≠X.env.locals)
  (h1:it∈X.ex\/X.s₀.heap.objs.size<=it) (h2:∀x c,X.env.cells.lookup x=P3 c->c≠it) (h3:∀p∈X.pn++zG,p.1≠it):Inv X zG Z H {s with heap:=h',toks:=t'}:=by
 have nit:∀b u,H b=P3 u->b≠it:=λb u e z=>by grind
 refine I.step (g':=s.gens) (d':=s.drawn) (ch:=[it]) (λb hb=>?_) (λb o _ _ hc e _=>k b o (λz=>hc^by simp[z]) e) (λb o _ _ hc e _=>#[o.slots,k b o (λz=>hc^by simp[z]) e]) (λ_ _ _ _ n=>n)
  (λb o hc e=>#[o,k b o (λz=>hc^by simp[z]) e]) (λ_ _ e=>e) (λ_ _ _ e=>e) (λb ps e=>#[#[],by rw[e];simp]) (λm hm=>?_) (λb u e=>?_) I.bare
 .have e:b=it:=by simpa using hb
  subst e;exact#[h1,hL,h2,h3]
 .let#[o,es,ep,ho,r]:=hm
  exact#[o,es,ep,k _ o (cY hL) ho,r]
 .refine(I.hok b u e).stay (λc v hc q=>k c v ?_ q) (λ_ q=>q) λ_ _ q=>q
  grind
def Inv.tok(I:Inv X zG Z H s)(t:Nat):Inv X zG Z H {s with toks:=t}:=I.un Un.refl I.hok
def Inv.kept{t':Nat}(I:Inv X zG Z H s)(k:∀b u,s.heap.get? b=P3 u->h'.get? b=P3 u):Inv X zG Z H {s with heap:=h',toks:=t'}:=I.un (Un.kept k)^I.hok.kept k
def Inv.laid{a:Ch}{o:HO}{t':Nat}(I:Inv X zG Z H s)(k:∀b u,s.heap.get? b=P3 u->h'.get? b=P3 u)(hp:s.heap.objs.size<=a)(new:ObjOk X.prog X.w (Aq H a o) h' a o):
  Inv X zG Z (Aq H a o) {s with heap:=h',toks:=t'}:=I.un (Un.laid k hp^I.hok.fresh hp)^I.hok.laid k hp new
def Inv.write{x e:Ch}{o:HO}{t':Nat}(I:Inv X zG Z H s)(mu:aJ^H x)(he:e=x\/H e=P3^.own x)(k:∀b u,b≠e->s.heap.get? b=P3 u->h'.get? b=P3 u)(heo:∃u,h'.get? e=P3 u)
  (new:ObjOk X.prog X.w (Aq H x o) h' x o):Inv X zG Z (Aq H x o) {s with heap:=h',toks:=t'}:=I.un (Un.write mu he k heo)^I.hok.write mu he k heo new
def Inv.pins_of{pins':n_ (Ch×Obj)}(I:Inv X zG Z H s)(h:∀p∈pins',s.heap.get? p.1=P3 p.2/\H p.1=k_/\p.1≠X.env.locals/\p.1∉X.fs/\∀v,p.2.data≠.cell v):Inv X pins' Z H s:=
 #[I.ok,I.os,I.bare,I.base,I.loc,I.cell,I.free,I.freeC,λp hp=>(cE.mp hp).elim (λz=>I.pin p^cu _ z)^h p,I.hok,I.len]
def Ng{N:n_ Str}(hN:N.Nodup){i j:Nat}{x:Str}(a:N[i]?=P3 x)(b:N[j]?=P3 x):i=j:=by
 let#[h1,e1]:=UF.mp a;let#[h2,e2]:=UF.mp b;exact(List.getElem_inj hN).mp^e1.trans e2.symm
def Ku{M:Model}{A:cW}{E:Db->Go->Prop}{i:Nat}{x:Str}{v:V}{u:Db}{Q:Unit->Go->Prop}(I:Inv X zG Z H s)(hN:X.N.Nodup)(hi:X.N[i]?=P3 x)(hx:Loc X.env.scope x)(r:RelV v u)
  (h:∀s',Inv X zG (Z.set i^P3 v) H s'->(∃a,eV a s.heap s'.heap/\(a=X.env.locals\/X.env.cells.lookup x=P3 a))->Q () s') (hf:autoParam (X.fn x=l_\/X.env.scope.names.lookup x=P3 .local) zau0._auto_1):wpAny M A (storeName X.env x u) Q E s:=by
 let#[m,hn,hl]:=id I.loc;have hcls:(X.env.scope.kind==.class||(X.env.scope.kind==.module&&X.env.locals !=X.env.globals))=m_:=by rw[I.ok.kind];rfl
 have hiσ:i<Z.length:=by rw[I.len];exact(UF.mp hi).1
 have cne:=I.cne
 have tracked:∀{a:Ch}{h':cA},(∃o,s.heap.get? a=P3 o/\H a=k_)->eV a s.heap h'->HOk X.prog X.w H h':=λ{a h'} ha hs b ob e=>by
  let#[_,_,hfree]:=ha;refine(I.hok b ob e).stay (λc w' hc q=>(hs.2 c ?_).trans q) (λ_ q=>q) λ_ _ q=>q;rintro rfl
  rcases hc with rfl|hc
  .rw[hfree]at e;cases e
  .rw[hfree]at hc;cases hc
 rcases hx with hk|hk
 .refine wpAny_storeName_local hk hn (λh' hn' hs=>?_) hcls
  let#[oL,_,_,hoL,_]:=id hn;refine h _ #[I.ok,I.os,I.bare,#[λb o e n hb hx=>?_,λb o e n hb hx=>?_,I.base.free,λb o e hx=>?_,I.base.tups,I.base.frzs,I.base.tbls],#[_,hn',λj y v' e1 e2 e3=>?_],λy c e=>?_,I.free,I.freeC,λp hp=>?_,tracked #[oL,hoL,I.free] hs,by simpa using I.len] #[_,hs,.inl rfl]
  .exact(hs.2 b^b9^cO (Tk e) I.ok.above).trans^I.base.keep b o e n hb hx
  .let#[sl,e1]:=I.base.slot b o e n hb hx
   exact#[sl,(hs.2 b^b9^cO (Tk e) I.ok.above).trans e1]
  .let#[o',e1]:=I.base.there b o e hx
   exact#[o',(hs.2 b^b9^cO (Tk e) I.ok.above).trans e1]
  .by_cases hj:j=i
   .subst hj
    rw[hi]at e1;cases e1
    rw[ik hiσ]at e2;cases e2;exact#[u,r,.inl #[hk,by simp]]
   .rw[List.getElem?_set_ne^cY hj]at e2
    let#[u',r',q]:=hl j y v' e1 e2 e3;refine#[u',r',?_]
    rcases q with⟨k,e⟩|⟨k,c,e,z⟩
    .refine .inl #[k,?_]
     have:y≠x:=λe=>hj^Ng hN e1 (e▸hi)
     simp[this,e]
    .exact .inr #[k,c,e,z.sameBut hs^cne y c e]
  .let#[w',z]:=I.cell y c e
   exact#[w',z.sameBut hs^cne y c e]
  .let#[e,n,ne,nf,d]:=I.pin p hp
   exact#[(hs.2 p.1 ne).trans e,n,ne,nf,d]
 .have hfn:X.fn x=l_:=by
   rcases hf with z|z
   .exact z
   .rw[z]at hk;cases hk
  let#[c,hc]:=I.ok.has x^.inl hk;let#[w',z]:=I.cell x c hc;refine wpAny_storeName_cell I.ok.kind hk hc z λh' hc' hs=>?_;let#[oc,hoc,hocd]:=id z;refine h {s with heap:=h'} #[I.ok,I.os,I.bare,#[λb o e n hb hx=>?_,λb o e n hb hx=>?_,I.base.free,λb o e hx=>?_,I.base.tups,I.base.frzs,I.base.tbls],#[m,hn.sameBut hs^cY^cne x c hc,λj y v' e1 e2 e3=>?_],λy c' e=>?_,I.free,I.freeC,λp hp=>?_,tracked #[oc,hoc,I.freeC x c hc] hs,by simpa using I.len] #[c,hs,.inr hc]
  .exact(hs.2 b^b9^cO (Tk e)^I.ok.cab x c hfn hc).trans^I.base.keep b o e n hb hx
  .let#[sl,e1]:=I.base.slot b o e n hb hx
   exact#[sl,(hs.2 b^b9^cO (Tk e)^I.ok.cab x c hfn hc).trans e1]
  .let#[o',e1]:=I.base.there b o e hx
   exact#[o',(hs.2 b^b9^cO (Tk e)^I.ok.cab x c hfn hc).trans e1]
  .by_cases hj:j=i
   .subst hj
    rw[hi]at e1;cases e1
    rw[ik hiσ]at e2;cases e2;exact#[u,r,.inr #[.inl hk,c,hc,hc']]
   .rw[List.getElem?_set_ne^cY hj]at e2
    let#[u',r',q]:=hl j y v' e1 e2 e3;refine#[u',r',?_]
    rcases q with q|⟨k,c',e,z'⟩
    .exact .inl q
    .refine .inr #[k,c',e,z'.sameBut hs ?_]
     rintro rfl;exact hj^Ng hN e1 (I.ok.inj _ _ _ e hc▸hi)
  .by_cases hcc:c'=c
   .subst hcc;exact#[_,hc']
   .let#[w2,z2]:=I.cell y c' e
    exact#[w2,z2.sameBut hs hcc]
  .let#[e,n,ne,nf,d]:=I.pin p hp
   refine#[(hs.2 p.1 ?_).trans e,n,ne,nf,d];intro q;rw[q,hoc]at e;have q':oc=p.2:=bz e;exact d w'^by rw[←q'];exact hocd
def Ih{M:Model}{A:cW}{E:Db->Go->Prop}{i:Nat}{x:Str}{v:V}{u:Db}{Q:Unit->Go->Prop}(I:Inv X zG Z H s)(hN:X.N.Nodup)(hi:X.N[i]?=P3 x)(hx:Loc X.env.scope x)(r:RelV v u)
  (h:∀s',Inv X zG (Z.set i^P3 v) H s'->Q () s') (hf:autoParam (X.fn x=l_\/X.env.scope.names.lookup x=P3 .local) zau0._auto_1):wpAny M A (storeName X.env x u) Q E s:=
 Ku I hN hi hx r (λs' I' _=>h s' I') hf
def Inv.call'{s':Go}{ch:n_ Ch}(I:Inv X zG Z H s)(ho:s'.os=s.os)(u:Un (Qi X.stack) ch H H' s.heap s'.heap)(hok:HOk X.prog X.w H' s'.heap)(hg:gE s'.gens)
  (hch:∀b∈ch,(b∈X.ex\/X.s₀.heap.objs.size<=b)/\b≠X.env.locals/\(∀x c,X.env.cells.lookup x=P3 c->c≠b)/\∀p∈X.pn++zG,p.1≠b):Inv X zG Z H' s':=by
 let#[h',g',d',t',o']:=s';subst ho;exact I.call u hok hg hch
end
noncomputable abbrev XK:=Db->o_ Ch->Hp->Prop
noncomputable abbrev St:=n_^o_ V
noncomputable abbrev VK:=V->Hp->Prop
noncomputable abbrev TE:=St->Hp->VK->Prop
noncomputable abbrev TT:=St->Hp->(Bool->Hp->Prop)->Prop
noncomputable abbrev TA:=St->Hp->(n_ V->Hp->Prop)->Prop
structure Ends where
 nx:St->Hp->Prop
 rt:VK
 bk:St->Hp->Prop:=λ_ _=>False
 ct:St->Hp->Prop:=λ_ _=>False
noncomputable abbrev TS:=Ends->St->Hp->Prop
noncomputable def EP(X:Cx)(zG:n_ (Ch×Obj))(Z:St)(Q:VK)(u:Db)(s':Go):Prop:=∃v H',Inv X zG Z H' s'/\RelV v u/\Q v H'
noncomputable def TP(X:Cx)(zG:n_ (Ch×Obj))(Z:St)(Q:Bool->Hp->Prop)(b:Bool)(s':Go):Prop:=∃H',Inv X zG Z H' s'/\Q b H'
noncomputable def AP(X:Cx)(zG:n_ (Ch×Obj))(Z:St)(Q:n_ V->Hp->Prop)(us:n_ Db)(s':Go):Prop:=∃vs H',Inv X zG Z H' s'/\Vals vs us/\Q vs H'
noncomputable def SP(X:Cx)(zG:n_ (Ch×Obj))(D:Ends)(f:Flow)(s':Go):Prop:=
 match f with
 |.next=>∃zZ H',Inv X zG zZ H' s'/\D.nx zZ H'
 |.brk=>∃zZ H',Inv X zG zZ H' s'/\D.bk zZ H'
 |.cont=>∃zZ H',Inv X zG zZ H' s'/\D.ct zZ H'
 |.ret u=>∃v zZ H',Inv X zG zZ H' s'/\RelV v u/\D.rt v H'
noncomputable def PE(X:Cx)(e:cJ)(t:TE):Prop:=
 ∀(zG:n_ (Ch×Obj)) (s:Go) (Z:St) (H:Hp) (Q:VK),Inv X zG Z H s->t Z H Q->wpAny (model X.prog X.w) X.A (eval e X.env) (EP X zG Z Q) X.xe s
noncomputable def PT(X:Cx)(e:cJ)(t:TT):Prop:=
 ∀(zG:n_ (Ch×Obj)) (s:Go) (Z:St) (H:Hp) (Q:Bool->Hp->Prop),Inv X zG Z H s->t Z H Q->wpAny (model X.prog X.w) X.A (isTrue e X.env^eval e X.env) (TP X zG Z Q) X.xe s
noncomputable def PW(X:Cx)(e:cJ)(t:TT):Prop:=
 ∀(whole:Sem Db) (zG:n_ (Ch×Obj)) (s:Go) (Z:St) (H:Hp) (Q:Bool->Hp->Prop),Inv X zG Z H s->t Z H Q->wpAny (model X.prog X.w) X.A (isTrue e X.env whole) (TP X zG Z Q) X.xe s
def PW.pt{X:Cx}{e:cJ}{t:TT}(h:PW X e t):PT X e t:=h _
noncomputable def PA(X:Cx)(es:n_ cJ)(t:TA):Prop:=
 ∀(pos:Pos) (zG:n_ (Ch×Obj)) (s:Go) (Z:St) (H:Hp) (Q:n_ V->Hp->Prop),Inv X zG Z H s->t Z H Q->wpAny (model X.prog X.w) X.A (spliced^backTo pos^starEach es X.env) (AP X zG Z Q) X.xe s
noncomputable def PS(X:Cx)(st:cS)(t:TS):Prop:=
 ∀(zG:n_ (Ch×Obj)) (s:Go) (Z:St) (H:Hp) (D:Ends),Inv X zG Z H s->t D Z H->wpAny (model X.prog X.w) X.A (exec st X.env) (SP X zG D) X.xe s
noncomputable def PSs(X:Cx)(st:n_ cS)(t:TS):Prop:=
 ∀(zG:n_ (Ch×Obj)) (s:Go) (Z:St) (H:Hp) (D:Ends),Inv X zG Z H s->t D Z H->wpAny (model X.prog X.w) X.A (execs st X.env) (SP X zG D) X.xe s
def BF{α:Type}{t:Sem α}{Q Q':α->Go->Prop}{M:Model}{A:cW}{E:Db->Go->Prop}{s:Go}(h:wpAny M A t Q E s)(hQ:∀a s,Q a s->Q' a s):wpAny M A t Q' E s:=c9 h hQ λ_ _ x=>x
section
variable {X:Cx}
noncomputable def Bu(i:Nat):TE:=λZ H Q=>∃v,Z[i]?=P3^P3 v/\Q v H
noncomputable def tC(v:V):TE:=λ_ H Q=>Q v H
def L4{i:Nat}{x:Str}{pos:Pos}(hN:X.N[i]?=P3 x)(hv:Yx X.env.scope x)(hd:autoParam ((x==("__debug__":Str))=m_) zau1._auto_1)(hcd:autoParam ((x==("__classdict__":Str))=m_) zau1._auto_1):PE X (.Name x pos)^Bu i:=by
 intro zG s Z H Q I h;let#[v,e,h]:=h;let#[m,hn,hl]:=I.loc;let#[u,r,l]:=hl i x v hN e hv;have fin:EP X _ Z Q u s:=#[v,H,I,r,h]
 rcases l with⟨hk,hm⟩|⟨hk,c,hc,hcell⟩
 .exact wpAny_Name (wpAny_loadName_local I.ok.kind hk hn hm fin) hd
 .rcases hk with hk|hk
  .exact wpAny_Name (wpAny_loadName_cell I.ok.kind hk hc hcell fin) hd
  .exact wpAny_Name (wpAny_loadName_free I.ok.kind hk hc hcell fin hcd) hd
def Ax{i j pos}:PE X (.Constant (.int i) j pos)^tC^.int i:=λ_ _ _ H _ I h=>wpAny_Constant_int #[.int i,H,I.tok _,#[_,rfl],h]
def Zl{b j pos}:PE X (.Constant (.bool b) j pos)^tC^.bl b:=λ_ _ _ H _ I h=>Constant_bool #[.bl b,H,I,rfl,h]
def YB{j pos}:PE X (.Constant .none j pos)^tC .non:=λ_ _ _ H _ I h=>Constant_none #[.non,H,I,rfl,h]
def PH{x j pos}:PE X (.Constant (.str x) j pos)^tC^.str x:=λ_ _ _ H _ I h=>Calls.Constant_str #[.str x,H,I.tok _,#[_,rfl],h]
noncomputable def Gl(X:Cx)(x:Str):Prop:=X.env.kindOf x=P3 .globalImplicit
def F5{E:Db->Go->Prop}{zG:n_ (Ch×Obj)}{s:Go}{Z:St}{H:Hp}{x:Str}{u:Db}{pos:Pos}{Q:Db->Go->Prop}(I:Inv X zG Z H s)(hg:Gl X x)(hm:X.mg x=P3 u)(h:Q u s)
  (hd:autoParam ((x==("__debug__":Str))=m_) zau1._auto_1):wpAny (model X.prog X.w) X.A (eval (.Name x pos) X.env) Q E s:=
 iB I.ok.kind hg (Calls.loadGlobal_global (by rw[I.ok.glob];exact I.mod.glob.keeps I.bk) hm h) hd
def EB{E:Db->Go->Prop}{zG:n_ (Ch×Obj)}{s:Go}{Z:St}{H:Hp}{x:Str}{u:Db}{pos:Pos}{Q:Db->Go->Prop}(I:Inv X zG Z H s)(hg:Gl X x)(hm:X.mg x=k_)(hv:bootBuiltins x=P3 u)(h:Q u s)
  (hn:autoParam (x ≠ "__name__") zau1._auto_1) (hd:autoParam ((x==("__debug__":Str))=m_) zau1._auto_1):wpAny (model X.prog X.w) X.A (eval (.Name x pos) X.env) Q E s:=by
 let#[mb,h1,h2]:=I.mod.blt;exact iB I.ok.kind hg (Calls.loadGlobal_builtin (by rw[I.ok.glob];exact I.mod.glob.keeps I.bk) hm (by rw[I.ok.blt];exact h1.keeps I.bk) ((h2 x hn).trans hv) h) hd
def Vs{x:Str}{v:V}{u:Db}{pos:Pos}(hg:Gl X x)(hm:X.mg x=P3 u)(r:RelV v u)(hd:autoParam ((x==("__debug__":Str))=m_) zau1._auto_1):PE X (.Name x pos)^tC v:=
 λ_ _ _ H _ I h=>F5 I hg hm #[v,H,I,r,h] hd
def Vw{x:Str}{v:V}{u:Db}{pos:Pos}(hg:Gl X x)(hm:X.mg x=k_)(hv:bootBuiltins x=P3 u)(r:RelV v u)(hn:autoParam (x ≠ "__name__") zau1._auto_1)(hd:autoParam ((x==("__debug__":Str))=m_) zau1._auto_1):PE X (.Name x pos)^tC v:=
 λ_ _ _ H _ I h=>EB I hg hm hv #[v,H,I,r,h] hn hd
variable {a b:Expr}{ta tb:TE}{pos:Pos}
noncomputable def tB(t:TE):TT:=λZ H Q=>t Z H λx H1=>∃c,x=.bl c/\Q c H1
def X6{e:cJ}{t:TE}(h:PE X e t)(he:autoParam (∀whole,isTrue e X.env whole=(do let v ←whole;standAt e.pos;holding [v]^truthy v)) zau2._auto_1):PT X e^tB t:=by
 intro zG s Z H Q I hw;refine isTrue_plain (BF (h _ s Z H _ I hw) λv s1 #[x,H1,I1,r1,q1]=>?_)^he _;let#[d,rfl,q]:=q1;cases r1;exact fT #[H1,I1,q]
variable {tA tB':TT}{rest:n_ Expr}
noncomputable def ZP(t u:TT):TT:=λZ H Q=>t Z H λc H1=>if c=l_ then u Z H1 Q else Q m_ H1
noncomputable def bi(t u:TT):TT:=λZ H Q=>t Z H λc H1=>if c=l_ then Q l_ H1 else u Z H1 Q
noncomputable def ae(t:TT):TT:=λZ H Q=>t Z H λc H1=>Q (!c) H1
def QM(ha:PT X a tA):PW X (.BoolOp .And [a] pos) tA:=by
 intro wh zG s Z H Q I h;refine isTrue_and^BF (ha _ s Z H Q I h) λc s1 e=>?_;cases c with
 |true=>exact isTrue_and_nil e
 |false=>exact e
def X5(ha:PT X a tA):PW X (.BoolOp .Or [a] pos) tA:=by
 intro wh zG s Z H Q I h;refine isTrue_or^BF (ha _ s Z H Q I h) λc s1 e=>?_;cases c with
 |false=>exact isTrue_or_nil e
 |true=>exact e
def Tr(ha:PT X a tA)(hb:PW X (.BoolOp .And (b::rest) pos) tB'):PW X (.BoolOp .And (a::b::rest) pos)^ZP tA tB':=by
 intro wh zG s Z H Q I h;refine isTrue_and^BF (ha _ s Z H _ I h) λc s1 #[H1,I1,q1]=>?_;cases c with
 |true=>exact hb wh _ s1 Z H1 Q I1 q1
 |false=>assumption
def Zj(ha:PT X a tA)(hb:PW X (.BoolOp .Or (b::rest) pos) tB'):PW X (.BoolOp .Or (a::b::rest) pos)^bi tA tB':=by
 intro wh zG s Z H Q I h;refine isTrue_or^BF (ha _ s Z H _ I h) λc s1 #[H1,I1,q1]=>?_;cases c with
 |true=>assumption
 |false=>exact hb wh _ s1 Z H1 Q I1 q1
def X7(ha:PT X a tA):PT X (.UnaryOp .Not a pos)^ae tA:=λzG s Z H Q I h=>isTrue_not^ha _ s Z H _ I h
noncomputable def bj(t:TT)(ta tb:TE):TE:=λZ H Q=>t Z H λc H1=>if c=l_ then ta Z H1 Q else tb Z H1 Q
def Nc{c:cJ}(hc:PT X c tA)(ha:PE X a ta)(hb:PE X b tb):PE X (.IfExp c a b pos)^bj tA ta tb:=by
 intro zG s Z H Q I h;refine wpAny_IfExp^BF (hc _ s Z H _ I h) λd s1 #[H1,I1,q1]=>?_;cases d with
 |true=>exact ha _ s1 Z H1 Q I1 q1
 |false=>exact hb _ s1 Z H1 Q I1 q1
end
noncomputable def SqL(K:Frag)(H:Hp)(a:Ch)(xs:n_ V):Prop:=
 Rd H a (.lst xs) \/
  ∃(o:Obj) (its:Array Db) (n:Nat),K.lookup a=P3 o/\o.cls=.type "list"/\o.dict=k_/\o.data=.seq its n/\its.size<=sizeLine/\Vals xs its.toList
noncomputable def SqT(K:Frag)(H:Hp)(a:Ch)(xs:n_ V):Prop:=
 Rd H a (.tup xs) \/
  ∃(o:Obj) (its:Array Db) (n:Nat),K.lookup a=P3 o/\o.cls=.type "tuple"/\o.data=.seq its n/\its.size<=sizeLine/\Vals xs its.toList
noncomputable def bG:Db->o_ V
 |.none=>P3 .non
 |.bool b=>P3^.bl b
 |.int i _=>P3^.int i
 |.str x _=>P3^.str x
 |.bytes b _=>P3^.byt b
 |.float b _=>P3^.flt b
 |.ref a=>P3^.ref a
 |.type n=>P3^.ty n
 |_=>k_
def RelV.abs{x:V}{u:Db}(r:RelV x u):bG u=P3 x:=by
 cases x with
 |non=>cases r;rfl
 |bl _=>cases r;rfl
 |int _=>let#[t,rfl]:=r;rfl
 |str _=>let#[t,rfl]:=r;rfl
 |byt _=>let#[t,rfl]:=r;rfl
 |flt _=>let#[t,rfl]:=r;rfl
 |ref _=>cases r;rfl
 |ty _=>cases r;rfl
def RelV.inj{x y:V}{u:Db}(r:RelV x u)(q:RelV y u):x=y:=bz^r.abs.symm.trans q.abs
theorem Vals.inj:∀{xs ys:n_ V}{us:n_ Db},Vals xs us->Vals ys us->xs=ys
 |_,_,_,.nil,.nil=>rfl
 |_,_,_,.cons r t,.cons r' t'=>by rw[r.inj r',Vals.inj t t']
section
variable {X:Cx}{zG:n_ (Addr×Obj)}{Z:St}{H:Hp}{s:Shared}{a:Addr}{xs ys:n_ V}
def SqL.of{K:Frag}(h:H a=P3^.lst xs):SqL K H a xs:=.inl^.inl h
def SqT.of{K:Frag}(h:H a=P3^.tup xs):SqT K H a xs:=.inl^.inl h
def Inv.list(I:Inv X zG Z H s)(h:SqL X.K H a xs):∃its:n_ Db,Vals xs its/\PlainL s.heap a its.toArray/\xs.length<=sizeLine:=by
 rcases h with h|⟨o,its,n,hk,hc,hd,hs,hz,r⟩
 .let#[z,its,n,r,e]:=h.ok I.hok
  exact#[_,r,#[_,n,e,rfl,rfl,rfl],z]
 .refine#[_,r,#[o,n,I.kIn a o hk,hc,hd,by lk],?_]
  have e:=r.length
  grind
def Inv.tuple(I:Inv X zG Z H s)(h:SqT X.K H a xs):∃its:n_ Db,Vals xs its/\IsTup s.heap a its.toArray/\xs.length<=sizeLine:=by
 rcases h with h|⟨o,its,n,hk,hc,hs,hz,r⟩
 .let#[z,its,r,p]:=h.ok I.hok
  exact#[_,r,p.tup,z]
 .refine#[_,r,#[o,I.kIn a o hk,hc,n,by lk],?_]
  have e:=r.length
  grind
def Inv.list_inj(I:Inv X zG Z H s)(h:SqL X.K H a xs)(h':SqL X.K H a ys):xs=ys:=by
 let#[its,r,#[o,n,e,_,_,d],_]:=I.list h;let#[its',r',#[o',n',e',_,_,d'],_]:=I.list h'
 have:its=its':=by grind
 subst this;exact r.inj r'
def Inv.tuple_inj(I:Inv X zG Z H s)(h:SqT X.K H a xs)(h':SqT X.K H a ys):xs=ys:=by
 let#[its,r,#[o,e,_,n,d],_]:=I.tuple h;let#[its',r',#[o',e',_,n',d'],_]:=I.tuple h'
 have:its=its':=by grind
 subst this;exact r.inj r'
end
noncomputable abbrev Cx.wish(X:Cx)(E:Db->Go->Prop):Cx:={X with xe:=E}
noncomputable abbrev Cx.nox(X:Cx):Cx:=X.wish λ_ _=>False
def Cx.Ok.wish{X:Cx}(ok:X.Ok)(E:Db->Go->Prop):(X.wish E).Ok:=
 #[ok.mod,ok.kind,ok.glob,ok.blt,ok.above,ok.inj,ok.has,ok.cab,ok.hd,ok.frames,ok.stk,ok.exf,ok.bs,ok.bsz,ok.noex,ok.exfs,ok.funs,ok.frf]
def Cx.Ok.unwish{X:Cx}{E:Db->Go->Prop}(ok:(X.wish E).Ok):X.Ok:=
 #[ok.mod,ok.kind,ok.glob,ok.blt,ok.above,ok.inj,ok.has,ok.cab,ok.hd,ok.frames,ok.stk,ok.exf,ok.bs,ok.bsz,ok.noex,ok.exfs,ok.funs,ok.frf]
section
variable {X:Cx}{zG:n_ (Addr×Obj)}{Z:St}{H:Hp}{s:Shared}{E:Value->Shared->Prop}
def Inv.wish(I:Inv X zG Z H s)(E:Db->Go->Prop):Inv (X.wish E) zG Z H s:=#[I.ok.wish E,I.os,I.bare,I.base,I.loc,I.cell,I.free,I.freeC,I.pin,I.hok,I.len]
def Inv.unwish(I:Inv (X.wish E) zG Z H s):Inv X zG Z H s:=#[I.ok.unwish,I.os,I.bare,I.base,I.loc,I.cell,I.free,I.freeC,I.pin,I.hok,I.len]
def SP.unwish{D:Ends}{f:Flow}{s':Go}(h:SP (X.wish E) zG D f s'):SP X zG D f s':=by
 cases f with
 |next=>let#[zZ,H',I,q]:=h;exact#[_,H',I.unwish,q]
 |brk=>let#[zZ,H',I,q]:=h;exact#[_,H',I.unwish,q]
 |cont=>let#[zZ,H',I,q]:=h;exact#[_,H',I.unwish,q]
 |ret u=>let#[v,zZ,H',I,r,q]:=h;exact#[v,_,H',I.unwish,r,q]
def PSs.nox{st:n_ cS}{t:TS}(h:PSs X.nox st t):PSs X st t:=λzG s Z H D I hw=>
 c9 (h _ s Z H D (I.wish _) hw) (λ_ _ q=>q.unwish) λ_ _ z=>cz z
end
section
variable {X:Cx}{st:Stmt}{rest:n_ Stmt}{t u:TS}{e:Expr}{te:TE}{pos:Pos}
noncomputable def Wp:TS:=λD Z H=>D.nx Z H
noncomputable def RB(t u:TS):TS:=λD Z H=>t {D with nx:=u D} Z H
def L1:PSs X [] Wp:=λ_ _ Z H _ I h=>gj #[Z,H,I,h]
def BI(h1:PS X st t)(h2:PSs X rest u):PSs X (st::rest)^RB t u:=by
 intro zG s Z H D I h;refine wpAny_execs_cons^BF (h1 _ s Z H _ I h) λf s1 q=>?_;cases f with
 |next=>
  let#[zZ,H',I',q]:=q;exact h2 _ s1 _ H' D I' q
 |ret v=>exact q
 |brk=>exact q
 |cont=>exact q
def Cw(h1:PS X st t):PSs X [st] t:=by
 intro zG s Z H D I h;refine wpAny_execs_cons^BF (h1 _ s Z H D I h) λf s1 q=>?_;cases f with
 |next=>exact gj q
 |ret v=>exact q
 |brk=>exact q
 |cont=>exact q
def Inv.quiet{zG:n_ (Ch×Obj)}{Z:St}{H:Hp}{s:Go}(I:Inv X zG Z H s):interactive X.env=m_:=by simp[interactive,I.ok.kind]
noncomputable def ZK(te:TE):TS:=λD Z H=>te Z H λ_ H1=>D.nx Z H1
def QP(he:PE X e te)(hs:autoParam (swapsWith e k_ pos.line X.env=pure m_) zau3._auto_1):PS X (.Expr e pos)^ZK te:=λzG s Z H D I h=>wpAny_Expr_any (BF (he _ s Z H _ I h) λv s1 #[x,H1,I1,r1,q1]=>#[Z,H1,I1,q1]) I.quiet hs
noncomputable def Vb(te:TE):TS:=λD Z H=>te Z H D.rt
def FN(he:PE X e te):PS X (.Return (P3 e) pos)^Vb te:=λzG s Z H D I h=>wpAny_Return_some^BF (he _ s Z H _ I h) λv s1 #[x,H1,I1,r1,q1]=>#[x,Z,H1,I1,r1,q1]
noncomputable def ZJ(c:TT)(t u:TS):TS:=λD Z H=>c Z H λb H1=>if b=l_ then t D Z H1 else u D Z H1
def Tw{c:cJ}{a b:n_ cS}{tc:TT}(hc:PT X c tc)(ha:PSs X a t)(hb:PSs X b u):PS X (.If c a b pos)^ZJ tc t u:=by
 intro zG s Z H D I h;refine wpAny_If^BF (hc _ s Z H _ I h) λd s1 #[H1,I1,q1]=>?_;cases d with
 |true=>exact ha _ s1 Z H1 D I1 q1
 |false=>exact hb _ s1 Z H1 D I1 q1
end
noncomputable abbrev TG:=V->St->Hp->(St->Hp->Prop)->Prop
noncomputable abbrev Y0:=n_ V->St->Hp->(St->Hp->Prop)->Prop
noncomputable def PG(X:Cx)(target:cJ)(t:TG):Prop:=
 ∀(zG:n_ (Ch×Obj)) (s:Go) (Z:St) (H:Hp) (v:V) (u:Db) (Q:St->Hp->Prop),Inv X zG Z H s->RelV v u->t v Z H Q->
  wpAny (model X.prog X.w) X.A (assign target X.env u) (λ_ s'=>∃zZ H',Inv X zG zZ H' s'/\Q zZ H') X.xe s
noncomputable def aH(X:Cx)(ts:n_ cJ)(t:Y0):Prop:=
 ∀(zG:n_ (Ch×Obj)) (s:Go) (Z:St) (H:Hp) (vs:n_ V) (us:n_ Db) (Q:St->Hp->Prop),Inv X zG Z H s->Vals vs us->t vs Z H Q->
  wpAny (model X.prog X.w) X.A (assignInOrder ((assignEach ts X.env).map (·.2)) us) (λ_ s'=>∃zZ H',Inv X zG zZ H' s'/\Q zZ H') X.xe s
noncomputable abbrev Yz:=V->V->V->Hp->(Hp->Prop)->Prop
noncomputable def aF(X:Cx)(t:Yz):Prop:=
 ∀(zG:n_ (Ch×Obj)) (s:Go) (Z:St) (H:Hp) (o i v:V) (ov iv u:Db) (Q:Hp->Prop),Inv X zG Z H s->RelV o ov->RelV i iv->RelV v u->t o i v H Q->
  wpAny (model X.prog X.w) X.A (setItem ov iv u) (λ_ s'=>∃H',Inv X zG Z H' s'/\Q H') X.xe s
noncomputable abbrev aT:=V->V->Hp->VK->Prop
noncomputable def bY(X:Cx)(op:Operator)(t:aT):Prop:=
 ∀(zG:n_ (Ch×Obj)) (s:Go) (Z:St) (H:Hp) (x y:V) (v u:Db) (Q:VK),Inv X zG Z H s->RelV x v->RelV y u->t x y H Q->
  wpAny (model X.prog X.w) X.A (inplaceOp op v u) (EP X zG Z Q) X.xe s
section
variable {X:Cx}{pos:Pos}
noncomputable def HR(i:Nat):TG:=λv Z H Q=>Q (Z.set i^P3 v) H
def Fw{i:Nat}{x:Str}(hN:X.N.Nodup)(hi:X.N[i]?=P3 x)(hx:Loc X.env.scope x)(hf:autoParam (X.fn x=l_\/X.env.scope.names.lookup x=P3 .local) zau0._auto_1):PG X (.Name x pos)^HR i:=λzG s Z H v u Q I r h=>wpAny_assign_Name^Ih I hN hi hx r (λs' I'=>#[_,H,I',h]) hf
noncomputable def a9:Y0:=λvs Z H Q=>vs=[]/\Q Z H
noncomputable def Zx(t:TG)(u:Y0):Y0:=λvs Z H Q=>∃v r,vs=v::r/\t v Z H λzZ H'=>u r zZ H' Q
def QT:aH X [] a9:=by
 intro zG s Z H vs us Q I r h;let#[e,h]:=h;exact assignInOrder_nil #[Z,H,I,h]
def Fv{e:cJ}{es:n_ cJ}{t:TG}{u:Y0}(h1:PG X e t)(h2:aH X es u)
  (hs:autoParam ((assignEach (e::es) X.env).map (·.2)=assign e X.env::(assignEach es X.env).map (·.2)) zau3._auto_1):aH X (e::es)^Zx t u:=by
 intro zG s Z H vs us Q I r h;let#[v,vr,e1,h]:=h;subst e1;cases r with
 |cons r rr=>
  rw[hs];exact assignInOrder_cons^BF (h1 _ s Z H _ _ _ I r h) λ_ s1 #[_,H1,I1,q1]=>h2 _ s1 _ H1 _ _ Q I1 rr q1
noncomputable def az(K:Frag)(n:Nat)(t:Y0):TG:=λv Z H Q=>∃a xs,v=.ref a/\SqT K H a xs/\xs.length=n/\t xs Z H Q
def T3{es:n_ cJ}{k:Nat}{t:Y0}{n:Nat}(hc:X.calm=l_)(h:aH X es t)
  (hn:autoParam ((assignEach es X.env).length=n) zau3._auto_1) (hst:autoParam ((assignEach es X.env).findIdx? (·.1)=k_) zau3._auto_1):PG X (.Tuple es k pos)^az X.K n t:=by
 intro zG s Z H v u Q I r hw;let#[a,xs,e1,hq,hl,hw]:=hw;subst e1;cases r;let#[its,rv,ht,hz]:=I.tuple hq;exact assign_Tuple_tuple (I.ok.hd hc) ht (by simp[hn,←hl,rv.length]) hst λh' hx=>h _ _ Z H xs _ Q (I.kept λb o e=>hx b o (b9^Tk e) e) (by lk) hw
noncomputable def Zw(to ti:TE)(t:Yz):TG:=λv Z H Q=>to Z H λo H1=>ti Z H1 λi H2=>t o i v H2 λH3=>Q Z H3
def PF{o i:cJ}{to ti:TE}{t:Yz}(ho:PE X o to)(hi:PE X i ti)(hs:aF X t)
  (ha:autoParam (∀v,assign (.Subscript o i pos) X.env v=(do
   let ov ←holding [v]^eval o X.env
   let iv ←holding [v,ov] (eval i X.env)
   standAt pos
   holding [v,ov,iv] (setItem ov iv v)
   release [v,ov,iv] [])) zau2._auto_1):PG X (.Subscript o i pos)^Zw to ti t:=λzG s Z H v u Q I r h=>Cn^dD^BF (ho _ s Z H _ I h) λov s1 #[x,H1,I1,r1,q1]=>Cn^dD^BF (hi _ s1 Z H1 _ I1 q1) λiv s2 #[y,H2,I2,r2,q2]=>Cn^wpAny_standAt^Cn^dD^BF (hs _ s2 Z H2 x y v ov iv u _ I2 r1 r2 r q2) λ_ s3 #[H3,I3,q3]=>wpAny_release #[Z,H3,I3,q3]
noncomputable def NL(te:TE)(g:TG):TS:=λD Z H=>te Z H λx H1=>g x Z H1 D.nx
def O_{tg e:cJ}{te:TE}{g:TG}(he:PE X e te)(hg:PG X tg g)(hs:autoParam (swapsWithSole [tg] e pos.line X.env=pure m_) zau3._auto_1)(hw:autoParam (swappedStores [tg] e X.env=pure k_) zau3._auto_1)
  (h1:autoParam ((assignEach [tg] X.env).map (·.2)=[assign tg X.env]) zau3._auto_1):PS X (.Assign [tg] e pos)^NL te g:=by
 intro zG s Z H D I h;refine wpAny_Assign_stores (BF (he _ s Z H _ I h) λv s1 #[x,H1,I1,r1,q1]=>?_) hs hw;rw[h1];exact BF (hg _ s1 Z H1 x v _ I1 r1 q1) λ_ s2 q=>q
def D8{i:Nat}{x:Str}{e:cJ}{te:TE}{pos':Pos}(hN:X.N.Nodup)(hi:X.N[i]?=P3 x)(hx:Loc X.env.scope x)(he:PE X e te)(hs:autoParam (swapsWith e (P3^.Name x pos') pos.line X.env=pure m_) zau3._auto_1)(hf:autoParam (X.fn x=l_\/X.env.scope.names.lookup x=P3 .local) zau0._auto_1):
  PS X (.Assign [.Name x pos'] e pos) (NL te^HR i):=λzG s Z H D I h=>wpAny_Assign_Name (BF (he _ s Z H _ I h) λv s1 #[y,H1,I1,r1,q1]=>Ih I1 hN hi hx r1 (λs2 I2=>#[_,H1,I2,q1]) hf) hs
noncomputable def ak(i:Nat)(te:TE)(ti:aT):TS:=λD Z H=>∃x,Z[i]?=P3^P3 x/\te Z H λy H1=>ti x y H1 λz H2=>D.nx (Z.set i^P3 z) H2
def X9{i:Nat}{x:Str}{e:cJ}{te:TE}{op:Operator}{ti:aT}{pos':Pos}(hN:X.N.Nodup)(hi:X.N[i]?=P3 x)(hx:Loc X.env.scope x)(he:PE X e te)(ho:bY X op ti)(hf:autoParam (X.fn x=l_\/X.env.scope.names.lookup x=P3 .local) zau0._auto_1):
  PS X (.AugAssign (.Name x pos') op e pos) (ak i te ti):=by
 intro zG s Z H D I h;let#[v,e1,h]:=h;let#[m,hn,hl]:=I.loc;have vis:Yx X.env.scope x:=by rcases hx with k|k;exact .inl k;exact .inr^.inl k
 let#[u,r,l]:=hl i x v hi e1 vis;refine wpAny_AugAssign_Name ?_
 have go:wpAny (model X.prog X.w) X.A (eval e X.env) (λw s₂=>wpAny (model X.prog X.w) X.A (inplaceOp op u w) (λr s₃=>wpAny (model X.prog X.w) X.A (storeName X.env x r) (λ_=>SP X zG D .next) X.xe s₃) X.xe s₂) X.xe s:=by
  refine BF (he zG s Z H _ I h) λw s1 #[y,H1,I1,r1,q1]=>?_;refine BF (ho zG s1 Z H1 v y u w _ I1 r r1 q1) λz s2 #[zv,H2,I2,r2,q2]=>?_;exact Ih I2 hN hi hx r2 (λs3 I3=>#[_,H2,I3,q2]) hf
 rcases l with⟨hk,hm⟩|⟨hk,c,hc,hcell⟩
 .exact wpAny_loadName_local I.ok.kind hk hn hm go
 .rcases hk with hk|hk
  .exact wpAny_loadName_cell I.ok.kind hk hc hcell go
  .rcases hx with k|k
   .have:X.env.scope.names.lookup x=P3 .free:=hk
    rw[k]at this;cases this
   .have:X.env.scope.names.lookup x=P3 .free:=hk
    rw[k]at this;cases this
noncomputable def bq(f:Int->Int->Int):aT:=λx y H Q=>∃i j,x=.int i/\y=.int j/\Q (.int^f i j) H
def YZ:bY X .Add (bq λi j=>i+j):=by
 intro zG s Z H x y v u Q I r1 r2 h;let#[i,j,e1,e2,q]:=h;subst e1;subst e2
 let#[t,rfl]:=r1;let#[t',rfl]:=r2;exact iadd_int #[.int _,H,I.tok _,#[_,rfl],q]
end
section
variable {X:Cx}{pos:Pos}
noncomputable def Xn(c:TT)(tb:TS):TS:=λD Z H=>∃W:Nat->St->Hp->Prop,(∃m,W m Z H)/\∀m Z H,W m Z H->
 c Z H λb H1=>if b=l_ then ∃N:St->Hp->Prop,(∀zZ H',N zZ H'->∃m',m'<m/\W m' zZ H')/\tb {D with nx:=N,ct:=N,bk:=D.nx} Z H1 else D.nx Z H1
def Tv{c:cJ}{body:n_ cS}{tc:TT}{tb:TS}(hp:ia (model X.prog X.w) X.A X.env X.xe)(hc:PT X c tc)(hb:PSs X body tb):PS X (.While c body [] pos)^Xn tc tb:=by
 intro zG s Z H D I h;let#[W,#[m0,w0],turn]:=h;refine wpAny_While^codeAny_whileLoop (λn s'=>∃zZ H',Inv X zG zZ H' s'/\W n zZ H') ?_ m0 #[Z,H,I,w0];rintro n s1 ⟨zJ,H1,I1,w1⟩;refine ei hp^BF (hc zG s1 zJ H1 _ I1^turn n zJ H1 w1) λb s2 #[H2,I2,q2]=>?_;cases b with
 | true=>
  let#[N,hN,q2]:=q2;rw[if_pos rfl];refine ei hp^BF (hb zG s2 zJ H2 _ I2 q2) λf s3 q3=>?_;cases f with
  |next=>
   let#[zV,H3,I3,n3]:=q3;let#[m',hm,w3]:=hN zV H3 n3;exact#[m',hm,zV,H3,I3,w3]
  |cont=>
   let#[zV,H3,I3,n3]:=q3;let#[m',hm,w3]:=hN zV H3 n3;exact#[m',hm,zV,H3,I3,w3]
  |brk=>exact q3
  |ret v=>exact q3
 |false=>
  rw[if_neg cD];exact gj #[zJ,H2,I2,q2]
end
structure It where
 go:Nat->Hp->Prop
 yld:Nat->Hp->V->Hp->Prop
 stop:Nat->Hp->Prop
noncomputable def GR(X:Cx)(zG:n_ (Ch×Obj))(H:Hp)(b:Ch):Prop:=
 H b=k_/\b≠X.env.locals/\b∉X.fs/\(b∈X.ex\/X.s₀.heap.objs.size<=b)/\(∀x c,X.env.cells.lookup x=P3 c->c≠b)/\∀p∈X.pn++zG,p.1≠b
def Inv.fpOk{X:Cx}{zG:n_ (Ch×Obj)}{Z:St}{H H':Hp}{s:Go}{b:Ch}(I:Inv X zG Z H s)(hb:s.heap.objs.size<=b)(hn:H' b=k_):GR X zG H' b:=by
 refine#[hn,gk^cO I.lt hb,I.nofs hb,.inr^cG I.sz hb,λx c e z=>?_,λp hp z=>?_]
 .let#[v,q]:=I.cell x c e
  exact absurd (cO q.lt^by rw[z];exact hb)^dC _
 .exact absurd (cO (Tk (I.pin p hp).1)^by rw[z];exact hb)^dC _
structure Turn (P:cH) (w:cN) (K:Frag) (tg:cJ) (J:It) (fp:List Ch) (it:Ch) (tn:Nat->cA->Prop):Prop where
 mem:it∈fp
 obj:∀i h,tn i h->∀b∈fp,∃o,h.get? b=P3 o/\∀v,o.data≠.cell v
 keep:∀i h h',tn i h->(∀b∈fp,∀o,h.get? b=P3 o->h'.get? b=P3 o)->tn i h'
 item:∀(X:Cx),X.prog=P->X.w=w->X.K=K->X.calm=l_->∀(i:Nat) (zG:List (Ch×Obj)) (s:Go) (Z:St) (H:Hp) (E:Db->Go->Prop),Inv X zG Z H s->(∀b∈fp,GR X zG H b)->tn i s.heap->J.go i H->
  wpAny (model P w) X.A (pyNext^.ref it) (λr s1=>∃u,r=P3 u /\
   wpAny (model P w) X.A (letOwnedTupleGo tg (.ref it) u) (λ_ s2=>∃x H',Inv X zG Z H' s2/\RelV x u/\J.yld i H x H'/\tn (i+1) s2.heap/\∀b∈fp,H' b=k_) E s1) E s
 done:∀(X:Cx),X.prog=P->X.w=w->X.K=K->X.calm=l_->∀(i:Nat) (zG:List (Ch×Obj)) (s:Go) (Z:St) (H:Hp) (E:Db->Go->Prop),Inv X zG Z H s->(∀b∈fp,GR X zG H b)->tn i s.heap->J.stop i H->
  wpAny (model P w) X.A (pyNext^.ref it) (λr s1=>r=k_/\Inv X zG Z H s1) E s
 self:∀(A:cW) (i:Nat) (s:Go) (Q:Db->Go->Prop) (E:Db->Go->Prop),tn i s.heap->Q (.ref it) s->wpAny (model P w) A (pyIter^.ref it) Q E s
noncomputable abbrev TI:=St->Hp->(It->Hp->Prop)->Prop
noncomputable def bZ(X:Cx)(zG:n_ (Ch×Obj))(Z:St)(tg:cJ)(R:It->Hp->Prop)(itv:Db)(s2:Go):Prop:=
 ∃(it:Ch) (fp:n_ Ch) (tn:Nat->cA->Prop) (J:It) (H':Hp),itv=.ref it/\Inv X zG Z H' s2/\Turn X.prog X.w X.K tg J fp it tn/\tn 0 s2.heap/\(∀b∈fp,GR X zG H' b)/\R J H'
noncomputable def PI(X:Cx)(tg iter:cJ)(wi:TI):Prop:=
 ∀(zG:n_ (Ch×Obj)) (s:Go) (Z:St) (H:Hp) (R:It->Hp->Prop),Inv X zG Z H s->wi Z H R->
  wpAny (model X.prog X.w) X.A (eval iter X.env) (λv s1=>wpAny (model X.prog X.w) X.A (pyIter v) (bZ X zG Z tg R) X.xe s1) X.xe s
def Qg {M:Model}{A:cW}{E:Db → Go → Prop}{s:Go}{tg:cJ}{it:Ch}{u:Db}{o:Obj}{n:String}{vs:Array Db}{Q:Unit → Go → Prop} (ho:s.heap.get? it=P3 o) (hc:o.cls=.type n) (hd:o.data=.fields vs)
    (hn:["enumerate","zip","dict_itemiterator","dict_reverseitemiterator","odict_iterator","itertools.zip_longest","itertools.pairwise"].contains n=m_) (hQ:Q () s):wpAny M A (letOwnedTupleGo tg (.ref it) u) Q E s:=by
  unfold letOwnedTupleGo
  cases tg <;>first
    |exact On hQ
    |(cases u <;>first
        |exact On hQ
        | (refine Cn^wpAny_load ho ?_
           rw[hc,hd];show wpAny M A (if(["enumerate","zip","dict_itemiterator","dict_reverseitemiterator","odict_iterator","itertools.zip_longest","itertools.pairwise"].contains n && vs[0]?==P3^rawInt _)=l_ then _ else _) Q E s;rw[if_neg^by grind];exact On hQ))
noncomputable def bM(K:Frag)(a:Ch):It:=
 #[λi H=>∃xs x,SqL K H a xs/\xs[i]?=P3 x,λi H x H'=>H'=H/\∀xs,SqL K H a xs->xs[i]?=P3 x,λi H=>∃xs,SqL K H a xs/\xs.length<=i]
noncomputable def Y4(K:Frag)(a:Ch):It:=
 #[λi H=>∃xs x,SqT K H a xs/\xs[i]?=P3 x,λi H x H'=>H'=H/\∀xs,SqT K H a xs->xs[i]?=P3 x,λi H=>∃xs,SqT K H a xs/\xs.length<=i]
noncomputable def aV(lo:Int)(n:Nat):It:=#[λi _=>i<n,λi H x H'=>H'=H/\x=.int (lo+i),λi _=>n<=i]
def RA{P:cH}{w:cN}{K:Frag}{tg:cJ}(a it:Ch):Turn P w K tg (bM K a) [it] it (λi h=>h.IsListIter it a i) where
 mem:=by simp
 obj:=λi h st b hb=>by
  have e:b=it:=by simpa using hb
  subst e;let#[o,e,c,d]:=st;exact#[o,e,λv z=>by rw[d]at z;cases z]
 keep:=λi h h' st k=>st.at λo e=>k it (by simp) o e
 item:=by
  intro X hP hw hK hc i zG s Z H E I hf st hg;subst hP hw hK;let#[xs,x,hq,hx]:=hg;let#[its,rv,p,hz]:=I.list hq;let#[u,hu,ru]:=rv.get hx;let#[f0,f1,f2,f3,f4,f5]:=hf it (by simp);refine wpAny_pyNext_list_item st p.isList (x:=u) (by simpa using hu) λh' st' sb=>?_;have I1:Inv X zG Z H {s with heap:=h'}:=I.turned (t':=s.toks) (λb o hb e=>(sb.2 b hb).trans e) f0 f1 f3 f4 f5;let#[o,e,c,d]:=id st';exact#[u,rfl,Qg (s:={s with heap:=h'}) e c d (by cbv) #[x,H,I1,ru,#[rfl,λys hy=>by rw[I.list_inj hy hq];exact hx],st',λb hb=>(hf b hb).1]]
 done:=by
  intro X hP hw hK hc i zG s Z H E I hf st hg;subst hP hw hK;let#[xs,hq,hx]:=hg;let#[its,rv,p,hz]:=I.list hq;let#[f0,f1,f2,f3,f4,f5]:=hf it (by simp);have hl:=rv.length;exact wpAny_pyNext_list_end (I.ok.hd hc) st p.isList (by simp;lk) λh' eb=>#[rfl,I.turned (t':=s.toks) (λb o hb e=>eb b o hb e) f0 f1 f3 f4 f5]
 self:=λ_ _ _ _ _ st h=>wpAny_pyIter_listiter st h
def IX{P:cH}{w:cN}{K:Frag}{tg:cJ}(a it:Ch):Turn P w K tg (Y4 K a) [it] it (λi h=>h.IsTupleIter it a i) where
 mem:=by simp
 obj:=λi h st b hb=>by
  have e:b=it:=by simpa using hb
  subst e;let#[o,e,c,d]:=st;exact#[o,e,λv z=>by rw[d]at z;cases z]
 keep:=λi h h' st k=>st.at λo e=>k it (by simp) o e
 item:=by
  intro X hP hw hK hc i zG s Z H E I hf st hg;subst hP hw hK;let#[xs,x,hq,hx]:=hg;let#[its,rv,p,hz]:=I.tuple hq;let#[u,hu,ru]:=rv.get hx;let#[f0,f1,f2,f3,f4,f5]:=hf it (by simp);refine wpAny_pyNext_tuple_item st (show s.heap.IsTuple a its.toArray from p) (x:=u) (by simpa using hu) λh' st' sb=>?_;have I1:Inv X zG Z H {s with heap:=h'}:=I.turned (t':=s.toks) (λb o hb e=>(sb.2 b hb).trans e) f0 f1 f3 f4 f5;let#[o,e,c,d]:=id st';exact#[u,rfl,Qg (s:={s with heap:=h'}) e c d (by cbv) #[x,H,I1,ru,#[rfl,λys hy=>by rw[I.tuple_inj hy hq];exact hx],st',λb hb=>(hf b hb).1]]
 done:=by
  intro X hP hw hK hc i zG s Z H E I hf st hg;subst hP hw hK;let#[xs,hq,hx]:=hg;let#[its,rv,p,hz]:=I.tuple hq;let#[f0,f1,f2,f3,f4,f5]:=hf it (by simp);have hl:=rv.length;exact wpAny_pyNext_tuple_end (I.ok.hd hc) st (show s.heap.IsTuple a its.toArray from p) (by simp;lk) λh' eb=>#[rfl,I.turned (t':=s.toks) (λb o hb e=>eb b o hb e) f0 f1 f3 f4 f5]
 self:=λ_ _ _ _ _ st h=>wpAny_pyIter_tupleiter st h
def Om{P:cH}{w:cN}{K:Frag}{tg:cJ}(it:Ch)(lo:Int)(n:Nat):Turn P w K tg (aV lo n) [it] it (λi h=>IsRangeIter h it (lo+(i:Nat)*1) ((n:Int) - (i:Nat)) 1) where
 mem:=by simp
 obj:=λi h st b hb=>by
  simp_all
 keep:=λi h h' st k=>k it (by simp) _ st
 item:=by
  intro X hP hw hK hc i zG s Z H E I hf st hg;subst hP hw hK;let#[f0,f1,f2,f3,f4,f5]:=hf it (by simp);have W:=Walks.range (prog:=X.prog) (w:=X.w) (I.ok.hd hc) it lo 1 n;refine W.item i s _ _ hg st λv h' tk hv st' kk=>?_;let#[t,rfl]:=hv;have I1:Inv X zG Z H {s with heap:=h',toks:=tk}:=I.turned (λb o hb e=>kk b o (by simpa using hb) e) f0 f1 f3 f4 f5;refine#[_,rfl,Qg (s:={s with heap:=h',toks:=tk}) (n:="range_iterator") st' rfl rfl (by cbv) #[.int (lo+i),H,I1,#[t,?_],#[rfl,rfl],st',λb hb=>(hf b hb).1]];rw[Int.mul_one]
 done:=by
  intro X hP hw hK hc i zG s Z H E I hf st hg;subst hP hw hK;let#[f0,f1,f2,f3,f4,f5]:=hf it (by simp);exact wpAny_pyNext_range_end (I.ok.hd hc) st (by have:n<=i:=hg;lk) λh' eb=>#[rfl,I.turned (t':=s.toks) (λb o hb e=>eb b o hb e) f0 f1 f3 f4 f5]
 self:=λ_ _ _ _ _ st h=>wpAny_pyIter_rangeiter st h
section
variable {X:Cx}{tg:Expr}
noncomputable def ax(K:Frag)(tl:TE):TI:=λZ H R=>tl Z H λx H1=>∃a,x=.ref a/\(∃xs,SqT K H1 a xs)/\R (Y4 K a) H1
def T1{l:cJ}{tl:TE}(hl:PE X l tl):PI X tg l^ax X.K tl:=by
 intro zG s Z H R I h;refine BF (hl _ s Z H _ I h) λv s1 #[x,H1,I1,r1,q1]=>?_;let#[a,e,#[xs,hq],q]:=q1;subst e;cases r1;let#[its,rv,p,hz]:=I1.tuple hq;refine dW (p) ?_;refine#[_,_,_,_,H1,rfl,I1.kept λb o e=>Ev _ e,IX a _,#[_,Sc _ rfl,rfl,rfl],λb hb=>?_,q];have e:b=s1.heap.objs.size:=by grind
 subst e;exact I1.fpOk (Rs _)^I1.hok.fresh^Rs _
def Td{zG:n_ (Ch×Obj)}{Z:St}{H:Hp}{s:Go}{R:It->Hp->Prop}{E:Db->Go->Prop}{lo hi:Int}{t u v:Tok}{tk:Nat}(I:Inv X zG Z H s)(h1:-(2 ^ 62)<=lo)(h2:lo<2 ^ 62)(h3:-(2 ^ 62)<=hi)(h4:hi<2 ^ 62)
  (q:R (aV lo (hi - lo).toNat) H):wpAny (model X.prog X.w) X.A (pyIter^.ref s.heap.objs.size) (bZ X zG Z tg R) E {s with heap:=s.heap.push {cls:=.type "range",data:=.fields #[ .int lo t,.int hi u,.int 1 v]},toks:=tk}:=by
 refine wpAny_pyIter_range (IsRange.new ..) (small_one h1 h2 h3 h4) ?_;have I1:Inv X zG Z H {s with heap:=s.heap.push {cls:=.type "range",data:=.fields #[ .int lo t,.int hi u,.int 1 v]},toks:=tk}:=I.kept λb o e=>Ev _ e
 refine#[(s.heap.push {cls:=.type "range",data:=.fields #[ .int lo t,.int hi u,.int 1 v]}).objs.size,[(s.heap.push {cls:=.type "range",data:=.fields #[ .int lo t,.int hi u,.int 1 v]}).objs.size],_,_,H,rfl,
  I1.kept (t':=tk) λb o e=>Ev _ e,Om _ lo (hi - lo).toNat,?_,λb hb=>?_,q]
 .have e1:lo+((0:Nat):Int)*1=lo:=by simp
  have e2:(((hi - lo).toNat:Nat):Int) - ((0:Nat):Int)=Builtin.Range.rangeSize lo hi 1:=by rw[rangeSize_one];grind
  show IsRangeIter _ _ (lo+((0:Nat):Int)*1) ((((hi - lo).toNat:Nat):Int) - ((0:Nat):Int)) 1;rw[e1,e2];exact Sc _ rfl
 .have e:b=(s.heap.push {cls:=.type "range",data:=.fields #[ .int lo t,.int hi u,.int 1 v]}).objs.size:=by simpa using hb
  subst e;exact I1.fpOk (Rs _)^I1.hok.fresh^Rs _
noncomputable def Zv(ta:TA):TI:=λZ H R=>ta Z H λvs H1=>∃j:Int,vs=[.int j]/\-(2 ^ 62)<=j/\j<2 ^ 62/\R (aV 0 j.toNat) H1
def RZ{a:cJ}{ta:TA}{p pos:Pos}(hg:Gl X "range")(hm:X.mg "range"=k_)(ha:PA X [a] ta)(hs:autoParam (starEach [a] X.env=[(m_,eval a X.env)]) zau3._auto_1):PI X tg (.Call (.Name "range" p) [a] [] pos)^Zv ta:=by
 intro zG s Z H R I h;refine Call_^EB I hg hm boot_range (dn (BF (ha _ _ s Z H _ I h) λus s1 #[vs,H1,I1,r1,q1]=>?_) hs rfl);let#[j,e,q1,q2,q]:=q1;subst e;cases r1 with
 |cons r rr=>
  cases rr;let#[t,rfl]:=r;exact call_range_1^Td I1 (by lk) (by lk) q1 q2^by simpa using q
noncomputable def ah(wi:TI)(g:TG)(tb:TS):TS:=λD Z H=>wi Z H λJ H1=>∃W:Nat->Nat->St->Hp->Prop,(∃m,W 0 m Z H1)/\∀i m Z H,W i m Z H->
 (J.stop i H/\D.nx Z H)\/(J.go i H/\∃N:St->Hp->Prop,(∀zZ H',N zZ H'->∃m',m'<m/\W (i+1) m' zZ H')/\∀x H',J.yld i H x H'->g x Z H' λzO H2=>tb {D with nx:=N,ct:=N,bk:=D.nx} zO H2)
noncomputable def JE(fp:n_ Ch)(h:cA):n_ (Ch×Obj):=fp.filterMap λb=>(h.get? b).map λo=>(b,o)
def DX{fp:n_ Ch}{h:cA}{b:Ch}{o:Obj}(hb:b∈fp)(e:h.get? b=P3 o):(b,o)∈JE fp h:=List.mem_filterMap.mpr #[b,hb,by rw[e];rfl]
def Rk{fp:n_ Ch}{h:cA}{p:Ch×Obj}(hp:p∈JE fp h):p.1∈fp/\h.get? p.1=P3 p.2:=by
 let#[b,hb,e]:=List.mem_filterMap.mp hp;cases q:h.get? b with
 |none=>grind
 |some o=>
  rw[q]at e;have e':=bz e;subst e'
  simp_all
def Inv.pinned{zG:n_ (Ch×Obj)}{Z:St}{H:Hp}{s:Go}{fp:n_ Ch}(I:Inv X zG Z H s)(hf:∀b∈fp,GR X zG H b)(ho:∀b∈fp,∃o,s.heap.get? b=P3 o/\∀v,o.data≠.cell v):Inv X (zG++JE fp s.heap) Z H s:=
 I.pins_of λp hp=>(cE.mp hp).elim (λz=>I.pin p^cC _ z) λz=>by
  let#[hb,e]:=Rk z;let#[f0,f1,f2,_]:=hf _ hb;let#[o,e',d]:=ho _ hb
  grind
def Inv.unpinned{zG pl:n_ (Ch×Obj)}{Z:St}{H:Hp}{s:Go}(I:Inv X (zG++pl) Z H s):Inv X zG Z H s:=I.pins_of λp hp=>I.pin p^cC _^cu _ hp
def L3{iter:cJ}{body:n_ cS}{wi:TI}{g:TG}{tb:TS}{pos:Pos}(hp:ia (model X.prog X.w) X.A X.env X.xe)(hc:X.calm=l_)(hi:PI X tg iter wi)(hg:PG X tg g)(hb:PSs X body tb)
  (hs:autoParam (∀x,foldedSetIterable iter X.env x=pure x) zau2._auto_1):PS X (.For tg iter body [] pos)^ah wi g tb:=by
 intro zG s Z H D I h;refine wpAny_For (BF (hi zG s Z H _ I h) λv s1 h1=>BF h1 λitv s2 h2=>?_) hs;let#[it,fp,tn,J,H2,e,I2,T,st2,f2,W,#[m0,w0],turn]:=h2;subst e;have stat:∀{H':Hp},(∀b∈fp,H' b=k_)->∀b∈fp,GR X zG H' b:=λhn b hb=>#[hn b hb,(f2 b hb).2];refine codeAny_forLoop_any (λn s'=>∃i zZ H',Inv X zG zZ H' s'/\tn i s'.heap/\(∀b∈fp,H' b=k_)/\W i n zZ H') ?_ m0 #[0,Z,H2,I2,st2,λb hb=>(f2 b hb).1,w0];rintro n s3 ⟨i,zV,H3,I3,st3,fr3,w3⟩
 rcases turn i n zV H3 w3 with⟨stop,qn⟩|⟨go,N,hN,step⟩
 .refine ei hp^BF (T.done X rfl rfl rfl hc i zG s3 zV H3 X.xe I3 (stat fr3) st3 stop) λr s4 #[hr,I4]=>?_
  subst hr;exact gj #[zV,H3,I4,qn]
 .refine ei hp^BF (T.item X rfl rfl rfl hc i zG s3 zV H3 X.xe I3 (stat fr3) st3 go) λr s4 #[u,hr,h4]=>?_
  subst hr;refine ei hp^BF h4 λ_ s5 #[x,H5,I5,r5,y5,st5,fr5]=>?_;have I5':=I5.pinned (stat fr5)^T.obj _ _ st5;refine ei hp^BF (hg _ s5 zV H5 x u _ I5' r5^step x H5 y5) λ_ s6 #[σ6,H6,I6,q6]=>?_;refine ei hp^BF (hb _ s6 σ6 H6 _ I6 q6) λf s7 q7=>?_
  have again:∀{zN:St}{H7:Hp},Inv X (zG++JE fp s5.heap) zN H7 s7->N zN H7->∃m,m<n/\∃i zZ H',Inv X zG zZ H' s7/\tn i s7.heap/\(∀b∈fp,H' b=k_)/\W i m zZ H':=λ{zN H7} I7 n7=>by
   let#[m',hm,w7]:=hN zN H7 n7;refine#[m',hm,i+1,zN,H7,I7.unpinned,T.keep _ _ _ st5 λb hb o e=>(I7.pin (b,o)^cC _^cC _^DX hb e).1,λb hb=>?_,w7];let#[o,e,d]:=T.obj _ _ st5 b hb;exact(I7.pin (b,o)^cC _^cC _^DX hb e).2.1
  cases f with
  |next=>let#[zN,H7,I7,n7]:=q7;exact again I7 n7
  |cont=>let#[zN,H7,I7,n7]:=q7;exact again I7 n7
  |brk=>let#[zN,H7,I7,q7]:=q7;exact#[zN,H7,I7.unpinned,q7]
  |ret v=>let#[x7,zN,H7,I7,r7,q7]:=q7;exact#[x7,zN,H7,I7.unpinned,r7,q7]
end
def Qj{K:Frag}{a:Ch}{xs:n_ V}{g:TG}{tb:TS}{D:Ends}{Z:St}{H:Hp}(Pv:Nat->St->Hp->Prop)(h0:Pv 0 Z H)(hl:∀i Z H,i<=xs.length->Pv i Z H->SqT K H a xs)
  (hs:∀i x Z H,xs[i]?=P3 x->Pv i Z H->g x Z H λzO H2=>tb {D with nx:=Pv (i+1),ct:=Pv (i+1),bk:=D.nx} zO H2) (hd:∀Z H,Pv xs.length Z H->D.nx Z H):
  ∃W:Nat->Nat->St->Hp->Prop,(∃m,W 0 m Z H)/\∀i m Z H,W i m Z H->
   ((Y4 K a).stop i H/\D.nx Z H)\/((Y4 K a).go i H/\∃N:St->Hp->Prop,(∀zZ H',N zZ H'->∃m',m'<m/\W (i+1) m' zZ H')/\∀x H',(Y4 K a).yld i H x H'->g x Z H' λzO H2=>tb {D with nx:=N,ct:=N,bk:=D.nx} zO H2):=by
 refine#[λi m Z H=>m=xs.length - i/\i<=xs.length/\Pv i Z H,#[xs.length,by simp,cB _,h0],?_];rintro i m Z H ⟨rfl,hi,p⟩;have q:=hl i Z H hi p
 by_cases hlt:i<xs.length
 .refine .inr #[#[xs,xs[i],q,by simp],_,λzZ H' p'=>#[_,by lk,rfl,hlt,p'],λx H' y=>?_]
  let#[e,y]:=y;subst e;exact hs i x Z _ (y xs q) p
 .have e:i=xs.length:=by lk
  subst e;exact .inl #[#[xs,q,Rs _],hd Z H p]
noncomputable abbrev R2:=V->V->Hp->VK->Prop
noncomputable def OpR(X:Cx)(f:Db->Db->Sem Db)(r:R2):Prop:=
 ∀(zG:n_ (Ch×Obj)) (s:Go) (Z:St) (H:Hp) (x y:V) (v u:Db) (Q:VK),Inv X zG Z H s->RelV x v->RelV y u->r x y H Q->
  wpAny (model X.prog X.w) X.A (f v u) (EP X zG Z Q) X.xe s
noncomputable def CallR(X:Cx)(f:Db)(r:n_ V->Hp->VK->Prop):Prop:=
 ∀(zG:n_ (Ch×Obj)) (s:Go) (Z:St) (H:Hp) (xs:n_ V) (us:n_ Db) (Q:VK),Inv X zG Z H s->Vals xs us->r xs H Q->
  wpAny (model X.prog X.w) X.A (call f us) (EP X zG Z Q) X.xe s
noncomputable def bH(X:Cx)(r:V->Hp->(Bool->Hp->Prop)->Prop):Prop:=
 ∀(zG:n_ (Ch×Obj)) (s:Go) (Z:St) (H:Hp) (x:V) (v:Db) (Q:Bool->Hp->Prop),Inv X zG Z H s->RelV x v->r x H Q->
  wpAny (model X.prog X.w) X.A (truthy v) (TP X zG Z Q) X.xe s
noncomputable def C6(r:R2)(ta tb:TE):TE:=λZ H Q=>ta Z H λx H1=>tb Z H1 λy H2=>r x y H2 Q
noncomputable def rI(C:Int->Int->Prop)(g:Int->Int->V):R2:=λx y H Q=>∃i j,x=.int i/\y=.int j/\C i j/\Q (g i j) H
noncomputable def Hf(g:Int->Int->V):R2:=λx y H Q=>∃i j,x=.int i/\y=.int j/\Q (g i j) H
section
variable {X:Cx}{a b:Expr}{ta tb:TE}{pos:Pos}
def Ym(ha:PE X a ta)(hb:PE X b tb){zG:n_ (Ch×Obj)}{s:Go}{Z:St}{H:Hp}{R:V->V->Hp->Prop}(I:Inv X zG Z H s)
  (h:ta Z H λx H1=>tb Z H1 λy H2=>R x y H2) {Q:Db->Go->Prop}{f:Db->Db->Sem Db}
  (hf:∀v u s2 x y H2,Inv X zG Z H2 s2->RelV x v->RelV y u->R x y H2->wpAny (model X.prog X.w) X.A (f v u) Q X.xe s2):
  wpAny (model X.prog X.w) X.A (eval a X.env) (λv s₁=>wpAny (model X.prog X.w) X.A (eval b X.env) (λu s₂=>wpAny (model X.prog X.w) X.A (f v u) Q X.xe s₂) X.xe s₁) X.xe s:=BF (ha _ s Z H _ I h) λv s1 #[x,H1,I1,r1,q1]=>BF (hb _ s1 Z H1 _ I1 q1) λu s2 #[y,H2,I2,r2,q2]=>hf v u s2 x y H2 I2 r1 r2 q2
def Bl{op:Operator}{r:R2}(ho:OpR X (binaryOp op) r)(ha:PE X a ta)(hb:PE X b tb):PE X (.BinOp a op b pos)^C6 r ta tb:=λzG s Z H Q I h=>wpAny_BinOp^Ym ha hb I h λv u s2 x y H2 I2 rx ry q=>ho _ s2 Z H2 x y v u Q I2 rx ry q
def aP{f:Db->Db->Sem Db}{C:Int->Int->Prop}{g:Int->Int->Int}
  (rule:∀(i j:Int) (t u:Tok) (s:Go) (Q:Db->Go->Prop) (E:Db->Go->Prop),C i j->Q (.int (g i j) s.toks) {s with toks:=s.toks+1}->wpAny (model X.prog X.w) X.A (f (.int i t)^.int j u) Q E s):
  OpR X f (rI C λi j=>.int^g i j):=by
 intro zG s Z H x y v u Q I rx ry h;let#[i,j,rfl,rfl,hc,q]:=h;let#[t,rfl]:=rx;let#[t',rfl]:=ry;exact rule i j t t' s _ _ hc #[.int _,H,I.tok _,#[_,rfl],q]
def Zp{f:Db->Db->Sem Db}{g:Int->Int->Int}
  (rule:∀(i j:Int) (t u:Tok) (s:Go) (Q:Db->Go->Prop) (E:Db->Go->Prop),Q (.int (g i j) s.toks) {s with toks:=s.toks+1}->wpAny (model X.prog X.w) X.A (f (.int i t)^.int j u) Q E s):
  OpR X f (Hf λi j=>.int^g i j):=by
 intro zG s Z H x y v u Q I rx ry h;let#[i,j,rfl,rfl,q]:=h;let#[t,rfl]:=rx;let#[t',rfl]:=ry;exact rule i j t t' s _ _ #[.int _,H,I.tok _,#[_,rfl],q]
def V0{f:Db->Db->Sem Db}{g:Int->Int->Bool}
  (rule:∀(i j:Int) (t u:Tok) (s:Go) (Q:Db->Go->Prop) (E:Db->Go->Prop),Q (.bool^g i j) s->wpAny (model X.prog X.w) X.A (f (.int i t)^.int j u) Q E s):
  OpR X f (Hf λi j=>.bl^g i j):=by
 intro zG s Z H x y v u Q I rx ry h;let#[i,j,rfl,rfl,q]:=h;let#[t,rfl]:=rx;let#[t',rfl]:=ry;exact rule i j t t' s _ _ #[.bl _,H,I,rfl,q]
noncomputable def Wj(i j:Int):Prop:=0<j/\j<1073741824
noncomputable def Oc(i j:Int):Prop:=0<=j/\j<=1000000/\i.natAbs<2 ^ 64
noncomputable def CMul(i j:Int):Prop:=(-(2 ^ 64)<i/\i<2 ^ 64)\/(-(2 ^ 64)<j/\j<2 ^ 64)
def CMul.ok{i j:Int}(h:CMul i j):IntMulOk i j:=by
 rcases h with⟨h1,h2⟩|⟨h1,h2⟩
 .exact .of_left^intBits_le_64 h1 h2
 .exact .of_right^intBits_le_64 h1 h2
def op_add:OpR X (binaryOp .Add) (Hf λi j=>.int (i+j)):=Zp λ_ _ _ _ _ _ _ q=>add_int q
def op_sub:OpR X (binaryOp .Sub) (Hf λi j=>.int (i - j)):=Zp λ_ _ _ _ _ _ _ q=>sub_int q
def op_mul:OpR X (binaryOp .Mult) (rI CMul λi j=>.int (i*j)):=aP λ_ _ _ _ _ _ _ hc q=>mul_int q hc.ok
def L8:OpR X (binaryOp .FloorDiv) (rI Wj λi j=>.int (i / j)):=aP λi j _ _ _ _ _ hc q=>by
 have h1:=hc.1;have h2:=hc.2;exact floordiv_int (by lk) (by grind)^.inl^PyProof.noPylong_small^by lk
def DV:OpR X (binaryOp .Mod) (rI (λ_ j=>0<j) λi j=>.int (i % j)):=aP λi j _ _ _ _ _ hc q=>mod_int' (by lk)^by rw[Int.fmod_eq_emod_of_nonneg i^by lk];exact q
def L7:OpR X (binaryOp .Pow) (rI Oc λi j=>.int (i ^ j.toNat)):=aP λ_ _ _ _ _ _ _ hc q=>pow_int_small hc.1 hc.2.1 hc.2.2 q
end
noncomputable def ZQ:V->V->Bool
 |.non,.non=>l_|.non,.int _=>l_|.int _,.non=>l_|.non,.bl _=>l_|.bl _,.non=>l_|.non,.str _=>l_|.str _,.non=>l_
 |.int _,.int _=>l_|.bl _,.bl _=>l_|.str _,.str _=>l_|.byt _,.byt _=>l_
 |.int _,.str _=>l_|.str _,.int _=>l_|.bl _,.str _=>l_|.str _,.bl _=>l_
 |_,_=>m_
noncomputable def bS:R2:=λx y H Q=>ZQ x y=l_/\Q (.bl (decide (x=y))) H
noncomputable def bP:R2:=λx y H Q=>ZQ x y=l_/\Q (.bl (!decide (x=y))) H
def II{i j:Int}:decide (V.int i=V.int j)=(i==j):=by
 rw[ce];simp
def Mb{i j:Bool}:decide (V.bl i=V.bl j)=(i==j):=by
 rw[ce];simp
def IH{i j:Str}:decide (V.str i=V.str j)=(i==j):=by
 rw[ce];simp
def Qp{i j:Array UInt8}:decide (V.byt i=V.byt j)=(i.toList==j.toList):=by
 rw[ce]
 simp_all
section
variable {X:Cx}{a b:Expr}{ta tb:TE}{pos:Pos}
def Aw{zG:n_ (Ch×Obj)}{Z:St}{H:Hp}{s:Go}{Q:VK}{k k':Bool}(I:Inv X zG Z H s)(q:Q (.bl k) H)(e:k=k'):EP X zG Z Q (.bool k') s:=by
 subst e;exact#[.bl k,H,I,rfl,q]
def Co:OpR X (compareOp .Eq) bS:=by
 intro zG s Z H x y v u Q I rx ry h;let#[hs,q]:=h;cases x with
 |non=>
  cases rx;cases y with
  |non=>cases ry;exact PySem.EqNone.eq_none_none^Aw I q^by simp
  |bl j=>cases ry;exact PySem.EqNone.eq_none_bool^Aw I q^by simp
  |int j=>let#[t',rfl]:=ry;exact PySem.EqNone.eq_none_int^Aw I q^by simp
  |str j=>let#[t',rfl]:=ry;exact PySem.EqNone.eq_none_str^Aw I q^by simp
  |_=>exact absurd (show m_=l_ from hs) cD
 |bl i=>
  cases rx;cases y with
  |non=>cases ry;exact PySem.EqNone.eq_bool_none^Aw I q^by simp
  |bl j=>cases ry;exact eq_bool^Aw I q Mb
  |str j=>let#[t',rfl]:=ry;exact PySem.EqMixed.eq_bool_str^Aw I q^by simp
  |_=>exact absurd (show m_=l_ from hs) cD
 |int i=>
  let#[t,rfl]:=rx;cases y with
  |non=>cases ry;exact PySem.EqNone.eq_int_none^Aw I q^by simp
  |int j=>let#[t',rfl]:=ry;exact eq_int^Aw I q II
  |str j=>let#[t',rfl]:=ry;exact PySem.EqMixed.eq_int_str^Aw I q^by simp
  |_=>exact absurd (show m_=l_ from hs) cD
 |str i=>
  let#[t,rfl]:=rx;cases y with
  |non=>cases ry;exact PySem.EqNone.eq_str_none^Aw I q^by simp
  |bl j=>cases ry;exact PySem.EqMixed.eq_str_bool^Aw I q^by simp
  |int j=>let#[t',rfl]:=ry;exact PySem.EqMixed.eq_str_int^Aw I q^by simp
  |str j=>let#[t',rfl]:=ry;exact eq_str^Aw I q IH
  |_=>exact absurd (show m_=l_ from hs) cD
 |byt i=>
  let#[t,rfl]:=rx;cases y with
  |byt j=>let#[t',rfl]:=ry;exact PySem.W.eq_bytes^Aw I q Qp
  |_=>exact absurd (show m_=l_ from hs) cD
 |_=>cases y <;>exact absurd (show m_=l_ from hs) cD
def HI:OpR X (compareOp .NotEq) bP:=by
 intro zG s Z H x y v u Q I rx ry h;let#[hs,q]:=h;cases x with
 |non=>
  cases rx;cases y with
  |non=>cases ry;exact PySem.EqNone.ne_none_none^Aw I q^by simp
  |bl j=>cases ry;exact PySem.EqNone.ne_none_bool^Aw I q^by simp
  |int j=>let#[t',rfl]:=ry;exact PySem.EqNone.ne_none_int^Aw I q^by simp
  |str j=>let#[t',rfl]:=ry;exact PySem.EqNone.ne_none_str^Aw I q^by simp
  |_=>exact absurd (show m_=l_ from hs) cD
 |bl i=>
  cases rx;cases y with
  |non=>cases ry;exact PySem.EqNone.ne_bool_none^Aw I q^by simp
  |bl j=>cases ry;exact ne_bool^Aw I q^congrArg not Mb
  |str j=>let#[t',rfl]:=ry;exact PySem.EqMixed.ne_bool_str^Aw I q^by simp
  |_=>exact absurd (show m_=l_ from hs) cD
 |int i=>
  let#[t,rfl]:=rx;cases y with
  |non=>cases ry;exact PySem.EqNone.ne_int_none^Aw I q^by simp
  |int j=>let#[t',rfl]:=ry;exact ne_int^Aw I q^congrArg not II
  |str j=>let#[t',rfl]:=ry;exact PySem.EqMixed.ne_int_str^Aw I q^by simp
  |_=>exact absurd (show m_=l_ from hs) cD
 |str i=>
  let#[t,rfl]:=rx;cases y with
  |non=>cases ry;exact PySem.EqNone.ne_str_none^Aw I q^by simp
  |bl j=>cases ry;exact PySem.EqMixed.ne_str_bool^Aw I q^by simp
  |int j=>let#[t',rfl]:=ry;exact PySem.EqMixed.ne_str_int^Aw I q^by simp
  |str j=>let#[t',rfl]:=ry;exact ne_str^Aw I q^congrArg not IH
  |_=>exact absurd (show m_=l_ from hs) cD
 |byt i=>
  let#[t,rfl]:=rx;cases y with
  |byt j=>let#[t',rfl]:=ry;exact PySem.W.ne_bytes^Aw I q^congrArg not Qp
  |_=>exact absurd (show m_=l_ from hs) cD
 |_=>cases y <;>exact absurd (show m_=l_ from hs) cD
def op_lt:OpR X (compareOp .Lt) (Hf λi j=>.bl (decide (i<j))):=V0 λ_ _ _ _ _ _ _ q=>im q
def op_le:OpR X (compareOp .LtE) (Hf λi j=>.bl (decide (i<=j))):=V0 λ_ _ _ _ _ _ _ q=>le_int q
def W_:OpR X (compareOp .Gt) (Hf λi j=>.bl (decide (j<i))):=V0 λ_ _ _ _ _ _ _ q=>gt_int q
def Zo:OpR X (compareOp .GtE) (Hf λi j=>.bl (decide (j<=i))):=V0 λ_ _ _ _ _ _ _ q=>ge_int q
def Rh:OpR X (compareOp .Lt) (λx y H Q=>∃i j,x=.str i/\y=.str j/\Q (.bl (decide (i.cps.toList<j.cps.toList))) H):=by
 intro zG s Z H x y v u Q I rx ry h;let#[i,j,rfl,rfl,q]:=h;let#[t,rfl]:=rx;let#[t',rfl]:=ry;exact lt_str (Aw I q rfl)
def PK:OpR X (compareOp .Is) (λx y H Q=>y=.non/\Q (.bl (decide (x=.non))) H):=by
 intro zG s Z H x y v u Q I rx ry h;let#[rfl,q]:=h;cases ry;refine is_none_gen^Aw I q ?_
 cases x <;>first
  |omega
  |(let#[t,rfl]:=rx;rfl)
def Vy:OpR X (compareOp .IsNot) (λx y H Q=>y=.non/\Q (.bl (!decide (x=.non))) H):=by
 intro zG s Z H x y v u Q I rx ry h;let#[rfl,q]:=h;cases ry;refine isnot_none_gen^Aw I q ?_
 cases x <;>first
  |omega
  |(let#[t,rfl]:=rx;rfl)
def OpR.or{f:Db->Db->Sem Db}{r r':R2}(h:OpR X f r)(h':OpR X f r'):OpR X f (λx y H Q=>r x y H Q\/r' x y H Q):=by
 intro zG s Z H x y v u Q I rx ry q
 rcases q with q|q
 .exact h _ s Z H x y v u Q I rx ry q
 .exact h' _ s Z H x y v u Q I rx ry q
def Am(b:cJ){op:CmpOp}(h:autoParam (op≠.In) zau1._auto_1)(h2:autoParam (op≠.NotIn) zau1._auto_1):behindInMarks op b=m_:=by
 have e1:(op==CmpOp.In)=m_:=by grind
 have e2:(op==CmpOp.NotIn)=m_:=by grind
 cases b <;>simp[behindInMarks,e1,e2]
def Vu{op:CmpOp}{r:R2}(ho:OpR X (compareOp op) r)(ha:PE X a ta)(hb:PE X b tb)(hm:behindInMarks op b=m_):PE X (.Compare a [op] [b] pos)^C6 r ta tb:=λzG s Z H Q I h=>wpAny_Compare1 (Ym ha hb I h λv u s2 x y H2 I2 rx ry q=>ho _ s2 Z H2 x y v u Q I2 rx ry q) hm
noncomputable def S7(t:TE):TT:=λZ H Q=>t Z H λx H'=>∃k,x=.bl k/\Q k H'
def Ft{op:CmpOp}{r:R2}(ho:OpR X (compareOp op) r)(ha:PE X a ta)(hb:PE X b tb)(hm:behindInMarks op b=m_):PT X (.Compare a [op] [b] pos)^S7^C6 r ta tb:=by
 intro zG s Z H Q I h
 refine wpAny_isTrue_Compare1 (BF (ha _ s Z H _ I h) λv s1 #[x,H1,I1,r1,q1]=>BF (hb _ s1 Z H1 _ I1 q1) λu s2 #[y,H2,I2,r2,q2]=>
  BF (ho _ s2 Z H2 x y v u _ I2 r1 r2 q2) λc s3 #[z,H3,I3,r3,k,e,q3]=>?_) hm
 subst e;cases r3;exact fT #[H3,I3,q3]
noncomputable def Yy(K:Frag)(x:V)(H:Hp)(k:Bool):Prop:=
 match x with
 |.non=>k=m_
 |.bl b=>k=b
 |.int i=>k=(i !=0)
 |.str y=>y.length<=sizeLine/\k=((y.length:Int) !=0)
 |.byt y=>y.size<=sizeLine/\k=((y.size:Int) !=0)
 |.ref p=>(∃xs,SqL K H p xs/\k=!xs.isEmpty)\/(∃xs,SqT K H p xs/\k=!xs.isEmpty)\/∃kvs,H p=P3^.dK kvs/\k=!kvs.isEmpty
 |_=>False
def Pa{κ:Type}{kvs:n_ (κ×V)}{vs:n_ (κ×Db)}(r:KV kvs vs):(!vs.isEmpty)=!kvs.isEmpty:=by
 cases r <;>rfl
def JV{xs:n_ V}{its:n_ Db}(r:Vals xs its):(!its.toArray.isEmpty)=!xs.isEmpty:=by
 cases r <;>simp
def Gh:(sizeLine:Nat)<2 ^ 63:=by cbv
def Xk:bH X (λx H Q=>∃k,Yy X.K x H k/\Q k H):=by
 intro zG s Z H x v Q I rx h;let#[k,e,q]:=h;have hl:=Gh;have hs:sizeLine=16777216:=cZ;cases x with
 |non=>
  cases rx;have e':k=m_:=e;subst e';exact truthy_none #[H,I,q]
 |bl b=>
  cases rx;have e':k=b:=e;subst e';exact fT #[H,I,q]
 |int i=>
  let#[t,rfl]:=rx;have e':k=(i !=0):=e;subst e';exact PySem.P.truthy_int #[H,I,q]
 |str y=>
  let#[t,rfl]:=rx;obtain⟨hy,e'⟩:y.length<=sizeLine/\k=((y.length:Int) !=0):=e;subst e';exact PySem.P.truthy_str (by lk) #[H,I.tok _,q]
 |byt y=>
  let#[t,rfl]:=rx;obtain⟨hy,e'⟩:y.size<=sizeLine/\k=((y.size:Int) !=0):=e;subst e';exact PySem.W.truthy_bytes (by lk) #[H,I.tok _,q]
 | ref p=>
  cases rx;have e':(∃xs,SqL X.K H p xs/\k=!xs.isEmpty)\/(∃xs,SqT X.K H p xs/\k=!xs.isEmpty)\/∃kvs,H p=P3^.dK kvs/\k=!kvs.isEmpty:=e
  rcases e' with⟨xs,hx,e'⟩|⟨xs,hx,e'⟩|⟨kvs,hx,e'⟩
  .subst e'
   let#[its,r,pl,hz]:=I.list hx;have hlen:=r.length;exact wpAny_truthy_list pl.isList (by simp only[b7];lk) #[H,I.tok _,by rw[JV r];exact q]
  .subst e'
   let#[its,r,pl,hz]:=I.tuple hx;have hlen:=r.length;exact truthy_tuple pl (by simp only[b7];lk) #[H,I.tok _,by rw[JV r];exact q]
  .subst e'
   obtain⟨hz,hS,vs,r,m⟩:kvs.length<=sizeLine/\(p==sysModules)=m_/\∃vs,KV kvs vs/\s.heap.DictOf (A9 X.prog X.w) p vs:=I.hok p _ hx;have hlen:kvs.length=vs.length:=Paired.length r;exact wpAny_truthy_dict hS m (by lk) #[H,I.tok _,by rw[Pa r];exact q]
 |_=>exact(show False from e).elim
def Tu(ha:PE X a ta)(he:∀whole,isTrue a X.env whole=(do let v ←whole;standAt a.pos;holding [v]^truthy v)):
  PT X a (λZ H Q=>ta Z H λx H'=>∃k,Yy X.K x H' k/\Q k H'):=λzG s Z H Q I h=>isTrue_plain (BF (ha _ s Z H _ I h) λv s1 #[x,H1,I1,r1,q1]=>Xk _ s1 Z H1 x v Q I1 r1 q1)^he _
def PL:OpR X (binaryOp .Add) (λx y H Q=>∃i j,x=.str i/\y=.str j/\i.length+j.length<=sizeLine/\Q (.str (i++j)) H):=by
 intro zG s Z H x y v u Q I rx ry h;let#[i,j,rfl,rfl,hz,q]:=h;let#[t,rfl]:=rx;let#[t',rfl]:=ry;exact add_str (λt' tk=>#[.str _,H,I.tok _,#[_,rfl],q]) hz
def vals1{x:V}{us:n_ Db}(r:Vals [x] us):∃u,us=[u]/\RelV x u:=by
 cases r with
 |cons r1 r2=>cases r2;grind
def vals2{x y:V}{us:n_ Db}(r:Vals [x,y] us):∃u w',us=[u,w']/\RelV x u/\RelV y w':=by
 cases r with
 |cons r1 r2=>
  cases r2 with
  |cons r3 r4=>cases r4;exact#[_,_,rfl,r1,r3]
noncomputable def Y2(K:Frag)(x:V)(H:Hp)(n:Nat):Prop:=
 match x with
 |.str y=>y.length<=sizeLine/\n=y.length
 |.byt y=>y.size<=sizeLine/\n=y.size
 |.ref p=>(∃xs,SqL K H p xs/\n=xs.length)\/∃xs,SqT K H p xs/\n=xs.length
 |_=>False
def BV:CallR X (.builtin "len") (λxs H Q=>∃x n,xs=[x]/\Y2 X.K x H n/\Q (.int n) H):=by
 intro zG s Z H xs us Q I r h;let#[x,n,rfl,e,q]:=h;let#[u,rfl,rx]:=vals1 r;have hl:=Gh;have hs:sizeLine=16777216:=cZ;cases x with
 |str y=>
  let#[t,rfl]:=rx;obtain⟨hy,e'⟩:y.length<=sizeLine/\n=y.length:=e;subst e';exact len_str (by lk) #[.int _,H,I.tok _,#[_,rfl],q]
 |byt y=>
  let#[t,rfl]:=rx;obtain⟨hy,e'⟩:y.size<=sizeLine/\n=y.size:=e;subst e';exact PySem.W.len_bytes (by lk) #[.int _,H,I.tok _,#[_,rfl],q]
 | ref p=>
  cases rx;have e':(∃xs,SqL X.K H p xs/\n=xs.length)\/∃xs,SqT X.K H p xs/\n=xs.length:=e
  rcases e' with⟨xs,hx,e'⟩|⟨xs,hx,e'⟩
  .subst e'
   let#[its,r',pl,hz]:=I.list hx;have hlen:=r'.length;exact Calls.call_len_list pl.isList (by simp only[b7];lk) #[.int xs.length,H,I.tok _,#[_,by simp only[b7];rw[hlen]],q]
  .subst e'
   let#[its,r',pl,hz]:=I.tuple hx;have hlen:=r'.length;exact len_tuple pl (by simp only[b7];lk) #[.int xs.length,H,I.tok _,#[_,by simp only[b7];rw[hlen]],q]
 |_=>exact(show False from e).elim
end
structure ObjM (h:cA) (x dx C:Ch) (mA:Str->Option Db):Prop where
 obj:h.get? x=P3 (PySem.W.instObj C dx)
 ns:h.Ns1 dx mA
 ne:dx≠x
def Ry{h:cA}{dx:Ch}{mA:Str->o_ Db}(n:h.Ns1 dx mA):∃od,h.get? dx=P3 od/\∀name,PySem.W.lookIn name od=P3^mA name:=by
 let#[o,es,ep,ho,hd,hk,_,hm]:=n;refine#[o,ho,λname=>?_];have e:=hm name;unfold nsFind findBy at e;unfold PySem.W.lookIn;rw[hd]
 dsimp only
 split
 .simp_all
 .have a:es.toList.any (·.refKey)=m_:=by
   rw[List.any_eq_false];intro y hy;let#[z,t,hkey]:=hk y^Array.mem_toList_iff.mp hy;simp[DictEntry.refKey,hkey]
  grind
def ObjM.look{h:cA}{x dx C:Ch}{mA:Str->o_ Db}(I:ObjM h x dx C mA):∃od,PySem.W.InstAt h x (PySem.W.instObj C dx) C^P3 od/\∀name,PySem.W.lookIn name od=P3^mA name:=
 let #[od,ho,hl]:=Ry I.ns
 #[od,#[I.obj,rfl,rfl,ho],hl]
section
variable {prog:Program}{w:World}{A:Around}{E:Value->Shared->Prop}{s:Shared}{K:Frag}{x dx C f:Addr}{mA:Str->o_ Value}{name:Str}{v:Value}
def WB{expr:Bool}{Q:Db->Go->Prop}(X:K.In s.heap)(I:ObjM s.heap x dx C mA)(hg:PySem.W.plainGet K C name=l_)(hh:PySem.W.hasDictIn K C=l_)
  (ha:PySem.W.findIn K (.ref C) name=P3 k_) (hv:mA name=P3 v) (hv':PySem.W.handedIn v=l_) (h:Q v {s with toks:=s.toks+1}):
  wpAny (model prog w) A (getAttr (.ref x) name expr) Q E s:=by
 let#[od,J,hl]:=I.look;exact PySem.W.get_value X J (PySem.W.plainGet_of hg).1 (PySem.W.findObj_own hh ha rfl (by rw[hl,hv])) hv' h
def Ue{pl:Sem Bool}{Q:Db×n_ Db->Go->Prop}(X:K.In s.heap)(I:ObjM s.heap x dx C mA)(hg:PySem.W.plainGet K C name=l_)
  (hf:PySem.W.findIn K (.ref C) name=P3^P3^.ref f) (ht:PySem.W.isFn K^.ref f=l_) (hv:mA name=k_) (h:Q (.ref f,[.ref x]) s):
  wpAny (model prog w) A (getMethod (.ref x) name pl) Q E s:=by
 let#[od,J,hl]:=I.look;exact PySem.W.method_fn X J (PySem.W.plainGet_of hg).1 (PySem.W.plainGet_of hg).2 hf (beq_iff_eq.mp ht) (by show(PySem.W.lookIn _ od).map _=P3 _;grind) h
def Vf{ns:n_ Str}{Q:Unit->Go->Prop}(X:K.In s.heap)(I:ObjM s.heap x dx C mA)
  (hs:PySem.W.findIn K (.ref C) "__setattr__"=P3^P3^.builtin "object.__setattr__") (hp:PySem.W.plainOver K C=l_) (ht:PySem.W.takerIn K C name=P3 k_) (hh:PySem.W.hasDictIn K C=l_)
  (hw:PySem.Within mA ns) (hsz:ns.length<=sizeLine)
  (h:∀h',ObjM h' x dx C (λy=>if y=name then P3 v else mA y)->eV dx s.heap h'->Q () {s with heap:=h',toks:=s.toks+2}):
  wpAny (model prog w) A (setAttr (.ref x) name v) Q E s:=by
 let#[od,J,hl]:=I.look;refine PySem.W.set_plain X J hs^PySem.W.osa_open (s:={s with toks:=s.toks+1}) (r:=k_) X J hp ht λb=>?_;let#[cd,hc,hd']:=PySem.W.any_some hh;have hx:=I.obj;refine Cn^On^Cn^Cn^wpAny_loadPart hx^Cn^PySem.W.Looks.here (s:={s with toks:=s.toks+1}) (PySem.W.looks_clsIn X hc) ?_;rw[hd'];refine On (a:=P3 dx)^Cn^On^Cn ?_;refine wpAny_nsSet1 (s:={s with toks:=s.toks+1}) I.ns λh' hn2 hs2=>?_;let#[oD,esD,epD,hoD,hdD,hcD]:=hn2.count^PySem.Within.cons name v hw;refine Cn^wpAny_lookBehind hoD (by rw[hdD];exact pastItsLine_dict^cG hcD^by grind) ?_;exact On^h _ #[(hs2.2 _^cY I.ne).trans I.obj,hn2,I.ne] hs2
def UL{R:Result->Go->Prop}{vs:n_ Db}{kw:n_ (Str×Db)}(X:K.In s.heap)(hm:PySem.W.makesIn K C=l_)
  (hi:PySem.W.findIn K (.ref C) "__init__"=P3^P3^.ref f) (hf:PySem.W.typeIn K^.ref f=P3^.type "function")
  (h:codeAny (model prog w) (A.under^.builtin "type.__call__" #[.ref C::vs,kw]) (.call (.ref f) #[.ref (s.heap.objs.size+1)::vs,kw]) (PySem.W.InitBack (s.heap.objs.size+1) R)
   {s with heap:=(s.heap.push PySem.W.emptyDict).push^PySem.W.instObj C s.heap.objs.size}):
  codeAny (model prog w) A (.call (.ref C) #[vs,kw]) R s:=PySem.W.make_core (PySem.W.makes_of X hm) (PySem.W.looks_findIn X hi) (λself=>PySem.W.bind_fn X _ hf) (.inl rfl) h
end
noncomputable def DU(f:Str)(v:V):n_ (Str×V)->n_ (Str×V)
 |[]=>[(f,v)]
 |(g,x)::r=>if g=f then(g,v)::r else(g,x)::DU f v r
theorem HN(f g:Str)(v:V):∀fs:n_ (Str×V),(DU f v fs).lookup g=if g=f then P3 v else fs.lookup g
 |[]=>by
  show fQ g [(f,v)]=_
  by_cases h:g=f
  .simp_all
  simp_all
 | (k,x)::r=>by
  have ih:=HN f g v r;rw[show DU f v ((k,x)::r)=(if k=f then(k,v)::r else(k,x)::DU f v r)from rfl]
  by_cases hk:k=f
  .rw[if_pos hk]
   by_cases h:g=k
   .simp_all
   .have hb:(g==k)=m_:=beq_eq_false_iff_ne.mpr h
    simp only[fQ,hb,if_neg λe:g=f=>h^e.trans hk.symm]
  .rw[if_neg hk]
   by_cases h:g=k
   .simp_all
   .have hb:(g==k)=m_:=beq_eq_false_iff_ne.mpr h
    simp only[fQ,hb];exact ih
theorem Gm(f:Str)(v:V):∀fs:n_ (Str×V),f∈(DU f v fs).map (·.1)/\∀g,g∈fs.map (·.1)->g∈(DU f v fs).map (·.1)
 |[]=>#[by simp[DU],λg h=>by simp at h]
 |(k,x)::r=>by
  let#[i1,i2]:=Gm f v r;rw[show DU f v _=(if k=f then(k,v)::r else(k,x)::DU f v r)from rfl]
  grind
theorem HP(f:Str)(v:V):∀fs:n_ (Str×V),(DU f v fs).length<=fs.length+1
 |[]=>by simp[DU]
 |(k,x)::r=>by
  have ih:=HP f v r;rw[show DU f v _=(if k=f then(k,v)::r else(k,x)::DU f v r)from rfl]
  grind
def RelO.some_of{v:V}{o:o_ Db}(r:RelO (P3 v) o):∃u,o=P3 u/\RelV v u:=by
 cases o with
 |none=>exact(r).elim
 |some u=>exact#[u,rfl,r]
def RelO.none_of{o:o_ Db}(r:RelO k_ o):o=k_:=by
 cases o with
 |none=>rfl
 |some u=>exact(r).elim
def SD{v:V}{u:Db}(r:RelV v u):PySem.W.handedIn u=l_:=by
 cases v with
 |non=>cases(r);rfl
 |bl b=>cases(r);rfl
 |int i=>let#[t,e]:=(r);cases e;rfl
 |str x=>let#[t,e]:=(r);cases e;rfl
 |byt b=>let#[t,e]:=(r);cases e;rfl
 |flt b=>let#[t,e]:=(r);cases e;rfl
 |ref a=>cases(r);rfl
 |ty n=>cases(r);rfl
section
variable {P:Program}{w:World}{H:Hp}{h:Heap}{a C dx:Addr}{fs:n_ (Str×V)}
def H_(hok:HOk P w H h)(e:H a=P3^.vol^.ins C dx fs):∃mA,ObjM h a dx C mA/\(∀f,RelO (fs.lookup f)^mA f)/\PySem.Within mA (fs.map (·.1))/\fs.length<=1000/\H dx=P3^.own a:=by
 let#[d,z,ne,ob,mA,n,r,q]:=(hok a _ e);exact#[mA,#[ob,n,ne],r,q,z,d]
end
structure Cls (K:Frag) (C:Ch):Prop where
 pg:PySem.W.plainGet K C Str.empty=l_
 hd:PySem.W.hasDictIn K C=l_
 po:PySem.W.plainOver K C=l_
 sa:PySem.W.findIn K (.ref C) "__setattr__"=P3^P3^.builtin "object.__setattr__"
def Cls.get{K:Frag}{C:Ch}(c:Cls K C)(f:Str):PySem.W.plainGet K C f=l_:=c.pg
noncomputable def NoAttr(K:Frag)(C:Ch)(f:Str):Prop:=PySem.W.findIn K (.ref C) f=P3 k_
def NoAttr.taker{K:Frag}{C:Ch}{f:Str}(n:NoAttr K C f):PySem.W.takerIn K C f=P3 k_:=by
 unfold PySem.W.takerIn;rw[n];rfl
structure bw (K:Frag) (C:Ch) (f:Str) (v:V) (u:Db):Prop where
 at_:PySem.W.findIn K (.ref C) f=P3 (P3 u)
 rel:RelV v u
 get:PySem.W.specialIn K u "__get__"=P3 k_
 cp:PySem.W.copiedNames.contains f=m_
structure Wh (K:Frag) (C:Ch) (m:Str) (f:Ch):Prop where
 at_:PySem.W.findIn K (.ref C) m=P3 (P3^.ref f)
 fn:PySem.W.isFn K^.ref f=l_
 kp:keepIn K^.ref f=l_
section
variable {X:Cx}{zG:n_ (Addr×Obj)}{Z:St}{H:Hp}{s:Shared}{a C dx:Addr}{fs:n_ (Str×V)}{f:Str}{v:V}{A:Around}{E:Value->Shared->Prop}
def Pf{b:Bool}{Q:Db->Go->Prop}(I:Inv X zG Z H s)(e:H a=P3^.vol^.ins C dx fs)(c:Cls X.K C)(n:NoAttr X.K C f)(l:fs.lookup f=P3 v)
  (h:∀u s',Inv X zG Z H s'->RelV v u->Q u s'):wpAny (model X.prog X.w) A (getAttr (.ref a) f b) Q E s:=by
 let#[mA,O,r,_,_,_]:=H_ I.hok e;let#[u,hu,ru]:=RelO.some_of (v:=v) (o:=mA f) (by grind);exact WB I.kIn O (c.get f) c.hd n hu (SD ru)^h u _ (I.tok _) ru
def JZ{m:Str}{g:Ch}{pl:Sem Bool}{Q:Db×n_ Db->Go->Prop}(I:Inv X zG Z H s)(e:H a=P3^.vol^.ins C dx fs)(c:Cls X.K C)(k:Wh X.K C m g)(l:fs.lookup m=k_)
  (h:Q (.ref g,[.ref a]) s):wpAny (model X.prog X.w) A (getMethod (.ref a) m pl) Q E s:=by
 let#[mA,O,r,_,_,_]:=H_ I.hok e;exact Ue I.kIn O (c.get m) k.at_ k.fn (RelO.none_of^by grind) h
def Oy{y:V}{u:Db}{Q:Unit->Go->Prop}(I:Inv X zG Z H s)(e:H a=P3^.vol^.ins C dx fs)(c:Cls X.K C)(n:NoAttr X.K C f)(hl:fs.length<1000)(ry:RelV y u)
  (h:∀s',Inv X zG Z (Aq H a^.vol^.ins C dx^DU f y fs) s'->Q () s'):wpAny (model X.prog X.w) A (setAttr (.ref a) f u) Q E s:=by
 let#[mA,O,r,wi,_,ho]:=H_ I.hok e;have hz:(fs.map (·.1)).length<=sizeLine:=by rw[FM,cZ];lk
 refine Vf I.kIn O c.sa c.po n.taker c.hd wi hz λh' O' sb=>h _ ?_;have hd:∃o,h'.get? dx=P3 o:=let #[o,_,_,e',_]:=O'.ns;#[o,e']
 refine I.write (x:=a) (e:=dx) (by rw[e];exact df) (.inr ho) (λb q hb z=>(sb.2 b hb).trans z) hd ?_;refine#[by rw[AL O.ne];exact ho,?_,O.ne,O'.obj,_,O'.ns,λg=>?_,λg hg=>?_]
 .have:=HP f y fs;lk
 .show RelO ((DU f y fs).lookup g) (if g=f then P3 u else mA g)
  rw[HN]
  by_cases q:g=f
  .rw[if_pos q,if_pos q];exact ry
  .rw[if_neg q,if_neg q];exact r g
 .by_cases q:g=f
  .rw[q];exact(Gm f y fs).1
  .refine(Gm f y fs).2 g^wi g λz=>hg ?_
   show(if g=f then P3 u else mA g)=k_;rw[if_neg q];exact z
def Inv.made(I:Inv X zG Z H s):Inv X zG Z (Aq (Aq H s.heap.objs.size^.own (s.heap.objs.size+1)) (s.heap.objs.size+1)^.vol^.ins C s.heap.objs.size [])
  {s with heap:=(s.heap.push PySem.W.emptyDict).push^PySem.W.instObj C s.heap.objs.size}:=by
 have e1:(s.heap.push PySem.W.emptyDict).get? s.heap.objs.size=P3 PySem.W.emptyDict:=Sc s.heap rfl
 have e2:((s.heap.push PySem.W.emptyDict).push^PySem.W.instObj C s.heap.objs.size).get? (s.heap.objs.size+1)=P3^PySem.W.instObj C s.heap.objs.size:=by
  have:=Sc (s.heap.push PySem.W.emptyDict) (o:=PySem.W.instObj C s.heap.objs.size) rfl
  rwa[dA]at this
 have e3:(s.heap.push PySem.W.emptyDict).Ns s.heap.objs.size (λ_=>k_):=#[PySem.W.emptyDict,#[],_,e1,rfl,(λe he=>absurd he^by simp),λ_=>rfl];have I1:=I.laid (a:=s.heap.objs.size) (o:=.own (s.heap.objs.size+1)) (h':=s.heap.push PySem.W.emptyDict) (t':=s.toks) (λb u q=>Ev _ q) (Rs _) #[_,e1];refine I1.laid (a:=s.heap.objs.size+1) (o:=.vol^.ins C s.heap.objs.size []) (t':=s.toks) (λb u q=>Ev _ q) (gl^dA _ _) ?_;have ne:s.heap.objs.size≠s.heap.objs.size+1:=b9^eQ _;refine#[by rw[AL ne,AM],cB _,ne,e2,λ_=>k_,(Heap.Ns1.of_empty e3).at λo q=>Ev _ q,λ_=>df,λy hy=>absurd rfl hy]
def WY{prog:cH}{w:cN}{env:Env}{e:cJ}{f:Str}{pos:Pos}{s:Go}{Q:Db->Go->Prop}(hb:attributeBase e f env^eval e env=eval e env)
  (h:wpAny (model prog w) A (eval e env) (λo s₁=>wpAny (model prog w) A (getAttr o f l_) Q E s₁) E s):wpAny (model prog w) A (eval (.Attribute e f pos) env) Q E s:=
 Attribute_any_ h (by rw[arm_eval_Attribute,hb])
end
noncomputable def ai(K:Frag)(ta:TE)(f:Str):TE:=λZ H Q=>ta Z H λx H1=>∃a C dx fs v,x=.ref a/\H1 a=P3^.vol^.ins C dx fs/\Cls K C/\NoAttr K C f/\fs.lookup f=P3 v/\Q v H1
noncomputable def am(K:Frag)(ta tv:TE)(f:Str):TS:=λD Z H=>tv Z H λy H1=>ta Z H1 λx H2=>∃a C dx fs,x=.ref a/\H2 a=P3^.vol^.ins C dx fs/\Cls K C/\NoAttr K C f/\fs.length<1000 /\
 D.nx Z (Aq H2 a^.vol^.ins C dx^DU f y fs)
section
variable {X:Cx}{o e value:Expr}{f:Str}{pos pos':Pos}{ta tv:TE}
def YD(he:PE X e ta)(hb:attributeBase e f X.env^eval e X.env=eval e X.env):PE X (.Attribute e f pos)^ai X.K ta f:=by
 intro zG s Z H Q I h;refine WY hb^BF (he _ s Z H _ I h) λu s1 #[x,H1,I1,rx,a,C,dx,fs,v,ex,ea,c,n,l,q]=>?_;subst ex;obtain rfl:u=b_ a:=rx;exact Pf I1 ea c n l λu' s2 I2 ru=>#[v,H1,I2,ru,q]
def X8(ha:PE X o ta)(hv:PE X value tv)(hs:swapsWith value (P3^.Attribute o f pos') pos.line X.env=pure m_):PS X (.Assign [.Attribute o f pos'] value pos)^am X.K ta tv f:=by
 intro zG s Z H D I h;refine plainObj_wpAny_Assign_Attribute (BF (hv _ s Z H _ I h) λu s1 #[y,H1,I1,ry,q]=>BF (ha _ s1 Z H1 _ I1 q) λov s2 #[x,H2,I2,rx,a,C,dx,fs,ex,ea,c,n,l,q2]=>?_) hs;subst ex;obtain rfl:ov=b_ a:=rx;exact Oy I2 ea c n l ry λs3 I3=>#[Z,_,I3,q2]
end
section
variable {X:Cx}{zG:n_ (Addr×Obj)}{Z:St}{H:Hp}{s:Shared}{A:Around}{E:Value->Shared->Prop}{Q:Value->Shared->Prop}{c:Value}{b:Bool}
inductive Fa (K:Frag) (H:Hp):V->Db->Prop where
 |non:Fa K H .non^.type "NoneType"
 |bl (x:Bool):Fa K H (.bl x)^.type "bool"
 |int (i:Int):Fa K H (.int i)^.type "int"
 |str (x:Str):Fa K H (.str x)^.type "str"
 |flt (x:UInt64):Fa K H (.flt x)^.type "float"
 |lst {a:Ch}{xs:List V} (e:H a=P3^.lst xs):Fa K H (.ref a)^.type "list"
 |frz {a:Ch}{o:Obj}{xs:List V} (e:H a=P3^.frz o^.lst xs):Fa K H (.ref a)^.type "list"
 |tup {a:Ch}{xs:List V} (e:H a=P3^.tup xs):Fa K H (.ref a)^.type "tuple"
 |dF {a:Ch}{o:Obj}{kvs:List (Key×V)} (e:H a=P3^.frz o^.dK kvs):Fa K H (.ref a)^.type "dict"
 |dK {a:Ch}{kvs:List (Key×V)} (e:H a=P3^.dK kvs):Fa K H (.ref a)^.type "dict"
 |dT {a:Ch}{kvs:List (List Key×V)} (e:H a=P3^.dT kvs):Fa K H (.ref a)^.type "dict"
 | ins {a C dx:Ch}{fs:List (Str×V)} (e:H a=P3^.vol^.ins C dx fs) (cl:Cls K C) (ha:PySem.W.findIn K (.ref C) "__class__"=P3^P3^.builtin "object.__class__")
   (hn:PySem.W.specialIn K (.builtin "object.__class__") "__get__"=P3^P3^.builtin "getset_descriptor.__get__") (htk:PySem.W.takesIn K^.builtin "object.__class__"=P3 l_)
   (hm:PySem.W.mroIn K C^.type "object"=P3 l_):Fa K H (.ref a)^.ref C
def R8{x:V}{u t:Db}(I:Inv X zG Z H s)(rx:RelV x u)(ty:Fa X.K H x t)(e:PySem.W.kitOne X.K t c=P3 b)(h:∀tk,Q (.bool b) {s with toks:=tk}):
  wpAny (model X.prog X.w) A (call (.builtin "isinstance") [u,c]) Q E s:=by
 cases ty with
 |non=>cases(show u=cQ from rx);exact PySem.W.kia_one PySem.W.kitx_none I.kIn df e (λz=>nomatch z) h
 |bl y=>cases(show u=fh y from rx);exact PySem.W.kia_one PySem.W.kitx_bool I.kIn df e (λz=>nomatch z) h
 |int i=>let#[t,q]:=(show ∃t,u=Value.int i t from rx);cases q;exact PySem.W.kia_one PySem.W.kitx_int I.kIn df e (λz=>nomatch z) h
 |str y=>let#[t,q]:=(show ∃t,u=fE y t from rx);cases q;exact PySem.W.kia_one PySem.W.kitx_str I.kIn df e (λz=>nomatch z) h
 |flt y=>let#[t,q]:=(show ∃t,u=Value.float y t from rx);cases q;exact PySem.W.kia_one PySem.W.kitx_float I.kIn df e (λz=>nomatch z) h
 |@lst a xs ea=>
  cases(show u=b_ a from rx);let#[_,_,n,_,h1]:=(show ObjOk X.prog X.w H s.heap a^.lst xs from I.hok a _ ea);exact PySem.W.kia_one PySem.W.kitx_list I.kIn #[_,h1,rfl] e (λz=>nomatch z) h
 |@frz a ob xs ea=>
  cases(show u=b_ a from rx);let#[_,_,_,n,_,h1]:=(show ObjOk X.prog X.w H s.heap a^.frz ob^.lst xs from I.hok a _ ea);exact PySem.W.kia_one PySem.W.kitx_list I.kIn #[_,h1,rfl] e (λz=>nomatch z) h
 |@tup a xs ea=>
  cases(show u=b_ a from rx);let#[_,_,_,p]:=(show ObjOk X.prog X.w H s.heap a^.tup xs from I.hok a _ ea);let#[o,h1,h2,_]:=p;exact PySem.W.kia_one PySem.W.kitx_tuple I.kIn #[o,h1,h2] e (λz=>nomatch z) h
 |@dF a ob kvs ea=>
  cases(show u=b_ a from rx);let#[_,_,_,vs,_,p]:=(show ObjOk X.prog X.w H s.heap a^.frz ob^.dK kvs from I.hok a _ ea);let#[o,es,ep,h1,h2,_]:=p;exact PySem.W.kia_one PySem.W.kitx_dict I.kIn #[o,h1,h2.1] e (λz=>nomatch z) h
 |@dK a kvs ea=>
  cases(show u=b_ a from rx);let#[_,_,vs,_,p]:=(show ObjOk X.prog X.w H s.heap a^.dK kvs from I.hok a _ ea);let#[o,es,ep,h1,h2,_]:=p;exact PySem.W.kia_one PySem.W.kitx_dict I.kIn #[o,h1,h2.1] e (λz=>nomatch z) h
 |@dT a kvs ea=>
  cases(show u=b_ a from rx);let#[_,_,xs,_,o,es,ep,h1,h2,_]:=(show ObjOk X.prog X.w H s.heap a^.dT kvs from I.hok a _ ea);exact PySem.W.kia_one PySem.W.kitx_dict I.kIn #[o,h1,h2.1] e (λz=>nomatch z) h
 |@ins a C dx fs ea cl ha hn htk hm=>
  cases(show u=b_ a from rx);let#[mA,O,_]:=H_ I.hok ea;let#[od,J,_]:=O.look;exact PySem.W.kia_one (PySem.W.kitx_own (cl.get _) cl.hd ha hn htk hm) I.kIn J e (λz=>nomatch z) h
end
structure Room (k:Nat) (A:cW):Prop where
 hd:A.handled=k_
 dp:A.depth+3*k+5<recursionLimit
 un:A.units+16*k+200<cLine
 gd:A.guards=P3 []
def Room.mono{j k:Nat}{A:cW}(r:Room k A)(h:j<=k):Room j A:=#[r.hd,by have:=r.dp;lk,by have:=r.un;lk,by first|exact r.gd|grind|grind]
def Room.deeper{k:Nat}{A:cW}(r:Room (k+1) A)(env:Env):Room k^A.deeper env:=
 #[r.hd,by have:=r.dp;show A.depth+1+3*k+5<_;lk,by have:=r.un;show A.units+3+16*k+200<_;lk,by first|exact r.gd|omega|grind]
def Room.in1{k:Nat}{A:cW}(r:Room (k+1) A):Room k A.in1:=
 #[r.hd,by have:=r.dp;grind,by have:=r.un;grind,by first|exact r.gd|omega|grind]
def PX{A:cW}{C:Ch}{us:n_ Db}{kw:n_ (Str×Db)}:(A.under^.builtin "type.__call__" #[.ref C::us,kw]).depth=A.depth+1:=by
 first|rfl|omega
def PV{A:cW}{C:Ch}{us:n_ Db}{kw:n_ (Str×Db)}:(A.under^.builtin "type.__call__" #[.ref C::us,kw]).units=A.units+1:=by
 first|rfl|omega
def Room.make{k:Nat}{A:cW}(r:Room (k+1) A)(C:Ch)(us:n_ Db)(kw:n_ (Str×Db)):Room k^A.under^.builtin "type.__call__" #[.ref C::us,kw]:=
 #[r.hd,by have:=r.dp;rw[PX];lk,by have:=r.un;rw[PV];lk,by first|exact r.gd|omega|grind]
def Room.depth{k:Nat}{A:cW}(r:Room k A):A.depth<recursionLimit:=by have:=r.dp;lk
def Room.units{k:Nat}{A:cW}(r:Room k A):A.units+64<cLine:=by have:=r.un;lk
def Room.units0{k:Nat}{A:cW}(r:Room k A):A.units<cLine:=by have:=r.un;lk
noncomputable def RC:TA:=λ_ H Q=>Q [] H
noncomputable def QD(ta:TE)(tr:TA):TA:=λZ H Q=>ta Z H λx H1=>tr Z H1 λxs H2=>Q (x::xs) H2
section
variable {X:Cx}{e:Expr}{es:n_ Expr}{te:TE}{t:TA}{pos:Pos}
def Ck:PA X [] RC:=λ_ _ _ _ H Q I h=>fV #[[],H,I,.nil,h]
def Bp(ha:PE X e te)(hr:PA X es t)(hs:autoParam (starEach (e::es) X.env=(m_,eval e X.env)::starEach es X.env) zau3._auto_1):PA X (e::es)^QD te t:=by
 intro pos zG s Z H Q I h;rw[hs];exact eW^BF (ha _ s Z H _ I h) λu s1 #[x,H1,I1,r1,q1]=>BF (hr _ _ s1 Z H1 _ I1 q1) λus s2 #[xs,H2,I2,r2,q2]=>#[_,H2,I2,.cons r1 r2,q2]
noncomputable def ac(t:TA):TE:=λZ H Q=>t Z H λxs H1=>xs.length<=sizeLine/\∀p,H1 p=k_->Q (.ref p)^Aq H1 p^.tup xs
noncomputable def af(t:TA):TE:=λZ H Q=>t Z H λxs H1=>xs.length<=sizeLine/\∀p,H1 p=k_->Q (.ref p)^Aq H1 p^.lst xs
def YA{x1}(h:PA X es t):PE X (.Tuple es x1 pos)^ac t:=by
 intro zG s Z H Q I hq;refine wpAny_Tuple_spliced^BF (h pos zG s Z H _ I hq) λus s1 #[xs,H1,I1,r,z,q]=>#[by rw[←r.length];exact z,?_];have hf:H1 s1.heap.objs.size=k_:=I1.hok.fresh^Rs _;refine#[.ref s1.heap.objs.size,Aq H1 s1.heap.objs.size^.tup xs,I1.laid (t':=s1.toks) (λb u e=>Ev _ e) (Rs _) ?_,rfl,q _ hf];exact#[z,us,r,IsTupN.new _ _]
def PJ(h:PA X es t):PE X (.List es pos)^af t:=by
 intro zG s Z H Q I hq;refine wpAny_List_spliced^BF (h pos zG s Z H _ I hq) λus s1 #[xs,H1,I1,r,z,q]=>#[by rw[←r.length];exact z,?_];have hf:H1 s1.heap.objs.size=k_:=I1.hok.fresh^Rs _;refine#[.ref s1.heap.objs.size,Aq H1 s1.heap.objs.size^.lst xs,I1.laid (t':=s1.toks) (λb u e=>Ev _ e) (Rs _) ?_,rfl,q _ hf];exact#[z,us,0,r,Sc _ rfl]
end
noncomputable abbrev Sp:=n_ V->Hp->VK->XK->Prop
noncomputable abbrev VO:=n_ Env->Hp->Go->XK->Db->Go->Prop
structure Env0 (P:cH) (w:cN) (K:Frag) (mg:Str->Option Db) (base:cA) (A:cW) (outer:List Env) (s:Go) (H:Hp):Prop where
 frames:A.frames=P3 outer
 mod:Mod K mg base
 bs:∀b o,base.get? b=P3 o->s.heap.get? b=P3 o/\H b=k_
 bsz:base.objs.size<=s.heap.objs.size
 funs:s.heap.FunFrames base outer
 frf:∀b∈Qi outer,H b=k_
 hok:HOk P w H s.heap
 bare:gE s.gens
noncomputable def CE(outer:n_ Env)(P:cH)(w:cN)(H:Hp)(s:Go)(Q:VK)(u:Db)(s':Go):Prop:=
 ∃v H',s'.os=s.os/\gE s'.gens/\Un (Qi outer) [] H H' s.heap s'.heap/\HOk P w H' s'.heap/\RelV v u/\Q v H'
noncomputable def CR(CX:VO)(outer:n_ Env)(P:cH)(w:cN)(H:Hp)(s:Go)(Q:VK)(E:XK)(r:Result)(s':Go):Prop:=
 match r with
 |.ok (.ret u)=>CE outer P w H s Q u s'
 |.ok _=>False
 |.error e=>CX outer H s E e s'
structure FnOk (P:cH) (w:cN) (K:Frag) (mg:Str->Option Db) (base:cA) (CX:VO) (k:Nat) (f:Ch) (fd:cv) (ps:List Str) (sp:Sp):Prop where
 len:∀vs H Q E,sp vs H Q E->vs.length=ps.length
 run:∀(A:cW) (outer:List Env) (s:Go) (H:Hp) (args:Args) (us:List Db) (vs:List V) (Q:VK) (E:XK),Room k A->Env0 P w K mg base A outer s H->iR s fd args^ps.zip us->Vals vs us->sp vs H Q E->
  codeAny (model P w) A (.call (.ref f) args) (CR CX outer P w H s Q E) s
def Env0.make{P:cH}{w:cN}{K:Frag}{mg:Str->o_ Db}{base:cA}{A:cW}{outer:n_ Env}{s:Go}{H:Hp}(e:Env0 P w K mg base A outer s H)(C:Ch)(us:n_ Db)(kw:n_ (Str×Db)):
  Env0 P w K mg base (A.under^.builtin "type.__call__" #[.ref C::us,kw]) outer s H:=#[by first|exact e.frames|grind,e.mod,e.bs,e.bsz,e.funs,e.frf,e.hok,e.bare]
def Env0.in1{P:cH}{w:cN}{K:Frag}{mg:Str->o_ Db}{base:cA}{A:cW}{outer:n_ Env}{s:Go}{H:Hp}(e:Env0 P w K mg base A outer s H):
  Env0 P w K mg base A.in1 outer s H:=#[e.frames,e.mod,e.bs,e.bsz,e.funs,e.frf,e.hok,e.bare]
section
variable {X:Cx}{zG:n_ (Addr×Obj)}{Z:St}{H:Hp}{s s':Shared}
def Inv.env0(I:Inv X zG Z H s):Env0 X.prog X.w X.K X.mg X.base X.A X.stack s H:=
 #[I.ok.frames,I.ok.mod,I.bs,cG I.ok.bsz I.sz,I.stack,I.stkFree,I.hok,I.bare]
def Inv.after{Q:VK}{u:Db}(I:Inv X zG Z H s)(h:CE X.stack X.prog X.w H s Q u s'):EP X zG Z Q u s':=by
 let#[v,H',os,bare,un,hok,r,q]:=h;let#[hh,g,d,t,os']:=s';obtain rfl:os'=s.os:=os;exact#[v,H',I.call un hok bare λb z=>absurd z^by simp,r,q]
end
noncomputable def QE(sp:Sp)(dvs:n_ V)(E:XK)(t:TA):TE:=λZ H Q=>t Z H λvs H1=>sp (vs++dvs) H1 Q E
noncomputable def Wq(C:Ch)(m:Str)(sp:Sp)(dvs:n_ V)(E:XK)(ta:TE)(t:TA):TE:=λZ H Q=>ta Z H λx H1=>∃a dx fs,x=.ref a/\H1 a=P3^.vol^.ins C dx fs/\fs.lookup m=k_ /\
 t Z H1 λvs H2=>sp (x::(vs++dvs)) H2 Q E
noncomputable def ZI(C:Ch)(sp:Sp)(dvs:n_ V)(E:XK)(t:TA):TE:=λZ H Q=>t Z H λvs H1=>∀x dx,H1 x=k_->H1 dx=k_->dx≠x->
 sp (.ref x::(vs++dvs)) (Aq (Aq H1 dx^.own x) x^.vol^.ins C dx []) (λv H2=>v=.non/\Q (.ref x) H2) E
noncomputable def Binds(K:Frag)(fd:cv)(ps:n_ Str)(ds:n_ Db):Prop:=
 ∀(s:Go) (us:n_ Db),K.In s.heap->(us++ds).length=ps.length->iR s fd #[us,[]]^ps.zip (us++ds)
def Binds.all{K:Frag}{fd:cv}{ps:n_ Str}(h:∀us:n_ Db,us.length=ps.length->bindArgs fd #[us,[]]=pure^ps.zip us):Binds K fd ps []:=λs us _ hl=>by
 rw[cX]at hl ⊢;exact .of_eq^h us hl
noncomputable def EU(CX:VO)(X:Cx)(E:XK):Prop:=∀(zG:n_ (Ch×Obj)) (Z:St) (H:Hp) (s:Go) (e:Db) (s':Go),Inv X zG Z H s->CX X.stack H s E e s'->X.xe e s'
section
variable {X:Cx}{CX:VO}{k:Nat}{f C:Addr}{fd:FuncData}{ps:n_ Str}{sp:Sp}{dvs:n_ V}{ds:n_ Value}{E:XK}{x m:Str}{p pos apos:Pos}{e o:Expr}{es:n_ Expr}{ta:TE}{t:TA}
def Lr{zG:n_ (Ch×Obj)}{Z:St}{H:Hp}{s:Go}{Q:VK}{us:n_ Db}{vs:n_ V}(F:FnOk X.prog X.w X.K X.mg X.base CX k f fd ps sp)(hr:Room k X.A)(hb:Binds X.K fd ps ds)(hd:Vals dvs ds)(hx:EU CX X E)
  (I:Inv X zG Z H s) (r:Vals vs us) (h:sp (vs++dvs) H Q E):wpAny (model X.prog X.w) X.A (call (.ref f) us) (EP X zG Z Q) X.xe s:=by
 have r2:Vals (vs++dvs) (us++ds):=r.append hd;have hl:(us++ds).length=ps.length:=by rw[←r2.length];exact F.len _ _ _ _ h
 refine wpAny_call^f9 (F.run X.A X.stack s H #[us,[]] (us++ds) (vs++dvs) Q E hr I.env0 (hb s us I.kIn hl) r2 h) λr s' hq=>?_;cases r with
 |error e=>exact hx zG Z H s e s' I hq
 |ok fl=>
  cases fl with
  |ret u=>exact I.after hq
  |next=>exact cz hq
  |brk=>exact cz hq
  |cont=>exact cz hq
def L5(F:FnOk X.prog X.w X.K X.mg X.base CX k f fd ps sp)(hr:Room k X.A)(hg:Gl X x)(hm:X.mg x=P3^.ref f)(hk:keepIn X.K^.ref f=l_)(hb:Binds X.K fd ps ds)(hd:Vals dvs ds)(hx:EU CX X E)
  (ha:PA X (e::es) t) (hdb:autoParam ((x==("__debug__":Str))=m_) zau1._auto_1) (he:autoParam (starEach (e::es) X.env=(m_,eval e X.env)::starEach es X.env) zau3._auto_1) (hpl:autoParam ((backTo pos^starEach es X.env).any (·.1)=m_) zau3._auto_1):
  PE X (.Call (.Name x p) (e::es) [] pos) (QE sp dvs E t):=λzG s Z H Q I h=>dX^F5 I hg hm (PySem.W.callWith_K I.ok.mod.kin hk (BF (ha _ _ s Z H _ I h) λus s1 #[vs,H1,I1,r,q]=>#[I1.kIn,Lr F hr hb hd hx I1 r q]) he hpl) hdb
def T9(F:FnOk X.prog X.w X.K X.mg X.base CX k f fd ps sp)(hr:Room k X.A)(hg:Gl X x)(hm:X.mg x=P3^.ref f)(hk:keepIn X.K^.ref f=l_)(hb:Binds X.K fd ps ds)(hd:Vals dvs ds)(hx:EU CX X E)
  (hdb:autoParam ((x==("__debug__":Str))=m_) zau1._auto_1):PE X (.Call (.Name x p) [] [] pos)^QE sp dvs E RC:=λzG s Z H Q I h=>dX^F5 I hg hm (PySem.W.callWith_K0 I.kIn hk^Lr F hr hb hd hx I .nil h) hdb
def Vq{pl:Sem Bool}(he:PE X o ta)(c:Cls X.K C)(hm:Wh X.K C m f)(F:FnOk X.prog X.w X.K X.mg X.base CX k f fd ps sp)(hr:Room k X.A)(hb:Binds X.K fd ps ds)(hd:Vals dvs ds)(hx:EU CX X E)(ha:PA X (e::es) t)
  (hst:autoParam (starEach (e::es) X.env=(m_,eval e X.env)::starEach es X.env) zau3._auto_1) (hpl:autoParam ((backTo pos^starEach es X.env).any (·.1)=m_) zau3._auto_1)
  (ht:autoParam (eval (.Call (.Attribute o m apos) (e::es) [] pos) X.env=(do
   let ov ←eval o X.env
   standAt apos.atName
   let (f,first) ←holding [ov] (getMethod ov m pl)
   callWith pos f first (backTo pos^starEach (e::es) X.env) (backToKw pos^keywordEach [] X.env))) zau3._auto_1):
  PE X (.Call (.Attribute o m apos) (e::es) [] pos) (Wq C m sp dvs E ta t):=by
 intro zG s Z H Q I h;refine PySem.W.methodCall_KW (BF (he _ s Z H _ I h) λu s1 #[x,H1,I1,rx,a,dx,fs,ex,ea,l,q]=>?_) ht;subst ex;obtain rfl:u=b_ a:=rx;exact JZ I1 ea c hm l^PySem.W.callWith_K I.ok.mod.kin hm.kp (BF (ha _ _ s1 Z H1 _ I1 q) λus s2 #[vs,H2,I2,r,q2]=>#[I2.kIn,Lr (vs:=.ref a::vs) F hr hb hd hx I2 (.cons rfl r) q2]) hst hpl
def T5{pl:Sem Bool}(he:PE X o ta)(c:Cls X.K C)(hm:Wh X.K C m f)(F:FnOk X.prog X.w X.K X.mg X.base CX k f fd ps sp)(hr:Room k X.A)(hb:Binds X.K fd ps ds)(hd:Vals dvs ds)(hx:EU CX X E)
  (ht:autoParam (eval (.Call (.Attribute o m apos) [] [] pos) X.env=(do
   let ov ←eval o X.env
   standAt apos.atName
   let (f,first) ←holding [ov] (getMethod ov m pl)
   callWith pos f first (backTo pos^starEach [] X.env) (backToKw pos^keywordEach [] X.env))) zau3._auto_1):
  PE X (.Call (.Attribute o m apos) [] [] pos) (Wq C m sp dvs E ta RC):=by
 intro zG s Z H Q I h;refine PySem.W.methodCall_KW (BF (he _ s Z H _ I h) λu s1 #[x,H1,I1,rx,a,dx,fs,ex,ea,l,q]=>?_) ht;subst ex;obtain rfl:u=b_ a:=rx;exact JZ I1 ea c hm l^PySem.W.callWith_K0 I1.kIn hm.kp^Lr (vs:=[.ref a]) F hr hb hd hx I1 (.cons rfl .nil) q
structure Mk (K:Frag) (C f:Ch):Prop where
 makes:PySem.W.makesIn K C=l_
 init:PySem.W.findIn K (.ref C) "__init__"=P3 (P3^.ref f)
 fn:PySem.W.isFn K^.ref f=l_
 kp:keepIn K^.ref C=l_
def TN{zG:n_ (Ch×Obj)}{Z:St}{H:Hp}{s:Go}{Q:VK}{us:n_ Db}{vs:n_ V}(M:Mk X.K C f)(F:FnOk X.prog X.w X.K X.mg X.base CX k f fd ps sp)(hr:Room (k+1) X.A)(hb:Binds X.K fd ps ds)(hd:Vals dvs ds)
  (hx:EU CX X E) (I:Inv X zG Z H s) (r:Vals vs us)
  (h:∀x dx,H x=k_->H dx=k_->dx≠x->sp (.ref x::(vs++dvs)) (Aq (Aq H dx^.own x) x^.vol^.ins C dx []) (λv H2=>v=.non/\Q (.ref x) H2) E):
  wpAny (model X.prog X.w) X.A (call (.ref C) us) (EP X zG Z Q) X.xe s:=by
 have hq:=h (s.heap.objs.size+1) s.heap.objs.size (I.hok.fresh^c_ _) (I.hok.fresh^Rs _)^b9^eQ _;have I2:=Inv.made (C:=C) I;have r2:Vals (V.ref (s.heap.objs.size+1)::(vs++dvs)) (b_ (s.heap.objs.size+1)::(us++ds)):=.cons rfl (r.append hd)
 have hl:(b_ (s.heap.objs.size+1)::us++ds).length=ps.length:=by
  have e:=r2.length;rw[F.len _ _ _ _ hq]at e;exact e.symm
 refine wpAny_call (UL (f:=f) I.kIn M.makes M.init (beq_iff_eq.mp M.fn) (f9 (F.run _ X.stack _ _ #[b_ (s.heap.objs.size+1)::us,[]] (b_ (s.heap.objs.size+1)::(us++ds)) _ _ E (hr.make C us [])
  (I2.env0.make C us []) (hb _ (b_ (s.heap.objs.size+1)::us) I2.kIn hl) r2 hq) λr s' hq'=>?_))
 cases r with
 |error e=>exact hx zG Z _ _ e s' I2 hq'
 | ok fl=>
  cases fl with
  |ret u=>
   let#[v,H',I3,rv,ev,q3]:=I2.after hq';subst ev;exact#[rv,#[V.ref (s.heap.objs.size+1),H',I3,rfl,q3]]
  |next=>exact cz hq'
  |brk=>exact cz hq'
  |cont=>exact cz hq'
def Vr(M:Mk X.K C f)(F:FnOk X.prog X.w X.K X.mg X.base CX k f fd ps sp)(hr:Room (k+1) X.A)(hg:Gl X x)(hm:X.mg x=P3^.ref C)(hb:Binds X.K fd ps ds)(hd:Vals dvs ds)(hx:EU CX X E)
  (ha:PA X (e::es) t) (hdb:autoParam ((x==("__debug__":Str))=m_) zau1._auto_1) (he:autoParam (starEach (e::es) X.env=(m_,eval e X.env)::starEach es X.env) zau3._auto_1) (hpl:autoParam ((backTo pos^starEach es X.env).any (·.1)=m_) zau3._auto_1):
  PE X (.Call (.Name x p) (e::es) [] pos) (ZI C sp dvs E t):=λzG s Z H Q I h=>dX^F5 I hg hm (PySem.W.callWith_K I.ok.mod.kin M.kp (BF (ha _ _ s Z H _ I h) λus s1 #[vs,H1,I1,r,q]=>#[I1.kIn,TN M F hr hb hd hx I1 r q]) he hpl) hdb
end
section
variable {fd:FuncData}{ps ks:n_ Str}
structure bK (K:Frag) (fd:cv) (ps ks:List Str) (g:List Db->List Db->List Db) (gV:List V->List V->List V):Prop where
 to:∀(s:Go) (us ws:List Db),K.In s.heap->(g us ws).length=ps.length->iR s fd #[us,ks.zip ws] (ps.zip^g us ws)
 rel:∀{vs:List V}{us:List Db}{zs:List V}{ws:List Db},Vals vs us->Vals zs ws->Vals (gV vs zs)^g us ws
end
structure AZ (N P:List Str) (sc:eS):Prop where
 kind:sc.kind=.function
 co:sc.isCoroutine=m_
 gen:sc.isGenerator=m_
 nd:N.Nodup
 pre:N.take P.length=P
 par:∀x∈P,sc.names.lookup x=P3 .local\/sc.names.lookup x=P3 .cell
 nofree:∀y∈sc.names,y.2≠.free
theorem LO{kindOf:Str->o_ eR}{x:Str}:∀{binds:n_ (Str×Db)}{m:Str->o_ Db},(∀v,(x,v)∉binds)->bindL kindOf binds m x=m x
 |[],_,_=>rfl
 |(n,v)::r,m,h=>by
  unfold bindL;rw[LO λw hw=>h w^TW _ hw]
  split
  .grind
  .rfl
theorem LQ{kindOf:Str->o_ eR}{x:Str}:∀{binds:n_ (Str×Db)}{m:Str->o_ Db},(∀v,(x,v)∉binds)->bindC kindOf binds m x=m x
 |[],_,_=>rfl
 |(n,v)::r,m,h=>by
  unfold bindC;rw[LQ λw hw=>h w^TW _ hw]
  split
  .rfl
  grind
theorem LP{kindOf:Str->o_ eR}{x:Str}{v:Db}:∀{P:n_ Str}{vs:n_ Db}{i:Nat}{m:Str->o_ Db},P.Nodup->P[i]?=P3 x->vs[i]?=P3 v->kindOf x=P3 .local->
  bindL kindOf (P.zip vs) m x=P3 v
 |[],_,_,_,_,h,_,_=>by simp at h
 |_::_,[],_,_,_,_,h,_=>by simp at h
 |p::P,w::vs,0,m,nd,h1,h2,hk=>by
  simp at h1 h2;subst h1;subst h2
  show bindL kindOf ((p,w)::P.zip vs) m p=_;unfold bindL;rw[LO λv hv=>(cF.mp nd).1 (fu hv).1,if_pos hk];simp
 |p::P,w::vs,i+1,m,nd,h1,h2,hk=>by
  unfold bindL;exact LP (i:=i) (cF.mp nd).2 (by simp_all) (by simp_all) hk
theorem LR{kindOf:Str->o_ eR}{x:Str}{v:Db}:∀{P:n_ Str}{vs:n_ Db}{i:Nat}{m:Str->o_ Db},P.Nodup->P[i]?=P3 x->vs[i]?=P3 v->kindOf x≠P3 .local->
  bindC kindOf (P.zip vs) m x=P3 v
 |[],_,_,_,_,h,_,_=>by simp at h
 |_::_,[],_,_,_,_,h,_=>by simp at h
 |p::P,w::vs,0,m,nd,h1,h2,hk=>by
  simp at h1 h2;subst h1;subst h2
  show bindC kindOf ((p,w)::P.zip vs) m p=_;unfold bindC;rw[LQ λv hv=>(cF.mp nd).1 (fu hv).1,if_neg hk];simp
 |p::P,w::vs,i+1,m,nd,h1,h2,hk=>by
  unfold bindC;exact LR (i:=i) (cF.mp nd).2 (by simp_all) (by simp_all) hk
noncomputable def start(N:n_ Str)(vs:n_ V):St:=vs.map P3++T0 (N.length - vs.length) k_
noncomputable def Jo(CX:VO)(P:cH)(w:cN)(K:Frag)(mg:Str->o_ Db)(base:cA)(N:n_ Str)(qual:Str)(scope:eS)(f:Ch)(cd:Db)(A:cW)(outer:n_ Env)(s:Go)(H:Hp)(E:XK):Cx where
 prog:=P
 w:=w
 K:=K
 mg:=mg
 base:=base
 A:=A.deeper (envOfC qual scope s.heap.objs.size f cd)
 N:=N
 s₀:=s
 H₀:=H
 env:=envOfC qual scope s.heap.objs.size f cd
 outer:=outer
 stack:=envOfC qual scope s.heap.objs.size f cd::outer
 ex:=[]
 calm:=l_
 fn:=λ_=>l_
 pn:=[]
 xe:=λe s'=>wpAny (model P w) (A.deeper^envOfC qual scope s.heap.objs.size f cd) (leaving (envOfC qual scope s.heap.objs.size f cd) e) (λ_ s''=>CX outer H s E e s'') (λe' s''=>CX outer H s E e' s'') s'
def OE{sc:eS}{n:Nat}{x:Str}(h:sc.names.lookup x=P3 .cell):∃c,(cellsFrom n sc.names []).lookup x=P3 c:=by
 have q:=PySem.W.cellsFrom_some sc.names n []^.inl h;exact Option.isSome_iff_exists.mp q
def R_{CX:VO}{P:cH}{w:cN}{K:Frag}{mg:Str->o_ Db}{base:cA}{N ps:n_ Str}{qual:Str}{scope:eS}{f:Ch}{cd:Db}{A:cW}{outer:n_ Env}{s s1:Go}{H:Hp}{E:XK}{us:n_ Db}{vs:n_ V}
  (S:AZ N ps scope) (hd:A.handled=k_) (e0:Env0 P w K mg base A outer s H) (hl:vs.length=ps.length) (r:Vals vs us)
  (x:InCallC s s.heap.objs.size (bindL (envOfC qual scope s.heap.objs.size f cd).kindOf (ps.zip us) λ_=>k_) (cellsFrom (s.heap.objs.size+1) scope.names []) (bindC (envOfC qual scope s.heap.objs.size f cd).kindOf (ps.zip us) λ_=>k_) s1):
  Inv (Jo CX P w K mg base N qual scope f cd A outer s H E) [] (start N vs) H s1:=by
 have hpl:ps.length<=N.length:=by have:=congrArg hV S.pre;rw[gW]at this;lk
 let#[h1,tk,rfl,hk]:=x.done;have noA:∀b:Ch,b∉(Jo CX P w K mg base N qual scope f cd A outer s H E).ex:=λb z=>absurd (show b∈([]:n_ Ch)from z)^by simp
 refine#[#[e0.mod,S.kind,rfl,rfl,Rs _,λy z c h1 h2=>?_,λy hy=>?_,λy c _ h=>?_,λ_=>hd,Around.frames_deeper e0.frames,.inr #[rfl,rfl],λb z=>absurd z^noA b,e0.bs,e0.bsz,λb _ _=>noA b,λb z=>absurd z^noA b,e0.funs,e0.frf],
  rfl,e0.bare,Un.kept hk,#[_,x.toInCall.ns,λi y v h1 h2 h3=>?_],λy c h=>#[_,x.cell y c h],e0.hok.fresh^Rs _,λy c h=>?_,λp hp=>absurd (show p∈([]:n_ (Ch×Obj))from hp)^by simp,e0.hok.kept hk,?_]
 .exact name_of_addr x.apart (PySem.mem_of_lookup h1)^PySem.mem_of_lookup h2
 .have hy:scope.names.lookup y=P3 .cell\/scope.names.lookup y=P3 .free:=hy
  rcases hy with hy|hy
  .exact OE hy
  .exact absurd rfl (S.nofree _^PySem.mem_of_lookup hy)
 .exact gi^x.above y c^PySem.mem_of_lookup h
 .have hi:i<vs.length:=by
   unfold start at h2
   by_cases hi:i<vs.length
   .exact hi
   .rw[eo^by simpa using hi]at h2
    rw[gJ]at h2
    split at h2 <;>cases h2
  have ha:vs[i]?=P3 v:=by
   unfold start at h2;rw[fC (by simpa using hi),XV]at h2;cases e:vs[i]? with
   |none=>rw[e]at h2;cases h2
   |some a=>rw[e]at h2;cases h2;rfl
  let#[u,hu,rv]:=r.get ha
  have hp:ps[i]?=P3 y:=by
   rw[←S.pre,List.getElem?_take_of_lt^by lk];exact h1
  have ndP:ps.Nodup:=by rw[←S.pre];exact S.nd.sublist^List.take_sublist _ _
  refine#[u,rv,?_]
  rcases S.par y^fi hp with k|k
  .exact .inl #[k,LP ndP hp hu k]
  .let#[c,e]:=OE (n:=s.heap.objs.size+1) k
   refine .inr #[.inl k,c,e,?_];have q:=x.cell y c e;rw[LR ndP hp hu^by show scope.names.lookup y≠_;rw[k];decide]at q;exact q
 .exact e0.hok.fresh^gi^x.above y c^PySem.mem_of_lookup h
 .unfold start
  show _=N.length;rw[cj,FM,iu];lk
def Zy{CX:VO}{P:cH}{w:cN}{K:Frag}{mg:Str->o_ Db}{base:cA}{k:Nat}{f:Ch}{name qual:Str}{params:Arguments}{body:n_ cS}{scope:eS}{dV kV doc pm cdv ct oc:Db}{an od:o_ Ch}
  {osl:Array^o_ Db}{N ps:n_ Str}{sp:Sp} (lk:K.lookup f=P3 #[oc,od,.func^fnOf name qual params body scope dV kV doc pm an cdv ct,osl]) (hcd:codeIn K cdv qual=l_) (S:AZ N ps scope)
  (len:∀vs H Q E,sp vs H Q E->vs.length=ps.length)
  (hbody:∀(A:cW) (outer:n_ Env) (s:Go) (H:Hp) (vs:n_ V) (Q:VK) (E:XK),Room k^A.deeper^envOfC qual scope s.heap.objs.size f cdv->sp vs H Q E->
   ∃t,PSs (Jo CX P w K mg base N qual scope f cdv A outer s H E) body t/\t {nx:=λ_ H'=>Q .non H',rt:=Q} (start N vs) H):
  FnOk P w K mg base CX (k+1) f (fnOf name qual params body scope dV kV doc pm an cdv ct) ps sp:=by
 refine#[len,λA outer s H args us vs Q E hr e0 hb r hsp=>?_];have hl:=len _ _ _ _ hsp;have KX:K.In s.heap:=e0.mod.kin.keeps λb o e=>(e0.bs b o e).1;have lim:s.heap.NoLimit:=e0.mod.nolimit.keeps λb o e=>(e0.bs b o e).1
 have hkind:∀y∈ps.zip us,scope.names.lookup y.1=P3 .local\/(scope.names.lookup y.1=P3 .cell/\((cellsFrom (s.heap.objs.size+1) scope.names []).lookup y.1).isSome=l_):=fun#[n,v] hy=>by
  rcases S.par n (fu hy).1 with q|q
  .exact .inl q
  .exact .inr #[q,PySem.W.cellsFrom_some _ _ _^.inl q]
 refine codeAny_call_function hr.depth (KX _ _ lk) rfl S.co S.gen rfl (PySem.W.codeRec_of KX hcd) (hb _ _ _ _ ?_);refine wpAny_newFunctionEnv_cells S.kind hkind λenv he s1 x=>?_;subst he;refine#[lim.keeps x.toInCall.keep,codeAny_func ?_];let#[t,ht,hq]:=hbody A outer s H vs Q E (hr.deeper _) hsp;have I:Inv (Jo CX P w K mg base N qual scope f cdv A outer s H E) [] (start N vs) H s1:=R_ S hr.hd e0 hl r x;refine c9 (ht [] s1 (start N vs) H _ I hq) (λfl s' hs=>?_) λe s' hs=>hs
 have fin:∀{zZ:St}{H':Hp}{v:V}{u:Db},Inv (Jo CX P w K mg base N qual scope f cdv A outer s H E) [] zZ H' s'->RelV v u->Q v H'->CE outer P w H s Q u s':=
  λ{zZ H' v u} J rv q=>#[v,H',J.os,J.bare,J.base,J.hok,rv,q]
 cases fl with
 |ret u=>
  let#[v,zZ,H',J,rv,q]:=hs;exact fin J rv q
 |next=>
  let#[zZ,H',J,q]:=hs;exact fin (v:=V.non) (u:=cQ) J rfl q
 |brk=>
  let#[_,_,_,q]:=hs;exact cz q
 |cont=>
  let#[_,_,_,q]:=hs;exact cz q
section
variable {X:Cx}{x:Str}{p pos:Pos}{e:Expr}{es:n_ Expr}{t:TA}{id T:String}{r:n_ V->Hp->VK->Prop}
noncomputable def ZN(r:n_ V->Hp->VK->Prop)(t:TA):TE:=λZ H Q=>t Z H λvs H1=>r vs H1 Q
def D9(hc:CallR X (.builtin id) r)(hg:Gl X x)(hm:X.mg x=k_)(hv:bootBuiltins x=P3^.builtin id)(ha:PA X (e::es) t)(hn:autoParam (x ≠ "__name__") zau1._auto_1)(hdb:autoParam ((x==("__debug__":Str))=m_) zau1._auto_1)
  (he:autoParam (starEach (e::es) X.env=(m_,eval e X.env)::starEach es X.env) zau3._auto_1) (hpl:autoParam ((backTo pos^starEach es X.env).any (·.1)=m_) zau3._auto_1):PE X (.Call (.Name x p) (e::es) [] pos)^ZN r t:=λzG s Z H Q I h=>dX^EB I hg hm hv (PyProof.Rows.callWith_builtin1 (BF (ha _ _ s Z H _ I h) λus s1 #[vs,H1,I1,r1,q1]=>hc _ s1 Z H1 vs us Q I1 r1 q1) he hpl) hn hdb
def Gd(hc:CallR X (.type T) r)(hg:Gl X x)(hm:X.mg x=k_)(hv:bootBuiltins x=P3^.type T)(ha:PA X (e::es) t)(hn:autoParam (x ≠ "__name__") zau1._auto_1)(hdb:autoParam ((x==("__debug__":Str))=m_) zau1._auto_1)
  (he:autoParam (starEach (e::es) X.env=(m_,eval e X.env)::starEach es X.env) zau3._auto_1) (hpl:autoParam ((backTo pos^starEach es X.env).any (·.1)=m_) zau3._auto_1):PE X (.Call (.Name x p) (e::es) [] pos)^ZN r t:=λzG s Z H Q I h=>dX^EB I hg hm hv (dn (BF (ha _ _ s Z H _ I h) λus s1 #[vs,H1,I1,r1,q1]=>hc _ s1 Z H1 vs us Q I1 r1 q1) he hpl) hn hdb
end
end L2
namespace HT
section
variable {prog:Program}{w:World}{A:Around}{E:Value->Shared->Prop}{s:Shared}
def cat_tup{t b:Ch}{vs ws:n_ Db}{Q:Db->Go->Prop}(ht:IsTup s.heap t vs.toArray)(hb:IsTup s.heap b ws.toArray)(hv:vs≠[])
  (h1:ws=[]->Q (.ref t) s) (h2:ws≠[]->Q (.ref s.heap.objs.size) {s with heap:=s.heap.push {cls:=.type "tuple",data:=.seq (vs++ws).toArray}})
  (hsz:vs.length+ws.length<=sizeLine):wpAny (model prog w) A (binaryOp .Add (.ref t)^.ref b) Q E s:=by
 let#[#[cls,dd,data,sl],ho,hc,n,hd]:=id ht;let#[#[cls2,dd2,data2,sl2],ho2,hc2,n2,hd2]:=id hb;simp only at hc hd hc2 hd2;subst hc hd hc2 hd2
 by_cases hw:ws=[]
 .exact concat_meets #[_,ho,rfl] #[_,ho2,rfl] iS seq_tuple_add PySem.F.slot_tuple_add PySem.F.entry_tuple_add (PySem.F.args_tuple_add_2 _ _)
   (tuple_addW1 t b vs.toArray ws.toArray n n2 dd dd2 sl sl2 (by simp_all)^by simp[hw]) #[ho,ho2,h1 hw]
 .refine concat_meets #[_,ho,rfl] #[_,ho2,rfl] iS seq_tuple_add PySem.F.slot_tuple_add PySem.F.entry_tuple_add (PySem.F.args_tuple_add_2 _ _)
   (tuple_addW2 t b vs.toArray ws.toArray n n2 dd dd2 sl sl2 (by grind) (by grind)^by lk) #[ho,ho2,?_]
  simp_all
noncomputable def sIx(n d:Nat):o_ Int->Nat
 |none=>d
 |some v=>if v<0 then(v+(n:Int)).toNat else min v.toNat n
def sIx_none(n d:Nat):sIx n d k_=d:=rfl
def sIx_nat(n d k:Nat):sIx n d^P3 (k:Int)=min k n:=by
 show(if k<0 then((k:Int)+n).toNat else min _ n)=min k n;rw[if_neg^by lk,e8]
def Xx(n d:Nat)(hd:d<=n)(o:o_ Int):sIx n d o<=n:=by
 cases o with
 |none=>exact hd
 |some v=>
  show(if v<0 then(v+n).toNat else min _ n)<=n
  grind
def Qt(v:Int)(n d:Nat):(if v<0 then max (v+(n:Int)) 0 else min v (n:Int))=((sIx n d^P3 v:Nat):Int):=by
 show(if v<0 then max _ 0 else min v _)=(if v<0 then(v+n).toNat else min _ n)
 grind
def Ps(lo hi:o_ Int)(n:Nat):iM lo hi 1 (n:Int)=(((sIx n 0 lo:Nat):Int),((sIx n n hi:Nat):Int)):=by
 refine Prod.ext ?_ ?_
 .cases lo with
  |none=>rfl
  |some v=>exact Qt v n 0
 .cases hi with
  |none=>rfl
  |some v=>exact Qt v n n
def PB(i j:Nat):fw (i:Int) (j:Int) 1=j - i:=by
 unfold fw
 grind
def Ij{v:Db}{o:o_ Int}{Q:o_ Int->Go->Prop}(p:gm v o)(h:Q o s):wpAny (model prog w) A (Builtin.Slice.slicePartIndex v) Q E s:=by
 cases p with
 |none=>exact slicePart_none h
 |int i t=>exact slicePart_int h
def sliceApplied_gen{sl:Ch}{vl vu:Db}{lo hi:o_ Int}{n:Nat}{Q:Int×Int×Nat->Go->Prop}(hs:s.heap.IsSliceOf sl vl vu .none)(pl:gm vl lo)(pu:gm vu hi)
  (h:Q (((sIx n 0 lo:Nat):Int),1,sIx n n hi - sIx n 0 lo) s):wpAny (model prog w) A (Builtin.Slice.sliceApplied (.ref sl)^pure (n:Int)) Q E s:=by
 let#[os,hos,hcs,hds]:=id hs;refine Cn^Cn (dO hos hds (x:=vl) rfl (Cn (dO hos hds (x:=vu) rfl (Cn (dO hos hds (x:=.none) rfl (On ?_))))));refine Cn^slicePart_none ?_;refine Cn^Ij pl^Cn^Ij pu^Cn^On ?_;show wpAny _ _ (match iM lo hi 1 (n:Int)with|(lo,hi)=>pure (lo,(1:Int),fw lo hi 1)) _ _ s;rw[Ps lo hi n];show wpAny _ _ (pure _) _ _ s;rw[PB];exact On h
def Tz(xs:Array Db)(i k:Nat):((cV k).filterMap fun(m:Nat)=>xs[((i:Int)+(m:Int)*1).toNat]?).toArray=((xs.toList.drop i).take k).toArray:=by
 have e:(fun(m:Nat)=>xs[((i:Int)+(m:Int)*1).toNat]?)=λm=>xs[i+m]?:=by
  grind
 rw[e]
 have:=pick_run xs i k
 rw[List.filterMap_map]at this;have e2:((λx=>xs[x]?)∘λx=>i+x)=λm=>xs[i+m]?:=rfl
 grind
def getItem_tuple_cut{t sl:Ch}{items:Array Db}{vl vu:Db}{lo hi:o_ Int}{Q:Db->Go->Prop}(ht:IsTup s.heap t items)(hs:s.heap.IsSliceOf sl vl vu .none)(pl:gm vl lo)(pu:gm vu hi)
  (hw:¬(sIx items.size 0 lo=0/\sIx items.size items.size hi=items.size))
  (h:Q (.ref s.heap.objs.size) {s with heap:=s.heap.push {cls:=.type "tuple",data:=.seq ((items.toList.drop^sIx items.size 0 lo).take (sIx items.size items.size hi - sIx items.size 0 lo)).toArray}})
  (hsz:items.size<=sizeLine):wpAny (model prog w) A (getItem (.ref t)^.ref sl) Q E s:=by
 have htake:sizeOk^.seq ((items.toList.drop^sIx items.size 0 lo).take (sIx items.size items.size hi - sIx items.size 0 lo)).toArray:=by
  show((items.toList.drop^sIx items.size 0 lo).take (sIx items.size items.size hi - sIx items.size 0 lo)).toArray.size<=sizeLine;rw[b7,gW,List.length_drop,cq];lk
 have hj:sIx items.size items.size hi<=items.size:=Xx _ _ (Rs _) hi;let#[os,hos,hcs,hds]:=id hs;have hTs:s.TypeIs (.ref sl) "slice":=#[os,hos,hcs];unfold getItem
 try with_reducible refine dD ?_
 first|refine Cn^On ?_|skip
 refine Cn^wpAny_sequenceKey ht.typeIs (by cbv) ?_
 refine Cn (c6 (name:=dY "__getitem__") ht.typeIs c7
  (dP c7 ht.typeIs entry_tuple_getitem ?_^args_tuple_getitem _ _))
 show wpAny _ _ (iC^.ref t >>=_) _ _ s;refine Cn^tupleItemsOf_ ht ?_;refine Cn^f_ hTs ?_;rw[if_pos^by cbv];refine Cn^sliceApplied_gen hs pl pu ?_
 have hno:¬((((sIx items.size 0 lo:Nat):Int)==0&&(1:Int)==1&&(sIx items.size items.size hi - sIx items.size 0 lo)==items.size)=l_):=by
  grind
 show wpAny _ _ (if(((sIx items.size 0 lo:Nat):Int)==0&&(1:Int)==1&&(sIx items.size items.size hi - sIx items.size 0 lo)==items.size)=l_ then _ else _) _ _ s;rw[if_neg hno,Tz]
 first
  |exact Cn (m:=gA _)^dI (On #[_,rfl,On h]) htake
  |grind
  |grind
  |grind
end
end HT
namespace L2
noncomputable abbrev TO:=St->Hp->(o_ Int->Hp->Prop)->Prop
noncomputable def PO(X:Cx)(e:o_ cJ)(t:TO):Prop:=
 ∀(zG:n_ (Ch×Obj)) (s:Go) (Z:St) (H:Hp) (Q:o_ Int->Hp->Prop),Inv X zG Z H s->t Z H Q->
  wpAny (model X.prog X.w) X.A (evalPart e X.env) (λu s'=>∃o H',Inv X zG Z H' s'/\gm u o/\Q o H') X.xe s
noncomputable def Vc:TO:=λ_ H Q=>Q k_ H
noncomputable def ZH(t:TE):TO:=λZ H Q=>t Z H λx H1=>∃i,x=.int i/\Q (P3 i) H1
section
variable {X:Cx}{e:Expr}{te:TE}{lo hi:o_ Expr}{tl th:TO}{pos p2:Pos}
def QS:PO X k_ Vc:=λzG s Z H Q I h=>On #[_,H,I,.none,h]
def QR(h:PE X e te):PO X (P3 e)^ZH te:=by
 intro zG s Z H Q I hw;refine BF (h _ s Z H _ I hw) λu s1 #[x,H1,I1,r1,q1]=>?_;let#[i,rfl,q]:=q1;let#[t,rfl]:=r1;exact#[_,H1,I1,.int i t,q]
noncomputable def SlR(X:Cx)(r:V->o_ Int->o_ Int->Hp->VK->Prop):Prop:=
 ∀(zG:n_ (Ch×Obj)) (s:Go) (Z:St) (H:Hp) (x:V) (v vl vu:Db) (lo hi:o_ Int) (sl:Ch) (Q:VK),Inv X zG Z H s->RelV x v->s.heap.IsSliceOf sl vl vu .none->gm vl lo->gm vu hi->r x lo hi H Q->
  ∃T id,typeLookup (.type T) "__getitem__"=pure^P3^.builtin id/\s.TypeIs v T/\wpAny (model X.prog X.w) X.A (getItem v^.ref sl) (EP X zG Z Q) X.xe s
def SlR.or{r r':V->o_ Int->o_ Int->Hp->VK->Prop}(h:SlR X r)(h':SlR X r'):SlR X (λx lo hi H Q=>r x lo hi H Q\/r' x lo hi H Q):=by
 intro zG s Z H x v vl vu lo hi sl Q I rx hs pl pu q
 rcases q with q|q
 .exact h _ s Z H x v vl vu lo hi sl Q I rx hs pl pu q
 .exact h' _ s Z H x v vl vu lo hi sl Q I rx hs pl pu q
noncomputable def bh(r:V->o_ Int->o_ Int->Hp->VK->Prop)(te:TE)(tl th:TO):TE:=λZ H Q=>te Z H λx H1=>tl Z H1 λl H2=>th Z H2 λu H3=>r x l u H3 Q
def Nb{r:V->o_ Int->o_ Int->Hp->VK->Prop}(hr:SlR X r)(he:PE X e te)(hl:PO X lo tl)(hu:PO X hi th):PE X (.Subscript e (.Slice lo hi k_ p2) pos)^bh r te tl th:=by
 intro zG s Z H Q I h;refine Subscript_^BF (he zG s Z H _ I h) λv s1 #[x,H1,I1,r1,q1]=>?_;refine wpAny_Slice^BF (hl zG s1 Z H1 _ I1 q1) λvl s2 #[l,H2,I2,pl,q2]=>BF (hu zG s2 Z H2 _ I2 q2) λvu s3 #[u,H3,I3,pu,q3]=>?_;rw[evalPart_none];refine On ?_;have I4:Inv X zG Z H3 {s3 with heap:=s3.heap.push {cls:=.type "slice",data:=.fields #[ vl,vu,.none]}}:=I3.kept (t':=s3.toks) λb ob q=>Ev _ q;let#[T,id,hT,ht,hg]:=hr zG {s3 with heap:=s3.heap.push {cls:=.type "slice",data:=.fields #[ vl,vu,.none]}} Z H3 x v vl vu l u s3.heap.objs.size Q I4 r1 (Heap.IsSliceOf.new ..) pl pu q3;show wpAny (model X.prog X.w) X.A (subscriptTail e (.Slice lo hi k_ p2) v^.ref s3.heap.objs.size) (EP X zG Z Q) X.xe {s3 with heap:=s3.heap.push {cls:=.type "slice",data:=.fields #[ vl,vu,.none]}};exact tail_any (ops:=[.ref s3.heap.objs.size,v]) ht hT hg^by with_unfolding_all rfl
noncomputable def OB(xs:n_ V)(lo hi:o_ Int):n_ V:=(xs.drop^HT.sIx xs.length 0 lo).take (HT.sIx xs.length xs.length hi - HT.sIx xs.length 0 lo)
def HV(xs:n_ V)(lo hi:o_ Int):(OB xs lo hi).length<=xs.length:=by
 unfold OB
 grind
noncomputable def ZU(K:Frag):V->o_ Int->o_ Int->Hp->VK->Prop:=λx lo hi H Q=>∃a xs,x=.ref a/\SqT K H a xs /\
 ¬(HT.sIx xs.length 0 lo=0/\HT.sIx xs.length xs.length hi=xs.length)/\∀p,H p=k_->Q (.ref p)^Aq H p^.tup^OB xs lo hi
def sl_tup:SlR X^ZU X.K:=by
 intro zG s Z H x v vl vu lo hi sl Q I rx hs pl pu h;let#[a,xs,rfl,hx,hw,q]:=h;cases rx;let#[its,r,ht,hz]:=I.tuple hx;have hlen:its.toArray.size=xs.length:=by exact r.length.symm
 refine#[_,_,c7.lookup,ht.typeIs,?_];refine HT.getItem_tuple_cut ht hs pl pu (by grind) ?_ (by simp_all);rw[hlen];refine#[.ref _,_,I.laid (λb ob q=>Ev _ q) (Rs _) ?_,rfl,q _^I.hok.fresh^Rs _];exact#[cG (HV xs lo hi) hz,_,(r.drop _).take _,IsTupN.new _ _]
noncomputable def Tp(K:Frag):R2:=λx y H Q=>∃a b xs ys,x=.ref a/\y=.ref b/\SqT K H a xs/\SqT K H b ys/\xs≠[]/\xs.length+ys.length<=sizeLine /\
 (ys=[]->Q (.ref a) H)/\(ys≠[]->∀p,H p=k_->Q (.ref p)^Aq H p^.tup (xs++ys))
def Vals.nil_iff{xs:n_ V}{us:n_ Db}(r:Vals xs us):us=[]↔xs=[]:=by
 cases r with
 |nil=>simp
 |cons _ _=>simp
def op_catT:OpR X (binaryOp .Add)^Tp X.K:=by
 intro zG s Z H x y v u Q I rx ry h;let#[a,b,xs,ys,rfl,rfl,ha,hb,hx,hz,q1,q2]:=h;cases rx;cases ry;let#[its,r1,p1,_]:=I.tuple ha;let#[its2,r2,p2,_]:=I.tuple hb;refine HT.cat_tup p1 p2 (λz=>hx^r1.nil_iff.mp z) (λz=>#[.ref a,H,I,rfl,q1^r2.nil_iff.mp z]) (λz=>?_) (by rw[←r1.length,←r2.length];exact hz);refine#[.ref _,_,I.laid (λb ob q=>Ev _ q) (Rs _) ?_,rfl,q2 (λw=>z^r2.nil_iff.mpr w) _^I.hok.fresh^Rs _];exact#[by simp_all,_,r1.append r2,IsTupN.new _ _]
end
noncomputable def XE(n:Nat)(i:Int):o_ Nat:=if 0<=i then(if i<n then P3 i.toNat else k_)else if -(n:Int)<=i then P3 (i+n).toNat else k_
noncomputable def atI{α:Type}(xs:n_ α)(i:Int):o_ α:=(XE xs.length i).bind λj=>xs[j]?
def Qe{n:Nat}{i:Int}{j:Nat}(h:XE n i=P3 j):seqIndex? i n=P3 j/\j<n/\-(n:Int)<=i/\i<n:=by
 unfold XE at h
 by_cases h0:0<=i
 .rw[if_pos h0]at h
  by_cases h1:i<n
  .rw[if_pos h1]at h
   have e:i.toNat=j:=bz h;exact#[by rw[seqIndex_of h0 h1,e],by lk,by lk,h1]
  grind
 .rw[if_neg h0]at h
  by_cases h1:-(n:Int)<=i
  .rw[if_pos h1]at h
   have e:(i+n).toNat=j:=bz h;exact#[by rw[seqIndex_neg (by lk) h1,e],by lk,h1,by lk]
  grind
def Mg{α:Type}{xs:n_ α}{i:Int}{v:α}(h:atI xs i=P3 v):∃j,seqIndex? i xs.length=P3 j/\xs[j]?=P3 v/\j<xs.length/\-(xs.length:Int)<=i/\i<xs.length:=by
 unfold atI at h;cases e:XE xs.length i with
 |none=>simp_all
 |some j=>
  let#[h1,h2,h3,h4]:=Qe e
  simp_all
def AH{α:Type}{xs:n_ α}{j:Nat}{v:α}(h:xs[j]?=P3 v):atI xs (j:Int)=P3 v:=by
 have hj:=(UF.mp h).1
 have e:XE xs.length j=P3 j:=by
  unfold XE
  simp_all
 unfold atI;grind
noncomputable def Q6(b:cJ):Prop:=∀o i,subscripted b m_ o i=operate [o,i]^getItem o i
noncomputable def IxR(X:Cx)(r:R2):Prop:=
 ∀(value slice:cJ) (zG:n_ (Ch×Obj)) (s:Go) (Z:St) (H:Hp) (x y:V) (v u:Db) (Q:VK),Inv X zG Z H s->RelV x v->RelV y u->r x y H Q->
  subscripted slice m_ v u=operate [v,u]^getItem v u->wpAny (model X.prog X.w) X.A (subscriptTail value slice v u) (EP X zG Z Q) X.xe s
noncomputable def XY(X:Cx)(id:String)(r:V->n_ V->Hp->VK->Prop):Prop:=
 ∀(zG:n_ (Ch×Obj)) (s:Go) (Z:St) (H:Hp) (x:V) (xs:n_ V) (v:Db) (us:n_ Db) (Q:VK),Inv X zG Z H s->RelV x v->Vals xs us->r x xs H Q->
  wpAny (model X.prog X.w) X.A (call (.builtin id) (v::us)) (EP X zG Z Q) X.xe s
section
variable {X:Cx}{a b:Expr}{ta tb:TE}{pos:Pos}
def IxR.or{r r':R2}(h:IxR X r)(h':IxR X r'):IxR X (λx y H Q=>r x y H Q\/r' x y H Q):=by
 intro value slice zG s Z H x y v u Q I rx ry q hs
 rcases q with q|q
 .exact h _ _ _ s Z H x y v u Q I rx ry q hs
 .exact h' _ _ _ s Z H x y v u Q I rx ry q hs
def Dk{r:R2}(hr:IxR X r)(ha:PE X a ta)(hb:PE X b tb)(hs:Q6 b):PE X (.Subscript a b pos)^C6 r ta tb:=λzG s Z H Q I h=>Subscript_^Ym ha hb I h λv u s2 x y H2 I2 rx ry q=>hr a b _ s2 Z H2 x y v u Q I2 rx ry q^hs _ _
noncomputable def X3(K:Frag):R2:=λx y H Q=>∃p xs i v,x=.ref p/\y=.int i/\SqL K H p xs/\atI xs i=P3 v/\Q v H
noncomputable def Zc(K:Frag):R2:=λx y H Q=>∃p xs i v,x=.ref p/\y=.int i/\SqT K H p xs/\atI xs i=P3 v/\Q v H
noncomputable def Zd:R2:=λx y H Q=>∃z i c,x=.str z/\y=.int i/\z.length<=sizeLine/\atI z.cps.toList i=P3 c/\Q (.str #[#[ c]]) H
def ix_list:IxR X^X3 X.K:=by
 intro value slice zG s Z H x y v u Q I rx ry h hs;let#[p,xs,i,z,rfl,rfl,hq,he,q]:=h;cases rx;let#[t,rfl]:=ry;let#[its,r,pl,hz]:=I.list hq;let#[j,h1,h2,h3,h4,h5]:=Mg he;let#[w,ew,rw']:=r.get h2;have hl:=r.length;have hn:=Gh;have fin:EP X zG Z Q w s:=#[z,H,I,rw',q]
 by_cases h0:0<=i
 .have hj:i.toNat=j:=by
   rw[seqIndex_of h0 h5]at h1
   grind
  exact item_listR pl.isList h0 (by lk) (by rw[hj];simpa using ew) fin hs
 .have hj:(i+(its.toArray.size:Int)).toNat=j:=by
   rw[seqIndex_neg (by lk) h4]at h1
   grind
  exact subscriptTail_builtinR (x:=w) pl.isList.typeIs slot_list_getitem.lookup
   (wpAny_getItem_list_neg (Q:=λr s'=>r=w/\EP X zG Z Q r s') pl.isList (by lk) (by grind) (by lk) (by grind) #[rfl,fin]) hs
def ix_tup:IxR X^Zc X.K:=by
 intro value slice zG s Z H x y v u Q I rx ry h hs;let#[p,xs,i,z,rfl,rfl,hq,he,q]:=h;cases rx;let#[t,rfl]:=ry;let#[its,r,pl,hz]:=I.tuple hq;let#[j,h1,h2,h3,h4,h5]:=Mg he;let#[w,ew,rw']:=r.get h2;have hl:=r.length;have hn:=Gh
 exact subscriptTail_builtinR pl.typeIs c7.lookup
  (getItem_tuple (j:=j) pl (by lk) (by lk) (by grind) (by grind) #[rfl,#[z,H,I,rw',q]]) hs
def YW:IxR X Zd:=by
 intro value slice zG s Z H x y v u Q I rx ry h hs;let#[z,i,c,rfl,rfl,hz,he,q]:=h;let#[t,rfl]:=rx;let#[t',rfl]:=ry;let#[j,h1,h2,h3,h4,h5]:=Mg he;have hl:z.cps.toList.length=z.length:=by simp[Str.length]
 have hn:=Gh
 exact tail_any (gF s z t) slot_str_getitem.lookup (getItem_str (by
  grind) (by grind) #[.str _,H,I.tok _,#[_,rfl],q]) hs
noncomputable def bQ(K:Frag):R2:=λx y H Q=>X3 K x y H Q\/Zc K x y H Q\/Zd x y H Q
def AR:IxR X^bQ X.K:=ix_list.or^ix_tup.or YW
def PU(its:n_ Db)(n j:Nat)(u:Db):cn (·.setIfInBounds j u) {cls:=.type "list",data:=.seq its.toArray n}={cls:=.type "list",data:=.seq (its.set j u).toArray n}:=by
 simp[cn]
def Inv.lst{zG:n_ (Ch×Obj)}{Z:St}{H:Hp}{s:Go}{p:Ch}{xs:n_ V}(I:Inv X zG Z H s)(h:H p=P3^.lst xs):
  ∃(its:n_ Db) (n:Nat),Vals xs its/\s.heap.get? p=P3 {cls:=.type "list",data:=.seq its.toArray n}/\xs.length<=sizeLine:=by
 let#[z,its,n,r,e]:=I.hok p _ h;exact#[_,n,r,e,z]
def Inv.lstUpd{zG:n_ (Ch×Obj)}{Z:St}{H:Hp}{s:Go}{p:Ch}{xs ys:n_ V}{its its':n_ Db}{n n':Nat}{f:Obj->Obj}(I:Inv X zG Z H s)(h:H p=P3^.lst xs)
  (ho:s.heap.get? p=P3 {cls:=.type "list",data:=.seq its.toArray n}) (hf:f {cls:=.type "list",data:=.seq its.toArray n}={cls:=.type "list",data:=.seq its'.toArray n'}) (r:Vals ys its') (hz:ys.length<=sizeLine) (t:Nat):
  Inv X zG Z (Aq H p^.lst ys) {s with heap:=s.heap.update p f,toks:=t}:=by
 have e:(s.heap.update p f).get? p=P3 {cls:=.type "list",data:=.seq its'.toArray n'}:=by
  rw[dL f ho (by rw[hf] <;>rfl),hf]
 exact I.write (by rw[h];trivial) (.inl rfl) (λb u hb q=>(b8 _ _^cY hb).trans q) #[_,e] #[hz,_,n',r,e]
noncomputable def Wz:V->V->V->Hp->(Hp->Prop)->Prop:=λo i v H Q=>∃p xs k j,o=.ref p/\i=.int k/\H p=P3^.lst xs/\XE xs.length k=P3 j/\Q^Aq H p^.lst^xs.set j v
def set_list:aF X Wz:=by
 intro zG s Z H o i v ov iv u Q I ro ri rv h;let#[p,xs,k,j,rfl,rfl,hp,hj,q]:=h;cases ro;let#[t,rfl]:=ri;let#[its,n,r,ho,hz]:=I.lst hp;let#[h1,h2,h3,h4]:=Qe hj;have hl:=r.length;have hn:=Gh
 have I':Inv X zG Z (Aq H p^.lst^xs.set j v) {s with heap:=s.heap.update p (cn (·.setIfInBounds j u))}:=
  I.lstUpd hp ho (PU its n j u) (r.set rv j) (by simp_all) s.toks
 by_cases h0:0<=k
 .have hk:k.toNat=j:=by
   rw[seqIndex_of h0 h4]at h1
   grind
  exact PySem.W.ki_setAt ho h0 (by lk) (by grind)^by rw[hk];exact#[_,I',q]
 .have hk:(k+(its.toArray.size:Int)).toNat=j:=by
   rw[seqIndex_neg (by lk) h3]at h1
   grind
  exact PySem.W.ki_setBack ho (by lk) (by grind) (by lk)^by rw[hk];exact#[_,I',q]
def Lk(lo hi:o_ Int)(n:Nat):(sliceBounds lo hi k_ n).1=((HT.sIx n 0 lo:Nat):Int)/\(sliceBounds lo hi k_ n).2.1=((HT.sIx n n hi:Nat):Int)/\(sliceBounds lo hi k_ n).2.2=1:=by
 refine#[?_,?_,rfl]
 .cases lo with
  |none=>simp[sliceBounds,HT.sIx]
  |some i=>
   simp only[sliceBounds,HT.sIx,Option.getD_none,show(1:Int) > 0 by cbv,if_true]
   by_cases h:i<0
   .grind
   .simp only[h,if_false] <;>lk
 .cases hi with
  |none=>simp[sliceBounds,HT.sIx]
  |some i=>
   simp only[sliceBounds,HT.sIx,Option.getD_none,show(1:Int) > 0 by cbv,if_true]
   by_cases h:i<0
   .grind
   .simp only[h,if_false] <;>lk
def J_(its:n_ Db)(lo hi:o_ Int):slicePick its.toArray lo hi k_=((its.drop^HT.sIx its.length 0 lo).take (HT.sIx its.length its.length hi - HT.sIx its.length 0 lo)).toArray:=by
 let#[h1,h2,h3]:=Lk lo hi _;unfold slicePick;rw[h1,h2,h3];simp only[sliceRange_one,pick_run] <;>rfl
noncomputable def ZV(K:Frag):V->o_ Int->o_ Int->Hp->VK->Prop:=λx lo hi H Q=>∃a xs,x=.ref a/\SqL K H a xs/\∀p,H p=k_->Q (.ref p)^Aq H p^.lst^OB xs lo hi
def sl_list:SlR X^ZV X.K:=by
 intro zG s Z H x v vl vu lo hi sl Q I rx hs pl pu h;let#[a,xs,rfl,hx,q]:=h;cases rx;let#[its,r,ht,hz]:=I.list hx;have hlen:=r.length;refine#[_,_,slot_list_getitem.lookup,ht.isList.typeIs,?_];refine wpAny_getItem_list_slice ht.isList hs pl pu .none (by simp) ?_ (by grind);rw[J_,←hlen];refine#[.ref _,_,I.laid (λb ob q=>Ev _ q) (Rs _) ?_,rfl,q _^I.hok.fresh^Rs _];exact#[cG (HV xs lo hi) hz,_,0,(r.drop _).take _,Sc _ rfl]
noncomputable def XG:V->Bool
 |.non=>l_
 |.bl _=>l_
 |.int _=>l_
 |.str _=>l_
 |_=>m_
noncomputable def Z4:V->V->Bool
 |.non,.non=>l_
 |.bl a,.bl b=>a==b
 |.bl a,.int b=>(if a then 1 else 0)==b
 |.int a,.bl b=>a==(if b then 1 else 0)
 |.int a,.int b=>a==b
 |.str a,.str b=>a==b
 |_,_=>m_
def MU{A:cW}{s:Go}{y x:V}{u v:Db}(ry:RelV y u)(rx:RelV x v)(fy:XG y=l_)(fx:XG x=l_):SeqAt.EqAt A s u v^Z4 y x:=by
 cases y with
 |non=>
  cases ry;cases x with
  |non=>cases rx;exact SeqAt.EqAt.same _
  |bl b=>cases rx;exact SeqAt.EqAt.none_bool b
  |int b=>let#[t,rfl]:=rx;exact SeqAt.EqAt.none_int b t
  |str b=>let#[t,rfl]:=rx;exact SeqAt.EqAt.none_str b t
  |_=>exact absurd (show m_=l_ from fx) cD
 |bl a=>
  cases ry;cases x with
  |non=>cases rx;exact SeqAt.EqAt.bool_none a
  |bl b=>cases rx;exact SeqAt.EqAt.bool_bool a b
  |int b=>let#[t,rfl]:=rx;exact SeqAt.EqAt.bool_int a b t
  |str b=>let#[t,rfl]:=rx;exact SeqAt.EqAt.bool_str a b t
  |_=>exact absurd (show m_=l_ from fx) cD
 |int a=>
  let#[t',rfl]:=ry;cases x with
  |non=>cases rx;exact SeqAt.EqAt.int_none a t'
  |bl b=>cases rx;exact SeqAt.EqAt.int_bool a t' b
  |int b=>let#[t,rfl]:=rx;exact SeqAt.EqAt.int_int a t' b t
  |str b=>let#[t,rfl]:=rx;exact i_ a t' b t
  |_=>exact absurd (show m_=l_ from fx) cD
 |str a=>
  let#[t',rfl]:=ry;cases x with
  |non=>cases rx;exact SeqAt.EqAt.str_none a t'
  |bl b=>cases rx;exact SeqAt.EqAt.str_bool a t' b
  |int b=>let#[t,rfl]:=rx;exact jA a t' b t
  |str b=>let#[t,rfl]:=rx;exact SeqAt.EqAt.str_str a t' b t
  |_=>exact absurd (show m_=l_ from fx) cD
 |_=>exact absurd (show m_=l_ from fy) cD
def Mf:CallR X (.type "list") (λxs H Q=>∃p ys,xs=[.ref p]/\(SqL X.K H p ys\/SqT X.K H p ys)/\∀l,H l=k_->Q (.ref l)^Aq H l^.lst ys):=by
 intro zG s Z H xs us Q I r h;let#[p,ys,rfl,hq,q]:=h;let#[u,rfl,rx]:=vals1 r;cases rx
 have fin:∀(its:n_ Db),Vals ys its->ys.length<=sizeLine->∀(h':cA) (c':Nat),(∀b o',s.heap.get? b=P3 o'->h'.get? b=P3 o')->
   h'.get? s.heap.objs.size=P3 _->EP X zG Z Q (.ref s.heap.objs.size) {s with heap:=h'}:=λits r' hz h' c' kp e=>
  #[.ref s.heap.objs.size,_,I.laid (t':=s.toks) kp (Rs _) (show ObjOk X.prog X.w _ h' _^.lst ys from#[hz,its,c',r',e]),rfl,q _^I.hok.fresh^Rs _]
 rcases hq with hq|hq
 .let#[its,r',pl,hz]:=I.list hq
  have hlen:=r'.length;let#[o,ho,hc,n,hd]:=pl.isList;exact call_list_seq p (.inl rfl) ho hc hd (λh' c' kp e=>fin its r' hz h' c' kp e)^by grind
 .let#[its,r',pl,hz]:=I.tuple hq
  have hlen:=r'.length;let#[o,ho,hc,n,hd]:=pl;exact call_list_seq p (.inr rfl) ho hc hd (λh' c' kp e=>fin its r' hz h' c' kp e)^by grind
def BH:CallR X (.type "tuple") (λxs H Q=>∃p ys,xs=[.ref p]/\((SqL X.K H p ys/\∀l,H l=k_->Q (.ref l)^Aq H l^.tup ys)\/(SqT X.K H p ys/\Q (.ref p) H))):=by
 intro zG s Z H xs us Q I r h;let#[p,ys,rfl,h]:=h;let#[u,rfl,rx]:=vals1 r;cases rx
 rcases h with⟨hq,q⟩|⟨hq,q⟩
 .let#[its,r',pl,hz]:=I.list hq
  have hlen:=r'.length;refine call_tuple_list pl.isList (λh' kp=>?_) (by grind);have I1:=I.kept (t':=s.toks) kp;exact#[.ref _,_,I1.laid (t':=s.toks) (λb o e=>Ev _ e) (Rs _) (show ObjOk _ _ _ _ _^.tup ys from#[hz,_,r',IsTupN.new _ _]),rfl,q _^I1.hok.fresh^Rs _]
 .let#[its,r',pl,hz]:=I.tuple hq
  exact call_tuple_same pl #[.ref p,H,I,rfl,q]
noncomputable def Y7(K:Frag)(T:String)(x:V)(H:Hp):Prop:=match x with
 |.str _=>T="str"
 |.int _=>T="int"
 | .ref p=>(T="list"/\∃xs,SqL K H p xs)\/(T="tuple"/\∃o,K.lookup p=P3 o/\o.cls=.type "tuple"/\o.dict=k_) \/
   (T="dict"/\((∃kvs,H p=P3^.dK kvs)\/∃kvs,H p=P3^.dT kvs))\/(T="set"/\∃S n,H p=P3^.set S n)
 |_=>False
def Ol{zG:n_ (Ch×Obj)}{Z:St}{H:Hp}{s:Go}{T:String}{x:V}{v:Db}(I:Inv X zG Z H s)(r:RelV x v)(ty:Y7 X.K T x H):
  s.TypeIs v T/\∀a,v=.ref a->∃ob,s.heap.get? a=P3 ob/\ob.dict=k_:=by
 cases x with
 |str z=>
  let#[t,rfl]:=r;cases(show T="str" from ty);exact#[gF s z t,λ_ e=>nomatch e]
 |int i=>
  let#[t,rfl]:=r;cases(show T="int" from ty);exact#[typeIs_int s i t,λ_ e=>nomatch e]
 | ref p=>
  cases r
  rcases ty with⟨rfl,xs,hq⟩|⟨rfl,o,hk,hc,hd⟩|⟨rfl,hk⟩|⟨rfl,S,n,hk⟩
  .let#[its,_,pl,_]:=I.list hq
   refine#[pl.isList.typeIs,λa e=>?_];cases e;let#[o,n,e,c,hd,_]:=pl;exact#[o,e,hd]
  .refine#[#[o,I.kIn p o hk,hc],λa e=>?_]
   cases e;exact#[o,I.kIn _ o hk,hd]
  .have z:∃o,s.heap.get? p=P3 o/\o.ExactDict:=by
    rcases hk with⟨kvs,hk⟩|⟨kvs,hk⟩
    .let#[_,_,_,_,o,_,_,e,ex,_]:=I.hok p _ hk
     exact#[o,e,ex]
    .let#[_,_,_,_,o,_,_,e,ex,_]:=I.hok p _ hk
     exact#[o,e,ex]
   let#[o,e,ex]:=z;refine#[#[o,e,ex.1],λa e2=>?_];cases e2;exact#[o,e,ex.2.1]
  .let#[o,_,_,_,e,ex,_]:=I.hok p _ hk
   refine#[#[o,e,ex.1],λa e2=>?_];cases e2;exact#[o,e,ex.2.1]
 |_=>exact cz ty
noncomputable def bn(K:Frag)(T:String)(r:V->n_ V->Hp->VK->Prop)(to:TE)(t:TA):TE:=λZ H Q=>to Z H λx H1=>Y7 K T x H1/\t Z H1 λxs H2=>r x xs H2 Q
variable {o e:Expr}{es:n_ Expr}{to:TE}{t:TA}{name:Str}{apos cpos:Pos}{T id:String}{r:V->n_ V->Hp->VK->Prop}
def Zk(pa:gn T)(slot:Slot T name id)(hty:typeOf^.builtin id=pure^.type "method_descriptor")(hm:XY X id r)(ho:PE X o to)(ha:PA X (e::es) t)
  (hbase:autoParam (attributeBase o name X.env^eval o X.env=eval o X.env) zau3._auto_1)
  (hfew:autoParam (((backTo cpos^starEach (e::es) X.env).all (λx=>!x.1)&&(backToKw cpos^keywordEach [] X.env).all (λx=>x.1.isSome)
   && decide ((e::es).length+([]:n_ fX).length+(if([]:n_ fX).isEmpty then 0 else 1)<30))=l_) zau3._auto_1)
  (hline:autoParam ((apos.endLine==cpos.line)=l_) zau3._auto_1) (hs:autoParam (starEach (e::es) X.env=(m_,eval e X.env)::starEach es X.env) zau3._auto_1) (hplain:autoParam ((backTo cpos^starEach es X.env).any (·.1)=m_) zau3._auto_1):
  PE X (.Call (.Attribute o name apos) (e::es) [] cpos) (bn X.K T r to t):=by
 intro zG s Z H Q I h;refine wpAny_Call_method_late hbase hfew hline rfl (BF (ho _ s Z H _ I h) λv s1 #[x,H1,I1,r1,ty,q1]=>?_);let#[h1,h2]:=Ol I1 r1 ty;refine#[T,id,pa,slot,hty,h1,h2,?_];have hA:=ha cpos _ s1 Z H1 _ I1 q1;rw[hs]at hA ⊢;refine d9 (by simp_all)^fj ?_;exact BF hA λus s2 #[vs,H2,I2,r2,q2]=>hm _ s2 Z H2 x vs v us Q I2 r1 r2 q2
end
noncomputable def bc(X:Cx)(id:String)(r:V->n_ V->Hp->VK->Prop):Prop:=
 ∀(zG:n_ (Ch×Obj)) (s:Go) (Z:St) (H:Hp) (x:V) (xs:n_ V) (v:Db) (us:n_ Db) (Q:VK),Inv X zG Z H s->RelV x v->Vals xs us->r x xs H Q->
  wpAny (model X.prog X.w) X.A (call (.builtin id) (v::us)) (EP X zG Z Q) X.xe s
theorem Vals.one:∀{x:V}{us:n_ Db},Vals [x] us->∃u,us=[u]/\RelV x u
 |_,_,.cons r .nil=>#[_,rfl,r]
theorem Vals.zero:∀{us:n_ Db},Vals [] us->us=[]
 |_,.nil=>rfl
theorem Vals.eraseIdx:∀{xs:n_ V}{us:n_ Db} (i:Nat),Vals xs us->Vals (xs.eraseIdx i)^us.eraseIdx i
 |_,_,_,.nil=>.nil
 |_,_,0,.cons _ t=>t
 |_,_,i+1,.cons r t=>.cons r^Vals.eraseIdx i t
def Vals.reverse{xs:n_ V}{us:n_ Db}(h:Vals xs us):Vals xs.reverse us.reverse:=by
 induction h with
 |nil=>exact .nil
 |cons r t ih=>rw[gN,gN];exact Vals.append ih^.cons r .nil
theorem LB{α:Type}:∀(l:n_ α) (i:Nat),(l.eraseIdx i).length<=l.length
 |[],_=>Rs _
 |_::_,0=>c_ _
 |_::r,i+1=>fk^LB r i
section
variable {X:Cx}{zG:n_ (Addr×Obj)}{Z:St}{H:Hp}{s:Shared}{l:Addr}{xs ys:n_ V}
def Inv.lset{its its':n_ Db}{n:Nat}{f:Array Db->Array Db}{t':Nat}(I:Inv X zG Z H s)(hH:H l=P3^.lst xs)
  (e:s.heap.get? l=P3 {cls:=.type "list",data:=.seq its.toArray n}) (hf:f its.toArray=its'.toArray) (hv:Vals ys its') (hz:ys.length<=sizeLine):
  Inv X zG Z (Aq H l^.lst ys) {s with heap:=s.heap.update l^cn f,toks:=t'}:=by
 have q:=PySem.IsL.update e f;rw[hf]at q;exact I.write (by rw[hH];exact trivial) (.inl rfl) (λb' u hb hu=>(b8 _ _^cY hb).trans hu) #[_,q] #[hz,_,_,hv,q]
def Inv.lnew{its:n_ Db}{t':Nat}(I:Inv X zG Z H s)(hv:Vals ys its)(hz:ys.length<=sizeLine):
  Inv X zG Z (Aq H s.heap.objs.size^.lst ys) {s with heap:=s.heap.push {cls:=.type "list",data:=.seq its.toArray},toks:=t'}:=
 I.laid (λ_ _ q=>Ev _ q) (Rs _) #[hz,_,0,hv,Sc _ rfl]
def Inv.fresh(I:Inv X zG Z H s):H s.heap.objs.size=k_:=I.hok.fresh^Rs _
def Inv.lstM(I:Inv X zG Z H s)(hH:H l=P3^.lst xs):xs.length<=sizeLine/\∃(its:n_ Db) (n:Nat),Vals xs its/\xs.length=its.length/\s.heap.get? l=P3 {cls:=.type "list",data:=.seq its.toArray n}:=by
 let#[z,its,n,r,e]:=I.hok l _ hH;exact#[z,_,n,r,r.length,e]
end
section
variable {X:Cx}
noncomputable def QL:V->n_ V->Hp->VK->Prop:=λx vs H Q=>∃l xs y,x=.ref l/\vs=[y]/\H l=P3^.lst xs/\xs.length<sizeLine/\Q .non^Aq H l^.lst (xs++[y])
def CG:bc X "list.append" QL:=by
 intro zG s Z H x vs v us Q I rx rv h;let#[l,xs,y,rfl,rfl,hH,hz,q]:=h;cases rx;let#[u,rfl,ru]:=rv.one;let#[z,its,n,r,hl,e]:=I.lstM hH;refine call_meets F.slot_list_append #[_,e,rfl] F.entry_list_append (F.args_list_append_2 _ _) (PySem.list_append l _ n u^by grind) #[e,?_];refine#[.non,_,I.lset hH e (by simp) (r.append^.cons ru .nil) ?_,rfl,q]
 grind
noncomputable def Tl:V->n_ V->Hp->VK->Prop:=λx vs H Q=>∃l xs,x=.ref l/\vs=[]/\H l=P3^.lst xs/\Q .non^Aq H l^.lst []
def UI:bc X "list.clear" Tl:=by
 intro zG s Z H x vs v us Q I rx rv h;let#[l,xs,rfl,rfl,hH,q]:=h;cases rx;have hus:=rv.zero;subst hus;let#[z,its,n,r,hl,e]:=I.lstM hH;exact call_meets F.slot_list_clear #[_,e,rfl] F.entry_list_clear (F.args_list_clear_1 _) (AutoSeq1.list_clear_list_0 l _ n^by grind) #[e,#[.non,_,I.lset hH e rfl .nil (cB _),rfl,q]]
end
end L2
namespace Att
open PySem.W PySem.Calls
def Hk{P:Params}{h:cA}:∀(ns:n_ Int) (vs:n_ Db),WellAll P h vs^ns.map WData.int->IntsAre vs ns:=by
 intro ns
 induction ns with
 |nil=>
  intro vs w;cases w;exact .nil
 | cons n ns ih=>
  intro vs w;cases w with
  |cons a b=>
   cases a;exact .cons _ _^ih _ b
def RF{l:OpenLaw}{n:Nat}(hn:l.most=P3 n){P:Params}{h:cA}{args:n_ WData}{vals:n_ Db}
  (hpre:l.row.toRowW.claim.pre args=l_) (hwl:WellAll P h vals args):
  ∃a vs ns,vals=[b_ a]/\args=[WData.list^ns.map WData.int]/\h.get? a=P3 {cls:=.type "list",data:=.seq vs.toArray}/\IntsAre vs ns/\ns.length<=n:=by
 have hsh:WShape.hasAll [] args [.list .int]=l_:=(pre_splitW hpre).1;have hc:l.pre.holds [] {args:=args}=l_:=(pre_splitW hpre).2;let#[d,r,rfl,h1,h2]:=hasAllW_cons hsh;obtain rfl:=hasAllW_nil h2;let#[xs,rfl,h3]:=hasW_list h1;let#[ns,rfl]:=items_int h3
 have hlen:ns.length<=n:=by
  unfold OpenLaw.pre at hc
  have h4:(WTm.not^.lt (.lit^.int (n:Int))^.len^.arg 0).holds [] {args:=[.list^ns.map .int]}=l_:=by
   have h4:=(holds_andW hc).1
   grind
  have h5:=condW_of h4^w_not^w_lt w_lit^w_len_list (w_arg rfl)
  grind
 cases hwl with
 |cons w1 w2=>
  cases w2;cases w1 with
  |list ho hall=>exact#[_,_,ns,rfl,rfl,ho,Hk ns _ hall,hlen]
def RY(l:OpenLaw)(args:n_ WData):l.row.toRowW.claim.post args (.bool l_) args=l_:=
 postW_of
  (show WShape.has [] _ _=l_ by first|rfl|decide|omega)
  (w_eq_bool (w_res rfl) w_lit) rfl
def attach_call{l:OpenLaw}{n:Nat}{q:cH}{loose:n_ Str}{XP:(Str->o_ Db)->cA->Prop}{YP:cN->cA->Prop}{d:DefRec}
  (hn:l.most=P3 n) (hdf:d.params.defaults=[])
  (call:∀(w:cN) (s₀ s₁:Go) (mg mb:Str->o_ Db) (fa:Ch) (o:Obj) (pm cd doc:Db) (a:Ch) (vs:n_ Db) (ns:n_ Int),
   Ground q loose [] XP w s₀ mg mb s₁.heap->YP w s₁.heap->
   s₁.heap.get? fa=P3 o->o.data=.func^docDef d.name d.params d.body d.scope pm cd doc->s₁.heap.CodeRec cd d.name->mg d.name=P3^.ref fa->
   s₁.heap.get? a=P3 {cls:=.type "list",data:=.seq vs.toArray}->IntsAre vs ns->ns.length<=n->s₁.gens=#[]->
   codeAny (model l.prog w) callerA (.call (.ref fa) #[[.ref a],[]]) (λr s'=>r=.ok^.ret^.bool l_/\OldK s₁.heap s'.heap/\s'.os=s₁.os/\gE s'.gens) s₁):
  WalkO q loose XP YP l.row.toRowW d [] (λf vs=>PySem.call f vs):=by
 intro w s₀ s₁ mg mb G Y fa o pm cd doc dV kV ho hd hcd hD hmg hg args vals as hpre hlay hrd hwl hlo;obtain rfl:dV=.none:=Dflts.none hD hdf;obtain rfl:kV=.none:=Dflts.noKw hD;let#[a,vs,ns,rfl,rfl,hobj,hints,hlen]:=RF hn hpre hwl;refine enter_call^f9 (call w s₀ s₁ mg mb fa o pm cd doc a vs ns G Y ho (fd_plain hd) hcd hmg hobj hints hlen hg) λr s' hq=>?_;let#[rfl,h2,h3,h4]:=hq;exact#[.inl #[.bool l_,.bool l_,[],rfl,λ_=>rfl,.bool l_,RY l _,λ_=>#[List.Pairwise.nil,λ_ hm=>(nomatch hm)]],h2,h3,h4]
end Att
namespace L2
theorem Kp:∀{vs:n_ Db}{ns:n_ Int},IntsAre vs ns->Vals (ns.map V.int) vs
 |_,_,.nil=>.nil
 |_,_,.cons n t h=>.cons #[t,rfl]^Kp h
noncomputable def Y1(H:Hp):Prop:=∀b,H b=k_\/∃o xs,H b=P3^.frz o^.lst xs
def UR{P:cH}{w:cN}{K:Frag}{mg mb:Str->o_ Db}{CX:VO}{k:Nat}{fa a:Ch}{fd:cv}{x:Str}{sp:Sp}{s₁:Go}{vs:n_ Db}{ns:n_ Int}
  (KX:K.In s₁.heap) (hns:s₁.heap.Ns mainGlobals mg) (hb:s₁.heap.Ns builtinsNs mb) (hbb:∀x:Str,x ≠ "__name__"->mb x=bootBuiltins x) (hlim:s₁.heap.NoLimit) (hg:s₁.gens=#[])
  (ha:s₁.heap.get? a=P3 {cls:=.type "list",data:=.seq vs.toArray}) (hi:IntsAre vs ns) (hl:ns.length<=sizeLine) (hr:Room k callerA)
  (F:∀base:cA,K.In base->base.Ns mainGlobals mg->FnOk P w K mg base CX k fa fd [x] sp) (hbind:∀(s:Go) (u:Db),iR s fd #[[u],[]] [(x,u)])
  (hsp:∀H:Hp,Y1 H->SqL K H a^ns.map V.int->sp [.ref a] H (λv _=>v=.bl l_) λ_ _ _=>False)
  (hCX:∀H e s',CX [] H s₁ (λ_ _ _=>False) e s'->False):
  codeAny (model P w) callerA (.call (.ref fa) #[[.ref a],[]]) (λr s'=>r=.ok^.ret^.bool l_/\OldK s₁.heap s'.heap/\s'.os=s₁.os/\gE s'.gens) s₁:=by
 have rv:=Kp hi;have lenV:=hi.length
 have core:∀H:Hp,Y1 H->SqL K H a^ns.map V.int->HOk P w H s₁.heap->(∀b,H b≠k_->b=a)->(H a≠k_->K.lookup a=k_)->
   codeAny (model P w) callerA (.call (.ref fa) #[[.ref a],[]]) (λr s'=>r=.ok^.ret^.bool l_/\OldK s₁.heap s'.heap/\s'.os=s₁.os/\gE s'.gens) s₁:=by
  intro H hO hS hok hA hK;have base_of:∀{b:Ch}{o:Obj},s₁.heap.get? b=P3 o->H b=k_->(MP s₁.heap H).get? b=P3 o:=λe n=>Ud e n
  have noA:∀{b:Ch}{o:Obj}{es:Array fK}{ep:Nat},s₁.heap.get? b=P3 o->o.data=.dict es ep->H b=k_:=λ{b o es ep} e d=>by
   cases q:H b with
   |none=>rfl
   |some u=>
    have e':b=a:=hA b (by rw[q];simp);subst e';rw[ha]at e;cases e
    have d':Data.seq vs.toArray _=Data.dict es ep:=d;cases d'
  have nsK:∀{b:Ch}{m:Str->o_ Db},s₁.heap.Ns b m->(MP s₁.heap H).Ns b m:=λ{b m} #[o,es,ep,e,d,r]=>#[o,es,ep,base_of e^noA e d,d,r]
  have hKb:K.In^MP s₁.heap H:=λb o e=>base_of (KX b o e) (by
   cases q:H b with
   |none=>rfl
   |some u=>
    have e':b=a:=hA b (by rw[q];simp);subst e';rw[hK^by rw[q];simp]at e;cases e)
  have hM:Mod K mg^MP s₁.heap H:=#[hKb,nsK hns,#[mb,nsK hb,hbb],let #[mc,h1,h2]:=hlim;#[mc,nsK h1,h2]];have e0:Env0 P w K mg (MP s₁.heap H) callerA [] s₁ H:=#[rfl,hM,λb o e=>V2 e,gl^SA _ _,trivial,λb hb=>absurd (show b∈([]:n_ Ch)from hb)^by simp,hok,.of_eq hg];refine f9 ((F _ hKb^nsK hns).run callerA [] s₁ H #[[.ref a],[]] [.ref a] [.ref a] _ _ hr e0 (hbind s₁^.ref a) (.cons rfl .nil)^hsp H hO hS) λr s' h=>?_;cases r with
  |error e=>exact(hCX H e s' h).elim
  | ok fl=>
   cases fl with
   |next=>exact cz h
   |brk=>exact cz h
   |cont=>exact cz h
   | ret u=>
    let#[v,H',os,bare,un,hok',r',q]:=h;have q':v=.bl l_:=q;subst q';obtain rfl:u=fh l_:=r';refine#[rfl,OldK.of_keep λb o e=>?_,os,bare];cases q:H b with
    |none=>exact un.keep b o e q (by intro z;exact absurd (show b∈([]:n_ Ch)from z)^by simp)^by simp
    | some u=>
     rcases hO b with z|⟨ob,xs,z⟩
     .rw[q]at z;cases z
     .have z2:=un.frzs b ob _ z
      let#[e1,_]:=hok b _ z;let#[e2,_]:=hok' b _ z2;rw[e]at e1;cases e1
      exact e2
 cases hk:K.lookup a with
 |some o=>
  have e:=KX a o hk;rw[ha]at e;cases e;refine core (λ_=>k_) (λ_=>.inl rfl) (.inr #[_,vs.toArray,_,hk,rfl,rfl,rfl,by rw[b7,lenV];exact hl,by simpa using rv]) (λb u z=>by have z':(k_:o_ HO)=P3 u:=z;cases z') (λb z=>absurd rfl z) λz=>absurd rfl z
 | none=>
  refine core (λb=>if b=a then P3^.frz {cls:=.type "list",data:=.seq vs.toArray}^.lst^ns.map V.int else k_) (λb=>?_) (.inl^.inr #[{cls:=.type "list",data:=.seq vs.toArray},if_pos rfl]) (λb u z=>?_) (λb z=>?_) λ_=>hk
  .by_cases hb:b=a
   .exact .inr #[_,_,if_pos hb]
   .exact .inl^if_neg hb
  .by_cases hb:b=a
   .have z':=(if_pos hb).symm.trans z
    cases z';subst hb;exact#[ha,by rw[FM];exact hl,vs,_,rv,ha]
   .have z':=(if_neg hb).symm.trans z
    cases z'
  .by_cases hb:b=a
   .exact hb
   .exact absurd (if_neg hb) z
def P6{l:PySem.W.OpenLaw}{n k:Nat}{q:cH}{loose:n_ Str}{XP:(Str->o_ Db)->cA->Prop}{YP:cN->cA->Prop}{d:DefRec}{K:Params->Frag}{CX:cN->VO}{sp:cN->Sp}{x:Str}
  (hn:l.most=P3 n) (hn2:n<=sizeLine) (hdf:d.params.defaults=[]) (hr:Room k callerA)
  (hY:∀(w:cN) (h:cA),YP w h->(K w.params).In h)
  (F:∀(w:cN) (mg:Str->o_ Db) (fa:Ch) (h:cA),(K w.params).In h->h.Ns mainGlobals mg->mg d.name=P3^.ref fa->
   ∃fd:cv,(∀(s:Go) (u:Db),iR s fd #[[u],[]] [(x,u)]) /\
    ∀base:cA,(K w.params).In base->base.Ns mainGlobals mg->FnOk l.prog w (K w.params) mg base (CX w) k fa fd [x]^sp w)
  (hsp:∀(w:cN) (H:Hp) (a:Ch) (ns:n_ Int),ns.length<=n->Y1 H->SqL (K w.params) H a^ns.map V.int->sp w [.ref a] H (λv _=>v=.bl l_) λ_ _ _=>False)
  (hCX:∀(w:cN) (H:Hp) (s:Go) (e:Db) (s':Go),CX w [] H s (λ_ _ _=>False) e s'->False):
  PySem.W.WalkO q loose XP YP l.row.toRowW d [] (λf vs=>PySem.call f vs):=by
 refine Att.attach_call hn hdf λw s₀ s₁ mg mb fa o pm cd doc a vs ns G Y ho hd hcd hmg hobj hints hlen hg=>?_;have KX:=hY w _ Y;let#[fd,hb,hF]:=F w mg fa _ KX G.T.g hmg;exact UR KX G.T.g G.T.b G.T.builtins G.T.nolimit hg hobj hints (cG hlen hn2) hr hF hb (λH hO hS=>hsp w H a ns hlen hO hS) λH e s'=>hCX w H _ e s'
end L2
/- THE LAST THEOREM (shape;LID,My.* are yours):
   My.Adr:a structure of the addresses that your layer names (classes,functions);My.Txt K t:a structure (Prop) of the equations over K;
   My.txt_mk:{K}{implicit addresses ..} (e1:nsIn K mainGlobals "law"=P3^P3^.ref f) (e2:K.lookup f=P3 #[oc,od,.func^fnOf "law" "law" params body scope dV kV doc pm an cdv ct,sl]) (e3:codeIn K cdv "law"=l_) ..:∃ t,My.Txt K t
set_option maxRecDepth 100000 in
set_option maxHeartbeats 0 in
def PySem.Challenge.cw_LID_holds:PySem.Challenge.rw_LID.Holds:=by
 w_on;o_law;k_head;(case hw=>w_witness2)
 k_fill
 refine L2.P6 (l:=PySem.Challenge.rw_LID) (n:=63) (k:=40) (x:="script") (CX:=λw=>..) (sp:=λ_=>My.sp_law) rfl (by cbv) rfl #[rfl,by cbv,by cbv] (λw h Y=>PySem.W.kIn_of Y) ?F ?S ?C
 case F=>
  intro w mg fa h KX G hmg
  have T:∃t,My.Txt (L2.KOf KX) t:=by
   dsimp only[L2.KOf] -- K must stand as «<heap const> w.params» for k_is
   refine' My.txt_mk ?e1 ?e2 ?e3 ..
   (case e1=>PySem.W.k_is) -- in the order:a name->its address->its object->its parts
   (case e2=>PySem.W.k_is)
   ..
  let#[t,T]:=T;have e0:=hmg.symm.trans^mg_of KX G T.law;cases e0 -- fa is the law's own address;exact#[_,λs u=>.of_eq rfl,λbase kb nb=>My.law_fn T kb nb] -- if «.of_eq rfl» comes too early:refine' #[_,?b,λbase kb nb=>My.law_fn T kb nb];exact λs u=>.of_eq rfl
 case S=>exact λw H a ns hl hO hS=>..
 case C=>exact ..
(the tactic k_is has no namespace:write k_is) -/
namespace L2
noncomputable def By(s:cS):Arguments:=match s with
 |.FunctionDef _ a _ _ _ _ _ _ _ _=>a
 |_=>{posonlyargs:=[],args:=[],vararg:=k_,kwonlyargs:=[],kw_defaults:=[],kwarg:=k_,defaults:=[]}
noncomputable def BM(s:cS):n_ cS:=match s with
 |.FunctionDef _ _ b _ _ _ _ _ _ _=>b
 |_=>[]
noncomputable def AJ(s:cS):eS:=match s with
 |.FunctionDef _ _ _ _ _ _ sc _ _ _=>sc
 |_=>{kind:=.function,names:=[],isGenerator:=m_,isCoroutine:=m_}
noncomputable abbrev Fb:VO:=λ_ _ _ _ _ _=>False
noncomputable abbrev E0:XK:=λ_ _ _=>False
def JG{X:Cx}:EU Fb X E0:=λ_ _ _ _ _ _ _ h=>h.elim
structure Fun (K:Frag) (x qual:Str) (st:cS) (f:Ch) (fd:cv):Prop where
 ex:∃(oc:Db) (od:Option Ch) (kV doc pm:Db) (an:Option Ch) (cdv ct:Db) (osl:Array^Option Db),
  fd=fnOf x qual (By st) (BM st) (AJ st) .none kV doc pm an cdv ct/\K.lookup f=P3 #[oc,od,.func fd,osl]/\codeIn K cdv qual=l_
 kp:keepIn K^.ref f=l_
section
variable {P:Program}{w:World}{K:Frag}{mg:Str->o_ Value}{base:Heap}
def Fun.ok{x qual:Str}{st:cS}{f:Ch}{fd:cv}{N ps:n_ Str}{k:Nat}{sp:Sp}(F:Fun K x qual st f fd)(S:AZ N ps^AJ st)(len:∀vs H Q E,sp vs H Q E->vs.length=ps.length)
  (hbody:∀(cdv:Db) (A:cW) (outer:n_ Env) (s:Go) (H:Hp) (vs:n_ V) (Q:VK) (E:XK),Room k^A.deeper^envOfC qual (AJ st) s.heap.objs.size f cdv->sp vs H Q E->
   ∃t,PSs (Jo Fb P w K mg base N qual (AJ st) f cdv A outer s H E).nox (BM st) t/\t {nx:=λ_ H'=>Q .non H',rt:=Q} (start N vs) H):FnOk P w K mg base Fb (k+1) f fd ps sp:=by
 let#[oc,od,kV,doc,pm,an,cdv,ct,osl,rfl,lk,hcd]:=F.ex;refine Zy lk hcd S len λA outer s H vs Q E hr hsp=>?_;let#[t,h,q]:=hbody _ A _ s H vs Q E hr hsp;exact#[t,h.nox,q]
def Fun.binds{x qual:Str}{st:cS}{f:Ch}{fd:cv}{ps:n_ Str}(F:Fun K x qual st f fd)
  (h:∀(kV doc pm:Db) (an:o_ Ch) (cdv ct:Db) (us:n_ Db),us.length=ps.length->bindArgs (fnOf x qual (By st) (BM st) (AJ st) .none kV doc pm an cdv ct) #[us,[]]=pure^ps.zip us):Binds K fd ps []:=by
 let#[oc,od,kV,doc,pm,an,cdv,ct,osl,rfl,lk,hcd]:=F.ex;exact .all^h kV _ pm an _ ct
def MQ{x qual:Str}{st:cS}{f:Ch}{oc:Db}{od an:o_ Ch}{osl:Array^o_ Db}{kV doc pm cdv ct:Db}(l:K.lookup f=P3 #[oc,od,.func^fnOf x qual (By st) (BM st) (AJ st) .none kV doc pm an cdv ct,osl])
  (c:codeIn K cdv qual=l_) (k:keepIn K^.ref f=l_):Fun K x qual st f^fnOf x qual (By st) (BM st) (AJ st) .none kV doc pm an cdv ct:=#[#[oc,od,kV,_,pm,an,_,ct,_,rfl,l,c],k]
end
def F7{A:cW}{k:Nat}(hr:Room k A):A.units+1<cLine:=eC (Nat.add_le_add_left (by cbv) _) hr.units
section
variable {X:Cx}
def pv(i:Nat){x:Str}{pos:Pos}(hN:autoParam (X.N[i]?=P3 x) zau3._auto_1)(hv:autoParam (Yx X.env.scope x) zau4._auto_1)(hd:autoParam ((x==("__debug__":Str))=m_) zau1._auto_1)
  (hcd:autoParam ((x==("__classdict__":Str))=m_) zau1._auto_1):PE X (.Name x pos)^Bu i:=L4 hN hv hd hcd
end
def Ce{A B:Prop}(h:B):if m_=l_ then A else B:=by
 grind
def Dt{A B:Prop}(h:A):if l_=l_ then A else B:=by
 grind
def Du{c A B:Prop}[Decidable c](h1:c->A)(h2:¬c->B):if c then A else B:=by
 grind
section
variable {κ:Type}[DecidableEq κ]
noncomputable def Cb(kvs:n_ (κ×V))(k:κ):o_ V:=(kvs.find? λkv=>decide (kv.1=k)).map (·.2)
noncomputable def putK(kvs:n_ (κ×V))(k:κ)(v:V):n_ (κ×V):=
 if(kvs.any λkv=>decide (kv.1=k))=l_ then kvs.map (λkv=>if kv.1=k then(kv.1,v)else kv)else kvs++[(k,v)]
def C7{p:κ×V}{r:n_ (κ×V)}{k:κ}(e:p.1=k):Cb (p::r) k=P3 p.2:=by simp[Cb,e]
def C8{p:κ×V}{r:n_ (κ×V)}{k:κ}(e:¬p.1=k):Cb (p::r) k=Cb r k:=by simp[Cb,e]
theorem NC(k:κ):∀kvs:n_ (κ×V),(kvs.any λkv=>decide (kv.1=k))=(Cb kvs k).isSome
 |[]=>rfl
 |p::r=>by
  rw[List.any_cons]
  by_cases e:p.1=k
  .simp[C7 e,decide_eq_true e,Bool.true_or]
  .rw[C8 e,decide_eq_false e];exact NC k r
def EA(kvs:n_ (κ×V))(k:κ)(v:V):(putK kvs k v).length<=kvs.length+1:=by
 unfold putK
 grind
def RelO.isSome_eq{o:o_ V}{u:o_ Db}(r:RelO o u):o.isSome=u.isSome:=by
 cases o with
 |none=>cases u with
  |none=>rfl
  |some _=>exact(r).elim
 |some _=>cases u with
  |none=>exact(r).elim
  |some _=>rfl
def RelO.getD{o:o_ V}{u:o_ Db}{d:V}{d':Db}(r:RelO o u)(rd:RelV d d'):RelV (o.getD d)^u.getD d':=by
 cases o with
 |none=>cases u with
  |none=>exact rd
  |some _=>exact(r).elim
 |some _=>cases u with
  |none=>exact(r).elim
  |some _=>exact r
def KV.val{kvs:n_ (κ×V)}{vs:n_ (κ×Db)}(r:KV kvs vs)(k:κ):RelO (Cb kvs k)^valueAt vs k:=by
 induction r with
 |nil=>exact df
 | @cons p q ps qs h t ih=>
  let#[h1,h2]:=h
  by_cases e:p.1=k
  .have e':=h1.symm.trans e
   have b:valueAt (q::qs) k=P3 q.2:=by simp[valueAt,e']
   rw[C7 e,b];exact h2
  .have e':¬q.1=k:=λz=>e^h1.trans z
   have b:valueAt (q::qs) k=valueAt qs k:=by simp[valueAt,e']
   rw[C8 e,b];exact ih
def KV.any{kvs:n_ (κ×V)}{vs:n_ (κ×Db)}(r:KV kvs vs)(k:κ):(kvs.any λkv=>decide (kv.1=k))=vs.any λkv=>decide (kv.1=k):=by
 induction r with
 |nil=>rfl
 |cons h t ih=>simp_all
def KV.repl{kvs:n_ (κ×V)}{vs:n_ (κ×Db)}(r:KV kvs vs)(k:κ){y:V}{u:Db}(ry:RelV y u):
  KV (kvs.map λkv=>if kv.1=k then(kv.1,y)else kv) (vs.map λkv=>if kv.1=k then(kv.1,u)else kv):=by
 induction r with
 |nil=>exact .nil
 |@cons p q ps qs h t ih=>
  refine .cons ?_ ih
  by_cases e:p.1=k
  .simp_all
  simp_all
def KV.put{kvs:n_ (κ×V)}{vs:n_ (κ×Db)}(r:KV kvs vs)(k:κ){y:V}{u:Db}(ry:RelV y u):KV (putK kvs k y)^stored vs k u:=by
 unfold putK stored;rw[r.any k]
 by_cases e:(vs.any λkv=>decide (kv.1=k))=l_
 .rw[if_pos e,if_pos e];exact r.repl k ry
 .rw[if_neg e,if_neg e];exact Paired.snoc r #[rfl,ry]
def KV.length{kvs:n_ (κ×V)}{vs:n_ (κ×Db)}(r:KV kvs vs):kvs.length=vs.length:=Paired.length r
end
def HQ{P:cH}{w:cN}{k:Key}{u:Db}(r:RelV (kV k) u):(A9 P w).is k u=l_:=by
 cases k with
 |inl i=>let#[t,e]:=(r);subst e;exact Nk P w i t
 |inr x=>let#[t,e]:=(r);subst e;exact Nj P w x t
theorem LF{P:cH}{w:cN}:∀{ks:n_ Key}{us:n_ Db},Vals (ks.map kV) us->ItemsAre (A9 P w) ks us
 |[],_,r=>by cases r;exact .nil
 |k::ks,_,r=>by
  cases r with
  |cons h t=>exact .cons (HQ h)^LF t
noncomputable abbrev KT(H:Hp):n_ (n_ Key×V)->n_ (n_ Key×Ch×Db)->Prop:=Paired λp q=>p.1=q.1/\H q.2.1=P3^.tup^p.1.map kV/\RelV p.2 q.2.2
def KT.val{H:Hp}{kvs:n_ (n_ Key×V)}{xs:n_ (n_ Key×Ch×Db)}(r:KT H kvs xs)(k:n_ Key):RelO (Cb kvs k) ((atKey xs k).map (·.2)):=by
 induction r with
 |nil=>exact df
 | @cons p q ps qs h t ih=>
  let#[h1,_,h2]:=h
  by_cases e:p.1=k
  .have e':=h1.symm.trans e
   have b:atKey (q::qs) k=P3 q.2:=by simp[atKey,e']
   rw[C7 e,b];exact h2
  .have e':¬q.1=k:=λz=>e^h1.trans z
   have b:atKey (q::qs) k=atKey qs k:=by simp[atKey,e']
   rw[C8 e,b];exact ih
def KT.repl{H:Hp}{kvs:n_ (n_ Key×V)}{xs:n_ (n_ Key×Ch×Db)}(r:KT H kvs xs)(k:n_ Key){y:V}{u:Db}(ry:RelV y u):
  KT H (kvs.map λkv=>if kv.1=k then(kv.1,y)else kv) (xs.map^putAt k u):=by
 induction r with
 |nil=>exact .nil
 |@cons p q ps qs h t ih=>
  refine .cons ?_ ih;unfold putAt
  by_cases e:p.1=k
  .simp_all
  simp_all
def KT.put{H:Hp}{kvs:n_ (n_ Key×V)}{xs:n_ (n_ Key×Ch×Db)}(r:KT H kvs xs)(k:n_ Key){b:Ch}{y:V}{u:Db}(hb:H b=P3^.tup^k.map kV)(ry:RelV y u):
  KT H (putK kvs k y) (storedH xs k b u):=by
 have e:(kvs.any λkv=>decide (kv.1=k))=(atKey xs k).isSome:=by
  rw[NC,(r.val k).isSome_eq,iI]
 unfold putK storedH;rw[e]
 by_cases q:(atKey xs k).isSome=l_
 .rw[if_pos q,if_pos q];exact r.repl k ry
 .rw[if_neg q,if_neg q];exact Paired.snoc r #[rfl,hb,ry]
def KT.keeps{H H':Hp}{kvs:n_ (n_ Key×V)}{xs:n_ (n_ Key×Ch×Db)}(r:KT H kvs xs)(ht:∀b ys,H b=P3^.tup ys->H' b=P3^.tup ys):KT H' kvs xs:=
 Paired.mapP r λ_ _ z=>#[z.1,ht _ _ z.2.1,z.2.2]
section
variable {P:Program}{w:World}{H:Hp}{h:Heap}{a:Addr}
def Wu{u:HO}(ok:HOk P w H h)(e:Rd H a u):ObjOk P w H h a u:=e.ok ok
def E5{kvs:n_ (Key×V)}(ok:HOk P w H h)(e:Rd H a^.dK kvs):kvs.length<=sizeLine/\(a==sysModules)=m_/\∃vs,KV kvs vs/\h.DictOf (A9 P w) a vs:=
 Wu ok e
def XN{kvs:n_ (Key×V)}(ok:HOk P w H h)(e:H a=P3^.dK kvs):kvs.length<=sizeLine/\(a==sysModules)=m_/\∃vs,KV kvs vs/\h.DictOf (A9 P w) a vs:=E5 ok^.inl e
def EC{ks:n_ Key}(ok:HOk P w H h)(e:H a=P3^.tup^ks.map kV):(tupleKind^A9 P w).is h ks a:=by
 let#[_,its,r,o,h1,h2,n,h3,_]:=(ok a _ e);exact#[o,_,n,h1,h2,h3,by simpa using LF r]
def DL{kvs:n_ (n_ Key×V)}(ok:HOk P w H h)(e:Rd H a^.dT kvs):kvs.length<=sizeLine/\(a==sysModules)=m_ /\
  ∃xs,KT H kvs xs/\h.DictOfH (tupleKind^A9 P w) a xs:=by
 let#[z,y,xs,r,o,es,ep,h1,h2,h3,h4,h5]:=(Wu ok e);refine#[z,y,xs,r,o,es,ep,h1,h2,h3,h4,λx hx=>?_,h5]
 have all:∀{l:n_ _}{m:n_ _},KT H l m->∀x∈m,(tupleKind^A9 P w).is h x.1 x.2.1:=by
  intro l m q
  induction q with
  |nil=>grind
  |@cons p q ps qs hq t ih=>
   intro x hx
   rcases Uf.mp hx with e|hx
   .exact EC ok^by grind
   .exact ih x hx
 exact all r x hx
def XM{kvs:n_ (n_ Key×V)}(ok:HOk P w H h)(e:H a=P3^.dT kvs):kvs.length<=sizeLine/\(a==sysModules)=m_ /\
  ∃xs,KT H kvs xs/\h.DictOfH (tupleKind^A9 P w) a xs:=DL ok^.inl e
end
noncomputable def DGet(H:Hp)(a:Ch)(y:V)(r:o_ V):Prop:=
 (∃kvs k,Rd H a^.dK kvs/\y=kV k/\r=Cb kvs k)\/∃kvs k b,Rd H a^.dT kvs/\y=.ref b/\H b=P3^.tup^k.map kV/\r=Cb kvs k
noncomputable def DPut(H:Hp)(a:Ch)(y v:V)(H':Hp):Prop:=
 (∃kvs k,H a=P3^.dK kvs/\y=kV k/\kvs.length<sizeLine/\H'=Aq H a^.dK^putK kvs k v) \/
 ∃kvs k b,H a=P3^.dT kvs/\y=.ref b/\H b=P3^.tup^k.map kV/\kvs.length<sizeLine/\H'=Aq H a^.dT^putK kvs k v
theorem DGet.k{H:Hp}{a:Ch}{kvs:n_ (Key×V)}{k:Key}(e:H a=P3^.dK kvs):DGet H a (kV k)^Cb kvs k:=.inl #[_,k,.inl e,rfl,rfl]
theorem DPut.k{H:Hp}{a:Ch}{kvs:n_ (Key×V)}{k:Key}{v:V}(e:H a=P3^.dK kvs)(hl:kvs.length<sizeLine):DPut H a (kV k) v^Aq H a^.dK^putK kvs k v:=.inl #[_,k,e,rfl,hl,rfl]
def DPut.t{H:Hp}{a b:Ch}{kvs:n_ (n_ Key×V)}{k:n_ Key}{v:V}(e:H a=P3^.dT kvs)(eb:H b=P3^.tup^k.map kV)(hl:kvs.length<sizeLine):
  DPut H a (.ref b) v (Aq H a^.dT^putK kvs k v):=.inr #[_,k,b,e,rfl,eb,hl,rfl]
section
variable {X:Cx}{zG:n_ (Addr×Obj)}{Z:St}{H:Hp}{s:Shared}{a:Addr}{y v:V}{u r:Value}{o:o_ V}{A:Around}{E:Value->Shared->Prop}
def Inv.big(I:Inv X zG Z H s):sysModules<s.heap.objs.size:=Nat.lt_trans (by cbv) (I.mod.glob.keeps I.bk).lt
def SH{Q:Db->Go->Prop}(hu:A.units+1<cLine)(I:Inv X zG Z H s)(g:DGet H a y^P3 v)(ry:RelV y u)(h:∀w' s',Inv X zG Z H s'->RelV v w'->Q w' s'):
  wpAny (model X.prog X.w) A (getItem (.ref a) u) Q E s:=by
 rcases g with⟨kvs,k,e,ey,l⟩|⟨kvs,k,b,e,ey,eb,l⟩
 .subst ey
  let#[z,hd,vs,rel,dd]:=E5 I.hok e;let#[w',hw,rw']:=RelO.some_of (v:=v) (o:=valueAt vs k) (by rw[l];exact rel.val k);exact wpAny_getItem_of (HQ ry) dd.mapOf hw^h w' _ (I.tok _) rw'
 .subst ey
  cases(show u=b_ b from ry);let#[z,hd,xs,rel,dd]:=DL I.hok e;let#[w',hw,rw']:=RelO.some_of (v:=v) (o:=(atKey xs k).map (·.2)) (by rw[l];exact rel.val k);let#[p,hp,hp2]:=cU.mp hw;refine wpAny_getItem_heap (eE hu) (EC I.hok eb) dd hp ?_;rw[hp2];exact h w' _ (I.tok _) rw'
def bC{Q:Db->Go->Prop}(hu:A.units+1<cLine)(I:Inv X zG Z H s)(g:DGet H a y o)(ry:RelV y u)(h:∀s',Inv X zG Z H s'->Q (.bool o.isSome) s'):
  wpAny (model X.prog X.w) A (compareOp .In u^.ref a) Q E s:=by
 rcases g with⟨kvs,k,e,ey,l⟩|⟨kvs,k,b,e,ey,eb,l⟩
 .subst ey
  let#[z,hd,vs,rel,dd]:=E5 I.hok e;refine wpAny_in_of (HQ ry) hd dd.mapOf ?_;rw[←(rel.val k).isSome_eq,←l];exact h _^I.tok _
 .subst ey
  cases(show u=b_ b from ry);let#[z,hd,xs,rel,dd]:=DL I.hok e;refine wpAny_in_heap (eE hu) (EC I.hok eb) hd dd ?_;have q:=(rel.val k).isSome_eq;rw[iI]at q;rw[←q,←l];exact h _^I.tok _
def WW{Q:Db->Go->Prop}(hu:A.units+1<cLine)(I:Inv X zG Z H s)(g:DGet H a y o)(ry:RelV y u)(h:∀s',Inv X zG Z H s'->Q (.bool (!o.isSome)) s'):
  wpAny (model X.prog X.w) A (compareOp .NotIn u^.ref a) Q E s:=by
 rcases g with⟨kvs,k,e,ey,l⟩|⟨kvs,k,b,e,ey,eb,l⟩
 .subst ey
  let#[z,hd,vs,rel,dd]:=E5 I.hok e;refine wpAny_notIn_of (HQ ry) hd dd.mapOf ?_;rw[←(rel.val k).isSome_eq,←l];exact h _^I.tok _
 .subst ey
  cases(show u=b_ b from ry);let#[z,hd,xs,rel,dd]:=DL I.hok e;refine wpAny_notIn_heap (eE hu) (EC I.hok eb) hd dd ?_;have q:=(rel.val k).isSome_eq;rw[iI]at q;rw[←q,←l];exact h _^I.tok _
def IK{h':cA}{t':Nat}{ob:HO}(I:Inv X zG Z H s)(mu:aJ^H a)(hs:eV a s.heap h')(he:∃q,h'.get? a=P3 q)(new:ObjOk X.prog X.w (Aq H a ob) h' a ob):
  Inv X zG Z (Aq H a ob) {s with heap:=h',toks:=t'}:=
 I.write mu (.inl rfl) (λb q hb z=>(hs.2 b hb).trans z) he new
def Uv{P:cH}{w:cN}{H':Hp}{h':cA}{kvs:n_ (Key×V)}{vs:n_ (Key×Db)}(z:kvs.length<=sizeLine)(hd:(a==sysModules)=m_)(rel:KV kvs vs)(dd:h'.DictOf (A9 P w) a vs):
  ObjOk P w H' h' a (.dK kvs):=#[z,hd,vs,rel,dd]
def LK{H':Hp}{Q:Unit->Go->Prop}(hu:A.units+1<cLine)(I:Inv X zG Z H s)(g:DPut H a y v H')(ry:RelV y u)(rv:RelV v r)(h:∀s',Inv X zG Z H' s'->Q () s'):
  wpAny (model X.prog X.w) A (setItem (.ref a) u r) Q E s:=by
 rcases g with⟨kvs,k,e,ey,l,eH⟩|⟨kvs,k,b,e,ey,eb,l,eH⟩
 .subst ey eH
  let#[z,hd,vs,rel,dd]:=XN I.hok e;have hz:vs.length<=sizeLine:=by rw[←rel.length];exact z
  have hl:(putK kvs k v).length<=sizeLine:=by have:=EA kvs k v;lk
  refine wpAny_setItem_pairs (hsz:=hz) (HQ ry) dd λh' dd' hs=>h _ ?_;have he:∃q,h'.get? a=P3 q:=let #[q,_,_,hq,_]:=dd';#[q,hq]
  exact IK I (by rw[e];exact df) hs he^Uv hl hd (rel.put k rv) dd'
 .subst ey eH
  cases(show u=b_ b from ry);let#[z,hd,xs,rel,dd]:=XM I.hok e;have hz:xs.length<=sizeLine:=by rw[←Paired.length rel];exact z
  have hl:(putK kvs k v).length<=sizeLine:=by have:=EA kvs k v;lk
  refine wpAny_setItem_heap (hsz:=hz) (eE hu) (EC I.hok eb) dd λh' dd' hs=>h _ ?_;let#[q,es,ep,hq,h2,h3,h4,_,h5]:=dd';refine IK I (by rw[e];exact df) hs #[q,hq] #[hl,hd,_,(rel.put k eb rv).keeps λc ys ec=>?_,q,es,ep,hq,h2,h3,h4,h5];rw[AL^XB ec e λz=>nomatch z];exact ec
end
noncomputable def Wg(i:cJ):Prop:=∀ov iv,subscripted i m_ ov iv=operate [ov,iv]^getItem ov iv
def Vd{prog:cH}{w:cN}{A:cW}{E:Db->Go->Prop}{s:Go}{env:Env}{value slice:cJ}{pos:Pos}{T id:String}{Q:Db->Go->Prop}
  (hl:typeLookup (.type T) "__getitem__"=pure^P3^.builtin id) (hs:Wg slice)
  (h:wpAny (model prog w) A (eval value env) (λo s₁=>wpAny (model prog w) A (eval slice env) (λi s₂=>s₂.TypeIs o T/\wpAny (model prog w) A (getItem o i) Q E s₂) E s₁) E s):
  wpAny (model prog w) A (eval (.Subscript value slice pos) env) Q E s:=by
 refine Subscript_^c9 h (λo s₁ h₁=>c9 h₁ (λi s₂ h₂=>?_) λ_ _ x=>x) λ_ _ x=>x;let#[hT,h₂]:=h₂;refine Cn ?_;refine Cn^ic hT hl ?_
 first
  |exact On (Cn (by
  rw[hs o i];exact wpAny_operating^c9 h₂ (λr s₃ h₃=>Cn^wpAny_letTemporaryGo^On h₃) λ_ _ x=>x))
  |grind
  |grind
def N8{X:Cx}{zG:n_ (Ch×Obj)}{Z:St}{H:Hp}{s:Go}{a:Ch}{y:V}{o:o_ V}(I:Inv X zG Z H s)(g:DGet H a y o):s.TypeIs (.ref a) "dict":=by
 rcases g with⟨kvs,k,e,_,_⟩|⟨kvs,k,b,e,_,_,_⟩
 .let#[_,_,vs,_,dd]:=E5 I.hok e
  exact dd.typeIs
 .let#[_,_,xs,_,dd]:=DL I.hok e
  exact dd.typeIs
noncomputable def ZM(td ty:TE):TE:=λZ H Q=>td Z H λx H1=>ty Z H1 λy H2=>∃a v,x=.ref a/\DGet H2 a y^P3 v/\Q v H2
noncomputable def ZR(td ty tv:TE):TS:=λD Z H=>tv Z H λv H1=>td Z H1 λx H2=>ty Z H2 λy H3=>∃a H4,x=.ref a/\DPut H3 a y v H4/\D.nx Z H4
section
variable {X:Cx}{o i value:Expr}{pos pos':Pos}{td ty tv:TE}
def Hz(hu:X.A.units+1<cLine)(ho:PE X o td)(hi:PE X i ty)(hs:Wg i):PE X (.Subscript o i pos)^ZM td ty:=by
 intro zG s Z H Q I h;refine Vd PySem.F.slot_dict_getitem.lookup hs^BF (ho _ s Z H _ I h) λu s1 #[x,H1,I1,rx,q1]=>BF (hi _ s1 Z H1 _ I1 q1) λiv s2 #[y,H2,I2,ry,a,v,ex,g,q2]=>?_;subst ex;obtain rfl:u=b_ a:=rx;exact#[N8 I2 g,SH hu I2 g ry λw' s3 I3 rw'=>#[v,H2,I3,rw',q2]]
def Hy(hu:X.A.units+1<cLine)(ho:PE X o td)(hi:PE X i ty)(hv:PE X value tv)(hs:swapsWith value (P3^.Subscript o i pos') pos.line X.env=pure m_):
  PS X (.Assign [.Subscript o i pos'] value pos) (ZR td ty tv):=by
 intro zG s Z H D I h;refine wpAny_Assign_Subscript (BF (hv _ s Z H _ I h) λr s1 #[v,H1,I1,rv,q1]=>BF (ho _ s1 Z H1 _ I1 q1) λu s2 #[x,H2,I2,rx,q2]=>BF (hi _ s2 Z H2 _ I2 q2) λiv s3 #[y,H3,I3,ry,a,H4,ex,g,q3]=>?_) hs;subst ex;obtain rfl:u=b_ a:=rx;exact LK hu I3 g ry rv λs4 I4=>#[Z,H4,I4,q3]
end
def N7{P:cH}{w:cN}{H:Hp}(h:cA)(hb:sysModules<h.objs.size):ObjOk P w H (h.push {cls:=.type "dict",data:=.dict #[]}) h.objs.size^.dK []:=
 #[cB _,beq_eq_false_iff_ne.mpr^cY^b9 hb,[],.nil,Heap.DictOf.new h]
def Uu{P:cH}{w:cN}{H:Hp}(h:cA)(hb:sysModules<h.objs.size):ObjOk P w H (h.push {cls:=.type "dict",data:=.dict #[]}) h.objs.size^.dT []:=
 #[cB _,beq_eq_false_iff_ne.mpr^cY^b9 hb,[],.nil,_,_,0,Sc _ rfl,#[rfl,rfl,rfl],rfl,rfl,ci]
noncomputable def Xq:TE:=λ_ H Q=>∀p,H p=k_->Q (.ref p)^Aq H p^.dK []
noncomputable def Xp:TE:=λ_ H Q=>∀p,H p=k_->Q (.ref p)^Aq H p^.dT []
section
variable {X:Cx}{pos:Pos}
def JF:PE X (.Dict [] [] pos) Xq:=λzG s Z H Q I h=>
 wpAny_Dict_empty #[.ref _,_,I.laid (λ_ _ q=>Ev _ q) (Rs _)^N7 _ I.big,rfl,h _^I.hok.fresh^Rs _]
def T6:PE X (.Dict [] [] pos) Xp:=λzG s Z H Q I h=>
 wpAny_Dict_empty #[.ref _,_,I.laid (λ_ _ q=>Ev _ q) (Rs _)^Uu _ I.big,rfl,h _^I.hok.fresh^Rs _]
end
noncomputable def Ou:n_ (TE×TE)->St->Hp->(n_ (V×V)->Hp->Prop)->Prop
 |[],_,H,Q=>Q [] H
 |(tk,tv)::r,Z,H,Q=>tk Z H λx H1=>tv Z H1 λy H2=>Ou r Z H2 λps H3=>Q ((x,y)::ps) H3
noncomputable abbrev VV:n_ (V×V)->n_ (Db×Db)->Prop:=Paired λp q=>RelV p.1 q.1/\RelV p.2 q.2
noncomputable def aU(X:Cx)(pos:Pos)(keys:n_^o_ cJ)(values:n_ cJ)(trs:n_ (TE×TE)):Prop:=
 ∀(zG:n_ (Ch×Obj)) (s:Go) (Z:St) (H:Hp) (Q:n_ (V×V)->Hp->Prop),Inv X zG Z H s->Ou trs Z H Q->
  wpAny (model X.prog X.w) X.A (evalPairs^pairTrees keys values X.env pos) (λvs s'=>∃ps H',Inv X zG Z H' s'/\VV ps vs/\Q ps H') X.xe s
def QQ{X:Cx}{pos:Pos}:aU X pos [] [] []:=λzG s Z H Q I h=>pairTrees_nil_walk #[[],H,I,.nil,h]
def JC{X:Cx}{pos:Pos}{k v:cJ}{ks:n_^o_ cJ}{vs:n_ cJ}{tk tv:TE}{trs:n_ (TE×TE)}(hk:PE X k tk)(hv:PE X v tv)(hr:aU X pos ks vs trs):
  aU X pos (P3 k::ks) (v::vs) ((tk,tv)::trs):=λzG s Z H Q I h=>
 pairTrees_cons_walk (BF (hk _ s Z H _ I h) λu s1 #[x,H1,I1,rx,q1]=>BF (hv _ s1 Z H1 _ I1 q1) λw2 s2 #[y,H2,I2,ry,q2]=>
  BF (hr _ s2 Z H2 _ I2 q2) λws s3 #[ps,H3,I3,rel,q3]=>#[_,H3,I3,.cons #[rx,ry] rel,q3])
noncomputable def FQ(kvs more:n_ (Key×V)):n_ (Key×V):=more.foldl (λacc kv=>putK acc kv.1 kv.2) kvs
def KV.merge:∀{more:n_ (Key×V)}{rs:n_ (Key×Db)}{kvs:n_ (Key×V)}{vs:n_ (Key×Db)},KV more rs->KV kvs vs->KV (FQ kvs more)^merged vs rs:=by
 intro more rs kvs vs r
 induction r generalizing kvs vs with
 |nil=>intro q;exact q
 | @cons p q ps qs h t ih=>
  intro r0
  exact ih (by
   have:=r0.put p.1 h.2
   simp_all)
theorem E4:∀(more kvs:n_ (Key×V)),(FQ kvs more).length<=kvs.length+more.length
 |[],kvs=>by show kvs.length<=kvs.length+0;lk
 |p::r,kvs=>by
  have h1:=E4 r^putK kvs p.1 p.2;have h2:=EA kvs p.1 p.2;show(FQ _ r).length<=_
  grind
theorem Jr{P:cH}{w:cN}:∀{kvs:n_ (Key×V)}{ws:n_ (Db×Db)},VV (kvs.map λkv=>(kV kv.1,kv.2)) ws->∃rs,Carries (A9 P w) ws rs/\KV kvs rs
 |[],_,r=>by cases r;exact#[[],df,.nil]
 | p::kvs,_,r=>by
  cases r with
  |@cons a b as bs h t=>
   let#[rs,c,q]:=Jr t;let#[b1,b2]:=b;exact#[(p.1,b2)::rs,#[HQ h.1,rfl,c],.cons #[rfl,h.2] q]
noncomputable def ZL(trs:n_ (TE×TE)):TE:=λZ H Q=>∀p,H p=k_->Ou trs Z (Aq H p^.dK []) λps H2=>H2 p=P3^.dK []/\∃kvs:n_ (Key×V),ps=kvs.map (λkv=>(kV kv.1,kv.2))/\kvs.length<=15/\Q (.ref p)^Aq H2 p^.dK^FQ [] kvs
def QU{X:Cx}{pos:Pos}{keys:n_^o_ cJ}{values:n_ cJ}{trs:n_ (TE×TE)}(h:aU X pos keys values trs)(hall:keys.all (·.isSome)=l_)(hl:keys.length=values.length)(h0:keys≠[])
  (h15:keys.length<=15):PE X (.Dict keys values pos)^ZL trs:=by
 intro zG s Z H Q I q;have hn:=I.hok.fresh^Rs s.heap.objs.size;have I1:=I.laid (a:=s.heap.objs.size) (o:=.dK []) (h':=s.heap.push {cls:=.type "dict",data:=.dict #[]}) (t':=s.toks) (λ_ _ q=>Ev _ q) (Rs _)^N7 s.heap I.big;refine wpAny_Dict_walk (knd:=A9 X.prog X.w) hall hl h0 h15^BF (h zG _ Z _ _ I1^q _ hn) λws s2 #[ps,H2,I2,rel,e,kvs,ep,lk,q2]=>?_;subst ep;let#[rs,c,rk]:=Jr (P:=X.prog) (w:=X.w) rel;let#[z,hd,vs0,r0,dd]:=XN I2.hok e;cases r0;refine#[rs,c,dd,λh' dd' hs=>#[.ref s.heap.objs.size,_,?_,rfl,q2]]
 have hz:(FQ [] kvs).length<=sizeLine:=by
  have h1:=E4 kvs [];rw[dR]at h1;rw[cZ];lk
 have he:∃q,h'.get? s.heap.objs.size=P3 q:=let #[q,_,_,hq,_]:=dd';#[q,hq]
 exact IK I2 (by rw[e];exact df) hs he^Uv hz hd (rk.merge .nil) dd'
structure M1 (X:Cx) (o:cJ) (m:Str) (apos:Pos) (e:cJ) (cpos:Pos):Prop where
 base:attributeBase o m X.env^eval o X.env=eval o X.env
 few:((backTo cpos^starEach [e] X.env).all (λx=>!x.1)&&(backToKw cpos^keywordEach [] X.env).all (λx=>x.1.isSome)
  && decide (([e]:List cJ).length+([]:List fX).length+(if([]:List fX).isEmpty then 0 else 1)<30))=l_
 line:(apos.endLine==cpos.line)=l_
 trees:backTo cpos^starEach [e] X.env=[(m_,eval e X.env)]
structure M2 (X:Cx) (o:cJ) (m:Str) (apos:Pos) (e f:cJ) (cpos:Pos):Prop where
 base:attributeBase o m X.env^eval o X.env=eval o X.env
 few:((backTo cpos^starEach [e,f] X.env).all (λx=>!x.1)&&(backToKw cpos^keywordEach [] X.env).all (λx=>x.1.isSome)
  && decide (([e,f]:List cJ).length+([]:List fX).length+(if([]:List fX).isEmpty then 0 else 1)<30))=l_
 line:(apos.endLine==cpos.line)=l_
 trees:backTo cpos^starEach [e,f] X.env=[(m_,eval e X.env),(m_,eval f X.env)]
noncomputable def aW(H:Hp)(a:Ch):Prop:=(∃kvs,Rd H a^.dK kvs)\/∃kvs,Rd H a^.dT kvs
def Pb{X:Cx}{zG:n_ (Ch×Obj)}{Z:St}{H:Hp}{s:Go}{a:Ch}(I:Inv X zG Z H s)(d:aW H a):
  s.TypeIs (.ref a) "dict"/\(∀b,b_ a=.ref b->∃ob,s.heap.get? b=P3 ob/\ob.dict=k_)/\(a==sysModules)=m_:=by
 rcases d with⟨kvs,e⟩|⟨kvs,e⟩
 .let#[_,hd,vs,_,dd]:=E5 I.hok e
  refine#[dd.typeIs,λb q=>?_,hd];cases q;let#[ob,_,_,h1,h2,_]:=dd;exact#[ob,h1,h2.2.1]
 .let#[_,hd,xs,_,dd]:=DL I.hok e
  refine#[dd.typeIs,λb q=>?_,hd];cases q;let#[ob,_,_,h1,h2,_]:=dd;exact#[ob,h1,h2.2.1]
section
variable {X:Cx}{zG:n_ (Addr×Obj)}{Z:St}{H:Hp}{s:Shared}{a:Addr}{y d:V}{u r:Value}{o:o_ V}{A:Around}{E:Value->Shared->Prop}
def Yk{Q:Db->Go->Prop}(hu:A.units+1<cLine)(I:Inv X zG Z H s)(g:DGet H a y o)(ry:RelV y u)(h:∀w' s',Inv X zG Z H s'->RelV (o.getD .non) w'->Q w' s'):
  wpAny (model X.prog X.w) A (call (.builtin "dict.get") [.ref a,u]) Q E s:=by
 rcases g with⟨kvs,k,e,ey,l⟩|⟨kvs,k,b,e,ey,eb,l⟩
 .subst ey
  let#[z,hd,vs,rel,dd]:=E5 I.hok e;refine fY PySem.F.slot_dict_get dd.typeIs PySem.F.entry_dict_get (PySem.F.args_dict_get_2 _ _) (meets_dict_get (A9 X.prog X.w) a (HQ ry) hd) #[_,dd.mapOf,h _ _ (I.tok _) ?_];rw[l];exact(rel.val k).getD rfl
 .subst ey
  cases(ry);let#[z,hd,xs,rel,dd]:=DL I.hok e;refine fY PySem.F.slot_dict_get dd.typeIs PySem.F.entry_dict_get (PySem.F.args_dict_get_2 _ _) (meetsH_dict_get _ a b hd) #[eE hu,k,xs,EC I.hok eb,dd,h _ _ (I.tok _) ?_];rw[l];exact(rel.val k).getD rfl
def Yj{Q:Db->Go->Prop}(hu:A.units+1<cLine)(I:Inv X zG Z H s)(g:DGet H a y o)(ry:RelV y u)(rd:RelV d r)(h:∀w' s',Inv X zG Z H s'->RelV (o.getD d) w'->Q w' s'):
  wpAny (model X.prog X.w) A (call (.builtin "dict.get") [.ref a,u,r]) Q E s:=by
 rcases g with⟨kvs,k,e,ey,l⟩|⟨kvs,k,b,e,ey,eb,l⟩
 .subst ey
  let#[z,hd,vs,rel,dd]:=E5 I.hok e;refine fY PySem.F.slot_dict_get dd.typeIs PySem.F.entry_dict_get (PySem.F.args_dict_get_3 _ _ _) (meets_dict_get_default (A9 X.prog X.w) a (HQ ry) hd r) #[_,dd.mapOf,h _ _ (I.tok _) ?_];rw[l];exact(rel.val k).getD rd
 .subst ey
  cases(ry);let#[z,hd,xs,rel,dd]:=DL I.hok e;refine fY PySem.F.slot_dict_get dd.typeIs PySem.F.entry_dict_get (PySem.F.args_dict_get_3 _ _ _) (meetsH_dict_get_default _ a b hd r) #[eE hu,k,xs,EC I.hok eb,dd,h _ _ (I.tok _) ?_];rw[l];exact(rel.val k).getD rd
end
noncomputable def Xs(td ty:TE):TE:=λZ H Q=>td Z H λx H1=>∃a,x=.ref a/\aW H1 a/\ty Z H1 λy H2=>∃o,DGet H2 a y o/\Q (o.getD .non) H2
noncomputable def Xr(td ty tx:TE):TE:=λZ H Q=>td Z H λx H1=>∃a,x=.ref a/\aW H1 a/\ty Z H1 λy H2=>tx Z H2 λz H3=>∃o,DGet H3 a y o/\Q (o.getD z) H3
section
variable {X:Cx}{o e f:Expr}{apos cpos:Pos}{td ty tx:TE}
def T8(hu:X.A.units+1<cLine)(ho:PE X o td)(he:PE X e ty)(m:M1 X o "get" apos e cpos):PE X (.Call (.Attribute o "get" apos) [e] [] cpos)^Xs td ty:=by
 intro zG s Z H Q I h;refine wpAny_Call_method m.base m.few m.line PySem.F.plainAttrs_dict PySem.F.slot_dict_get PySem.F.type_dict_get^BF (ho _ s Z H _ I h) λu s1 #[x,H1,I1,rx,a,ex,d,q1]=>?_;subst ex;obtain rfl:u=b_ a:=rx;let#[t1,t2,_]:=Pb I1 d;refine#[t1,t2,?_];rw[m.trees];exact d9 rfl (fj^eW^BF (he _ s1 Z H1 _ I1 q1) λiv s2 #[y,H2,I2,ry,ov,g,q2]=>fV^Yk hu I2 g ry λw' s3 I3 rw'=>#[_,H2,I3,rw',q2])
def T7(hu:X.A.units+1<cLine)(ho:PE X o td)(he:PE X e ty)(hf:PE X f tx)(m:M2 X o "get" apos e f cpos):PE X (.Call (.Attribute o "get" apos) [e,f] [] cpos)^Xr td ty tx:=by
 intro zG s Z H Q I h;refine wpAny_Call_method m.base m.few m.line PySem.F.plainAttrs_dict PySem.F.slot_dict_get PySem.F.type_dict_get^BF (ho _ s Z H _ I h) λu s1 #[x,H1,I1,rx,a,ex,d,q1]=>?_;subst ex;obtain rfl:u=b_ a:=rx;let#[t1,t2,_]:=Pb I1 d;refine#[t1,t2,?_];rw[m.trees]
 exact d9 rfl (fj (eW (BF (he _ s1 Z H1 _ I1 q1) λiv s2 #[y,H2,I2,ry,q2]=>
  eW (BF (hf _ s2 Z H2 _ I2 q2) λfv s3 #[z,H3,I3,rz,ov,g,q3]=>fV^Yj hu I3 g ry rz λw' s4 I4 rw'=>#[_,H3,I4,rw',q3]))))
end
end L2
set_option maxHeartbeats 4000000
namespace L2
section
def Pn{env:Env}:∀(names:n_ (Str×eR)) (cs:n_ (Str×Ch)),(∀x,(x,cr)∈names->∃c,env.cells.lookup x=P3 c)->(∀x c,cs.lookup x=P3 c->env.cells.lookup x=P3 c)->
  ∃cl,(forIn names cs fun(x:Str×eR) (r:n_ (Str×Ch))=>(if(x.2==cr)=l_ then do let a ←cellOf env x.1;pure^fL ((x.1,a)::r) else pure^fL r:Sem^ForInStep^n_ (Str×Ch)))=(pure cl:Sem _) /\
   (∀x c,cl.lookup x=P3 c->env.cells.lookup x=P3 c)/\(∀x,((x,cr)∈names\/∃c,cs.lookup x=P3 c)->∃c,cl.lookup x=P3 c):=by
 intro names
 induction names with
 |nil=>
  intro cs _ h2;exact#[cs,rfl,h2,λx hx=>hx.elim (λz=>absurd z^by simp) λz=>z]
 | cons p r ih=>
  intro cs h1 h2;let#[n,k]:=p
  by_cases hk:k=cr
  .subst hk
   let#[c,hc]:=h1 n Re;have hcell:cellOf env n=pure c:=by simp only[cellOf,hc]
   let#[cl,e,a,b]:=ih ((n,c)::cs) (λx hx=>h1 x^TW _ hx) (λx c' hx=>by
    rw[fG]at hx;cases hb:x==n with
    |true=>
     rw[hb]at hx;have hx':P3 c=P3 c':=hx;cases hx'
     have:x=n:=by simpa using hb
     rw[this];exact hc
    |false=>rw[hb]at hx;exact h2 x c' hx)
   refine#[cl,?_,a,λx hx=>b x ?_]
   .rw[gp]
    simp only[beq_self_eq_true,if_true,hcell,pure_bind];exact e
   .by_cases hxn:x=n
    .subst hxn
     exact .inr #[c,by simp[fG]]
    .rcases hx with hx|⟨c',hx⟩
     .rcases Uf.mp hx with hx|hx
      .cases hx;exact absurd rfl hxn
      .exact .inl hx
     .refine .inr #[c',?_]
      have:(x==n)=m_:=by simpa using hxn
      rw[fG,this];exact hx
  .have hk':(k==cr)=m_:=by simpa using hk
   let#[cl,e,a,b]:=ih cs (λx hx=>h1 x^TW _ hx) h2;refine#[cl,?_,a,λx hx=>b x ?_]
   .rw[gp]
    simp only[hk',cm,if_false,pure_bind];exact e
   .rcases hx with hx|hx
    .rcases Uf.mp hx with hx|hx
     .cases hx;exact absurd rfl hk
     .exact .inl hx
    .exact .inr hx
def Jq{scope:eS}{env:Env}(h:∀x,(x,cr)∈scope.names->∃c,env.cells.lookup x=P3 c):
  ∃cl,closureFor scope env=pure cl/\(∀x c,cl.lookup x=P3 c->env.cells.lookup x=P3 c)/\(∀x,(x,cr)∈scope.names->∃c,cl.lookup x=P3 c):=by
 let#[cl,e,a,b]:=Pn _ [] h (λx c hx=>by simp at hx);refine#[cl,?_,a,λx hx=>b x^.inl hx];simp[closureFor]
 simp_all
variable {prog:Program}{w:World}{A:Around}{R:Result->Shared->Prop}{s:Shared}
def Mc{elt target iter:cJ}{ifs:n_ cJ}{scope:eS}{pos:Pos}{it acc:Db}{env:Env}(I:Nat->Go->Prop)
  (turn:∀n s,I n s->wpAny (model prog w) A (pyNext it) (λr s₁=>match r with
   |none=>R (.ok .next) s₁
   | some v=>wpAny (model prog w) A (letOwnedTupleGo target it v) (λ_ s₁'=>wpAny (model prog w) A (assign target env v) (λ_ s₂=>
     wpAny (model prog w) A (forIn ifs l_ λc r=>if r=l_ then do let ok ←isTrue c env^eval c env;pure^fL ok else pure^fL r) (λok s₃=>
      if ok=l_ then wpAny (model prog w) A (eval elt env) (λx s₄=>
       wpAny (model prog w) A (call (.builtin "list.append") [acc,x]) (λ_ s₅=>∃m,m<n/\I m s₅) (λ_ _=>False) s₄) (λ_ _=>False) s₃
      else ∃m,m<n/\I m s₃) (λ_ _=>False) s₂) (λ_ _=>False) s₁') (λ_ _=>False) s₁) (λ_ _=>False) s)
  (n:Nat) (h:I n s):
  codeAny (model prog w) A (.compLoop (.ListComp elt [#[target,iter,ifs,0]] scope pos) 0 it acc env) R s:=by
 refine codeAny_loop rfl I (λn s hI=>?_) n h;refine wpAny_noted ?_;refine Cn^wpAny_standAt^Cn^c9 (turn n s hI) (λr s₁ h₁=>?_) λ_ _ h'=>h'.elim;cases r with
 |none=>exact On h₁
 | some v=>
  refine Cn^c9 h₁ (λ_ s₁' h₁'=>?_) λ_ _ h'=>h'.elim;refine Cn^c9 h₁' (λ_ s₂ h₂=>Cn^c9 h₂ (λok s₃ h₃=>?_) λ_ _ h'=>h'.elim) λ_ _ h'=>h'.elim;cases ok with
  |false=>exact On #[rfl,h₃]
  |true=>
   exact Cn^Cn^c9 h₃ (λx s₄ h₄=>Cn^c9 h₄ (λ_ s₅ h₅=>On^On #[rfl,h₅]) λ_ _ h'=>h'.elim) λ_ _ h'=>h'.elim
end
noncomputable def Ay(X:Cx)(sc:eS)(N':n_ Str)(cl:n_ (Str×Ch))(C:Ch)(s:Go)(H:Hp)(ex:n_ Ch):Cx where
 prog:=X.prog
 w:=X.w
 K:=X.K
 mg:=X.mg
 base:=X.base
 A:=X.A
 N:=N'
 s₀:=s
 H₀:=H
 env:=compEnvC sc cl C X.env
 outer:=X.stack
 stack:=X.stack
 ex:=ex
 fn:=λ_=>m_
 calm:=l_
 pn:=[]
 xe:=λ_ _=>False
noncomputable def CH(js:n_^o_ Nat)(Z:St):St:=js.map λo=>match o with
 |some i=>(Z[i]?).getD k_
 |none=>k_
noncomputable def V_(o:o_ eR):Bool:=match o with
 |some .cell=>l_
 |some .free=>l_
 |_=>m_
def Qf{o:o_ eR}(h:V_ o=l_):o=P3 .cell\/o=P3 .free:=by
 unfold V_ at h
 split at h
 .grind
 .grind
 .cases h
noncomputable def isFree(o:o_ eR):Bool:=match o with
 |some .free=>l_
 |_=>m_
def R9{o:o_ eR}(h:isFree o=l_):o=P3 .free:=by
 unfold isFree at h
 split at h
 .rfl
 .cases h
noncomputable def UX(o:o_ eR):Bool:=match o with
 |some .local=>l_
 |_=>m_
def UW{o:o_ eR}(h:UX o=l_):o=P3 .local:=by
 unfold UX at h
 split at h
 .rfl
 .cases h
noncomputable def UZ(k:ScopeKind):Bool:=match k with
 |.function=>l_
 |_=>m_
def UY{k:ScopeKind}(h:UZ k=l_):k=.function:=by
 unfold UZ at h
 split at h
 .rfl
 .cases h
noncomputable def ao(sc esc:eS)(p:Str×eR):Bool:=match p.2 with
 |.cell=>m_
 |.free=>V_^esc.names.lookup p.1
 |.local=>UX^sc.names.lookup p.1
 |_=>l_
noncomputable def bB(x:o_ Str)(y:Str):Bool:=match x with
 |some z=>z==y
 |none=>m_
def Yf{x:o_ Str}{y:Str}(h:bB x y=l_):x=P3 y:=by
 unfold bB at h
 split at h
 .grind
 .cases h
noncomputable def Js(sc esc:eS)(N:n_ Str):n_ Str->n_^o_ Nat->Bool
 |[],[]=>l_
 |x::xs,P3 j::js=>isFree^sc.names.lookup x&&bB (N[j]?) x&&V_^esc.names.lookup x&&Js sc esc N xs js
 |_::xs,k_::js=>Js sc esc N xs js
 |_,_=>m_
noncomputable def HW(sc esc:eS)(N N':n_ Str)(js:n_^o_ Nat):Bool:=UZ sc.kind&&sc.names.all^ao sc esc&&Js sc esc N N' js
theorem EK{sc esc:eS}{N:n_ Str}:∀{N':n_ Str}{js:n_^o_ Nat},Js sc esc N N' js=l_->js.length=N'.length
 |[],[],_=>rfl
 |x::xs,P3 j::js,h=>by
  unfold Js at h;rw[cP]at h;rw[cT,cT,EK h.2]
 |x::xs,k_::js,h=>by
  unfold Js at h;rw[cT,cT,EK h]
 |[],P3 _::_,h=>by cases h
 |[],k_::_,h=>by cases h
 |_::_,[],h=>by cases h
theorem Md{sc esc:eS}{N:n_ Str}:∀{N':n_ Str}{js:n_^o_ Nat},Js sc esc N N' js=l_->∀{k:Nat}{x:Str}{j:Nat},N'[k]?=P3 x->js[k]?=P3^P3 j->
  sc.names.lookup x=P3 .free/\N[j]?=P3 x/\(esc.names.lookup x=P3 .cell\/esc.names.lookup x=P3 .free)
 |[],_,_,k,x,j,h1,_=>by simp at h1
 |_::_,[],h,_,_,_,_,_=>by unfold Js at h;cases h
 | y::ys,P3 i::js,h,k,x,j,h1,h2=>by
  unfold Js at h;rw[cP,cP,cP]at h;cases k with
  |zero=>
   simp at h1 h2;subst h1 h2;exact#[R9 h.1.1.1,Yf h.1.1.2,Qf h.1.2]
  |succ k=>exact Md h.2 (k:=k) (by simpa using h1)^by simpa using h2
 |y::ys,k_::js,h,k,x,j,h1,h2=>by
  unfold Js at h;cases k with
  |zero=>simp at h2
  |succ k=>exact Md h (k:=k) (by simpa using h1)^by simpa using h2
def R0{js:n_^o_ Nat}{Z:St}{k:Nat}{v:V}(h:(CH js Z)[k]?=P3^P3 v):∃j,js[k]?=P3^P3 j/\Z[j]?=P3^P3 v:=by
 unfold CH at h;rw[XV]at h;cases e:js[k]? with
 |none=>simp_all
 | some o=>
  rw[e]at h;cases o with
  |none=>cases h
  |some j=>
   cases q:Z[j]? with
   |none=>simp_all
   |some w=>simp_all
theorem CY{env:Env}:∀{names:n_ (Str×eR)}{x:Str},names.lookup x=P3 .free->
  (names.map fun(n,k)=>if(k==cr&&env.scope.kind==.function&&env.kindOf n==P3 .cell)then(n,gT)else(n,k)).lookup x=P3 .cell \/
  (names.map fun(n,k)=>if(k==cr&&env.scope.kind==.function&&env.kindOf n==P3 .cell)then(n,gT)else(n,k)).lookup x=P3 .free
 |[],_,h=>by simp at h
 | (n,k)::r,x,h=>by
  have ih:=@CY env r x;show fQ x ((if(k==cr&&env.scope.kind==.function&&env.kindOf n==P3 .cell)=l_ then(n,gT)else(n,k))::_)=_\/fQ x ((if(k==cr&&env.scope.kind==.function&&env.kindOf n==P3 .cell)=l_ then(n,gT)else(n,k))::_)=_
  by_cases hc:(k==cr&&env.scope.kind==.function&&env.kindOf n==P3 .cell)=l_
  .rw[if_pos hc]
   cases hx:x==n with
   |true=>exact .inl^by simp only[fG,hx]
   |false=>
    simp only[fG,hx]at h ⊢;exact ih h
  .rw[if_neg hc]
   cases hx:x==n with
   |true=>
    simp_all
   |false=>
    simp only[fG,hx]at h ⊢;exact ih h
def O1{env:Env}{sc:eS}(hcell:∀y∈sc.names,y.2≠.cell){x:Str}(h:(relabel sc env).names.lookup x=P3 .cell\/(relabel sc env).names.lookup x=P3 .free):(x,cr)∈sc.names:=by
 have hm:(x,gT)∈(relabel sc _).names\/(x,cr)∈(relabel sc _).names:=h.elim (λz=>.inl^PySem.mem_of_lookup z) λz=>.inr^PySem.mem_of_lookup z
 have go:∀k,(k=.cell\/k=.free)->(x,k)∈(relabel sc env).names->(x,cr)∈sc.names:=by
  intro k hk hmem;unfold relabel at hmem
  grind
 exact hm.elim (go _ (.inl rfl))^go _ (.inr rfl)
section
variable {X:Cx}{zG:n_ (Addr×Obj)}{Z:St}{H:Hp}{s:Shared}
structure CompOk (X:Cx) (sc:eS) (N':List Str) (js:List^Option Nat):Prop where
 kind:sc.kind=.function
 cell:∀y∈sc.names,y.2≠.cell
 free:∀x,(x,cr)∈sc.names->X.env.scope.names.lookup x=P3 .cell\/X.env.scope.names.lookup x=P3 .free
 names:∀y∈sc.names,y.2=.local->sc.names.lookup y.1=P3 .local
 cap:Js sc X.env.scope X.N N' js=l_
def CompOk.of{sc:eS}{N':n_ Str}{js:n_^o_ Nat}(h:HW sc X.env.scope X.N N' js=l_):CompOk X sc N' js:=by
 unfold HW at h;rw[cP,cP,gX]at h;let#[#[h1,h2],h3]:=h;refine#[UY h1,λy hy e=>?_,λx hx=>?_,λy hy e=>?_,h3]
 .have q:=h2 y hy
  unfold ao at q
  simp_all
 .have q:=h2 _ hx
  exact Qf q
 .have q:=h2 y hy
  unfold ao at q;rw[e]at q;exact UW q
def N1{sc:eS}{N':n_ Str}{js:n_^o_ Nat}{cl:n_ (Str×Ch)}{fp:n_ Ch}{h₁:cA}{tk:Nat}(I:Inv X zG Z H s)(hc:X.calm=l_)(O:CompOk X sc N' js)
  (hcl:∀x c,cl.lookup x=P3 c->X.env.cells.lookup x=P3 c) (hcl2:∀x,(x,cr)∈sc.names->∃c,cl.lookup x=P3 c)
  (hf:∀b∈fp,GR X zG H b) (ho:∀b∈fp,∃o,s.heap.get? b=P3 o)
  (hns:h₁.Ns (s.heap.objs.size+1) λ_=>k_) (hk:∀b o,s.heap.get? b=P3 o->h₁.get? b=P3 o) (hD:∃n,h₁.get? s.heap.objs.size=P3 {cls:=.type "list",data:=.seq #[] n}):
  Inv (Ay X sc N' cl (s.heap.objs.size+1) s H fp) [] (CH js Z) (Aq H s.heap.objs.size^.lst []) {s with heap:=h₁,toks:=tk}:=by
 have fr:∀a,s.heap.objs.size<=a->H a=k_:=λa ha=>I.hok.fresh ha
 have cellLt:∀x c,cl.lookup x=P3 c->c<s.heap.objs.size:=λx c e=>by
  let#[v,q]:=I.cell x c^hcl x c e;exact q.lt
 have ok:(Ay X sc N' cl (s.heap.objs.size+1) s H fp).Ok:=by
  refine#[I.ok.mod,O.kind,I.ok.glob,I.ok.blt,c_ _,λx y c h1 h2=>I.ok.inj x y c (hcl x c h1)^hcl y c h2,λx hx=>?_,λx c hx=>?_,λ_=>I.ok.hd hc,I.ok.frames,.inl rfl,λb hb=>#[?_,λx c e=>?_],I.bs,cG I.ok.bsz I.sz,λb o e hb=>?_,λb hb hb2=>?_,I.stack,I.stkFree]
  .exact hcl2 x^O1 (env:=X.env) O.cell hx
  .exact absurd (show m_=l_ from hx) cD
  .let#[o,e]:=ho b hb
   exact b9^di^Tk e
  .exact(hf b hb).2.2.2.2.1 x c^hcl x c e
  .rcases(hf b hb).2.2.2.1 with z|z
   .exact I.ok.noex b o e z
   .have h1:b<X.base.objs.size:=Tk e
    exact absurd (cO h1^cG I.ok.bsz z)^dC _
  .rcases Uf.mp^I.stkSub b hb2 with z|z
   .exact(hf b hb).2.1 z
   .exact(hf b hb).2.2.1 z
 refine#[ok,rfl,I.bare,?_,#[_,hns,λi x v h1 h2 h3=>?_],λx c e=>?_,?_,λx c e=>?_,λp hp=>absurd (show p∈([]:n_ (Ch×Obj))from hp)^by simp,?_,?_]
 .exact Un.laid hk (Rs _)^fr _^Rs _
 .let#[j,e1,e2]:=R0 h2
  let#[c1,c2,c3]:=Md O.cap h1 e1;let#[m,_,hl]:=I.loc;let#[u,r,l]:=hl j x v c2 e2^.inr c3;refine#[u,r,.inr #[CY c1,?_]]
  rcases l with⟨l1,_⟩|⟨_,c,l2,l3⟩
  .have l1':X.env.scope.names.lookup x=P3 .local:=l1
   rcases c3 with c3|c3 <;>(rw[l1']at c3;cases c3)
  .let#[c',e']:=hcl2 x^PySem.mem_of_lookup c1
   have:c'=c:=bz^(hcl x c' e').symm.trans l2
   subst this;let#[oc,hoc,hocd]:=id l3;exact#[c',e',oc,hk _ _ hoc,hocd]
 .let#[v,oc,hoc,hocd]:=I.cell x c^hcl x c e
  exact#[v,oc,hk _ _ hoc,hocd]
 .show Aq H s.heap.objs.size (.lst []) (s.heap.objs.size+1)=k_
  rw[AL^Nat.succ_ne_self _];exact fr _^c_ _
 .show Aq H s.heap.objs.size (.lst []) c=k_
  rw[AL^b9^cellLt x c e];exact I.freeC x c^hcl x c e
 .refine I.hok.laid hk (Rs _) ?_
  let#[n,e]:=hD;exact#[cB _,[],n,.nil,e]
 .unfold CH
  show(js.map _).length=N'.length;rw[FM];exact EK O.cap
def Un.but{fs ex:n_ Ch}{H H1:Hp}{h h1 h':cA}{C:Ch}(u:Un fs ex H H1 h h1)(hC:h.get? C=k_)(hs:∀b,b≠C->h'.get? b=h1.get? b):Un fs ex H H1 h h':=by
 have ne:∀{b:Ch}{o:Obj},h.get? b=P3 o->b≠C:=λ{b o} e z=>by grind
 refine#[λb o e n h1 h2=>(hs b^ne e).trans^u.keep b o e n h1 h2,λb o e n h1 h2=>?_,u.free,λb o e h1=>?_,u.tups,u.frzs,u.tbls]
 .let#[sl,q]:=u.slot b o e n h1 h2
  exact#[sl,(hs b^ne e).trans q]
 .let#[o',q]:=u.there b o e h1
  simp_all
def JW{sc:eS}{N':n_ Str}{cl:n_ (Str×Ch)}{C:Ch}{fp:n_ Ch}{pins':n_ (Ch×Obj)}{zZ:St}{H':Hp}{s':Go}{h':cA}(I:Inv X zG Z H s)(hf:∀b∈fp,GR X zG H b)(hC:s.heap.objs.size<=C)
  (J:Inv (Ay X sc N' cl C s H fp) pins' zZ H' s') (hs:∀b,b≠C->h'.get? b=s'.heap.get? b):Inv X zG Z H' {s' with heap:=h'}:=by
 have hC':H' C=k_:=J.free
 refine I.call' J.os (Un.but J.base (by
  cases e:s.heap.get? C with
  |none=>rfl
  |some o=>exact absurd (Tk e)^gG.mpr hC) hs) (λa o e=>(J.hok a o e).stay (λb u hb q=>(hs b (λz=>by
   grind)).trans q) (λ_ q=>q) λ_ _ q=>q) J.bare λb hb=>?_
 .let#[f0,f1,f2,f3,f4,f5]:=hf b hb
  exact#[f3,f1,f4,f5]
end
noncomputable def aG(X:Cx)(ifs:n_ cJ)(t:TT):Prop:=
 ∀(zG:n_ (Ch×Obj)) (s:Go) (Z:St) (H:Hp) (Q:Bool->Hp->Prop),Inv X zG Z H s->t Z H Q->
  wpAny (model X.prog X.w) X.A (forIn ifs l_ λc r=>if r=l_ then do let ok ←isTrue c X.env^eval c X.env;pure^fL ok else pure^fL r) (TP X zG Z Q) X.xe s
noncomputable def aZ:TT:=λ_ H Q=>Q l_ H
def Vo{X:Cx}:aG X [] aZ:=λzG s Z H Q I h=>wpAny_tests_nil #[H,I,h]
def Vn{X:Cx}{c:cJ}{t:TT}(h:PT X c t):aG X [c] t:=λzG s Z H Q I q=>wpAny_tests_one^h _ s Z H Q I q
noncomputable def S8(X:Cx)(sc:eS)(N':n_ Str)(js:n_^o_ Nat)(tg elt:cJ)(ifs:n_ cJ)(wi:TI):TE:=λZ H Q=>wi Z H λJ H1=>∀l,H1 l=k_->X.K.lookup l=k_->∀cl C s H0 fp,∃(g:TG) (tt:TT) (te:TE) (W:Nat->Nat->St->Hp->Prop),
 PG (Ay X sc N' cl C s H0 fp) tg g/\aG (Ay X sc N' cl C s H0 fp) ifs tt/\PE (Ay X sc N' cl C s H0 fp) elt te/\(∃m,W 0 m (CH js Z)^Aq H1 l^.lst [])/\∀i m zZ H',W i m zZ H'->
 (J.stop i H'/\Q (.ref l) H')\/(J.go i H'/\∀x H2,J.yld i H' x H2->g x zZ H2 λzV H3=>tt zV H3 λb H4=>if b=l_ then te zV H4 λy H5=>∃ys,H5 l=P3^.lst ys/\ys.length<sizeLine/\∃m',m'<m/\W (i+1) m' zV^Aq H5 l^.lst (ys++[y]) else ∃m',m'<m/\W (i+1) m' zV H4)
section
variable {X:Cx}{tg elt iter:Expr}{ifs:n_ Expr}{sc:Scope}{pos:Pos}{N':n_ Str}{js:n_^o_ Nat}{wi:TI}{g:TG}{tt:TT}{te:TE}
def LL{zG:n_ (Ch×Obj)}{Z:St}{H:Hp}{s:Go}{cl:n_ (Str×Ch)}{C l it:Ch}{fp:n_ Ch}{tn:Nat->cA->Prop}{J:It}{s3:Go}{Q:VK}{R:Result->Go->Prop}{W:Nat->Nat->St->Hp->Prop}{m0:Nat}{zH:St}{H0:Hp}
  (I:Inv X zG Z H s) (hf:∀b∈fp,GR X zG H b) (hlt:∀b∈fp,b<s.heap.objs.size) (hC:s.heap.objs.size<=C)
  (T:Turn X.prog X.w X.K tg J fp it tn)
  (hg:PG (Ay X sc N' cl C s H fp) tg g) (ht:aG (Ay X sc N' cl C s H fp) ifs tt) (he:PE (Ay X sc N' cl C s H fp) elt te)
  (hW:∀i m zZ H',W i m zZ H'->
   (J.stop i H'/\Q (.ref l) H')\/(J.go i H'/\∀x H2,J.yld i H' x H2->g x zZ H2 λzV H3=>tt zV H3 λb H4=>if b=l_ then te zV H4 λy H5=>∃ys,H5 l=P3^.lst ys/\ys.length<sizeLine/\∃m',m'<m/\W (i+1) m' zV^Aq H5 l^.lst (ys++[y]) else ∃m',m'<m/\W (i+1) m' zV H4))
  (hR:∀zZ H' s',Inv (Ay X sc N' cl C s H fp) [] zZ H' s'->Q (.ref l) H'->R (.ok .next) s')
  (I3:Inv (Ay X sc N' cl C s H fp) [] zH H0 s3) (t3:tn 0 s3.heap) (f3:∀b∈fp,H0 b=k_) (w0:W 0 m0 zH H0):
  codeAny (model X.prog X.w) X.A (.compLoop (.ListComp elt [#[tg,iter,ifs,0]] sc pos) 0 (.ref it) (.ref l)^compEnvC sc cl C X.env) R s3:=by
 have stat:∀{H':Hp},(∀b∈fp,H' b=k_)->∀b∈fp,GR (Ay X sc N' cl C s H fp) [] H' b:=λhn b hb=>by
  have q:=I3.ok.exf b hb;refine#[hn b hb,q.1,I3.ok.exfs b hb,.inl hb,q.2,λp hp=>absurd (show p∈([]:n_ (Ch×Obj))from hp)^by simp]
 refine Mc (λn s'=>∃i zZ H',Inv (Ay X sc N' cl C s H fp) [] zZ H' s'/\tn i s'.heap/\(∀b∈fp,H' b=k_)/\W i n zZ H') ?_ m0 #[0,zH,H0,I3,t3,f3,w0];rintro n s4 ⟨i,zS,H4,I4,st4,fr4,w4⟩
 rcases hW i n zS H4 w4 with⟨stop,qn⟩|⟨go,step⟩
 .refine BF (T.done (Ay X sc N' cl C s H fp) rfl rfl rfl rfl i [] s4 zS H4 (λ_ _=>False) I4 (stat fr4) st4 stop) λr s5 #[hr,I5]=>?_
  subst hr;exact hR zS H4 s5 I5 qn
 .refine BF (T.item (Ay X sc N' cl C s H fp) rfl rfl rfl rfl i [] s4 zS H4 (λ_ _=>False) I4 (stat fr4) st4 go) λr s5 #[u,hr,h5]=>?_
  subst hr;refine BF h5 λ_ s6 #[x,H6,I6,r6,y6,st6,fr6]=>?_;have I6':=I6.pinned (stat fr6)^T.obj _ _ st6;refine BF (hg _ s6 zS H6 x u _ I6' r6^step x H6 y6) λ_ s7 #[zN,H7,I7,q7]=>?_
  have again:∀{zI:St}{H9:Hp}{s9:Go}{m':Nat},Inv (Ay X sc N' cl C s H fp) ([]++JE fp s6.heap) zI H9 s9->m'<n->W (i+1) m' zI H9->∃m,m<n/\∃i zZ H',Inv (Ay X sc N' cl C s H fp) [] zZ H' s9/\tn i s9.heap/\(∀b∈fp,H' b=k_)/\W i m zZ H':=λ{zI H9 s9 m'} I9 hm w9=>by
   refine#[m',hm,i+1,zI,H9,I9.unpinned,T.keep _ _ _ st6 λb hb o e=>(I9.pin (b,o)^cC _^cC _^DX hb e).1,λb hb=>?_,w9];let#[o,e,d]:=T.obj _ _ st6 b hb;exact(I9.pin (b,o)^cC _^cC _^DX hb e).2.1
  refine BF (ht _ s7 zN H7 _ I7 q7) λok s8 #[H8,I8,q8]=>?_;cases ok with
  |false=>
   have q8':∃m',m'<n/\W (i+1) m' zN H8:=q8;let#[m',hm,w8]:=q8';show ∃m,m<n/\_;exact again I8 hm w8
  |true=>
   refine BF (he _ s8 zN H8 _ I8 q8) λy s9 #[yv,H9,I9,ry,q9]=>?_;let#[ys,hl,hz,m',hm,w9]:=q9;refine BF (CG (X:=Ay X sc N' cl C s H fp) _ s9 zN H9 (.ref l) [yv] (.ref l) [y] (λv H'=>v=.non/\H'=Aq H9 l^.lst (ys++[yv])) I9 rfl (.cons ry .nil) #[l,ys,yv,rfl,rfl,hl,hz,rfl,rfl]) λ_ sa #[v,Ha,Ia,_,_,eH]=>?_;subst eH;exact again Ia hm w9
def Vt(hc:X.calm=l_)(N':n_ Str)(js:n_^o_ Nat)(hi:PI X tg iter wi)
  (hB:HW sc X.env.scope X.N N' js=l_)
  (hs:autoParam (∀x,foldedSetIterable iter X.env x=pure x) zau2._auto_1):
  PE X (.ListComp elt [#[tg,iter,ifs,0]] sc pos) (S8 X sc N' js tg elt ifs wi):=by
 intro zG s Z H Q I h;have O:CompOk X sc N' js:=CompOk.of hB;let#[cl,hclos,hcl,hcl2]:=Jq (scope:=sc) (env:=X.env) λx hx=>I.ok.has x^O.free x hx;rw[eval_ListComp];refine wpAny_comprehension_free (use:=k_) rfl hs hclos O.kind O.names (BF (hi zG s Z H _ I h) λv s1 h1=>BF h1 λitv s2 h2=>?_);let#[it,fp,tn,J,H2,e,I2,T,st2,f2,hq]:=h2;subst e
 have kfree:X.K.lookup s2.heap.objs.size=k_:=by
  cases q:X.K.lookup s2.heap.objs.size with
  |none=>rfl
  |some o=>exact absurd (Tk^I2.kIn _ _ q)^dC _
 let#[g,tt,te,W,hg,ht,he,#[m0,w0],hW]:=hq s2.heap.objs.size (I2.hok.fresh^Rs _) kfree cl (s2.heap.objs.size+1) s2 H2 fp;refine dI^wpAny_newFunctionEnv O.cell (by intro y hy;simp at hy) (λh₁ hns₁ hsb₁=>?_) O.kind
 dsimp only at hns₁ hsb₁ ⊢
 generalize hH2:s2.heap.push {cls:=.type "list",dict:=k_,data:=.seq ([]:n_ Db).toArray}=Hh at hns₁ hsb₁ ⊢;have hCe:Hh.objs.size=s2.heap.objs.size+1:=by rw[←hH2,dA]
 have hlt:∀b∈fp,b<s2.heap.objs.size:=λb hb=>by
  let#[o,e,_]:=T.obj _ _ st2 b hb;exact Tk e
 have old:∀b o,s2.heap.get? b=P3 o->h₁.get? b=P3 o:=λb o e=>hsb₁.extBut b o (by rw[hCe];exact b9^di^Tk e)^Ev _ (hH2▸Ev _ e);have hD:∃n,h₁.get? s2.heap.objs.size=P3 {cls:=.type "list",data:=.seq #[] n}:=#[_,hsb₁.extBut _ _ (by rw[hCe];exact b9^eQ _)^Ev _ (hH2▸Sc _ rfl)]
 have I3:∀tk,Inv (Ay X sc N' cl (s2.heap.objs.size+1) s2 H2 fp) [] (CH js Z) (Aq H2 s2.heap.objs.size^.lst []) {s2 with heap:=h₁,toks:=tk}:=λtk=>
  N1 I2 hc O hcl hcl2 f2 (λb hb=>let #[o,e,_]:=T.obj _ _ st2 b hb;#[o,e]) (by rw[←hCe];exact hns₁) old hD
 have st3:tn 0 h₁:=T.keep _ _ _ st2 λb hb o e=>old b o e
 have fr3:∀b∈fp,Aq H2 s2.heap.objs.size (.lst []) b=k_:=λb hb=>by
  rw[AL^b9^hlt b hb];exact(f2 b hb).1
 have loop:∀tk,codeAny (model X.prog X.w) X.A (.compLoop (.ListComp elt [#[tg,iter,ifs,0]] sc pos) 0 (.ref it) (.ref s2.heap.objs.size)^compEnvC sc cl (s2.heap.objs.size+1) X.env)
   (compPost (model X.prog X.w) X.A X.xe k_ (EP X zG Z Q) (.ref s2.heap.objs.size) (s2.heap.objs.size+1)) {s2 with heap:=h₁,toks:=tk}:=λtk=>by
  refine LL (W:=W) (m0:=m0) (Q:=Q) I2 f2 hlt (c_ _) T hg ht he hW (λzZ H' s' J' q'=>?_) (I3 tk) st3 fr3 w0;let#[m,hn,_]:=J'.loc;exact#[m,hn,λh' hs'=>#[.ref _,H',JW I2 f2 (c_ _) J' λb hb=>hs'.2 b hb,rfl,q']]
 rw[show(newEnv sc Hh.objs.size X.env.globals cl X.env.qual k_ .none (P3 X.env) builtinsNs).locals=s2.heap.objs.size+1 from hCe];show codeAny (model X.prog X.w) X.A (.compStart (.ListComp elt [#[tg,iter,ifs,0]] sc pos) 0 (.ref it) (.ref s2.heap.objs.size)^compEnvC sc cl (s2.heap.objs.size+1) X.env) _ _;exact codeAny_compStart_list (loop _)^T.self _ 0 _ _ _ st3^loop _
end
structure bu (B:cA) (l:List Env) (a C:Ch) (dx:Option Ch) (h:cA):Prop where
 stays:B.StaysIn h
 new:B.get? a=k_
 frames:h.FunFrames B l
 obj:∃vs sl tb,h.get? a=P3 #[.ref C,dx,.fields vs,sl]/\vs[2]?=P3 .none/\vs[1]?=P3 tb/\(tb=.none\/∃T oT ts,tb=.ref T/\B.get? T=k_/\T≠a/\h.get? T=P3 oT/\oT.data=.fields ts/\3<ts.size)
noncomputable def Z6:n_ Db:=[.type "ValueError",.type "Exception",.type "BaseException",.type "object"]
structure XC (K:Frag) (nm:Str) (C U:Ch):Prop where
 obj:∃q N bs sn sub ab col dd k0 k1 k2 k3 k5,K.lookup C=P3 (excClassObj nm q C N bs (.ref U::Z6) l_ sn sub ab col dd k0 k1 k2 k3 k5 "ValueError.__new__")
 up:∃q N bs sn sub ab col dd k0 k1 k2 k3 k5 hd,K.lookup U=P3 (excClassObj "ThinError" q U N bs Z6 hd sn sub ab col dd k0 k1 k2 k3 k5 "ValueError.__new__")
 kp:keepIn K^.ref C=l_
 ga:PySem.W.findIn K (.ref C) "__getattribute__"=P3 (P3^.builtin "BaseException.__getattribute__")
 gt:PySem.W.findIn K (.ref C) "__getattr__"=P3 k_
 sa:PySem.W.findIn K (.ref C) "__setattr__"=P3 (P3^.builtin "object.__setattr__")
 at_:nsIn K mainGlobals nm=P3 (P3^.ref C)
 atU:nsIn K mainGlobals "ThinError"=P3 (P3^.ref U)
 ca:PySem.W.findIn K (.ref C) "__class__"=P3 (P3^.builtin "object.__class__")
 nw:PySem.W.findIn K (.ref C) "word"=P3 k_
 nn:PySem.W.findIn K (.ref C) "number"=P3 k_
 nr:PySem.W.findIn K (.ref C) "row"=P3 k_
structure bx (P:cH) (w:cN) (outer:List Env) (H:Hp) (s:Go) (a C:Ch) (dx:Option Ch) (B:cA) (H':Hp) (s':Go):Prop where
 os:s'.os=s.os
 bare:gE s'.gens
 un:Un (Qi outer) [] H H' s.heap s'.heap
 hok:HOk P w H' B
 all:∀b o o',s.heap.get? b=P3 o->b∉Qi outer->s'.heap.get? b=P3 o'->B.get? b=P3 o'
 fly:bu B outer a C dx s'.heap
 new:s.heap.objs.size<=a
 free:H' a=k_
noncomputable def XF(d:Ch)(fs:n_ (Str×V))(h:cA):Prop:=∃mA,h.Ns1 d mA/\(∀f,RelO (fs.lookup f)^mA f)/\PySem.Within mA (fs.map (·.1))/\fs.length<=1000
noncomputable def XT(C:Ch)(dx:o_ Ch)(a:Ch)(u:HO):Prop:=∃vs sl,u=.frz #[.ref C,dx,.fields vs,sl]^.own a/\vs[2]?=P3 .none
end L2
namespace Dp
open L2
inductive D where
 |non|bl (b:Bool)|int (i:Int)|str (x:Str)|tup (xs:List D)|lst (xs:List D)|dic (ks:List Key) (xs:List D)|fdi (ks:List Key) (xs:List D)|dit (ks:List^List Key) (xs:List D)|ob (a:Ch)
 deriving Inhabited
inductive Wc where
 |pl (d:D)|ins (C:Ch) (ks:List Str) (ds:List D)
structure Sg where
 n:Nat
 w:Ch->Option Wc
noncomputable instance:HSub Sg Nat Sg:=#[λs k=>#[s.n - k,s.w]]
noncomputable def Sm(o:HO):Prop:=∃u,o=.vol u
noncomputable def NdT(M:Ch->Prop)(H:Hp)(a:Ch)(vs:n_ V):Prop:=H a=P3^.tup vs
noncomputable def NdL(M:Ch->Prop)(H:Hp)(a:Ch)(vs:n_ V):Prop:=¬M a/\H a=P3^.lst vs
noncomputable def NdD(M:Ch->Prop)(H:Hp)(a:Ch)(ks:n_ Key)(vs:n_ V):Prop:=¬M a/\H a=P3^.dK^ks.zip vs
noncomputable def NdF(M:Ch->Prop)(H:Hp)(a:Ch)(ks:n_ Key)(vs:n_ V):Prop:=∃o,¬M a/\H a=P3^.frz o^.dK^ks.zip vs
noncomputable def NdU(M:Ch->Prop)(H:Hp)(a:Ch)(ks:n_^n_ Key)(vs:n_ V):Prop:=¬M a/\H a=P3^.dT^ks.zip vs
mutual
noncomputable def At(K:Frag)(M:Ch->Prop)(H:Hp):D->V->Prop
 |.non,v=>v=.non
 |.bl b,v=>v=.bl b
 |.int i,v=>v=.int i
 |.str x,v=>v=.str x/\x.length<=sizeLine
 |.tup ds,v=>∃a vs,v=.ref a/\NdT M H a vs/\Ats K M H ds vs
 |.lst ds,v=>∃a vs,v=.ref a/\NdL M H a vs/\Ats K M H ds vs
 |.dic ks ds,v=>∃a vs,v=.ref a/\NdD M H a ks vs/\ks.length=ds.length/\Ats K M H ds vs
 |.fdi ks ds,v=>∃a vs,v=.ref a/\NdF M H a ks vs/\ks.length=ds.length/\Ats K M H ds vs
 |.dit ks ds,v=>∃a vs,v=.ref a/\NdU M H a ks vs/\ks.length=ds.length/\Ats K M H ds vs
 |.ob a,v=>v=.ref a/\∃o,H a=P3 o
noncomputable def Ats(K:Frag)(M:Ch->Prop)(H:Hp):n_ D->n_ V->Prop
 |[],vs=>vs=[]
 |d::ds,vs=>∃v r,vs=v::r/\At K M H d v/\Ats K M H ds r
end
section
variable {K:Frag}{M M':Addr->Prop}{H H':Hp}{a:Addr}{vs:n_ V}{ks:n_ Key}
def NdT.sq(h:NdT M H a vs):SqT K H a vs:=.inl^.inl h
def NdL.sq(h:NdL M H a vs):SqL K H a vs:=.inl^.inl h.2
noncomputable def Pres(M:Ch->Prop)(H:Hp)(M':Ch->Prop)(H':Hp):Prop:=(∀b o,H b=P3 o->¬M b->¬Sm o->H' b=P3 o)/\(∀b,M' b->M b\/H b=k_)/\(∀b vs,H b=P3^.tup vs->H' b=P3^.tup vs)/\∀b o,H b=P3 o->∃o',H' b=P3 o'
def Pres.nd{u:HO}(p:Pres M H M' H')(n:¬M a)(h:H a=P3 u)(nv:autoParam (¬Sm u) zau5._auto_1):¬M' a/\H' a=P3 u:=by
 refine#[λz=>?_,p.1 _ _ h n nv]
 rcases p.2.1 a z with z|z
 .exact n z
 grind
def NdT.pres(p:Pres M H M' H')(h:NdT M H a vs):NdT M' H' a vs:=p.2.2.1 _ _ h
def NdL.pres(p:Pres M H M' H')(h:NdL M H a vs):NdL M' H' a vs:=p.nd h.1 h.2
def NdD.pres(p:Pres M H M' H')(h:NdD M H a ks vs):NdD M' H' a ks vs:=p.nd h.1 h.2
def NdU.pres{ks:n_^n_ Key}(p:Pres M H M' H')(h:NdU M H a ks vs):NdU M' H' a ks vs:=p.nd h.1 h.2
def NdF.pres(p:Pres M H M' H')(h:NdF M H a ks vs):NdF M' H' a ks vs:=let #[o,h1,h2]:=h;#[o,p.nd h1 h2]
mutual
theorem At.pres(p:Pres M H M' H'):∀{d:D}{v:V},At K M H d v->At K M' H' d v
 |.non,v,h=>h
 |.bl b,v,h=>h
 |.int i,v,h=>h
 |.str x,v,h=>h
 |.tup ds,v,h=>by
  let#[a,vs,e,hn,hs]:=h;exact#[a,vs,e,hn.pres p,Ats.pres p hs]
 |.lst ds,v,h=>by
  let#[a,vs,e,hn,hs]:=h;exact#[a,vs,e,hn.pres p,Ats.pres p hs]
 |.dic ks ds,v,h=>by
  let#[a,vs,e,hn,hl,hs]:=h;exact#[a,vs,e,hn.pres p,hl,Ats.pres p hs]
 |.fdi ks ds,v,h=>by
  let#[a,vs,e,hn,hl,hs]:=h;exact#[a,vs,e,hn.pres p,hl,Ats.pres p hs]
 |.dit ks ds,v,h=>by
  let#[a,vs,e,hn,hl,hs]:=h;exact#[a,vs,e,hn.pres p,hl,Ats.pres p hs]
 |.ob a,v,h=>#[h.1,let #[_,e]:=h.2;p.2.2.2 _ _ e]
theorem Ats.pres(p:Pres M H M' H'):∀{ds:n_ D}{vs:n_ V},Ats K M H ds vs->Ats K M' H' ds vs
 |[],vs,h=>h
 |d::ds,vs,h=>by
  let#[v,r,e,h1,h2]:=h;exact#[v,r,e,At.pres p h1,Ats.pres p h2]
end
def Pres.trans{M1 M2 M3:Ch->Prop}{H1 H2 H3:Hp}(p:Pres M1 H1 M2 H2)(q:Pres M2 H2 M3 H3):Pres M1 H1 M3 H3:=by
 refine#[λb o e n nv=>?_,λb z=>?_,λb vs e=>q.2.2.1 b vs^p.2.2.1 b vs e,λb o e=>?_]
 .refine q.1 b o (p.1 b o e n nv) (λz=>?_) nv
  rcases p.2.1 b z with z|z
  .exact n z
  grind
 .rcases q.2.1 b z with z|z
  .exact p.2.1 b z
  .cases e:H1 b with
   |none=>grind
   |some o=>
    let#[o',e']:=p.2.2.2 b o e;rw[e']at z;cases z
 .let#[o',e']:=p.2.2.2 b o e
  exact q.2.2.2 b o' e'
def Pres.refl(M:Ch->Prop)(H:Hp):Pres M H M H:=#[λ_ _ e _ _=>e,λ_ z=>.inl z,λ_ _ e=>e,λ_ o e=>#[o,e]]
def Pres.less(h:∀b,M' b->M b):Pres M H M' H:=#[λ_ _ e _ _=>e,λb z=>.inl^h b z,λ_ _ e=>e,λ_ o e=>#[o,e]]
theorem Ats.length:∀{ds:n_ D}{vs:n_ V},Ats K M H ds vs->vs.length=ds.length
 |[],vs,h=>by cases h;rfl
 |d::ds,vs,h=>by
  let#[v,r,e,h1,h2]:=h;subst e;rw[cT,cT,Ats.length h2]
theorem Ats.get:∀{ds:n_ D}{vs:n_ V}{i:Nat}{d:D},Ats K M H ds vs->ds[i]?=P3 d->∃v,vs[i]?=P3 v/\At K M H d v
 |[],vs,i,d,h,e=>by simp at e
 |d0::ds,vs,0,d,h,e=>by
  let#[v,r,e1,h1,h2]:=h
  simp_all
 |d0::ds,vs,i+1,d,h,e=>by
  let#[v,r,e1,h1,h2]:=h;let#[u,e2,h3]:=Ats.get h2^by simpa using e
  simp_all
theorem Ats.append:∀{ds es:n_ D}{vs us:n_ V},Ats K M H ds vs->Ats K M H es us->Ats K M H (ds++es) (vs++us)
 |[],es,vs,us,h,g=>by cases h;exact g
 |d::ds,es,vs,us,h,g=>by
  let#[v,r,e,h1,h2]:=h;subst e;exact#[v,_,rfl,h1,Ats.append h2 g]
theorem Ats.drop:∀{ds:n_ D}{vs:n_ V} (n:Nat),Ats K M H ds vs->Ats K M H (ds.drop n)^vs.drop n
 |ds,vs,0,h=>h
 |[],vs,n+1,h=>by cases h;exact rfl
 |d::ds,vs,n+1,h=>by
  let#[v,r,e,h1,h2]:=h;subst e;exact Ats.drop n h2
theorem Ats.take:∀{ds:n_ D}{vs:n_ V} (n:Nat),Ats K M H ds vs->Ats K M H (ds.take n)^vs.take n
 |ds,vs,0,h=>rfl
 |[],vs,n+1,h=>by cases h;exact rfl
 |d::ds,vs,n+1,h=>by
  let#[v,r,e,h1,h2]:=h;subst e;exact#[v,_,rfl,h1,Ats.take n h2]
def Ats.one{d:D}{v:V}(h:At K M H d v):Ats K M H [d] [v]:=#[v,[],rfl,h,rfl]
theorem Ats.eraseIdx:∀{ds:n_ D}{vs:n_ V} (i:Nat),Ats K M H ds vs->Ats K M H (ds.eraseIdx i)^vs.eraseIdx i
 |[],vs,i,h=>by cases h;exact rfl
 |d0::ds,vs,0,h=>by
  let#[u,r,e1,h1,h2]:=h
  grind
 |d0::ds,vs,i+1,h=>by
  let#[u,r,e1,h1,h2]:=h;subst e1;exact#[u,_,rfl,h1,Ats.eraseIdx i h2]
theorem Ats.reverse:∀{ds:n_ D}{vs:n_ V},Ats K M H ds vs->Ats K M H ds.reverse vs.reverse
 |[],vs,h=>by cases h;exact rfl
 |d::ds,vs,h=>by
  let#[v,r,e,h1,h2]:=h;subst e;rw[gN,gN];exact Ats.append (Ats.reverse h2)^Ats.one h1
end
inductive Kd where
 |sh|tp|fr
noncomputable def Tops(K:Frag)(M:Ch->Prop)(H:Hp)(a:Ch):D->Prop
 |.lst ds=>∃vs,H a=P3^.lst vs/\Ats K M H ds vs
 |.dic ks ds=>∃vs,H a=P3^.dK^ks.zip vs/\ks.length=ds.length/\Ats K M H ds vs
 |.dit ks ds=>∃vs,H a=P3^.dT^ks.zip vs/\ks.length=ds.length/\Ats K M H ds vs
 |_=>False
def Tops.notT{K:Frag}{M:Ch->Prop}{H:Hp}{a:Ch}{d:D}(h:Tops K M H a d){vs:n_ V}:H a≠P3^.tup vs:=λq=>by
 cases d with
 |lst ds=>let#[us,e,_]:=h;grind
 |dic ks ds=>let#[us,e,_]:=h;grind
 |dit ks ds=>let#[us,e,_]:=h;grind
 |_=>exact h.elim
def Tops.notV{K:Frag}{M:Ch->Prop}{H:Hp}{a:Ch}{d:D}(h:Tops K M H a d){o:HO}(q:H a=P3 o):¬Sm o:=fun#[u,z]=>by
 subst z;cases d with
 |lst ds=>let#[us,e,_]:=h;rw[e]at q;cases q
 |dic ks ds=>let#[us,e,_]:=h;rw[e]at q;cases q
 |dit ks ds=>let#[us,e,_]:=h;rw[e]at q;cases q
 |_=>exact h.elim
def Tops.pres{K:Frag}{M M':Ch->Prop}{H H':Hp}{a:Ch}{d:D}(h:Tops K M H a d)(p:Pres M H M' H')(e:∀o,H a=P3 o->H' a=P3 o):Tops K M' H' a d:=by
 cases d with
 |lst ds=>let#[vs,h1,h2]:=h;exact#[vs,e _ h1,h2.pres p]
 |dic ks ds=>let#[vs,h1,h2,h3]:=h;exact#[vs,e _ h1,h2,h3.pres p]
 |dit ks ds=>let#[vs,h1,h2,h3]:=h;exact#[vs,e _ h1,h2,h3.pres p]
 |_=>assumption
def Tops.at{K:Frag}{M:Ch->Prop}{H:Hp}{a:Ch}{d:D}(h:Tops K M H a d)(n:¬M a):At K M H d^.ref a:=by
 cases d with
 |lst ds=>let#[vs,h1,h2]:=h;exact#[a,vs,rfl,#[n,h1],h2]
 |dic ks ds=>let#[vs,h1,h2,h3]:=h;exact#[a,vs,rfl,#[n,h1],h2,h3]
 |dit ks ds=>let#[vs,h1,h2,h3]:=h;exact#[a,vs,rfl,#[n,h1],h2,h3]
 |_=>exact(h).elim
noncomputable def AtT(K:Frag)(U:Ch->Prop)(M:Ch->Prop)(H:Hp):D->V->Prop
 |.lst ds,v=>∃a vs,v=.ref a/\¬U a/\Rd H a^.lst vs/\Ats K M H ds vs
 |.dic ks ds,v=>∃a vs,v=.ref a/\¬U a/\H a=P3^.dK^ks.zip vs/\ks.length=ds.length/\Ats K M H ds vs
 |.dit ks ds,v=>∃a vs,v=.ref a/\¬U a/\H a=P3^.dT^ks.zip vs/\ks.length=ds.length/\Ats K M H ds vs
 |d,v=>At K M H d v
def Tops.att{K:Frag}{U M:Ch->Prop}{H:Hp}{a:Ch}{d:D}(h:Tops K M H a d)(n:¬U a):AtT K U M H d^.ref a:=by
 cases d with
 |lst ds=>let#[vs,h1,h2]:=h;exact#[a,vs,rfl,n,.inl h1,h2]
 |dic ks ds=>let#[vs,h1,h2,h3]:=h;exact#[a,vs,rfl,n,h1,h2,h3]
 |dit ks ds=>let#[vs,h1,h2,h3]:=h;exact#[a,vs,rfl,n,h1,h2,h3]
 |_=>exact(h).elim
noncomputable def VR(K:Frag)(U:Ch->Prop)(M:Ch->Prop)(H H':Hp):Kd->V->D->Prop
 |.sh,v,d=>At K M H' d v
 |.tp,v,d=>AtT K U M H' d v
 |.fr,v,d=>∃a,v=.ref a/\H a=k_/\Tops K (λb=>M b\/b=a) H' a d
noncomputable def FeedOk(K:Frag)(M:Ch->Prop)(H:Hp)(f:Ch×Ch)(n:Nat):Prop:=
 ∃(at_ rest:Int) (cells:n_ Int),H f.1=P3^.lst [.ref f.2,.int at_,.int rest]/\f.2≠f.1/\NdL M H f.2^cells.map V.int/\cells.length<=63/\0<=at_/\at_+n<=2 ^ 60
mutual
noncomputable def flat:D->Bool
 |.tup ds=>A8 ds
 |.lst _=>m_
 |.dic _ _=>m_
 |.fdi _ _=>m_
 |.dit _ _=>m_
 |_=>l_
noncomputable def A8:n_ D->Bool
 |[]=>l_
 |d::ds=>flat d&&A8 ds
end
section
variable {K:Frag}{M M':Addr->Prop}{H H':Hp}
mutual
theorem IA(t:∀b vs,H b=P3^.tup vs->H' b=P3^.tup vs)(o:∀b o,H b=P3 o->∃o',H' b=P3 o'):∀(d:D) {v:V},flat d=l_->At K M H d v->At K M' H' d v
 |.non,_,_,h=>h
 |.bl _,_,_,h=>h
 |.int _,_,_,h=>h
 |.str _,_,_,h=>h
 |.tup ds,_,f,#[a,vs,e,n,h]=>#[a,vs,e,t _ _ n,BD t o ds f h]
 |.lst _,_,f,_=>by cases f
 |.dic _ _,_,f,_=>by cases f
 |.fdi _ _,_,f,_=>by cases f
 |.dit _ _,_,f,_=>by cases f
 |.ob _,_,_,#[e,_,h]=>#[e,o _ _ h]
theorem BD(t:∀b vs,H b=P3^.tup vs->H' b=P3^.tup vs)(o:∀b o,H b=P3 o->∃o',H' b=P3 o'):∀(ds:n_ D) {vs:n_ V},A8 ds=l_->Ats K M H ds vs->Ats K M' H' ds vs
 |[],_,_,h=>h
 |d::ds,_,f,#[v,r,e,h,hs]=>#[v,r,e,IA t o d (cP _ _▸f:_/\_).1 h,BD t o ds (cP _ _▸f:_/\_).2 hs]
end
end
noncomputable def CellOk(K:Frag)(M:Ch->Prop)(H:Hp)(a:Ch):Wc->Prop
 |.pl (.lst ds)=>¬M a/\∃vs,H a=P3^.vol^.lst vs/\A8 ds=l_/\Ats K M H ds vs
 |.pl (.dit ks ds)=>¬M a/\∃vs,H a=P3^.vol^.dT^ks.zip vs/\ks.length=ds.length/\A8 ds=l_/\Ats K M H ds vs
 |.pl _=>False
 |.ins C ks ds=>∃dx vs,H a=P3^.vol^.ins C dx^ks.zip vs/\ks.length=ds.length/\A8 ds=l_/\Ats K M H ds vs
noncomputable def FeedC(K:Frag)(F:o_ (Ch×Ch))(M:Ch->Prop)(H:Hp)(s:Sg):Prop:=(∀f,F=P3 f->FeedOk K M H f s.n)/\∀a c,s.w a=P3 c->CellOk K M H a c
noncomputable def Ext(U:Ch->Prop)(H H':Hp):Prop:=∀b o,H b=P3 o->∃o',H' b=P3 o'/\(¬U b->¬Sm o->o'=o)/\∀vs,o=.tup vs->o'=o
def Ext.keep{U:Ch->Prop}{H H':Hp}(p:Ext U H H'){b:Ch}{o:HO}(e:H b=P3 o)(n:¬U b)(nv:autoParam (¬Sm o) zau5._auto_1):H' b=P3 o:=by
 let#[o',q,r,_]:=p b o e;rw[q,r n nv]
def Ext.tup{U:Ch->Prop}{H H':Hp}(p:Ext U H H'){b:Ch}{vs:n_ V}(e:H b=P3^.tup vs):H' b=P3^.tup vs:=by
 let#[o',q,_,r]:=p b _ e
 grind
def Ext.free{U:Ch->Prop}{H H':Hp}(p:Ext U H H'){b:Ch}(e:H' b=k_):H b=k_:=by
 cases q:H b with
 |none=>rfl
 |some o=>
  let#[o',z,_]:=p b o q
  grind
def Ext.refl(U:Ch->Prop)(H:Hp):Ext U H H:=λ_ o e=>#[o,e,λ_ _=>rfl,λ_ _=>rfl]
def Ext.trans{U:Ch->Prop}{H1 H2 H3:Hp}(p:Ext U H1 H2)(q:Ext U H2 H3):Ext U H1 H3:=λb o e=>by
 let#[o',e1,r1,t1]:=p b o e;let#[o2,e2,r2,t2]:=q b o' e1;exact#[o2,e2,λn v=>(r2 n^by rw[r1 n v];exact v).trans^r1 n v,λvs z=>(t2 vs^(t1 vs z).trans z).trans^t1 vs z]
noncomputable def Grow(H H':Hp):Prop:=H'=H\/∃p o,H p=k_/\H'=Aq H p o
def Grow.all{H H':Hp}(g:Grow H H'):∀b o,H b=P3 o->H' b=P3 o:=by
 intro b o e
 rcases g with rfl|⟨p,u,n,rfl⟩
 .exact e
 .rw[AL^Ah e n];exact e
def Grow.refl{H:Hp}:Grow H H:=.inl rfl
def Grow.ext{U:Ch->Prop}{H H':Hp}(g:Grow H H'):Ext U H H':=λb o e=>#[o,g.all b o e,λ_ _=>rfl,λ_ _=>rfl]
def Grow.pres{M:Ch->Prop}{H H':Hp}(g:Grow H H'):Pres M H M H':=#[λb o e _ _=>g.all b o e,λ_ z=>.inl z,λb vs e=>g.all b _ e,λb o e=>#[o,g.all b o e]]
def FeedOk.pres{K:Frag}{M M':Ch->Prop}{H H':Hp}{f:Ch×Ch}{n:Nat}(h:FeedOk K M H f n)(p:Pres M H M' H')(e:∀o,H f.1=P3 o->H' f.1=P3 o):FeedOk K M' H' f n:=by
 let#[a,r,cs,h1,h2,h3,h4]:=h;exact#[a,r,cs,e _ h1,h2,h3.pres p,h4]
def CellOk.to{K:Frag}{M M':Ch->Prop}{H H':Hp}{a:Ch}{c:Wc}(h:CellOk K M H a c)(m:∀u,H a=P3^.vol u->¬M a->¬M' a)(t:∀b vs,H b=P3^.tup vs->H' b=P3^.tup vs)(o:∀b o,H b=P3 o->∃o',H' b=P3 o')(e:∀u,H a=P3^.vol u->H' a=P3^.vol u):CellOk K M' H' a c:=by
 cases c with
 |ins C ks ds=>let#[dx,vs,h1,h2,h3,h4]:=h;exact#[dx,vs,e _ h1,h2,h3,BD t o _ h3 h4]
 |pl d=>cases d with
  |lst ds=>let#[h0,vs,h1,h3,h4]:=h;exact#[m _ h1 h0,vs,e _ h1,h3,BD t o _ h3 h4]
  |dit ks ds=>let#[h0,vs,h1,h2,h3,h4]:=h;exact#[m _ h1 h0,vs,e _ h1,h2,h3,BD t o _ h3 h4]
  |_=>exact h.elim
def FeedC.pres{K:Frag}{F:o_ (Ch×Ch)}{M M':Ch->Prop}{H H':Hp}{n:Sg}(h:FeedC K F M H n)(p:Pres M H M' H')(e:∀f o,F=P3 f->H f.1=P3 o->H' f.1=P3 o)(v:∀a u,H a=P3^.vol u->H' a=P3^.vol u):FeedC K F M' H' n:=#[λf hf=>(h.1 f hf).pres p λo q=>e f o hf q,λa c q=>(h.2 a c q).to (λu q n z=>(p.2.1 a z).elim n λz=>by rw[q]at z;cases z) p.2.2.1 p.2.2.2^v a]
def FeedC.grow{K:Frag}{F:o_ (Ch×Ch)}{M:Ch->Prop}{H H':Hp}{n:Sg}(h:FeedC K F M H n)(g:Grow H H'):FeedC K F M H' n:=h.pres g.pres (λf o _ e=>g.all _ o e) λa u e=>g.all a _ e
def FeedC.more{K:Frag}{F:o_ (Ch×Ch)}{M:Ch->Prop}{H:Hp}{n:Sg}(h:FeedC K F M H n)(a:Ch)(ha:∀f,F=P3 f->f.2≠a)(hv:∀u,H a≠P3^.vol u):FeedC K F (λb=>M b\/b=a) H n:=by
 refine#[λf hf=>?_,λb c q=>?_]
 .let#[x,r,cs,h1,h2,h3,h4]:=h.1 f hf
  exact#[x,r,cs,h1,h2,#[λz=>z.elim h3.1^ha f hf,h3.2],h4]
 .have k:∀u,H b=P3^.vol u->b≠a:=λu e z=>hv u (z▸e)
  have h:=h.2 b c q;cases c with
  |ins C ks ds=>let#[dx,vs,h1,h2,h3,h4]:=h;exact#[dx,vs,h1,h2,h3,BD (λ_ _ z=>z) (λ_ o z=>#[o,z]) _ h3 h4]
  |pl d=>cases d with
   |lst ds=>let#[h0,vs,h1,h3,h4]:=h;exact#[λz=>z.elim h0^k _ h1,vs,h1,h3,BD (λ_ _ z=>z) (λ_ o z=>#[o,z]) _ h3 h4]
   |dit ks ds=>let#[h0,vs,h1,h2,h3,h4]:=h;exact#[λz=>z.elim h0^k _ h1,vs,h1,h2,h3,BD (λ_ _ z=>z) (λ_ o z=>#[o,z]) _ h3 h4]
   |_=>exact h.elim
noncomputable def AtX(K:Frag)(M:Ch->Prop)(H:Hp)(a:Ch)(nm:Str)(ks:n_ Str)(ds:n_ D):Prop:=∃C U dx u vs,XC K nm C U/\(¬M a/\H a=P3 u)/\XT C dx a u/\(dx=k_/\ks=[]/\vs=[]\/∃d,dx=P3 d/\¬M d/\H d=P3^.ext^XF d^ks.zip vs)/\ks.length=ds.length/\Ats K M H ds vs
def AtX.pres{K:Frag}{M M':Ch->Prop}{H H':Hp}{a:Ch}{nm:Str}{ks:n_ Str}{ds:n_ D}(h:AtX K M H a nm ks ds)(p:Pres M H M' H'):AtX K M' H' a nm ks ds:=by
 let#[C,U,dx,u,vs,c,#[n,ha],x,hd,hl,hs]:=h;refine#[C,U,dx,u,vs,c,p.nd n ha (by let#[_,_,rfl,_]:=x;rintro⟨_,z⟩;cases z),x,?_,hl,hs.pres p]
 rcases hd with z|⟨d,e1,n1,h1⟩
 .exact .inl z
 .exact .inr #[d,e1,p.nd n1 h1]
inductive Slot where
 |no|sh (d:D)|br (d:D)|fd|ow (d:D)|lt (a:Ch) (d:D)|ex (a:Ch) (nm:Str) (ks:List Str) (ds:List D)
noncomputable def Slot.owns:Slot->Bool
 |.ow _=>l_
 |.lt _ _=>l_
 |_=>m_
noncomputable def SlotOk(K:Frag)(F:o_ (Ch×Ch))(U:Ch->Prop)(M:Ch->Prop)(H:Hp):Slot->o_ V->Prop
 |.no,_=>True
 |.sh d,o=>∃v,o=P3 v/\At K M H d v
 |.br d,o=>∃v,o=P3 v/\AtT K U M H d v
 |.fd,o=>∃f,o=P3^.ref f.1/\F=P3 f
 |.ow d,o=>∃a,o=P3^.ref a/\M a/\¬U a/\Tops K M H a d
 |.lt a d,o=>o=P3^.ref a/\M a/\¬U a/\Tops K M H a d
 |.ex a nm ks ds,o=>o=P3^.ref a/\AtX K M H a nm ks ds
structure Fm where
 M0:Ch->Prop
 F:Option (Ch×Ch)
 U:Ch->Prop
 V:Ch->Prop
 H0:Hp
 zG:List ((Ch->Prop)×Hp)
 kp:List (Ch×HO)
noncomputable def Apart(ρ:n_ Slot)(Z:L2.St):Prop:=∀(i j:Nat) (s t:Slot) (a:Ch),ρ[i]?=P3 s->s.owns=l_->ρ[j]?=P3 t->t.owns=l_->(Z[i]?).getD k_=P3^.ref a->(Z[j]?).getD k_=P3^.ref a->i=j
structure Rel (K:Frag) (C:Fm) (M:Ch->Prop) (H:Hp) (n:Sg) (ρ:List Slot) (Z:L2.St):Prop where
 len:ρ.length=Z.length
 sub:∀a,C.M0 a->M a
 dom:∀a,M a->∃o,H a=P3 o
 ext:Ext C.U C.H0 H
 fU:∀f,C.F=P3 f->C.U f.1
 uV:∀a,C.U a->C.V a
 vM:∀a,C.V a->M a
 feed:FeedC K C.F M H n
 sl:∀(i:Nat) (s:Slot),ρ[i]?=P3 s->SlotOk K C.F C.V M H s ((Z[i]?).getD k_)
 pin:∀p∈C.zG,Pres p.1 p.2 M H
 br0:∀(i:Nat) (d:D) (a:Ch),ρ[i]?=P3^.br d->(Z[i]?).getD k_=P3^.ref a->∃o,C.H0 a=P3 o
 new:∀(i:Nat) (s:Slot) (a:Ch),ρ[i]?=P3 s->s.owns=l_->(Z[i]?).getD k_=P3^.ref a->¬C.M0 a/\C.H0 a=k_
 two:Apart ρ Z
 kept:∀p∈C.kp,H p.1=P3 p.2/\(M p.1/\¬Sm p.2)/\¬C.V p.1/\∀(i:Nat) (d:D),ρ[i]?=P3^.ow d->(Z[i]?).getD k_≠P3^.ref p.1
section
variable {K:Frag}{C:Fm}{M:Addr->Prop}{H H':Hp}{n n':Sg}{ρ:n_ Slot}{Z:L2.St}{d:D}{v:V}{κ:Kd}
def Rel.pres(R:Rel K C M H n ρ Z)(e:Ext C.U H H'):Pres M H M H':=#[λb o q nb nv=>e.keep q (λz=>nb^R.vM b^R.uV b z) nv,λ_ z=>.inl z,λb vs q=>e.tup q,λb o q=>let #[o',h,_]:=e b o q;#[o',h]]
def AtT.pres{U V':Ch->Prop}{M':Ch->Prop}(h:AtT K V' M H d v)(p:Pres M H M' H')(e:Ext U H H')(uV:∀a,U a->V' a):AtT K V' M' H' d v:=by
 cases d with
 |lst ds=>
  let#[a,vs,e1,n1,hq,hs]:=h;refine#[a,vs,e1,n1,?_,hs.pres p]
  rcases hq with hq|⟨o,hq⟩
  .exact .inl^e.keep hq λz=>n1^uV a z
  .exact .inr #[o,e.keep hq λz=>n1^uV a z]
 |dic ks ds=>
  let#[a,vs,e1,n1,hq,hl,hs]:=h;exact#[a,vs,e1,n1,e.keep hq λz=>n1^uV a z,hl,hs.pres p]
 |dit ks ds=>
  let#[a,vs,e1,n1,hq,hl,hs]:=h;exact#[a,vs,e1,n1,e.keep hq λz=>n1^uV a z,hl,hs.pres p]
 |non=>assumption
 |bl b=>assumption
 |int i=>assumption
 |str x=>assumption
 |tup ds=>exact At.pres p h
 |fdi ks ds=>exact At.pres p h
 |ob a=>exact At.pres p h
def AtT.same{U V':Ch->Prop}{M':Ch->Prop}(h:AtT K U M H d v)(p:Pres M H M' H')(e:∀a o,v=.ref a->H a=P3 o->H' a=P3 o)(nv:∀a,v=.ref a->¬U a->¬V' a):AtT K V' M' H' d v:=by
 cases d with
 |lst ds=>
  let#[a,vs,e1,n1,hq,hs]:=h;refine#[a,vs,e1,nv a e1 n1,?_,hs.pres p]
  rcases hq with hq|⟨o,hq⟩
  .exact .inl^e a _ e1 hq
  .exact .inr #[o,e a _ e1 hq]
 |dic ks ds=>
  let#[a,vs,e1,n1,hq,hl,hs]:=h;exact#[a,vs,e1,nv a e1 n1,e a _ e1 hq,hl,hs.pres p]
 |dit ks ds=>
  let#[a,vs,e1,n1,hq,hl,hs]:=h;exact#[a,vs,e1,nv a e1 n1,e a _ e1 hq,hl,hs.pres p]
 |non=>assumption
 |bl b=>assumption
 |int i=>assumption
 |str x=>assumption
 |tup ds=>exact At.pres p h
 |fdi ks ds=>exact At.pres p h
 |ob a=>exact At.pres p h
def AtT.lies{U:Ch->Prop}{a:Ch}(h:AtT K U M H d^.ref a):∃o,H a=P3 o:=by
 cases d with
 |lst ds=>
  let#[b,vs,e,_,hq,_]:=h;cases e
  rcases hq with hq|⟨o,hq⟩
  .exact#[_,hq]
  grind
 |dic ks ds=>
  let#[b,vs,e,_,hq,_]:=h
  grind
 |dit ks ds=>
  let#[b,vs,e,_,hq,_]:=h
  grind
 |non=>cases(h)
 |bl b=>cases(h)
 |int i=>cases(h)
 |str x=>cases(h).1
 |tup ds=>
  let#[b,vs,e,hq,_]:=h;cases e;exact#[_,hq]
 |fdi ks ds=>
  let#[b,vs,e,#[o,_,hq],_]:=h
  simp_all
 |ob b=>let#[e,h]:=h;cases e;exact h
def SlotOk.pres{F:o_ (Ch×Ch)}{U V' M':Ch->Prop}{s:Slot}{o:o_ V}(h:SlotOk K F V' M H s o)(p:Pres M H M' H')(m:∀a,M a->M' a)(e:Ext U H H')(uV:∀a,U a->V' a):SlotOk K F V' M' H' s o:=by
 cases s with
 |no=>trivial
 |sh d=>let#[v,e1,h1]:=h;exact#[v,e1,h1.pres p]
 |ex a nm ks ds=>let#[e1,h1]:=h;exact#[e1,h1.pres p]
 |br d=>let#[v,e1,h1]:=h;exact#[v,e1,h1.pres p e uV]
 |fd=>exact h
 |ow d=>let#[a,e1,h1,h2,h3]:=h;exact#[a,e1,m a h1,h2,h3.pres p λo q=>e.keep q (λz=>h2^uV a z)^h3.notV q]
 |lt a d=>let#[e1,h1,h2,h3]:=h;exact#[e1,m a h1,h2,h3.pres p λo q=>e.keep q (λz=>h2^uV a z)^h3.notV q]
def Rel.step(R:Rel K C M H n ρ Z)(e:Ext C.U H H')(f:FeedC K C.F M H' n'):Rel K C M H' n' ρ Z:=by
 have p:=R.pres e;refine#[R.len,R.sub,λa z=>?_,R.ext.trans e,R.fU,R.uV,R.vM,f,λi s q=>(R.sl i s q).pres p (λ_ z=>z) e R.uV,λq hq=>(R.pin q hq).trans p,R.br0,R.new,R.two,λq hq=>?_]
 .let#[o,h1]:=R.dom a z
  let#[o',h2,_]:=e a o h1
  grind
 .let#[h1,h2,h3,h4]:=R.kept q hq
  exact#[e.keep h1 (λz=>h3^R.uV _ z) h2.2,h2,h3,h4]
def Rel.udom(R:Rel K C M H n ρ Z):∀a,C.U a->∃o,H a=P3 o:=λa z=>R.dom a^R.vM a^R.uV a z
def At.tp{U:Ch->Prop}(uM:∀a,U a->M a)(h:At K M H d v):AtT K U M H d v:=by
 cases d with
 |lst ds=>
  let#[a,vs,e,hn,hs]:=h;exact#[a,vs,e,λz=>hn.1^uM a z,.inl hn.2,hs]
 |dic ks ds=>
  let#[a,vs,e,hn,hl,hs]:=h;exact#[a,vs,e,λz=>hn.1^uM a z,hn.2,hl,hs]
 |dit ks ds=>
  let#[a,vs,e,hn,hl,hs]:=h;exact#[a,vs,e,λz=>hn.1^uM a z,hn.2,hl,hs]
 |non=>exact h
 |bl b=>exact h
 |int i=>exact h
 |str x=>exact h
 |tup ds=>exact h
 |fdi ks ds=>exact h
 |ob a=>exact h
def VR.back{U V':Ch->Prop}{H1:Hp}(e:Ext U H H1)(h:VR K V' M H1 H' κ v d):VR K V' M H H' κ v d:=by
 cases κ with
 |sh=>exact h
 |tp=>exact h
 |fr=>
  let#[a,e1,h1,h2]:=h;exact#[a,e1,e.free h1,h2]
def VR.shOf{U:Ch->Prop}(dom:∀a,M a->∃o,H a=P3 o)(h:VR K U M H H' κ v d)(hk:κ≠.tp):At K M H' d v:=by
 cases κ with
 |sh=>exact h
 |tp=>grind
 |fr=>
  let#[a,rfl,h1,h2]:=h;refine(h2.pres (Pres.less λ_ z=>.inl z) λ_ z=>z).at λz=>?_
  grind
def VR.tpOf{U:Ch->Prop}(dom:∀a,M a->∃o,H a=P3 o)(uM:∀a,U a->M a)(h:VR K U M H H' κ v d):AtT K U M H' d v:=by
 cases κ with
 |sh=>exact At.tp uM h
 |tp=>exact h
 |fr=>exact At.tp uM^VR.shOf dom h^by grind
def Il{α:Type}{l:n_ α}{i j:Nat}{x y:α}(h:(l.set i x)[j]?=P3 y):(j=i/\i<l.length/\y=x)\/(j≠i/\l[j]?=P3 y):=by
 rw[List.getElem?_set]at h
 by_cases e:i=j
 .simp_all
 .rw[if_neg e]at h
  exact .inr #[λz=>e z.symm,h]
def Ll{l:L2.St}{i j:Nat}{x:o_ V}(h:j≠i):((l.set i x)[j]?).getD k_=(l[j]?).getD k_:=by
 rw[List.getElem?_set,if_neg λz=>h z.symm]
def TD{l:L2.St}{i:Nat}{x:o_ V}(h:i<l.length):((l.set i x)[i]?).getD k_=x:=by
 simp_all
def Rel.set(R:Rel K C M H n ρ Z){i:Nat}(h:At K M H d v):Rel K C M H n (ρ.set i^.sh d)^Z.set i^P3 v:=by
 have two:∀(j:Nat) (s:Slot),(ρ.set i^.sh d)[j]?=P3 s->s.owns=l_->ρ[j]?=P3 s/\((Z.set i^P3 v)[j]?).getD k_=(Z[j]?).getD k_:=λj s q o=>by
  rcases Il q with⟨_,_,rfl⟩|⟨hj,q⟩
  .cases o
  .exact#[q,Ll hj]
 refine#[by rw[f6,f6];exact R.len,R.sub,R.dom,R.ext,R.fU,R.uV,R.vM,R.feed,λj s q=>?_,R.pin,λj e a q q2=>?_,λj s a q o q2=>?_,λj k s t a q1 o1 q2 o2 z1 z2=>?_,λp hp=>?_]
 .rcases Il q with⟨rfl,hl,rfl⟩|⟨hj,q⟩
  .rw[TD^by rw[←R.len];exact hl]
   exact#[v,rfl,h]
  .rw[Ll hj]
   exact R.sl j s q
 .rcases Il q with⟨_,_,e⟩|⟨hj,q⟩
  .cases e
  .rw[Ll hj]at q2
   exact R.br0 j e a q q2
 .let#[q1,e]:=two j s q o
  rw[e]at q2;exact R.new j s a q1 o q2
 .let#[p1,e1]:=two j s q1 o1
  let#[p2,e2]:=two k t q2 o2;rw[e1]at z1;rw[e2]at z2;exact R.two j k s t a p1 o1 p2 o2 z1 z2
 .let#[h1,h2,h3,h4]:=R.kept p hp
  refine#[h1,h2,h3,λj e q=>?_];let#[q1,e2]:=two j _ q rfl;rw[e2];exact h4 j e q1
def Rel.owner(R:Rel K C M H n ρ Z){i:Nat}{s:Slot}(h:ρ[i]?=P3 s)(o:s.owns=l_):∃a e,(Z[i]?).getD k_=P3^.ref a/\M a/\¬C.V a/\Tops K M H a e/\¬C.M0 a/\C.H0 a=k_:=by
 have q:=R.sl i s h;cases s with
 |ow d=>let#[a,e1,h1,h2,h3]:=q;exact#[a,d,e1,h1,h2,h3,R.new i _ a h o e1]
 |lt a d=>let#[e1,h1,h2,h3]:=q;exact#[a,d,e1,h1,h2,h3,R.new i _ a h o e1]
 |_=>cases o
def Rel.setOw(R:Rel K C M H n ρ Z){i:Nat}{a:Ch}(e:Ext C.U H H')(f:FeedC K C.F M H' n')(ha:H a=k_)(h:Tops K (λb=>M b\/b=a) H' a d):
  Rel K C (λb=>M b\/b=a) H' n' (ρ.set i^.ow d) (Z.set i^P3^.ref a):=by
 have R1:=R.step e f
 have ne:∀b,M b->b≠a:=λb z q=>by
  let#[o,w]:=R.dom b z;rw[q,ha]at w;cases w
 have a0:¬C.M0 a/\C.H0 a=k_:=#[λz=>ne a (R.sub a z) rfl,R.ext.free ha];have pr:Pres M H (λb=>M b\/b=a) H':=#[λb o q nb nv=>e.keep q (λz=>nb^R.vM b^R.uV b z) nv,λb z=>z.elim .inl λz=>.inr (by rw[z];exact ha),λb vs q=>e.tup q,λb o q=>let #[o',h,_]:=e b o q;#[o',h]]
 have two:∀(j:Nat) (s:Slot),(ρ.set i^.ow d)[j]?=P3 s->(j=i/\s=.ow d/\((Z.set i^P3^.ref a)[j]?).getD k_=P3^.ref a)\/(j≠i/\ρ[j]?=P3 s/\((Z.set i^P3^.ref a)[j]?).getD k_=(Z[j]?).getD k_):=λj s q=>by
  rcases Il q with⟨rfl,hl,rfl⟩|⟨hj,q⟩
  .exact .inl #[rfl,rfl,TD^by rw[←R.len];exact hl]
  .exact .inr #[hj,q,Ll hj]
 have old:∀(j:Nat) (s:Slot) (b:Ch),ρ[j]?=P3 s->s.owns=l_->(Z[j]?).getD k_=P3^.ref b->b≠a:=λj s b q o z=>by
  let#[c,_,e1,m,_]:=R.owner q o;rw[e1]at z;cases z;exact ne _ m
 have hd:∃o,H' a=P3 o:=by
  cases d with
  |lst ds=>let#[vs,q,_]:=h;exact#[_,q]
  |dic ks ds=>let#[vs,q,_]:=h;exact#[_,q]
  |dit ks ds=>let#[vs,q,_]:=h;exact#[_,q]
  |_=>exact(show False from h).elim
 refine#[by rw[f6,f6];exact R.len,λb z=>.inl^R.sub b z,λb z=>?_,R1.ext,R.fU,R.uV,λb z=>.inl^R.vM b z,f.more a (λg hg q=>?_) λu z=>h.notV z #[u,rfl],λj s q=>?_,λq hq=>(R.pin q hq).trans pr,λj e2 b q q2=>?_,λj s b q o q2=>?_,λj k s t b q1 o1 q2 o2 z1 z2=>?_,λp hp=>?_]
 .rcases z with z|z
  .exact R1.dom b z
  .rw[z];exact hd
 .let#[_,_,_,_,_,h3,_]:=R.feed.1 g hg
  have:=h3.2
  rw[q,ha]at this;cases this
 .rcases two j s q with⟨rfl,rfl,e1⟩|⟨hj,q1,e1⟩
  .rw[e1]
   exact#[a,rfl,.inr rfl,λz=>ne a (R.vM a z) rfl,h]
  .rw[e1]
   exact(R.sl j s q1).pres pr (λ_ z=>.inl z) e R.uV
 .rcases two j _ q with⟨_,e1,_⟩|⟨hj,q1,e1⟩
  .cases e1
  .rw[e1]at q2
   exact R.br0 j e2 b q1 q2
 .rcases two j s q with⟨_,_,e1⟩|⟨hj,q1,e1⟩
  .rw[e1]at q2
   cases q2;exact a0
  .rw[e1]at q2
   exact R.new j s b q1 o q2
 .rcases two j s q1 with⟨rfl,_,e1⟩|⟨hj,p1,e1⟩
  .rw[e1]at z1
   cases z1
   rcases two k t q2 with⟨rfl,_,_⟩|⟨hk,p2,e2⟩
   .rfl
   .rw[e2]at z2
    exact absurd rfl (old k t a p2 o2 z2)
  .rw[e1]at z1
   rcases two k t q2 with⟨rfl,_,e2⟩|⟨hk,p2,e2⟩
   .rw[e2]at z2
    cases z2;exact absurd rfl (old j s a p1 o1 z1)
   .rw[e2]at z2
    exact R.two j k s t b p1 o1 p2 o2 z1 z2
 .let#[h1,h2,h3,h4]:=R1.kept p hp
  refine#[h1,#[.inl h2.1,h2.2],h3,λj e2 q=>?_]
  rcases two j _ q with⟨_,_,e1⟩|⟨hj,q1,e1⟩
  .rw[e1]
   intro z;cases z;exact ne _ h2.1 rfl
  .rw[e1]
   exact h4 j e2 q1
def Rel.mut(R:Rel K C M H n ρ Z){i:Nat}{a:Ch}{e:D}{o:HO}(hi:ρ[i]?=P3^.ow d)(ha:(Z[i]?).getD k_=P3^.ref a)(h:Tops K M (Aq H a o) a e):
  Rel K C M (Aq H a o) n (ρ.set i^.ow e) Z:=by
 let#[b,_,e1,m,nv,t,n0,h0]:=R.owner hi rfl;rw[ha]at e1;cases e1;have pr:Pres M H M^Aq H a o:=#[λb o' q nb _=>by rw[AL λz=>nb^by rw[z];exact m];exact q,λ_ z=>.inl z,λb vs q=>by rw[AL λz=>t.notT^by rw[←z];exact q];exact q,λb o' q=>(fZ (b=a)).elim (λz=>#[o,by rw[z,AM]]) λz=>#[o',by rw[AL z];exact q]]
 have old:∀(j:Nat) (s:Slot),(ρ.set i^.ow e)[j]?=P3 s->(j=i/\s=.ow e)\/(j≠i/\ρ[j]?=P3 s):=λj s q=>by
  rcases Il q with⟨rfl,hl,rfl⟩|⟨hj,q⟩
  .exact .inl #[rfl,rfl]
  .exact .inr #[hj,q]
 have far:∀(j:Nat) (s:Slot) (b:Ch),j≠i->ρ[j]?=P3 s->s.owns=l_->(Z[j]?).getD k_=P3^.ref b->b≠a:=λj s b hj q o z w=>by
  subst w;exact hj (R.two j i s _ b q o hi rfl z ha)
 refine#[by rw[f6];exact R.len,R.sub,λb z=>?_,λb o' q=>?_,R.fU,R.uV,R.vM,R.feed.pres pr (λf o' hf q=>?_) (λb u q=>by rw[AL λz=>t.notV (by rw[←z];exact q) #[u,rfl]];exact q),λj s q=>?_,λq hq=>(R.pin q hq).trans pr,λj e2 b q q2=>?_,λj s b q o2 q2=>?_,λj k s t b q1 o1 q2 o2 z1 z2=>?_,λp hp=>?_]
 .by_cases hb:b=a
  .exact#[o,by rw[hb,AM]]
  .let#[o',q]:=R.dom b z
   exact#[o',by rw[AL hb];exact q]
 .let#[o2,q2,r]:=R.ext b o' q
  have hb:b≠a:=λz=>by rw[z,h0]at q;cases q
  exact#[o2,by rw[AL hb];exact q2,r]
 .have hb:f.1≠a:=λz=>nv^by rw[←z];exact R.uV _^R.fU f hf
  rw[AL hb];exact q
 .rcases old j s q with⟨rfl,rfl⟩|⟨hj,q1⟩
  .rw[ha]
   exact#[a,rfl,m,nv,h]
  .have q2:=R.sl j s q1
   cases s with
   |no=>trivial
   |sh d=>let#[v,e1,h1]:=q2;exact#[v,e1,h1.pres pr]
   |ex a nm ks ds=>let#[e1,h1]:=q2;exact#[e1,h1.pres pr]
   |br d=>
    let#[v,e1,h1]:=q2;refine#[v,e1,h1.same pr (λb o' z q=>?_) λ_ _ z=>z];subst z;let#[o3,w]:=R.br0 j d b q1 e1;rw[AL λz=>by rw[z,h0]at w;cases w];exact q
   |fd=>exact q2
   |ow d=>
    let#[b,e1,h1,h2,h3]:=q2;exact#[b,e1,h1,h2,h3.pres pr λo' w=>by rw[AL (far j _ b hj q1 rfl e1)];exact w]
   |lt b d=>
    let#[e1,h1,h2,h3]:=q2;exact#[e1,h1,h2,h3.pres pr λo' w=>by rw[AL (far j _ b hj q1 rfl e1)];exact w]
 .rcases old j _ q with⟨_,e1⟩|⟨hj,q1⟩
  .cases e1
  .exact R.br0 j e2 b q1 q2
 .rcases old j s q with⟨rfl,_⟩|⟨hj,q1⟩
  .exact R.new j _ b hi rfl q2
  .exact R.new j s b q1 o2 q2
 .rcases old j s q1 with⟨rfl,rfl⟩|⟨hj,p1⟩
  .rcases old k t q2 with⟨rfl,_⟩|⟨hk,p2⟩
   .rfl
   .exact R.two j k _ t b hi rfl p2 o2 z1 z2
  .rcases old k t q2 with⟨rfl,rfl⟩|⟨hk,p2⟩
   .exact R.two j k s _ b p1 o1 hi rfl z1 z2
   .exact R.two j k s t b p1 o1 p2 o2 z1 z2
 .let#[h1,h2,h3,h4]:=R.kept p hp
  have hb:p.1≠a:=λz=>h4 i d hi (by rw[ha,z]);refine#[by rw[AL hb];exact h1,h2,h3,λj e2 q=>?_]
  rcases old j _ q with⟨rfl,_⟩|⟨hj,q1⟩
  .exact h4 j d hi
  .exact h4 j e2 q1
end
noncomputable abbrev DW:=Sg->n_ Slot->(D->Sg->Prop)->Prop
noncomputable abbrev Hd:=Sg->n_ Slot->(Bool->Sg->Prop)->Prop
noncomputable abbrev Dw:=Sg->n_ Slot->(n_ D->Sg->Prop)->Prop
noncomputable abbrev Sd:=Sg->n_ Slot->(n_ Slot->Sg->Prop)->Prop
section
variable (X:Cx)
noncomputable def DE(e:cJ)(κ:Kd)(w:DW):Prop:=∃t,PE X e t/\∀(C:Fm) (M:Ch->Prop) (H:Hp) (n:Sg) (ρ:n_ Slot) (Z:L2.St) (P:D->Sg->Prop) (Q:VK),Rel X.K C M H n ρ Z->w n ρ P->
 (∀v H' d n',Ext C.U H H'->FeedC X.K C.F M H' n'->VR X.K C.V M H H' κ v d->P d n'->Q v H')->t Z H Q
noncomputable def DT(e:cJ)(w:Hd):Prop:=∃t,PT X e t/\∀(C:Fm) (M:Ch->Prop) (H:Hp) (n:Sg) (ρ:n_ Slot) (Z:L2.St) (P:Bool->Sg->Prop) (Q:Bool->Hp->Prop),Rel X.K C M H n ρ Z->w n ρ P->
 (∀b H' n',Ext C.U H H'->FeedC X.K C.F M H' n'->P b n'->Q b H')->t Z H Q
noncomputable def DTW(e:cJ)(w:Hd):Prop:=∃t,PW X e t/\∀(C:Fm) (M:Ch->Prop) (H:Hp) (n:Sg) (ρ:n_ Slot) (Z:L2.St) (P:Bool->Sg->Prop) (Q:Bool->Hp->Prop),Rel X.K C M H n ρ Z->w n ρ P->
 (∀b H' n',Ext C.U H H'->FeedC X.K C.F M H' n'->P b n'->Q b H')->t Z H Q
noncomputable def Xa(es:n_ cJ)(w:Dw):Prop:=∃t,PA X es t/\∀(C:Fm) (M:Ch->Prop) (H:Hp) (n:Sg) (ρ:n_ Slot) (Z:L2.St) (P:n_ D->Sg->Prop) (Q:n_ V->Hp->Prop),Rel X.K C M H n ρ Z->w n ρ P->
 (∀vs H' ds n',Ext C.U H H'->FeedC X.K C.F M H' n'->Paired (λv d=>AtT X.K C.V M H' d v) vs ds->P ds n'->Q vs H')->t Z H Q
noncomputable def XZ(es:n_ cJ)(w:Dw):Prop:=∃t,PA X es t/\∀(C:Fm) (M:Ch->Prop) (H:Hp) (n:Sg) (ρ:n_ Slot) (Z:L2.St) (P:n_ D->Sg->Prop) (Q:n_ V->Hp->Prop),Rel X.K C M H n ρ Z->w n ρ P->
 (∀vs H' ds n',Ext C.U H H'->FeedC X.K C.F M H' n'->Ats X.K M H' ds vs->P ds n'->Q vs H')->t Z H Q
noncomputable def EW(K:Frag)(F:o_ (Ch×Ch))(V' M:Ch->Prop)(H:Hp)(v:V)(s:Slot):Prop:=SlotOk K F V' M H s^P3 v/\s.owns=m_
noncomputable def aY(e:cJ)(w:Sg->n_ Slot->(Slot->Sg->Prop)->Prop):Prop:=∃t,PE X e t/\∀(C:Fm) (M:Ch->Prop) (H:Hp) (n:Sg) (ρ:n_ Slot) (Z:L2.St) (P:Slot->Sg->Prop) (Q:VK),Rel X.K C M H n ρ Z->w n ρ P->
 (∀v H' s n',Ext C.U H H'->FeedC X.K C.F M H' n'->EW X.K C.F C.V M H' v s->P s n'->Q v H')->t Z H Q
noncomputable def Wi(es:n_ cJ)(w:Sd):Prop:=∃t,PA X es t/\∀(C:Fm) (M:Ch->Prop) (H:Hp) (n:Sg) (ρ:n_ Slot) (Z:L2.St) (P:n_ Slot->Sg->Prop) (Q:n_ V->Hp->Prop),Rel X.K C M H n ρ Z->w n ρ P->
 (∀vs H' ss n',Ext C.U H H'->FeedC X.K C.F M H' n'->Paired (EW X.K C.F C.V M H') vs ss->P ss n'->Q vs H')->t Z H Q
end
noncomputable def AA(i:Nat):DW:=λn ρ P=>match ρ[i]? with
 |some (.sh d)=>P d n
 |_=>False
noncomputable def Ar(i:Nat):DW:=λn ρ P=>match ρ[i]? with
 |some (.sh d)=>P d n
 |some (.br d)=>P d n
 |some (.ow d)=>P d n
 |some (.lt _ d)=>P d n
 |_=>False
noncomputable def wC(d:D):DW:=λn _ P=>P d n
section
variable {X:Cx}{a b c e:Expr}{κ zU zR:Kd}{wa wb:DW}{pos:Pos}
def getD_some{Z:L2.St}{i:Nat}{v:V}(h:(Z[i]?).getD k_=P3 v):Z[i]?=P3^P3 v:=by
 cases q:Z[i]? with
 |none=>simp_all
 |some o=>simp_all
def WQ{i:Nat}(h:PE X e^Bu i):DE X e .sh^AA i:=by
 refine#[_,h,λC M H n ρ Z P Q R w q=>?_];unfold AA at w
 split at w
 .rename_i d hd
  let#[v,e1,h1]:=R.sl i _ hd;exact#[v,getD_some e1,q v H d n (Ext.refl _ _) R.feed h1 w]
 grind
def Uz{i:Nat}(h:PE X e^Bu i):DE X e .tp^Ar i:=by
 refine#[_,h,λC M H n ρ Z P Q R w q=>?_];unfold Ar at w
 split at w
 .rename_i d hd
  let#[v,e1,h1]:=R.sl i _ hd;exact#[v,getD_some e1,q v H d n (Ext.refl _ _) R.feed (At.tp R.vM h1) w]
 .rename_i d hd
  let#[v,e1,h1]:=R.sl i _ hd;exact#[v,getD_some e1,q v H d n (Ext.refl _ _) R.feed h1 w]
 .rename_i d hd
  let#[a,e1,_,h2,h3]:=R.sl i _ hd;exact#[.ref a,getD_some e1,q _ H d n (Ext.refl _ _) R.feed (h3.att h2) w]
 .rename_i a d hd
  let#[e1,_,h2,h3]:=R.sl i _ hd;exact#[.ref a,getD_some e1,q _ H d n (Ext.refl _ _) R.feed (h3.att h2) w]
 .exact w.elim
def dv(i:Nat){x:Str}{pos:Pos}(hN:autoParam (X.N[i]?=P3 x) zau3._auto_1)(hv:autoParam (Yx X.env.scope x) zau4._auto_1)(hd:autoParam ((x==("__debug__":Str))=m_) zau1._auto_1)
  (hcd:autoParam ((x==("__classdict__":Str))=m_) zau1._auto_1):DE X (.Name x pos) .sh^AA i:=WQ^L4 hN hv hd hcd
def Je(i:Nat){x:Str}{pos:Pos}(hN:autoParam (X.N[i]?=P3 x) zau3._auto_1)(hv:autoParam (Yx X.env.scope x) zau4._auto_1)(hd:autoParam ((x==("__debug__":Str))=m_) zau1._auto_1)
  (hcd:autoParam ((x==("__classdict__":Str))=m_) zau1._auto_1):DE X (.Name x pos) .tp^Ar i:=Uz^L4 hN hv hd hcd
def EI{d:D}{v:V}(h:PE X e^tC v)(hd:∀M H,At X.K M H d v):DE X e .sh^wC d:=
 #[_,h,λC M H n ρ Z P Q R w q=>q v H d n (Ext.refl _ _) R.feed (hd M H) w]
def AG{i:Int}{j pos}:DE X (.Constant (.int i) j pos) .sh^wC^.int i:=EI Ax λ_ _=>rfl
def EJ{b:Bool}{j pos}:DE X (.Constant (.bool b) j pos) .sh^wC^.bl b:=EI Zl λ_ _=>rfl
def CK{j pos}:DE X (.Constant .none j pos) .sh^wC .non:=EI YB λ_ _=>rfl
def Ag{x:Str}{j pos}(hx:autoParam (decide (x.length<=1000)=l_) zau3._auto_1):DE X (.Constant (.str x) j pos) .sh^wC^.str x:=
 EI PH λ_ _=>#[rfl,cG (of_decide_eq_true hx)^by cbv]
def Qr{x:Str}{i:Int}{t:Tok}{pos:Pos}(hg:Gl X x)(hm:X.mg x=P3^.int i t)(hd:autoParam ((x==("__debug__":Str))=m_) zau1._auto_1):DE X (.Name x pos) .sh^wC^.int i:=
 EI (Vs hg hm (v:=.int i) #[t,rfl] hd) λ_ _=>rfl
noncomputable def El(K:Frag)(κ:Kd)(r:R2)(f:D->D->(D->Prop)->Prop):Prop:=∀(U:Ch->Prop) (M:Ch->Prop) (H:Hp) (d e:D) (x y:V) (P:D->Prop) (Q:VK),(∀a,M a->∃o,H a=P3 o)->(∀a,U a->M a)->
 AtT K U M H d x->AtT K U M H e y->f d e P->(∀v H' z,Grow H H'->VR K U M H H' κ v z->P z->Q v H')->r x y H Q
noncomputable def AV(f:D->D->(D->Prop)->Prop)(wa wb:DW):DW:=λn ρ P=>wa n ρ λx n1=>wb n1 ρ λy n2=>f x y λz=>P z n2
def Dg{r:R2}{f:D->D->(D->Prop)->Prop}(hA:El X.K κ r f){ta tb:TE}(ha:∀(C:Fm) (M:Ch->Prop) (H:Hp) (n:Sg) (ρ:n_ Slot) (Z:L2.St) (P:D->Sg->Prop) (Q:VK),Rel X.K C M H n ρ Z->wa n ρ P->
   (∀v H' d n',Ext C.U H H'->FeedC X.K C.F M H' n'->VR X.K C.V M H H' zU v d->P d n'->Q v H')->ta Z H Q)
  (hb:∀(C:Fm) (M:Ch->Prop) (H:Hp) (n:Sg) (ρ:n_ Slot) (Z:L2.St) (P:D->Sg->Prop) (Q:VK),Rel X.K C M H n ρ Z->wb n ρ P->
   (∀v H' d n',Ext C.U H H'->FeedC X.K C.F M H' n'->VR X.K C.V M H H' zR v d->P d n'->Q v H')->tb Z H Q)
  (C:Fm) (M:Ch->Prop) (H:Hp) (n:Sg) (ρ:n_ Slot) (Z:L2.St) (P:D->Sg->Prop) (Q:VK) (R:Rel X.K C M H n ρ Z) (w:AV f wa wb n ρ P)
  (q:∀v H' d n',Ext C.U H H'->FeedC X.K C.F M H' n'->VR X.K C.V M H H' κ v d->P d n'->Q v H'):C6 r ta tb Z H Q:=by
 refine ha C M H n ρ Z _ _ R w λx H1 d n1 e1 f1 r1 w1=>?_;have R1:=R.step e1 f1;refine hb C M H1 n1 ρ Z _ _ R1 w1 λy H2 e n2 e2 f2 r2 w2=>?_;have R2':=R1.step e2 f2;exact hA _ M H2 d e x y _ _ R2'.dom R2'.vM ((r1.tpOf R.dom R.vM).pres (R1.pres e2) e2 R.uV) (r2.tpOf R1.dom R1.vM) w2 λv H3 z g vr p=>q v H3 z n2 ((e1.trans e2).trans g.ext) (f2.grow g) (VR.back (e1.trans e2) vr) p
def Ba{op:Operator}{r:R2}{f:D->D->(D->Prop)->Prop}(ho:OpR X (binaryOp op) r)(hA:El X.K κ r f)(ha:DE X a zU wa)(hb:DE X b zR wb):DE X (.BinOp a op b pos) κ^AV f wa wb:=by
 let#[ta,ha1,ha2]:=ha;let#[tb,hb1,hb2]:=hb;exact#[_,Bl ho ha1 hb1,λC M H n ρ Z P Q R w q=>Dg hA ha2 hb2 C M H n ρ Z P Q R w q]
def AY{r:R2}{f:D->D->(D->Prop)->Prop}(ho:IxR X r)(hA:El X.K κ r f)(ha:DE X a zU wa)(hb:DE X b zR wb)(hs:autoParam (Q6 b) zau6._auto_1):DE X (.Subscript a b pos) κ^AV f wa wb:=by
 let#[ta,ha1,ha2]:=ha;let#[tb,hb1,hb2]:=hb;exact#[_,Dk ho ha1 hb1 hs,λC M H n ρ Z P Q R w q=>Dg hA ha2 hb2 C M H n ρ Z P Q R w q]
def Yh{op:CmpOp}{r:R2}{f:D->D->(D->Prop)->Prop}(ho:OpR X (compareOp op) r)(hA:El X.K .sh r f)(ha:DE X a zU wa)(hb:DE X b zR wb)(hm:behindInMarks op b=m_):DE X (.Compare a [op] [b] pos) .sh^AV f wa wb:=by
 let#[ta,ha1,ha2]:=ha;let#[tb,hb1,hb2]:=hb;exact#[_,Vu ho ha1 hb1 hm,λC M H n ρ Z P Q R w q=>Dg hA ha2 hb2 C M H n ρ Z P Q R w q]
noncomputable def AX(w:DW):Hd:=λn ρ P=>w n ρ λd n1=>match d with
 |.bl b=>P b n1
 |_=>False
def QC{U:Ch->Prop}{K:Frag}{M:Ch->Prop}{H H':Hp}{v:V}{b:Bool}(h:VR K U M H H' κ v^.bl b):v=.bl b:=by
 cases κ with
 |sh=>exact h
 |tp=>exact h
 |fr=>let#[a,_,_,t]:=h;exact(t).elim
def Af{op:CmpOp}{r:R2}{f:D->D->(D->Prop)->Prop}(ho:OpR X (compareOp op) r)(hA:El X.K .sh r f)(ha:DE X a zU wa)(hb:DE X b zR wb)(hm:behindInMarks op b=m_):DT X (.Compare a [op] [b] pos)^AX^AV f wa wb:=by
 let#[ta,ha1,ha2]:=ha;let#[tb,hb1,hb2]:=hb;refine#[_,Ft ho ha1 hb1 hm,λC M H n ρ Z P Q R w q=>?_];refine Dg hA ha2 hb2 C M H n ρ Z _ _ R w λv H' d n' e f r p=>?_;cases d with
 |bl b=>exact#[b,QC r,q b H' n' e f p]
 |_=>exact p.elim
def Jf(h:DE X e κ wa)(he:autoParam (∀whole,isTrue e X.env whole=(do let v ←whole;standAt e.pos;holding [v]^truthy v)) zau2._auto_1):DT X e^AX wa:=by
 let#[t,h1,h2]:=h;refine#[_,X6 h1 he,λC M H n ρ Z P Q R w q=>?_];refine h2 C M H n ρ Z _ _ R w λv H' d n' e f r p=>?_;cases d with
 |bl b=>exact#[b,QC r,q b H' n' e f p]
 |_=>exact p.elim
noncomputable def G7(u v:Hd):Hd:=λn ρ P=>u n ρ λc n1=>if c=l_ then v n1 ρ P else P m_ n1
noncomputable def IT(u v:Hd):Hd:=λn ρ P=>u n ρ λc n1=>if c=l_ then P l_ n1 else v n1 ρ P
noncomputable def G6(u:Hd):Hd:=λn ρ P=>u n ρ λc n1=>P (!c) n1
variable {wA wB:Hd}{rest:n_ Expr}
def IC(h:DT X a wA):DTW X (.BoolOp .And [a] pos) wA:=by
 let#[t,h1,h2]:=h;exact#[t,QM h1,h2]
def Gv(h:DT X a wA):DTW X (.BoolOp .Or [a] pos) wA:=by
 let#[t,h1,h2]:=h;exact#[t,X5 h1,h2]
def MV(ha:DT X a wA)(hb:DTW X (.BoolOp .And (b::rest) pos) wB):DTW X (.BoolOp .And (a::b::rest) pos)^G7 wA wB:=by
 let#[t,h1,h2]:=ha;let#[u,g1,g2]:=hb;refine#[_,Tr h1 g1,λC M H n ρ Z P Q R w q=>?_];refine h2 C M H n ρ Z _ _ R w λc H1 n1 e1 f1 p=>?_;cases c with
 |false=>exact q _ H1 n1 e1 f1 p
 |true=>exact g2 C M H1 n1 ρ Z P Q (R.step e1 f1) p λb H2 n2 e2 f2 p2=>q b H2 n2 (e1.trans e2) f2 p2
def LI(ha:DT X a wA)(hb:DTW X (.BoolOp .Or (b::rest) pos) wB):DTW X (.BoolOp .Or (a::b::rest) pos)^IT wA wB:=by
 let#[t,h1,h2]:=ha;let#[u,g1,g2]:=hb;refine#[_,Zj h1 g1,λC M H n ρ Z P Q R w q=>?_];refine h2 C M H n ρ Z _ _ R w λc H1 n1 e1 f1 p=>?_;cases c with
 |true=>exact q _ H1 n1 e1 f1 p
 |false=>exact g2 C M H1 n1 ρ Z P Q (R.step e1 f1) p λb H2 n2 e2 f2 p2=>q b H2 n2 (e1.trans e2) f2 p2
def DTW.dt(h:DTW X e wA):DT X e wA:=by
 let#[t,h1,h2]:=h;exact#[t,h1.pt,h2]
def Gw(ha:DT X a wA):DT X (.UnaryOp .Not a pos)^G6 wA:=by
 let#[t,h1,h2]:=ha;exact#[_,X7 h1,λC M H n ρ Z P Q R w q=>h2 C M H n ρ Z _ _ R w λc H1 n1 e1 f1 p=>q _ H1 n1 e1 f1 p]
noncomputable def Xh(t:Hd)(u v:DW):DW:=λn ρ P=>t n ρ λc n1=>if c=l_ then u n1 ρ P else v n1 ρ P
def U1(hc:DT X c wA)(ha:DE X a κ wa)(hb:DE X b κ wb):DE X (.IfExp c a b pos) κ^Xh wA wa wb:=by
 let#[t,h1,h2]:=hc;let#[u,g1,g2]:=ha;let#[u',k1,k2]:=hb;refine#[_,Nc h1 g1 k1,λC M H n ρ Z P Q R w q=>?_];refine h2 C M H n ρ Z _ _ R w λc H1 n1 e1 f1 p=>?_;cases c with
 |true=>exact g2 C M H1 n1 ρ Z P Q (R.step e1 f1) p λv H2 d n2 e2 f2 r2 p2=>q v H2 d n2 (e1.trans e2) f2 (VR.back e1 r2) p2
 |false=>exact k2 C M H1 n1 ρ Z P Q (R.step e1 f1) p λv H2 d n2 e2 f2 r2 p2=>q v H2 d n2 (e1.trans e2) f2 (VR.back e1 r2) p2
noncomputable def AQ:Dw:=λn _ P=>P [] n
noncomputable def AD(w:DW)(ws:Dw):Dw:=λn ρ P=>w n ρ λd n1=>ws n1 ρ λds n2=>P (d::ds) n2
variable {es:n_ Expr}{ws:Dw}
def Ab:Xa X [] AQ:=#[_,Ck,λC M H n ρ Z P Q R w q=>q [] H [] n (Ext.refl _ _) R.feed .nil w]
def AO:XZ X [] AQ:=#[_,Ck,λC M H n ρ Z P Q R w q=>q [] H [] n (Ext.refl _ _) R.feed rfl w]
def AT(ha:DE X e κ wa)(hr:Xa X es ws)(hs:autoParam (starEach (e::es) X.env=(m_,eval e X.env)::starEach es X.env) zau3._auto_1):Xa X (e::es)^AD wa ws:=by
 let#[t,h1,h2]:=ha;let#[u,g1,g2]:=hr;refine#[_,Bp h1 g1 hs,λC M H n ρ Z P Q R w q=>?_];refine h2 C M H n ρ Z _ _ R w λv H1 d n1 e1 f1 r1 p=>?_;have R1:=R.step e1 f1;exact g2 C M H1 n1 ρ Z _ _ R1 p λvs H2 ds n2 e2 f2 r2 p2=>q _ H2 _ n2 (e1.trans e2) f2 (.cons ((r1.tpOf R.dom R.vM).pres (R1.pres e2) e2 R.uV) r2) p2
def AB(ha:DE X e κ wa)(hr:XZ X es ws)(hk:autoParam (κ≠.tp) zau7._auto_1)(hs:autoParam (starEach (e::es) X.env=(m_,eval e X.env)::starEach es X.env) zau3._auto_1):XZ X (e::es)^AD wa ws:=by
 let#[t,h1,h2]:=ha;let#[u,g1,g2]:=hr;refine#[_,Bp h1 g1 hs,λC M H n ρ Z P Q R w q=>?_];refine h2 C M H n ρ Z _ _ R w λv H1 d n1 e1 f1 r1 p=>?_;have R1:=R.step e1 f1;exact g2 C M H1 n1 ρ Z _ _ R1 p λvs H2 ds n2 e2 f2 r2 p2=>q _ H2 (d::ds) n2 (e1.trans e2) f2 #[v,vs,rfl,(r1.shOf R.dom hk).pres^R1.pres e2,r2] p2
noncomputable def A3(ws:Dw):DW:=λn ρ P=>ws n ρ λds n1=>ds.length<=sizeLine/\P (.tup ds) n1
noncomputable def Dy(ws:Dw):DW:=λn ρ P=>ws n ρ λds n1=>ds.length<=sizeLine/\P (.lst ds) n1
def FS{M:Ch->Prop}{H:Hp}{p:Ch}{o:HO}(h:H p=k_):Pres M H (λb=>M b\/b=p)^Aq H p o:=#[λb u e _ _=>by rw[AL^Ah e h];exact e,λb z=>z.elim .inl λz=>.inr^by grind,λb vs e=>by rw[AL^Ah e h];exact e,λb u e=>#[u,by rw[AL^Ah e h];exact e]]
def Ap{H:Hp}{p:Ch}{o:HO}(h:H p=k_):Grow H^Aq H p o:=.inr #[p,o,h,rfl]
def Aj{x1}(h:XZ X es ws):DE X (.Tuple es x1 pos) .sh^A3 ws:=by
 let#[t,h1,h2]:=h;refine#[_,YA h1,λC M H n ρ Z P Q R w q=>?_];refine h2 C M H n ρ Z _ _ R w λvs H1 ds n1 e1 f1 r1 p=>?_;refine#[by rw[r1.length];exact p.1,λa ha=>?_];have g:Grow H1^Aq H1 a^.tup vs:=Ap ha;refine q _ _ (.tup ds) n1 (e1.trans g.ext) (f1.grow g) #[a,vs,rfl,AM,r1.pres g.pres] p.2
def B9(h:XZ X es ws):DE X (.List es pos) .fr^Dy ws:=by
 let#[t,h1,h2]:=h;refine#[_,PJ h1,λC M H n ρ Z P Q R w q=>?_];refine h2 C M H n ρ Z _ _ R w λvs H1 ds n1 e1 f1 r1 p=>?_;refine#[by rw[r1.length];exact p.1,λa ha=>?_];have g:Grow H1^Aq H1 a^.lst vs:=Ap ha;exact q _ _ (.lst ds) n1 (e1.trans g.ext) (f1.grow g) (VR.back e1 #[a,rfl,ha,vs,AM,r1.pres^FS ha]) p.2
noncomputable def B_(K:Frag)(κ:Kd)(r:n_ V->Hp->VK->Prop)(f:n_ D->(D->Prop)->Prop):Prop:=∀(U:Ch->Prop) (M:Ch->Prop) (H:Hp) (ds:n_ D) (vs:n_ V) (P:D->Prop) (Q:VK),(∀a,M a->∃o,H a=P3 o)->(∀a,U a->M a)->
 Paired (λv d=>AtT K U M H d v) vs ds->f ds P->(∀v H' z,Grow H H'->VR K U M H H' κ v z->P z->Q v H')->r vs H Q
noncomputable def Be(f:n_ D->(D->Prop)->Prop)(ws:Dw):DW:=λn ρ P=>ws n ρ λds n1=>f ds λz=>P z n1
def XQ{r:n_ V->Hp->VK->Prop}{f:n_ D->(D->Prop)->Prop}{t:TA}(hA:B_ X.K κ r f)(h2:∀(C:Fm) (M:Ch->Prop) (H:Hp) (n:Sg) (ρ:n_ Slot) (Z:L2.St) (P:n_ D->Sg->Prop) (Q:n_ V->Hp->Prop),Rel X.K C M H n ρ Z->ws n ρ P->
   (∀vs H' ds n',Ext C.U H H'->FeedC X.K C.F M H' n'->Paired (λv d=>AtT X.K C.V M H' d v) vs ds->P ds n'->Q vs H')->t Z H Q)
  (C:Fm) (M:Ch->Prop) (H:Hp) (n:Sg) (ρ:n_ Slot) (Z:L2.St) (P:D->Sg->Prop) (Q:VK) (R:Rel X.K C M H n ρ Z) (w:Be f ws n ρ P)
  (q:∀v H' d n',Ext C.U H H'->FeedC X.K C.F M H' n'->VR X.K C.V M H H' κ v d->P d n'->Q v H'):ZN r t Z H Q:=by
 refine h2 C M H n ρ Z _ _ R w λvs H1 ds n1 e1 f1 r1 p=>?_;have R1:=R.step e1 f1;exact hA _ M H1 ds vs _ _ R1.dom R1.vM r1 p λv H2 z g vr pz=>q v H2 z n1 (e1.trans g.ext) (f1.grow g) (VR.back e1 vr) pz
def Ad{x:Str}{id:String}{p:Pos}{r:n_ V->Hp->VK->Prop}{f:n_ D->(D->Prop)->Prop}(hc:CallR X (.builtin id) r)(hA:B_ X.K κ r f)(hg:Gl X x)(hm:X.mg x=k_)(hv:bootBuiltins x=P3^.builtin id)(ha:Xa X (e::es) ws)
  (hn:autoParam (x ≠ "__name__") zau1._auto_1) (hdb:autoParam ((x==("__debug__":Str))=m_) zau1._auto_1)
  (he:autoParam (starEach (e::es) X.env=(m_,eval e X.env)::starEach es X.env) zau3._auto_1) (hpl:autoParam ((backTo pos^starEach es X.env).any (·.1)=m_) zau3._auto_1):DE X (.Call (.Name x p) (e::es) [] pos) κ^Be f ws:=by
 let#[t,h1,h2]:=ha;exact#[_,D9 hc hg hm hv h1 hn hdb he hpl,λC M H n ρ Z P Q R w q=>XQ hA h2 C M H n ρ Z P Q R w q]
def Bz{x:Str}{T:String}{p:Pos}{r:n_ V->Hp->VK->Prop}{f:n_ D->(D->Prop)->Prop}(hc:CallR X (.type T) r)(hA:B_ X.K κ r f)(hg:Gl X x)(hm:X.mg x=k_)(hv:bootBuiltins x=P3^.type T)(ha:Xa X (e::es) ws)
  (hn:autoParam (x ≠ "__name__") zau1._auto_1) (hdb:autoParam ((x==("__debug__":Str))=m_) zau1._auto_1)
  (he:autoParam (starEach (e::es) X.env=(m_,eval e X.env)::starEach es X.env) zau3._auto_1) (hpl:autoParam ((backTo pos^starEach es X.env).any (·.1)=m_) zau3._auto_1):DE X (.Call (.Name x p) (e::es) [] pos) κ^Be f ws:=by
 let#[t,h1,h2]:=ha;exact#[_,Gd hc hg hm hv h1 hn hdb he hpl,λC M H n ρ Z P Q R w q=>XQ hA h2 C M H n ρ Z P Q R w q]
end
end Dp
namespace L2
noncomputable def bL(z:Str):It:=#[λi _=>i<z.cps.size,λi H x H'=>H'=H/\∃c,z.cps[i]?=P3 c/\x=.str #[#[ c]],λi _=>z.cps.size<=i]
def NG{P:cH}{w:cN}{K:Frag}{tg:cJ}(it:Ch)(z:Str)(t:Tok)(ty:String)(hty:ty="str_ascii_iterator"\/ty="str_iterator")
  (W:∀A':cW,A'.handled=k_->Walks P w A' it [it] [it] z.cps.size (SignAt z) λi h=>h.IsStrIter it ty z t i):Turn P w K tg (bL z) [it] it (λi h=>h.IsStrIter it ty z t i) where
 mem:=by simp
 obj:=λi h st b hb=>by
  have e:b=it:=by simpa using hb
  subst e;let#[o,e,c,d]:=st;exact#[o,e,λv z=>by rw[d]at z;cases z]
 keep:=λi h h' st k=>let #[o,ho,r]:=st;#[o,k it (by simp) o ho,r]
 item:=by
  intro X hP hw hK hc i zG s Z H E I hf st hg;subst hP hw hK;let#[f0,f1,f2,f3,f4,f5]:=hf it (by simp);refine(W X.A^I.ok.hd hc).item i s _ _ hg st λv h' tk hv st' kk=>?_;let#[c,u,hcu,rfl]:=hv;have I1:Inv X zG Z H {s with heap:=h',toks:=tk}:=I.turned (λb o hb e=>kk b o (by simpa using hb) e) f0 f1 f3 f4 f5;let#[o,e,cc,d]:=id st';exact#[_,rfl,Qg (s:={s with heap:=h',toks:=tk}) e cc d (by rcases hty with rfl|rfl <;>decide) #[.str #[#[ c]],H,I1,#[_,rfl],#[rfl,c,hcu,rfl],st',λb hb=>(hf b hb).1]]
 done:=by
  intro X hP hw hK hc i zG s Z H E I hf st hg;subst hP hw hK;let#[f0,f1,f2,f3,f4,f5]:=hf it^by simp
  have hx:z.cps[i]?=k_:=by
   have:z.cps.size<=i:=hg
   simp[this]
  rcases hty with rfl|rfl
  .exact wpAny_pyNext_ascii_end (I.ok.hd hc) st hx λh' eb=>#[rfl,I.turned (t':=s.toks) (λb o hb e=>eb b o hb e) f0 f1 f3 f4 f5]
  .exact wpAny_pyNext_wide_end (I.ok.hd hc) st hx λh' eb=>#[rfl,I.turned (t':=s.toks) (λb o hb e=>eb b o hb e) f0 f1 f3 f4 f5]
 self:=λA i s Q E st h=>by
  rcases hty with rfl|rfl
  .exact wpAny_pyIter_striter_ascii st h
  .exact wpAny_pyIter_striter_wide st h
section
variable {X:Cx}{tg:Expr}
noncomputable def ay(K:Frag)(tl:TE):TI:=λZ H R=>tl Z H λx H1=>
 (∃a,x=.ref a/\(∃xs,SqL K H1 a xs)/\R (bM K a) H1)\/(∃a,x=.ref a/\(∃xs,SqT K H1 a xs)/\R (Y4 K a) H1)\/∃z,x=.str z/\R (bL z) H1
def PD{l:cJ}{tl:TE}(hl:PE X l tl):PI X tg l^ay X.K tl:=by
 intro zG s Z H R I h;refine BF (hl zG s Z H _ I h) λv s1 #[x,H1,I1,r1,q1]=>?_
 have hne:∀b,b∈[s1.heap.objs.size]->GR X zG H1 b:=λb hb=>by
  have e:b=s1.heap.objs.size:=by simpa using hb
  subst e;exact I1.fpOk (Rs _)^I1.hok.fresh^Rs _
 rcases q1 with⟨a,e,⟨xs,hq⟩,q⟩|⟨a,e,⟨xs,hq⟩,q⟩|⟨z,e,q⟩
 .subst e
  cases r1;let#[its,rv,p,hz]:=I1.list hq;refine eJ p.isList ?_;exact#[s1.heap.objs.size,[s1.heap.objs.size],_,_,H1,rfl,I1.kept (t':=s1.toks) λb o e=>Ev _ e,RA a _,#[_,Sc _ rfl,rfl,rfl],hne,q]
 .subst e
  cases r1;let#[its,rv,p,hz]:=I1.tuple hq;refine dW (show s1.heap.IsTuple a its.toArray from p) ?_;exact#[s1.heap.objs.size,[s1.heap.objs.size],_,_,H1,rfl,I1.kept (t':=s1.toks) λb o e=>Ev _ e,IX a _,#[_,Sc _ rfl,rfl,rfl],hne,q]
 .subst e
  let#[t,rfl]:=r1;cases ha:z.cps.all (·<128)
  .refine wpAny_pyIter_wide ha ?_
   exact#[s1.heap.objs.size,[s1.heap.objs.size],_,_,H1,rfl,I1.kept (t':=s1.toks) λb o e=>Ev _ e,NG _ z t "str_iterator" (.inr rfl) λA' hA=>Walks.strWide hA _ z t,#[_,Sc _ rfl,rfl,rfl],hne,q]
  .refine wpAny_pyIter_ascii ha ?_
   exact#[s1.heap.objs.size,[s1.heap.objs.size],_,_,H1,rfl,I1.kept (t':=s1.toks) λb o e=>Ev _ e,NG _ z t "str_ascii_iterator" (.inl rfl) λA' hA=>Walks.strAscii hA _ z t,#[_,Sc _ rfl,rfl,rfl],hne,q]
end
section
variable {X:Cx}
def KO(bs:n_ Bool):((cV bs.length).all λi=>(bs[i]?).getD l_)=bs.all id:=by
 induction bs with
 |nil=>rfl
 |cons b r ih=>
  rw[cT,List.range_succ_eq_map,List.all_cons,List.all_map]
  congr 1
def VA(hc:X.calm=l_):CallR X (.builtin "all") (λxs H Q=>∃(p:Ch) (bs:n_ Bool),xs=[.ref p]/\SqL X.K H p^bs.map V.bl/\Q (.bl^bs.all id) H):=by
 intro zG s Z H xs us Q I r h;let#[p,bs,rfl,hq,q]:=h;let#[u,rfl,rx]:=vals1 r;cases rx;let#[its,r',pl,hz]:=I.list hq;have hlen:=r'.length;have hl:s.heap.IsList p its.toArray:=pl.isList;have hlt:p<s.heap.objs.size:=by let#[_,e,_]:=id hl;exact Tk e
 refine call_all_walk^eJ hl ?_
 refine#[s.heap.objs.size,[s.heap.objs.size,p],[s.heap.objs.size],its.toArray.size,_,_,λi=>(bs[i]?).getD l_,rfl,Walks.list (A:=X.A.in1) (I.ok.hd hc) _ p (b9 hlt) its.toArray,
  #[#[_,Sc _ rfl,rfl,rfl],hl.push _],λi v s' Q' E' hP hQ=>?_,λh' tk hk=>?_]
 .have hv:its[i]?=P3 v:=by simpa using hP
  have hb:∃b,bs[i]?=P3 b:=by
   have hi:i<its.length:=(UF.mp hv).1;rw[FM]at hlen;exact#[bs[i]'(by lk),No^by lk]
  let#[b,eb]:=hb;let#[u,eu,ru]:=r'.get (i:=i) (x:=.bl b) (by rw[XV,eb];rfl);rw[hv]at eu;cases eu;cases ru;simp only[eb,Option.getD_some]at hQ;exact fT hQ
 .have e:((cV its.toArray.size).all λi=>(bs[i]?).getD l_)=bs.all id:=by
   rw[b7,←hlen,FM];exact KO bs
  rw[e];exact#[.bl _,H,I.kept (t':=tk) λb x e=>hk b x (λhm=>by rw[Op.mp hm]at e;exact dC _^Tk e)^Ev _ e,rfl,q]
def OF:CallR X (.builtin "isinstance") (λxs H Q=>∃x T t b,xs=[x,.ty T]/\Fa X.K H x t/\PySem.W.kitOne X.K t^.type T=P3 b/\Q (.bl b) H):=by
 intro zG s Z H xs us Q I r h;let#[x,T,t,b,rfl,ty,e,q]:=h;let#[u,w',rfl,rx,rt]:=vals2 r;cases rt;exact R8 I rx ty e λtk=>#[.bl b,H,I.tok _,rfl,q]
def Ri:OpR X (compareOp .LtE) (λx y H Q=>∃i j,x=.str i/\y=.str j/\Q (.bl (!(j.cps.toList<i.cps.toList))) H):=by
 intro zG s Z H x y v u Q I rx ry h;let#[i,j,rfl,rfl,q]:=h;let#[t,rfl]:=rx;let#[t',rfl]:=ry;exact PySem.P.le_str #[.bl _,H,I,rfl,q]
def Ig{ys:n_ Str}:∀{us:n_ Db},Vals (ys.map V.str) us->StrsAre us ys:=by
 induction ys with
 |nil=>intro us r;cases r;exact .nil
 | cons n ns ih=>
  intro us r;cases r with
  |cons r1 r2=>
   let#[t,e]:=r1;subst e;exact .cons n t^ih r2
def Xv:SlR X (λx lo hi H Q=>∃z,x=.str z/\z.length<=sizeLine/\Q (.str^Txt.slice z lo hi) H):=by
 intro zG s Z H x v vl vu lo hi sl Q I rx hs pl pu h;let#[z,rfl,hz,q]:=h;let#[t,rfl]:=rx;refine#["str",_,F.slot_str_getitem.lookup,gF _ _ _,?_];have fin:∀t' k,EP X zG Z Q (.str _ t') {s with toks:=k}:=λt' k=>#[.str _,H,I.tok _,#[_,rfl],q];cases pl with
 |none=>
  cases pu with
  |none=>exact fJ (l:=k_) (u:=k_) (st:=k_) hs rfl (gq #[cG (Txt.slice_le z _ _) hz,λt' k=>fin t' k])
  |int j tj=>exact fJ (l:=k_) (u:=P3 (j,tj)) (st:=k_) hs rfl (gq #[cG (Txt.slice_le z _ _) hz,λt' k=>fin t' k])
 |int i ti=>
  cases pu with
  |none=>exact fJ (l:=P3 (i,ti)) (u:=k_) (st:=k_) hs rfl (gq #[cG (Txt.slice_le z _ _) hz,λt' k=>fin t' k])
  |int j tj=>exact fJ (l:=P3 (i,ti)) (u:=P3 (j,tj)) (st:=k_) hs rfl (gq #[cG (Txt.slice_le z _ _) hz,λt' k=>fin t' k])
def Rg(hu:X.A.units<cLine):OpR X (compareOp .NotEq) (λx y H Q=>∃a b xs,x=.ref a/\y=.ref b/\SqL X.K H a xs/\SqL X.K H b []/\Q (.bl (!xs.isEmpty)) H):=by
 intro zG s Z H x y v u Q I rx ry h;let#[a,b,xs,rfl,rfl,ha,hb,q]:=h;cases rx;cases ry;let#[its,r1,p1,_]:=I.list ha;let#[its2,r2,p2,_]:=I.list hb;cases r2;cases r1 with
 |nil=>exact SeqAt.RcNeAt.lists (e:=λ_=>l_) p1.isList p2.isList rfl hu (λj h1 h2=>absurd h1^by simp) _ _ _ _ #[.bl _,H,I,rfl,q]
 |cons r1 r2=>exact SeqAt.RcNeAt.lists_lengths p1.isList p2.isList (by simp) hu _ _ _ _ #[.bl _,H,I,rfl,q]
end
end L2
namespace Dp
open L2
noncomputable def aE(K:Frag)(F:o_ (Ch×Ch))(U V' M:Ch->Prop)(H:Hp)(n:Sg)(ss:n_ Slot)(vs:n_ V):Prop:=
 (∀a,M a->∃o,H a=P3 o)/\(∀f,F=P3 f->U f.1)/\(∀a,U a->V' a)/\(∀a,V' a->M a)/\FeedC K F M H n/\Paired (EW K F V' M H) vs ss
noncomputable abbrev W2:=n_ Slot->Sg->(D->Sg->Prop)->Prop
noncomputable def RE(K:Frag)(κ:Kd)(W:W2)(np:Nat):Sp:=λvs H Q _=>vs.length=np/\∃(F:o_ (Ch×Ch)) (U V' M:Ch->Prop) (n:Sg) (ss:n_ Slot) (P:D->Sg->Prop),aE K F U V' M H n ss vs/\W ss n P /\
 ∀v H' d n',Ext U H H'->FeedC K F M H' n'->VR K V' M H H' κ v d->P d n'->Q v H'
noncomputable def AK(w:DW):Sg->n_ Slot->(Slot->Sg->Prop)->Prop:=λn ρ P=>w n ρ λd n1=>P (.sh d) n1
noncomputable def Bc(w:DW):Sg->n_ Slot->(Slot->Sg->Prop)->Prop:=λn ρ P=>w n ρ λd n1=>P (.br d) n1
noncomputable def A7(i:Nat):Sg->n_ Slot->(Slot->Sg->Prop)->Prop:=λn ρ P=>match ρ[i]? with
 |some .fd=>P .fd n
 |_=>False
noncomputable def AS:Sd:=λn _ P=>P [] n
noncomputable def AE(w:Sg->n_ Slot->(Slot->Sg->Prop)->Prop)(ws:Sd):Sd:=λn ρ P=>w n ρ λs n1=>ws n1 ρ λss n2=>P (s::ss) n2
noncomputable def Aa(W:W2)(was:Sd):DW:=λn ρ P=>was n ρ λss n1=>W ss n1 P
section
variable {X:Cx}{a e:Expr}{es:n_ Expr}{κ zU:Kd}{wa:DW}{pos:Pos}{w1:Sg->n_ Slot->(Slot->Sg->Prop)->Prop}{was:Sd}
def AU(h:DE X e κ wa)(hk:autoParam (κ≠.tp) zau7._auto_1):aY X e^AK wa:=by
 let#[t,h1,h2]:=h;exact#[t,h1,λC M H n ρ Z P Q R w q=>h2 C M H n ρ Z _ _ R w λv H' d n' e f r p=>q v H' (.sh d) n' e f #[#[v,rfl,r.shOf R.dom hk],rfl] p]
def E6(h:DE X e κ wa):aY X e^Bc wa:=by
 let#[t,h1,h2]:=h;exact#[t,h1,λC M H n ρ Z P Q R w q=>h2 C M H n ρ Z _ _ R w λv H' d n' e f r p=>q v H' (.br d) n' e f #[#[v,rfl,r.tpOf R.dom R.vM],rfl] p]
def Bs(i:Nat){x:Str}{pos:Pos}(hN:autoParam (X.N[i]?=P3 x) zau3._auto_1)(hv:autoParam (Yx X.env.scope x) zau4._auto_1)(hd:autoParam ((x==("__debug__":Str))=m_) zau1._auto_1)
  (hcd:autoParam ((x==("__classdict__":Str))=m_) zau1._auto_1):aY X (.Name x pos)^A7 i:=by
 refine#[_,L4 hN hv hd hcd,λC M H n ρ Z P Q R w q=>?_];unfold A7 at w
 split at w
 .rename_i hd
  let#[f,e1,h1]:=R.sl i _ hd;exact#[_,getD_some e1,q _ H .fd n (Ext.refl _ _) R.feed #[#[f,rfl,h1],rfl] w]
 grind
def AN:Wi X [] AS:=#[_,Ck,λC M H n ρ Z P Q R w q=>q [] H [] n (Ext.refl _ _) R.feed .nil w]
def AC(ha:aY X e w1)(hr:Wi X es was)(hs:autoParam (starEach (e::es) X.env=(m_,eval e X.env)::starEach es X.env) zau3._auto_1):Wi X (e::es)^AE w1 was:=by
 let#[t,h1,h2]:=ha;let#[u,g1,g2]:=hr;refine#[_,Bp h1 g1 hs,λC M H n ρ Z P Q R w q=>?_];refine h2 C M H n ρ Z _ _ R w λv H1 d n1 e1 f1 r1 p=>?_;have R1:=R.step e1 f1;exact g2 C M H1 n1 ρ Z _ _ R1 p λvs H2 ds n2 e2 f2 r2 p2=>q _ H2 _ n2 (e1.trans e2) f2 (.cons #[r1.1.pres (R1.pres e2) (λ_ z=>z) e2 R.uV,r1.2] r2) p2
def WU{k:Nat}{f:Ch}{fd:cv}{ps:n_ Str}{W:W2}{x:Str}{p:Pos}(G:FnOk X.prog X.w X.K X.mg X.base Fb k f fd ps^RE X.K κ W ps.length)(hW:∀ss n P,W ss n P->ss.length=ps.length)
  (hr:Room k X.A) (hg:Gl X x) (hm:X.mg x=P3^.ref f) (hk:keepIn X.K^.ref f=l_) (hb:Binds X.K fd ps []) (ha:Wi X (e::es) was)
  (hdb:autoParam ((x==("__debug__":Str))=m_) zau1._auto_1) (he:autoParam (starEach (e::es) X.env=(m_,eval e X.env)::starEach es X.env) zau3._auto_1) (hpl:autoParam ((backTo pos^starEach es X.env).any (·.1)=m_) zau3._auto_1):
  DE X (.Call (.Name x p) (e::es) [] pos) κ (Aa W was):=by
 let#[t,h1,h2]:=ha;refine#[_,L5 G hr hg hm hk hb .nil JG h1 hdb he hpl,λC M H n ρ Z P Q R w q=>?_];refine h2 C M H n ρ Z _ _ R w λvs H1 ss n1 e1 f1 r1 p=>?_;have R1:=R.step e1 f1;rw[cX];exact#[(Paired.length r1).trans^hW _ _ _ p,_,_,_,M,n1,ss,P,#[R1.dom,R1.fU,R1.uV,R1.vM,f1,r1],p,λv H2 d n2 e2 f2 r2 p2=>q v H2 d n2 (e1.trans e2) f2 (VR.back e1 r2) p2]
noncomputable def bT(T:String)(d:D):Prop:=match d with
 |.str _=>T="str"
 |.int _=>T="int"
 |.lst _=>T="list"
 |_=>False
def YY{T:String}{K:Frag}{U:Ch->Prop}{M:Ch->Prop}{H:Hp}{d:D}{x:V}(h:bT T d)(hx:AtT K U M H d x):Y7 K T x H:=by
 cases d with
 |str z=>let#[e,_]:=hx;subst e;exact h
 |int i=>cases(hx);exact h
 |lst ds=>let#[a,vs,e,_,hq,_]:=hx;subst e;exact .inl #[h,vs,.inl hq]
 |_=>exact(h).elim
noncomputable def DO(X:Cx)(e:o_ cJ)(w:Sg->n_ Slot->(o_ Int->Sg->Prop)->Prop):Prop:=∃t,PO X e t/\∀(C:Fm) (M:Ch->Prop) (H:Hp) (n:Sg) (ρ:n_ Slot) (Z:L2.St) (P:o_ Int->Sg->Prop) (Q:o_ Int->Hp->Prop),Rel X.K C M H n ρ Z->w n ρ P->
 (∀o H' n',Ext C.U H H'->FeedC X.K C.F M H' n'->P o n'->Q o H')->t Z H Q
noncomputable def Hu:Sg->n_ Slot->(o_ Int->Sg->Prop)->Prop:=λn _ P=>P k_ n
noncomputable def P8(w:DW):Sg->n_ Slot->(o_ Int->Sg->Prop)->Prop:=λn ρ P=>w n ρ λd n1=>match d with
 |.int i=>P (P3 i) n1
 |_=>False
def MZ:DO X k_ Hu:=#[_,QS,λC M H n ρ Z P Q R w q=>q _ H n (Ext.refl _ _) R.feed w]
def Ub{U:Ch->Prop}{K:Frag}{M:Ch->Prop}{H H':Hp}{v:V}{i:Int}(h:VR K U M H H' κ v^.int i):v=.int i:=by
 cases κ with
 |sh=>exact h
 |tp=>exact h
 |fr=>let#[a,_,_,t]:=h;exact(t).elim
def MY(h:DE X e κ wa):DO X (P3 e)^P8 wa:=by
 let#[t,h1,h2]:=h;refine#[_,QR h1,λC M H n ρ Z P Q R w q=>?_];refine h2 C M H n ρ Z _ _ R w λv H1 d n1 e1 f1 r1 p=>?_;cases d with
 |int i=>exact#[i,Ub r1,q _ H1 n1 e1 f1 p]
 |_=>exact p.elim
noncomputable def bX(K:Frag)(κ:Kd)(r:V->o_ Int->o_ Int->Hp->VK->Prop)(f:D->o_ Int->o_ Int->(D->Prop)->Prop):Prop:=∀(U:Ch->Prop) (M:Ch->Prop) (H:Hp) (d:D) (x:V) (lo hi:o_ Int) (P:D->Prop) (Q:VK),(∀a,M a->∃o,H a=P3 o)->(∀a,U a->M a)->
 AtT K U M H d x->f d lo hi P->(∀v H' z,Grow H H'->VR K U M H H' κ v z->P z->Q v H')->r x lo hi H Q
noncomputable def aM(f:D->o_ Int->o_ Int->(D->Prop)->Prop)(w:DW)(wl wh:Sg->n_ Slot->(o_ Int->Sg->Prop)->Prop):DW:=λn ρ P=>w n ρ λd n1=>wl n1 ρ λlo n2=>wh n2 ρ λhi n3=>f d lo hi λz=>P z n3
def Uy{lo hi:o_ cJ}{p2:Pos}{r:V->o_ Int->o_ Int->Hp->VK->Prop}{f:D->o_ Int->o_ Int->(D->Prop)->Prop}{wl wh:Sg->n_ Slot->(o_ Int->Sg->Prop)->Prop}(hr:SlR X r)(hA:bX X.K κ r f)(he:DE X e zU wa)(hl:DO X lo wl)(hh:DO X hi wh):
  DE X (.Subscript e (.Slice lo hi k_ p2) pos) κ (aM f wa wl wh):=by
 let#[t,h1,h2]:=he;let#[u,g1,g2]:=hl;let#[u',k1,k2]:=hh;refine#[_,Nb hr h1 g1 k1,λC M H n ρ Z P Q R w q=>?_];refine h2 C M H n ρ Z _ _ R w λv H1 d n1 e1 f1 r1 p=>?_;have R1:=R.step e1 f1;have tv:=r1.tpOf R.dom R.vM;refine g2 C M H1 n1 ρ Z _ _ R1 p λlo H2 n2 e2 f2 p2=>?_;have R2':=R1.step e2 f2;refine k2 C M H2 n2 ρ Z _ _ R2' p2 λhi H3 n3 e3 f3 p3=>?_;have R3:=R2'.step e3 f3;refine hA C.V M H3 d v lo hi _ _ R3.dom R3.vM ((tv.pres (R1.pres e2) e2 R.uV).pres (R2'.pres e3) e3 R.uV) p3 λv H4 z g vr pz=>?_;exact q v H4 z n3 (((e1.trans e2).trans e3).trans g.ext) (f3.grow g) (VR.back ((e1.trans e2).trans e3) vr) pz
end
structure E2 where
 nx:Sg->List Slot->Prop
 rt:D->Sg->Prop
 bk:Sg->List Slot->Prop:=λ_ _=>False
 ct:Sg->List Slot->Prop:=λ_ _=>False
noncomputable abbrev Ac:=E2->Sg->n_ Slot->Prop
structure VM (K:Frag) (C:Fm) (κ:Kd) (D2:E2) (E:Ends):Prop where
 nx:∀M H n ρ Z,Rel K C M H n ρ Z->D2.nx n ρ->E.nx Z H
 rt:∀v H d n,Ext C.U C.H0 H->FeedC K C.F C.M0 H n->VR K C.V C.M0 C.H0 H κ v d->D2.rt d n->E.rt v H
 bk:∀M H n ρ Z,Rel K C M H n ρ Z->D2.bk n ρ->E.bk Z H
 ct:∀M H n ρ Z,Rel K C M H n ρ Z->D2.ct n ρ->E.ct Z H
noncomputable def DS(X:Cx)(κ:Kd)(st:cS)(w:Ac):Prop:=∃t,PS X st t/\∀(C:Fm) (M:Ch->Prop) (H:Hp) (n:Sg) (ρ:n_ Slot) (Z:L2.St) (D2:E2) (E:Ends),Rel X.K C M H n ρ Z->VM X.K C κ D2 E->w D2 n ρ->t E Z H
noncomputable def Se(X:Cx)(κ:Kd)(st:n_ cS)(w:Ac):Prop:=∃t,PSs X st t/\∀(C:Fm) (M:Ch->Prop) (H:Hp) (n:Sg) (ρ:n_ Slot) (Z:L2.St) (D2:E2) (E:Ends),Rel X.K C M H n ρ Z->VM X.K C κ D2 E->w D2 n ρ->t E Z H
noncomputable def Ao:Ac:=λD2 n ρ=>D2.nx n ρ
noncomputable def AW(u v:Ac):Ac:=λD2 n ρ=>u {D2 with nx:=v D2} n ρ
noncomputable def CL(w:DW):Ac:=λD2 n ρ=>w n ρ λ_ n1=>D2.nx n1 ρ
noncomputable def As(w:DW):Ac:=λD2 n ρ=>w n ρ λd n1=>D2.rt d n1
noncomputable def BC(t:Hd)(u v:Ac):Ac:=λD2 n ρ=>t n ρ λc n1=>if c=l_ then u D2 n1 ρ else v D2 n1 ρ
noncomputable def Au(i:Nat)(w:DW):Ac:=λD2 n ρ=>w n ρ λd n1=>D2.nx n1^ρ.set i^.sh d
section
variable {X:Cx}{κ zM:Kd}{st:Stmt}{rest:n_ Stmt}{u v:Ac}{wa:DW}{wA:Hd}{e c:Expr}{pos:Pos}
def Ak:Se X κ [] Ao:=#[_,L1,λC M H n ρ Z D2 E R L w=>L.nx M H n ρ Z R w]
def AF(h1:DS X κ st u)(h2:Se X κ rest v):Se X κ (st::rest)^AW u v:=by
 let#[t,a1,a2]:=h1;let#[t',b1,b2]:=h2;exact#[_,BI a1 b1,λC M H n ρ Z D2 E R L w=>a2 C M H n ρ Z {D2 with nx:=v D2} _ R #[λM H n ρ Z R w=>b2 C M H n ρ Z D2 E R L w,L.rt,L.bk,L.ct] w]
def AI(h1:DS X κ st u):Se X κ [st] u:=by
 let#[t,a1,a2]:=h1;exact#[t,Cw a1,a2]
def Bx(h:DE X e zM wa)(hs:autoParam (swapsWith e k_ pos.line X.env=pure m_) zau3._auto_1):DS X κ (.Expr e pos)^CL wa:=by
 let#[t,a1,a2]:=h;exact#[_,QP a1 hs,λC M H n ρ Z D2 E R L w=>a2 C M H n ρ Z _ _ R w λv H' d n' e1 f1 r1 p=>L.nx M H' n' ρ Z (R.step e1 f1) p]
def Xz{K:Frag}{C:Fm}{M:Ch->Prop}{H H':Hp}{n n':Sg}{ρ:n_ Slot}{Z:L2.St}{D2:E2}{E:Ends}{d:D}{v:V}(R:Rel K C M H n ρ Z)(L:VM K C κ D2 E)(e:Ext C.U H H')(f:FeedC K C.F M H' n')(r:VR K C.V M H H' κ v d)(hk:κ≠.tp)(p:D2.rt d n'):E.rt v H':=by
 have less:Pres M H' _ H':=Pres.less R.sub;refine L.rt v H' d n' (R.ext.trans e) (f.pres less (λ_ _ _ z=>z) λ_ _ z=>z) ?_ p;cases κ with
 |sh=>exact At.pres less r
 |tp=>grind
 |fr=>
  let#[a,e1,h1,h2]:=VR.back R.ext r;exact#[a,e1,h1,h2.pres (Pres.less λb z=>z.imp (R.sub b) id) λ_ z=>z]
def Ae(h:DE X e κ wa)(hk:autoParam (κ≠.tp) zau7._auto_1):DS X κ (.Return (P3 e) pos)^As wa:=by
 let#[t,a1,a2]:=h;exact#[_,FN a1,λC M H n ρ Z D2 E R L w=>a2 C M H n ρ Z _ _ R w λv H' d n' e1 f1 r1 p=>Xz R L e1 f1 r1 hk p]
def BA{a b:n_ cS}(hc:DT X c wA)(ha:Se X κ a u)(hb:Se X κ b v):DS X κ (.If c a b pos)^BC wA u v:=by
 let#[t,a1,a2]:=hc;let#[t',b1,b2]:=ha;let#[t'',c1,c2]:=hb;refine#[_,Tw a1 b1 c1,λC M H n ρ Z D2 E R L w=>?_];refine a2 C M H n ρ Z _ _ R w λb H1 n1 e1 f1 p=>?_;cases b with
 |true=>exact b2 C M H1 n1 ρ Z D2 E (R.step e1 f1) L p
 |false=>exact c2 C M H1 n1 ρ Z D2 E (R.step e1 f1) L p
def Ai{i:Nat}{x:Str}{pos':Pos}(hN:X.N.Nodup)(hi:X.N[i]?=P3 x)(hx:Loc X.env.scope x)(he:DE X e zM wa)(hk:autoParam (zM≠.tp) zau7._auto_1)(hs:autoParam (swapsWith e (P3^.Name x pos') pos.line X.env=pure m_) zau3._auto_1)
  (hf:autoParam (X.fn x=l_\/X.env.scope.names.lookup x=P3 .local) zau0._auto_1):DS X κ (.Assign [.Name x pos'] e pos)^Au i wa:=by
 let#[t,a1,a2]:=he;exact#[_,D8 hN hi hx a1 hs hf,λC M H n ρ Z D2 E R L w=>a2 C M H n ρ Z _ _ R w λv H' d n' e1 f1 r1 p=>L.nx M H' n' _ _ ((R.step e1 f1).set^r1.shOf R.dom hk) p]
end
section
variable {X:Cx}{κ:Kd}{e:Expr}{wa:DW}{pos:Pos}
noncomputable def G5(i:Nat)(w:DW):Ac:=λD2 n ρ=>w n ρ λd n1=>D2.nx n1^ρ.set i^.ow d
def Eg{i:Nat}{x:Str}{pos':Pos}(hN:X.N.Nodup)(hi:X.N[i]?=P3 x)(hx:Loc X.env.scope x)(he:DE X e .fr wa)(hs:autoParam (swapsWith e (P3^.Name x pos') pos.line X.env=pure m_) zau3._auto_1)
  (hf:autoParam (X.fn x=l_\/X.env.scope.names.lookup x=P3 .local) zau0._auto_1):DS X κ (.Assign [.Name x pos'] e pos)^G5 i wa:=by
 let#[t,a1,a2]:=he;refine#[_,D8 hN hi hx a1 hs hf,λC M H n ρ Z D2 E R L w=>?_];refine a2 C M H n ρ Z _ _ R w λv H' d n' e1 f1 r1 p=>?_;let#[a,rfl,h1,h2]:=r1;exact L.nx _ H' n' _ _ (R.setOw e1 f1 h1 h2) p
noncomputable def NA(i:Nat):Ac:=λD2 n ρ=>∃d,ρ[i]?=P3^.ow d/\D2.rt d n
def Qo{x:Str}{p:Pos}(i:Nat)(h:PE X (.Name x p)^Bu i):DS X .fr (.Return (P3^.Name x p) pos)^NA i:=by
 refine#[_,FN h,λC M H n ρ Z D2 E R L #[d,hd,hw]=>?_];let#[a,e1,m,nv,t]:=R.sl i _ hd;exact#[_,getD_some e1,L.rt _ H d n R.ext (R.feed.pres (Pres.less R.sub) (λ_ _ _ z=>z) λ_ _ z=>z) #[a,rfl,(R.new i _ a hd rfl e1).2,t.pres (Pres.less λb z=>z.elim (R.sub b) λz=>by grind) λ_ z=>z] hw]
noncomputable def Oa(K:Frag)(r:V->n_ V->Hp->VK->Prop)(f:D->n_ D->(D->D->Prop)->Prop):Prop:=∀(M:Ch->Prop) (H:Hp) (a:Ch) (d:D) (ds:n_ D) (vs:n_ V) (P:D->D->Prop) (Q:VK),M a->Tops K M H a d->Ats K M H ds vs->f d ds P->
 (∀o e z v,Tops K M (Aq H a o) a e->At K M (Aq H a o) z v->P e z->Q v^Aq H a o)->r (.ref a) vs H Q
noncomputable def Sh(i:Nat)(T:String)(f:D->n_ D->(D->D->Prop)->Prop)(ws:Dw):Ac:=λD2 n ρ=>∃d,ρ[i]?=P3^.ow d/\bT T d/\ws n ρ λds n1=>f d ds λe _=>D2.nx n1^ρ.set i^.ow e
def Cd{M:Ch->Prop}{H:Hp}{a:Ch}{o u:HO}(m:M a)(e:H a=P3 u)(t:autoParam (∀vs,u≠.tup vs) zau8._auto_1):Pres M H M^Aq H a o:=#[λb o' q nb _=>by rw[AL λz=>nb^by simp_all];exact q,λ_ z=>.inl z,λb vs q=>by rw[AL λz=>by grind];exact q,λb o' q=>(fZ (b=a)).elim (λz=>#[o,by rw[z,AM]]) λz=>#[o',by rw[AL z];exact q]]
def N5{x name:Str}{p apos cpos:Pos}{T id:String}{r:V->n_ V->Hp->VK->Prop}{f:D->n_ D->(D->D->Prop)->Prop}{es:n_ cJ}{ws:Dw}(i:Nat)(pa:gn T)(slot:PySem.Slot T name id)(hty:typeOf^.builtin id=pure^.type "method_descriptor")
  (hm:XY X id r) (hA:Oa X.K r f) (h:PE X (.Name x p)^Bu i) (ha:XZ X (e::es) ws)
  (hbase:autoParam (attributeBase (.Name x p) name X.env^eval (.Name x p) X.env=eval (.Name x p) X.env) zau3._auto_1)
  (hfew:autoParam (((backTo cpos^starEach (e::es) X.env).all (λx=>!x.1)&&(backToKw cpos^keywordEach [] X.env).all (λx=>x.1.isSome)
   && decide ((e::es).length+([]:n_ fX).length+(if([]:n_ fX).isEmpty then 0 else 1)<30))=l_) zau3._auto_1)
  (hline:autoParam ((apos.endLine==cpos.line)=l_) zau3._auto_1) (hs:autoParam (starEach (e::es) X.env=(m_,eval e X.env)::starEach es X.env) zau3._auto_1) (hplain:autoParam ((backTo cpos^starEach es X.env).any (·.1)=m_) zau3._auto_1)
  (hsw:autoParam (swapsWith (.Call (.Attribute (.Name x p) name apos) (e::es) [] cpos) k_ pos.line X.env=pure m_) zau3._auto_1):
  DS X κ (.Expr (.Call (.Attribute (.Name x p) name apos) (e::es) [] cpos) pos) (Sh i T f ws):=by
 let#[t,a1,a2]:=ha;refine#[_,QP (Zk pa slot hty hm h a1 hbase hfew hline hs hplain) hsw,λC M H n ρ Z D2 E R L #[d,hd,hT,hw]=>?_];let#[a,e1,m,nv,tt]:=R.sl i _ hd;refine#[.ref a,getD_some e1,YY hT^tt.att nv,?_];refine a2 C M H n ρ Z _ _ R hw λvs H1 ds n1 ee f1 r1 p=>?_;have R1:=R.step ee f1;let#[a',e1',m',nv',tt']:=R1.sl i _ hd;rw[e1]at e1';cases e1';exact hA M H1 a d ds vs _ _ m' tt' r1 p λo d' z v t2 hz pp=>L.nx M _ n1 _ Z (R1.mut hd e1 t2) pp
noncomputable def F9(d:D)(ds:n_ D)(P:D->D->Prop):Prop:=∃xs y,d=.lst xs/\ds=[y]/\xs.length<sizeLine/\P (.lst (xs++[y])) .non
def LY{K:Frag}:Oa K QL F9:=by
 intro M H a d ds vs P Q m t hv w q;let#[xs,y,rfl,rfl,hl,w]:=w;let#[us,h1,h2]:=t;let#[u,r,rfl,hu,hr]:=hv;cases(hr);exact#[a,us,u,rfl,rfl,h1,by rw[h2.length];exact hl,q _ (.lst _) .non _ #[_,AM,(h2.append^Ats.one hu).pres^Cd m h1] rfl w]
end
noncomputable def Yields(K:Frag)(M:Ch->Prop)(H:Hp)(J:It)(ds:n_ D):Prop:=∀(i:Nat) (M':Ch->Prop) (H':Hp),Pres M H M' H'->(∀a,M' a->∃o,H' a=P3 o)->
 (∀d,ds[i]?=P3 d->J.go i H'/\∀x H2,J.yld i H' x H2->Grow H' H2/\At K M' H2 d x)/\(ds.length<=i->J.stop i H')
noncomputable def Q3(K:Frag)(U M:Ch->Prop)(H:Hp)(J:It)(ds:n_ D):Prop:=∀(i:Nat) (M':Ch->Prop) (H':Hp),Pres M H M' H'->Ext U H H'->(∀a,M' a->∃o,H' a=P3 o)->
 (∀d,ds[i]?=P3 d->J.go i H'/\∀x H2,J.yld i H' x H2->Grow H' H2/\At K M' H2 d x)/\(ds.length<=i->J.stop i H')
def Yields.e{K:Frag}{U M:Ch->Prop}{H:Hp}{J:It}{ds:n_ D}(h:Yields K M H J ds):Q3 K U M H J ds:=λi M' H' p _ d=>h i M' H' p d
noncomputable def ZA(X:Cx)(tg iter:cJ)(w:Dw):Prop:=∃wi,PI X tg iter wi/\∀(C:Fm) (M:Ch->Prop) (H:Hp) (n:Sg) (ρ:n_ Slot) (Z:L2.St) (P:n_ D->Sg->Prop) (R:It->Hp->Prop),Rel X.K C M H n ρ Z->w n ρ P->
 (∀J H' ds n',Ext C.U H H'->FeedC X.K C.F M H' n'->Q3 X.K C.U M H' J ds->P ds n'->R J H')->wi Z H R
noncomputable def DI(X:Cx)(tg iter:cJ)(w:Dw):Prop:=∃wi,PI X tg iter wi/\∀(C:Fm) (M:Ch->Prop) (H:Hp) (n:Sg) (ρ:n_ Slot) (Z:L2.St) (P:n_ D->Sg->Prop) (R:It->Hp->Prop),Rel X.K C M H n ρ Z->w n ρ P->
 (∀J H' ds n',Ext C.U H H'->FeedC X.K C.F M H' n'->Yields X.K M H' J ds->P ds n'->R J H')->wi Z H R
noncomputable def signs(x:Str):n_ D:=x.cps.toList.map λc=>.str #[#[ c]]
noncomputable def BS(w:DW):Dw:=λn ρ P=>w n ρ λd n1=>match d with
 |.lst ds=>P ds n1
 |.tup ds=>P ds n1
 |.str x=>P (signs x) n1
 |_=>False
def M9{K:Frag}{M:Ch->Prop}{H:Hp}{a:Ch}{vs:n_ V}{ds:n_ D}(h:NdL M H a vs)(hs:Ats K M H ds vs):Yields K M H (bM K a) ds:=by
 intro i M' H' p _;have hq:SqL K H' a vs:=(h.pres p).sq;refine#[λd hd=>?_,λhl=>#[vs,hq,by rw[hs.length];exact hl]];let#[v,e,hv]:=(hs.pres p).get hd;refine#[#[vs,v,hq,e],λx H2 y=>?_];let#[e2,y]:=y;subst e2
 have:=e.symm.trans^y vs hq
 cases this;exact#[.refl,hv]
def IR{K:Frag}{M:Ch->Prop}{H:Hp}{a:Ch}{vs:n_ V}{ds:n_ D}(h:NdT M H a vs)(hs:Ats K M H ds vs):Yields K M H (Y4 K a) ds:=by
 intro i M' H' p _;have hq:SqT K H' a vs:=(h.pres p).sq;refine#[λd hd=>?_,λhl=>#[vs,hq,by rw[hs.length];exact hl]];let#[v,e,hv]:=(hs.pres p).get hd;refine#[#[vs,v,hq,e],λx H2 y=>?_];let#[e2,y]:=y;subst e2
 have:=e.symm.trans^y vs hq
 cases this;exact#[.refl,hv]
def yields_str{K:Frag}{M:Ch->Prop}{H:Hp}{z:Str}:Yields K M H (bL z)^signs z:=by
 intro i M' H' p _;refine#[λd hd=>?_,λhl=>?_]
 .unfold signs at hd
  rw[XV]at hd
  have hi:i<z.cps.size:=by
   cases q:z.cps.toList[i]? with
   |none=>simp_all
   |some c=>simpa using (UF.mp q).1
  refine#[hi,λx H2 y=>?_];let#[e2,c,hc,rfl]:=y;subst e2
  have:z.cps.toList[i]?=P3 c:=by grind
  rw[this]at hd;have hd':D.str #[#[ c]]=d:=bz hd;subst hd';exact#[.refl,rfl,by rw[cZ];show 1<=16777216;decide]
 .show z.cps.size<=i
  unfold signs at hl
  simp_all
noncomputable def Ls(lo:Int)(n:Nat):n_ D:=(cV n).map fun(i:Nat)=>.int (lo+(i:Int))
def Ld{K:Frag}{M:Ch->Prop}{H:Hp}{lo:Int}{m:Nat}:Yields K M H (aV lo m)^Ls lo m:=by
 intro i M' H' p _;refine#[λd hd=>?_,λhl=>?_]
 .unfold Ls at hd
  rw[XV]at hd
  have hi:=by
   cases q:(cV m)[i]? with
   |none=>simp_all
   |some c=>simpa using (UF.mp q).1
  rw[List.getElem?_range hi]at hd;have hd':=bz hd;subst hd';refine#[hi,λx H2 y=>?_];let#[e2,e3]:=y;subst e2;exact#[.refl,e3]
 .show m<=i
  unfold Ls at hl
  simp_all
section
variable {X:Cx}{tg e e2:Expr}{κ:Kd}{wa:DW}{ws:Dw}{p pos:Pos}
def Jl(h:DE X e κ wa)(hk:autoParam (κ≠.tp) zau7._auto_1):DI X tg e^BS wa:=by
 let#[t,a1,a2]:=h;refine#[_,PD a1,λC M H n ρ Z P Rr R w q=>?_];refine a2 C M H n ρ Z _ _ R w λv H1 d n1 e1 f1 r1 p=>?_;have hv:=r1.shOf R.dom hk;cases d with
 |lst ds=>
  let#[a,vs,e,hn,hs]:=hv;exact .inl #[a,e,#[vs,hn.sq],q _ H1 ds n1 e1 f1 (M9 hn hs) p]
 |tup ds=>
  let#[a,vs,e,hn,hs]:=hv;exact .inr^.inl #[a,e,#[vs,hn.sq],q _ H1 ds n1 e1 f1 (IR hn hs) p]
 |str z=>exact .inr^.inr #[z,hv.1,q _ H1 _ n1 e1 f1 yields_str p]
 |_=>exact p.elim
noncomputable def Su(ws:Dw):Dw:=λn ρ P=>ws n ρ λds n1=>∃j:Int,ds=[.int j]/\(-(2 ^ 62)<=j/\j<2 ^ 62)/\P (Ls 0 j.toNat) n1
def LJ(hg:Gl X "range")(hm:X.mg "range"=k_)(ha:Xa X [e] ws)(hs:autoParam (starEach [e] X.env=[(m_,eval e X.env)]) zau3._auto_1):DI X tg (.Call (.Name "range" p) [e] [] pos)^Su ws:=by
 let#[t,a1,a2]:=ha;refine#[_,RZ hg hm a1 hs,λC M H n ρ Z P Rr R w q=>?_];refine a2 C M H n ρ Z _ _ R w λvs H1 ds n1 e1 f1 r1 p=>?_;let#[j,rfl,hj,p]:=p;cases r1 with
 |cons r rr=>
  cases rr;exact#[j,by rw[r],hj.1,hj.2,q _ H1 _ n1 e1 f1 Ld p]
def DI.c(h:DI X tg e ws):ZA X tg e ws:=by
 let#[wi,a1,a2]:=h;exact#[wi,a1,λC M H n ρ Z P Rr R w q=>a2 C M H n ρ Z P Rr R w λJ H' ds n' e1 f1 y p=>q J H' ds n' e1 f1 y.e p]
def B8(h:DE X e κ wa):ZA X tg e^BS wa:=by
 let#[t,a1,a2]:=h;refine#[_,PD a1,λC M H n ρ Z P Rr R w q=>?_];refine a2 C M H n ρ Z _ _ R w λv H1 d n1 e1 f1 r1 p=>?_;have hv:AtT X.K C.V M H1 d v:=r1.tpOf R.dom R.vM;cases d with
 | lst ds=>
  let#[a,vs,e,nv,hr,hs]:=hv;refine .inl #[a,e,#[vs,.inl hr],q _ H1 ds n1 e1 f1 (λi M' H' pr ex _=>?_) p]
  have hq:SqL X.K H' a vs:=by
   rcases hr with hr|⟨o,hr⟩
   .exact .inl^.inl^ex.keep hr λz=>nv^R.uV a z
   .exact .inl^.inr #[o,ex.keep hr λz=>nv^R.uV a z]
  refine#[λd hd=>?_,λhl=>#[vs,hq,by rw[hs.length];exact hl]];let#[v,e,hv]:=(hs.pres pr).get hd;refine#[#[vs,v,hq,e],λx H2 y=>?_];let#[e2,y]:=y;subst e2
  have:P3 v=P3 x:=e.symm.trans^y vs hq
  cases this;exact#[.refl,hv]
 |tup ds=>
  let#[a,vs,e,hn,hs]:=hv;exact .inr^.inl #[a,e,#[vs,hn.sq],q _ H1 ds n1 e1 f1 (IR hn hs).e p]
 |str z=>exact .inr^.inr #[z,hv.1,q _ H1 _ n1 e1 f1 yields_str.e p]
 |_=>exact p.elim
end
noncomputable abbrev BW:=D->n_ Slot->(n_ Slot->Prop)->Prop
noncomputable def DG(X:Cx)(tg:cJ)(b:BW):Prop:=∃g,PG X tg g/\∀(C:Fm) (M:Ch->Prop) (H:Hp) (n:Sg) (ρ:n_ Slot) (Z:L2.St) (d:D) (v:V) (P:n_ Slot->Prop) (Q:L2.St->Hp->Prop),Rel X.K C M H n ρ Z->At X.K M H d v->b d ρ P->
 (∀zY zZ,Rel X.K C M H n zY zZ->P zY->Q zZ H)->g v Z H Q
noncomputable def Az(i:Nat):BW:=λd ρ P=>P^ρ.set i^.sh d
def Av{X:Cx}{i:Nat}{x:Str}{pos:Pos}(hN:X.N.Nodup)(hi:X.N[i]?=P3 x)(hx:Loc X.env.scope x)(hf:autoParam (X.fn x=l_\/X.env.scope.names.lookup x=P3 .local) zau0._auto_1):DG X (.Name x pos)^Az i:=
 #[_,Fw hN hi hx hf,λC M H n ρ Z d v P Q R h w q=>q _ _ (R.set h) w]
noncomputable def Bh(b:BW)(body:Ac)(D2:E2):n_ D->Sg->n_ Slot->Prop
 |[],n,ρ=>D2.nx n ρ
 |d::ds,n,ρ=>b d ρ λzP=>body {D2 with nx:=Bh b body D2 ds,ct:=Bh b body D2 ds,bk:=D2.nx} n zP
noncomputable def IV(src:Dw)(b:BW)(body:Ac):Ac:=λD2 n ρ=>src n ρ λds n1=>Bh b body D2 ds n1 ρ
def Rel.unpin{K:Frag}{C:Fm}{p:(Ch->Prop)×Hp}{M:Ch->Prop}{H:Hp}{n:Sg}{ρ:n_ Slot}{Z:L2.St}(R:Rel K {C with zG:=p::C.zG} M H n ρ Z):Rel K C M H n ρ Z:=
 #[R.len,R.sub,R.dom,R.ext,R.fU,R.uV,R.vM,R.feed,R.sl,λq hq=>R.pin q^TW _ hq,R.br0,R.new,R.two,R.kept]
def Rel.pinned{K:Frag}{C:Fm}{M:Ch->Prop}{H:Hp}{n:Sg}{ρ:n_ Slot}{Z:L2.St}(R:Rel K C M H n ρ Z):Rel K {C with zG:=(M,H)::C.zG} M H n ρ Z:=
 #[R.len,R.sub,R.dom,R.ext,R.fU,R.uV,R.vM,R.feed,R.sl,λq hq=>(Uf.mp hq).elim (λe=>e▸Pres.refl M H)^R.pin q,R.br0,R.new,R.two,R.kept]
section
variable {X:Cx}{κ:Kd}{tg iter:Expr}{body:n_ Stmt}{src:Dw}{b:BW}{wb:Ac}{pos:Pos}
def EH(hp:ia (model X.prog X.w) X.A X.env X.xe)(hc:X.calm=l_)(hi:DI X tg iter src)(hg:DG X tg b)(hb:Se X κ body wb)
  (hs:autoParam (∀x,foldedSetIterable iter X.env x=pure x) zau2._auto_1):DS X κ (.For tg iter body [] pos)^IV src b wb:=by
 let#[wi,a1,a2]:=hi;let#[g,g1,g2]:=hg;let#[tb,b1,b2]:=hb;refine#[_,L3 hp hc a1 g1 b1 hs,λC M H n ρ Z D2 E R L w=>?_];refine a2 C M H n ρ Z _ _ R w λJ H1 ds n1 e1 f1 y w1=>?_;have R1:=R.step e1 f1;refine#[λi m zZ H'=>m=ds.length - i/\i<=ds.length/\∃M' n' zY,Rel X.K {C with zG:=(M,H1)::C.zG} M' H' n' zY zZ/\Bh b wb D2 (ds.drop i) n' zY,#[ds.length,by simp,cB _,M,n1,ρ,R1.pinned,w1],?_];rintro i m zZ H' ⟨rfl,hi,M',n',zY,R',w'⟩;have pr:Pres M H1 M' H':=R'.pin (M,H1) Re
 by_cases hlt:i<ds.length
 .have ed:ds.drop i=ds[i]::ds.drop (i+1):=eF hlt
  rw[ed]at w';let#[go,yl]:=(y i M' H' pr R'.dom).1 ds[i] (No hlt);refine .inr #[go,λzO H2=>∃M2 n2 zL,Rel X.K {C with zG:=(M,H1)::C.zG} M2 H2 n2 zL zO/\Bh b wb D2 (ds.drop (i+1)) n2 zL,λzO H2 #[M2,n2,zL,R2',w2]=>#[ds.length - (i+1),by lk,rfl,hlt,M2,n2,zL,R2',w2],λx H2 hy=>?_];let#[gr,hx]:=yl x H2 hy;have R2':=R'.step gr.ext^R'.feed.grow gr;refine g2 _ M' H2 n' zY zZ ds[i] x _ _ R2' hx w' λzQ zV R3 w3=>?_;refine b2 _ M' H2 n' zQ zV {D2 with nx:=Bh b wb D2^ds.drop (i+1),ct:=Bh b wb D2^ds.drop (i+1),bk:=D2.nx} _ R3 #[λM4 H4 n4 zT zS R4 w4=>#[M4,n4,zT,R4,w4],L.rt,λM4 H4 n4 zT zS R4 w4=>L.nx M4 H4 n4 zT zS R4.unpin w4,λM4 H4 n4 zT zS R4 w4=>#[M4,n4,zT,R4,w4]] w3
 .have e:i=ds.length:=by lk
  subst e;rw[fm]at w';exact .inl #[(y _ M' H' pr R'.dom).2 (Rs _),L.nx M' H' n' zY zZ R'.unpin w']
end
noncomputable def HM(b:BW)(tt:Hd)(te:DW)(P:n_ D->Sg->Prop):n_ D->n_ D->Sg->n_ Slot->Prop
 |[],acc,n,_=>P acc n
 |d::ds,acc,n,ρ=>b d ρ λzP=>tt n zP λc n1=>if c=l_ then te n1 zP λy n2=>HM b tt te P ds (acc++[y]) n2 zP else HM b tt te P ds acc n1 zP
noncomputable def UO:Slot->Slot
 |.ow d=>.br d
 |.lt _ d=>.br d
 |s=>s
def Rx(s:Slot):(UO s).owns=m_:=by cases s <;>rfl
def DY{js:n_^o_ Nat}{ρ:n_ Slot}{i:Nat}{s:Slot}(h:(js.map λo=>match o with|some i=>UO^(ρ[i]?).getD .no|none=>Slot.no)[i]?=P3 s):s.owns=m_:=by
 rw[XV]at h;cases q:js[i]? with
 |none=>grind
 | some o=>
  rw[q]at h;cases o with
  |none=>
   rw[←bz h];rfl
  |some j=>
   rw[←bz h];exact Rx _
noncomputable def F4(js:n_^o_ Nat)(ρ:n_ Slot):n_ Slot:=js.map λo=>match o with
 |some i=>UO^(ρ[i]?).getD .no
 |none=>.no
noncomputable def CV(js:n_^o_ Nat)(src:Dw)(b:BW)(tt:Hd)(te:DW):DW:=λn ρ P=>src n ρ λds n1=>ds.length<=10000000/\HM b tt te (λacc n2=>P (.lst acc) n2) ds [] n1^F4 js ρ
noncomputable def Y_(X:Cx)(ifs:n_ cJ)(w:Hd):Prop:=∃t,aG X ifs t/\∀(C:Fm) (M:Ch->Prop) (H:Hp) (n:Sg) (ρ:n_ Slot) (Z:L2.St) (P:Bool->Sg->Prop) (Q:Bool->Hp->Prop),Rel X.K C M H n ρ Z->w n ρ P->
 (∀b H' n',Ext C.U H H'->FeedC X.K C.F M H' n'->P b n'->Q b H')->t Z H Q
noncomputable def Q9:Hd:=λn _ P=>P l_ n
def IE{X:Cx}:Y_ X [] Q9:=#[_,Vo,λC M H n ρ Z P Q R w q=>q _ H n (Ext.refl _ _) R.feed w]
def Cz{X:Cx}{c:cJ}{w:Hd}(h:DT X c w):Y_ X [c] w:=by
 let#[t,h1,h2]:=h;exact#[t,Vn h1,h2]
def K_{js:n_^o_ Nat}{ρ:n_ Slot}{Z:L2.St}{i:Nat}{s:Slot}(hs:(F4 js ρ)[i]?=P3 s):s=.no\/∃(j:Nat) (s':Slot),ρ[j]?=P3 s'/\s=UO s'/\((CH js Z)[i]?).getD k_=(Z[j]?).getD k_:=by
 unfold F4 at hs;unfold CH;rw[XV]at hs ⊢;cases q:js[i]? with
 |none=>simp_all
 | some o=>
  rw[q]at hs;cases o with
  |none=>simp_all
  | some j=>
   have e:UO _=s:=bz hs;cases q2:ρ[j]? with
   |none=>rw[q2]at e;exact .inl e.symm
   |some s'=>
    rw[q2]at e;exact .inr #[j,s',q2,e.symm,rfl]
def Np{K:Frag}{F:o_ (Ch×Ch)}{U U' M M':Ch->Prop}{H H':Hp}{js:n_^o_ Nat}{ρ:n_ Slot}{Z:L2.St}(hsl:∀(i:Nat) (s:Slot),ρ[i]?=P3 s->SlotOk K F U M H s^(Z[i]?).getD k_)
  (pr:Pres M H M' H') (br:∀d v,AtT K U M H d v->AtT K U' M' H' d v):∀(i:Nat) (s:Slot),(F4 js ρ)[i]?=P3 s->SlotOk K F U' M' H' s^((CH js Z)[i]?).getD k_:=by
 intro i s hs
 rcases K_ hs with rfl|⟨j,s',q,rfl,e⟩
 .trivial
 .rw[e]
  have h1:=hsl j s' q;cases s' with
  |no=>trivial
  |sh d=>let#[v,e1,h2]:=h1;exact#[v,e1,h2.pres pr]
  |ex a nm ks ds=>let#[e1,h2]:=h1;exact#[e1,h2.pres pr]
  |br d=>let#[v,e1,h2]:=h1;exact#[v,e1,br d v h2]
  |fd=>exact h1
  |ow d=>let#[a,e1,_,nv,t]:=h1;exact#[_,e1,br d _^t.att nv]
  |lt a d=>let#[e1,_,nv,t]:=h1;exact#[_,e1,br d _^t.att nv]
def Qb{K:Frag}{F:o_ (Ch×Ch)}{U M:Ch->Prop}{H:Hp}{js:n_^o_ Nat}{ρ:n_ Slot}{Z:L2.St}(hsl:∀(i:Nat) (s:Slot),ρ[i]?=P3 s->SlotOk K F U M H s^(Z[i]?).getD k_){i:Nat}{d:D}{a:Ch}
  (hs:(F4 js ρ)[i]?=P3^.br d) (ha:((CH js Z)[i]?).getD k_=P3^.ref a):∃o,H a=P3 o:=by
 rcases K_ hs with z|⟨j,s',q,z,e⟩
 .cases z
 .rw[e]at ha
  have h1:=hsl j s' q;rw[ha]at h1;cases s' with
  |br d=>let#[v,e1,h2]:=h1;cases e1;exact h2.lies
  |ow d=>let#[b,e1,_,nv,t]:=h1;cases e1;exact(t.att nv).lies
  |lt b d=>let#[e1,_,nv,t]:=h1;cases e1;exact(t.att nv).lies
  |no=>cases z
  |sh d=>cases z
  |ex a nm ks ds=>cases z
  |fd=>cases z
section
variable {X:Cx}{zM:Kd}{tg elt iter:Expr}{ifs:n_ Expr}{sc:Scope}{pos:Pos}{src:Dw}{b:BW}{tt:Hd}{te:DW}
def WT(hc:X.calm=l_)(N':n_ Str)(js:n_^o_ Nat)(hi:ZA X tg iter src)(hg:∀cl C s H fp,DG (Ay X sc N' cl C s H fp) tg b)(ht:∀cl C s H fp,Y_ (Ay X sc N' cl C s H fp) ifs tt)(he:∀cl C s H fp,DE (Ay X sc N' cl C s H fp) elt zM te)
  (hB:HW sc X.env.scope X.N N' js=l_) (hk:autoParam (zM≠.tp) zau7._auto_1)
  (hs:autoParam (∀x,foldedSetIterable iter X.env x=pure x) zau2._auto_1):DE X (.ListComp elt [#[tg,iter,ifs,0]] sc pos) .fr^CV js src b tt te:=by
 let#[wi,a1,a2]:=hi;refine#[_,Vt hc N' js a1 hB hs,λC M H n ρ Z P Q R w q=>?_];refine a2 C M H n ρ Z _ _ R w λJ H1 ds n1 e1 f1 y w1=>?_;let#[hlen,w1]:=w1;have R1:=R.step e1 f1;intro l hl hkl cl Ca s0 H0 fp;let#[g,g1,g2]:=hg cl Ca s0 H0 fp;let#[tc,c1,c2]:=ht cl Ca s0 H0 fp;let#[tx,x1,x2]:=he cl Ca s0 H0 fp
 have noU:¬C.U l:=λz=>by
  let#[o,z]:=R1.udom l z;rw[hl]at z;cases z
 generalize hM':(λb=>M b\/b=l)=M';have M'l:M' l:=by rw[←hM'];exact .inr rfl
 have M'of:∀b,M b->M' b:=λb z=>by rw[←hM'];exact .inl z
 have ofM':∀b,M' b->M b\/b=l:=λb z=>by rw[←hM']at z;exact z
 have inV:∀b,C.V b\/b=l->M' b:=λb z=>z.elim (λz=>M'of b^R1.vM b z) λz=>by rw[z];exact M'l
 have lenj:js.length=N'.length:=EK (CompOk.of hB).cap
 refine#[g,tc,tx,λi m zZ H'=>m=ds.length - i/\i<=ds.length/\∃n' zY acc vs,Rel X.K #[M',C.F,C.U,λb=>C.V b\/b=l,H1,[],[]] M' H' n' zY zZ/\H' l=P3^.lst vs/\Ats X.K M' H' acc vs/\acc.length<=i/\Pres M H1 M' H' /\
   HM b tt te (λacc n2=>P (.lst acc) n2) (ds.drop i) acc n' zY,g1,c1,x1,#[ds.length,by simp,cB _,n1,F4 js ρ,[],[],?_],?_]
 .have gr:Grow H1^Aq H1 l^.lst []:=Ap hl
  have pr:Pres M H1 M'^Aq H1 l^.lst []:=#[λb o e _ _=>gr.all b o e,λb z=>(ofM' b z).elim .inl λz=>.inr (by rw[z];exact hl),λb vs e=>gr.all b _ e,λb o e=>#[o,gr.all b o e]];refine#[#[?_,λa z=>z,λa z=>?_,gr.ext,R1.fU,λa z=>.inl^R1.uV a z,inV,f1.pres pr (λf o _ e=>gr.all f.1 o e) λa u e=>gr.all a _ e,?_,λp hp=>absurd hp^by simp,λi d a q z=>Qb R1.sl q z,λi s a q o _=>absurd o (by rw[DY q];decide),λi j s t a q o _ _ _ _=>absurd o (by rw[DY q];decide),λp hp=>absurd hp^by simp],AM,rfl,cB _,pr,w1]
  .unfold F4 CH
   rw[FM,FM]
  .rcases ofM' a z with z|z
   .let#[o,z]:=R1.dom a z
    exact#[o,gr.all a o z]
   .subst z
    exact#[_,AM]
  .refine Np R1.sl pr λd v h=>h.same pr (λa o _ e=>gr.all a o e) λa e n1 z=>z.elim n1 λz=>?_
   subst e;let#[o,w]:=h.lies;rw[z,hl]at w;cases w
 .rintro i m zZ H' ⟨rfl,hi,n',zY,acc,vs,R',hlv,hac,hal,pr,w'⟩
  by_cases hlt:i<ds.length
  .have ed:ds.drop i=ds[i]::ds.drop (i+1):=eF hlt
   rw[ed]at w';let#[go,yl]:=(y i M' H' pr R'.ext R'.dom).1 ds[i] (No hlt);refine .inr #[go,λx H2 hy=>?_];let#[gr,hx]:=yl x H2 hy;have R2':=R'.step gr.ext^R'.feed.grow gr;refine g2 _ M' H2 n' zY zZ ds[i] x _ _ R2' hx w' λzQ zV R3 w3=>?_;refine c2 _ M' H2 n' zQ zV _ _ R3 w3 λc H4 n4 e4 f4 w4=>?_;have R4:=R3.step e4 f4;have p4:Pres M' H' M' H4:=gr.pres.trans^R3.pres e4;have l4:H4 l=P3^.lst vs:=e4.keep (gr.all _ _ hlv) noU;cases c with
   |false=>exact#[ds.length - (i+1),by lk,rfl,hlt,n4,zQ,acc,vs,R4,l4,hac.pres p4,by lk,pr.trans p4,w4]
   | true=>
    refine x2 _ M' H4 n4 zQ zV _ _ R4 w4 λyv H5 d5 n5 e5 f5 r5 w5=>?_;have R5:=R4.step e5 f5;have p5:Pres M' H4 M' H5:=R4.pres e5;have l5:H5 l=P3^.lst vs:=e5.keep l4 noU;have hy5:=r5.shOf R4.dom hk;have a5:=(hac.pres p4).pres p5;have pu:Pres M' H5 M'^Aq H5 l^.lst (vs++[yv]):=Cd M'l l5;have hvl:vs.length=acc.length:=hac.length;refine#[vs,l5,by rw[cZ];lk,ds.length - (i+1),by lk,rfl,hlt,n5,zQ,acc++[d5],vs++[yv],?_,AM,(a5.append^Ats.one hy5).pres pu,by rw[cj,dM];lk,(pr.trans p4).trans^p5.trans pu,w5];refine#[R5.len,R5.sub,λa z=>?_,λb o e=>?_,R5.fU,R5.uV,R5.vM,?_,λj s hs=>?_,λp hp=>absurd hp^by simp,R5.br0,R5.new,R5.two,λp hp=>absurd hp^by simp]
    .by_cases ha:a=l
     .subst ha;exact#[_,AM]
     .rw[AL ha];exact R5.dom a z
    .let#[o',q1,q2]:=R5.ext b o e
     by_cases hb:b=l
     .subst hb
      have e':H1 b=P3 o:=e;rw[hl]at e';cases e'
     .exact#[o',by rw[AL hb];exact q1,q2]
    .refine f5.pres pu (λf o hf e=>?_) λa u e=>by rw[AL λz=>by rw[z,l5]at e;cases e];exact e
     rw[AL λz=>noU^by rw[←z];exact R1.fU f hf];exact e
    .have hs5:=R5.sl j s hs
     cases s with
     |no=>trivial
     |sh d=>let#[v,e1,h2]:=hs5;exact#[v,e1,h2.pres pu]
     |ex a nm ks ds=>let#[e1,h2]:=hs5;exact#[e1,h2.pres pu]
     | br d=>
      let#[v,e1,h2]:=hs5;refine#[v,e1,h2.same pu (λa o z e=>?_) λ_ _ z=>z];subst z;let#[o3,w]:=R5.br0 j d a hs e1
      have hal:a≠l:=λz=>by
       have w':H1 a=P3 o3:=w;rw[z,hl]at w';cases w'
      rw[AL hal];exact e
     |ow d=>
      let#[a,e1,h2,_]:=hs5;exact absurd h2 (R5.new j _ a hs rfl e1).1
     |lt a d=>
      let#[e1,h2,_]:=hs5;exact absurd h2 (R5.new j _ a hs rfl e1).1
     |fd=>exact hs5
  .have e:i=ds.length:=by lk
   subst e;rw[fm]at w';refine .inl #[(y _ M' H' pr R'.ext R'.dom).2 (Rs _),?_];have eb:Ext C.U H1 H':=R'.ext;have less:Pres M' H' M H':=Pres.less M'of;refine q _ H' (.lst acc) n' (e1.trans eb) (R'.feed.pres less (λ_ _ _ z=>z) λ_ _ z=>z) (VR.back e1 ?_) w';exact#[l,rfl,hl,vs,hlv,by rw[hM'];exact hac]
end
def RG{K:Frag}{F:o_ (Ch×Ch)}{U V' M:Ch->Prop}{H:Hp}{n:Sg}{ss:n_ Slot}{vs:n_ V}{N:n_ Str}(h:aE K F U V' M H n ss vs)(hl:vs.length<=N.length):
  Rel K #[M,F,U,V',H,[],[]] M H n (ss++T0 (N.length - ss.length) .no) (L2.start N vs):=by
 let#[dom,fU,uV,vM,fd,pa]:=h;have el:vs.length=ss.length:=Paired.length pa
 have go:∀{vs:n_ V}{ss:n_ Slot}{i:Nat}{s:Slot},Paired (EW K F V' M H) vs ss->ss[i]?=P3 s->∃v,vs[i]?=P3 v/\EW K F V' M H v s:=by
  intro vs ss i s pa
  induction pa generalizing i with
  |nil=>intro e;simp at e
  | cons r t ih=>
   intro e;cases i with
   |zero=>simp at e;subst e;exact#[_,rfl,r]
   |succ i=>
    let#[v,e1,h1]:=ih (i:=i) (by simpa using e);exact#[v,by simpa using e1,h1]
 have at_:∀(i:Nat) (s:Slot),(ss++T0 (N.length - ss.length) Slot.no)[i]?=P3 s->s=.no\/∃v,((L2.start N vs)[i]?).getD k_=P3 v/\EW K F V' M H v s:=by
  intro i s hs
  by_cases hi:i<ss.length
  .rw[fC hi]at hs
   let#[v,e1,h1]:=go pa hs;refine .inr #[v,?_,h1];unfold L2.start;rw[fC (by rw[FM,el];exact hi),XV,e1];rfl
  .rw[eo^by lk,gJ]at hs
   split at hs
   .exact .inl (bz hs).symm
   .cases hs
 refine#[?_,λa z=>z,dom,Ext.refl _ _,fU,uV,vM,fd,λi s hs=>?_,λp hp=>absurd hp^by simp,λi d a hs ha=>?_,λi s a hs o _=>?_,λi j s t a hs o _ _ _ _=>?_,λp hp=>absurd hp^by simp]
 .unfold L2.start
  simp only[cj,FM,iu];lk
 .rcases at_ i s hs with rfl|⟨v,e,h⟩
  .trivial
  .rw[e];exact h.1
 .rcases at_ i _ hs with z|⟨v,e,h⟩
  .cases z
  .rw[e]at ha
   cases ha;let#[v,e1,h1]:=h.1;cases e1;exact h1.lies
 .rcases at_ i s hs with rfl|⟨v,e,h⟩
  .cases o
  .rw[h.2]at o;cases o
 .rcases at_ i s hs with rfl|⟨v,e,h⟩
  .cases o
  .rw[h.2]at o;cases o
def bU{P:cH}{w:cN}{K:Frag}{mg:Str->o_ Db}{base:cA}{x qual:Str}{st:cS}{f:Ch}{fd:cv}{N ps:n_ Str}{k:Nat}{κ:Kd}{W:W2}{wb:Ac}(F:Fun K x qual st f fd)(S:AZ N ps^AJ st)(hNp:ps.length<=N.length)
  (hb:∀(cdv:Db) (A:cW) (outer:n_ Env) (s:Go) (H:Hp) (E:XK),Room k^A.deeper^envOfC qual (AJ st) s.heap.objs.size f cdv->Se (Jo Fb P w K mg base N qual (AJ st) f cdv A outer s H E).nox κ (BM st) wb)
  (hW:∀ss n Pd,ss.length=ps.length->W ss n Pd->wb {nx:=λn _=>κ=.sh/\Pd .non n,rt:=Pd} n (ss++T0 (N.length - ps.length) .no)):
  FnOk P w K mg base Fb (k+1) f fd ps (RE K κ W ps.length):=by
 refine F.ok S (λvs H Q E h=>h.1) λcdv A outer s H vs Q E hr h=>?_;let#[hl,F0,U,V',M,n,ss,Pd,ra,hw,q]:=h;let#[t,t1,t2]:=hb cdv A outer s H E hr;refine#[t,t1,?_];have el:vs.length=ss.length:=Paired.length ra.2.2.2.2.2;have R:=RG (N:=N) ra (by lk);refine t2 #[M,F0,U,V',H,[],[]] M H n _ _ {nx:=λn _=>κ=.sh/\Pd .non n,rt:=Pd} _ R #[λM1 H1 n1 zP zJ R1 p=>?_,λv H1 d n1 e1 f1 r1 p=>q v H1 d n1 e1 f1 r1 p,λ_ _ _ _ _ _ z=>z.elim,λ_ _ _ _ _ _ z=>z.elim] ?_
 .let#[hk,p]:=p
  subst hk;exact q .non H1 .non n1 R1.ext (R1.feed.pres (Pres.less R1.sub) (λ_ _ _ z=>z) λ_ _ z=>z) rfl p
 grind
end Dp
namespace L2
section
variable {X:Cx}
def Inv.rdl{zG:n_ (Ch×Obj)}{Z:L2.St}{H:Hp}{s:Go}{l:Ch}{xs:n_ V}(I:Inv X zG Z H s)(h:Rd H l^.lst xs):xs.length<=sizeLine/\∃(its:n_ Db) (n:Nat),Vals xs its/\xs.length=its.length/\s.heap.get? l=P3 {cls:=.type "list",data:=.seq its.toArray n}:=by
 let#[z,its,n,r,e]:=h.ok I.hok;exact#[z,_,n,r,r.length,e]
def Vz:OpR X (binaryOp .Add) (λx y H Q=>∃l b xs zs,x=.ref l/\y=.ref b/\Rd H l^.lst xs/\Rd H b^.lst zs/\xs.length+zs.length<=sizeLine/\∀p,H p=k_->Q (.ref p)^Aq H p^.lst (xs++zs)):=by
 intro zG s Z H x y v u Q I rx ry h;let#[l,b,xs,zs,rfl,rfl,hH,hB,hz,q]:=h;cases rx;cases ry;let#[z,its,n,r,hl,e]:=I.rdl hH;let#[z2,its2,n2,r2,hl2,e2]:=I.rdl hB;refine PySem.P.add_list e e2 ?_ (by grind);have ea:its.toArray++its2.toArray=(its++its2).toArray:=by simp
 rw[ea];exact#[.ref _,_,I.lnew (r.append r2)^by grind,rfl,q _ I.fresh]
end
end L2
namespace Dp
open L2
section
variable {K:Frag}
def AtT.int{U M:Ch->Prop}{H:Hp}{i:Int}{v:V}(h:AtT K U M H (.int i) v):v=.int i:=h
def AtT.bl{U M:Ch->Prop}{H:Hp}{i:Bool}{v:V}(h:AtT K U M H (.bl i) v):v=.bl i:=h
def AtT.str{U M:Ch->Prop}{H:Hp}{x:Str}{v:V}(h:AtT K U M H (.str x) v):v=.str x/\x.length<=sizeLine:=h
def AtT.tup{U M:Ch->Prop}{H:Hp}{ds:n_ D}{v:V}(h:AtT K U M H (.tup ds) v):∃a vs,v=.ref a/\NdT M H a vs/\Ats K M H ds vs:=h
noncomputable def aS(g:Int->Int->(D->Prop)->Prop)(d e:D)(P:D->Prop):Prop:=match d,e with
 |.int i,.int j=>g i j P
 |_,_=>False
def MT{g:Int->Int->(D->Prop)->Prop}{d e:D}{P:D->Prop}(w:aS g d e P):∃i j,d=.int i/\e=.int j/\g i j P:=by
 unfold aS at w
 split at w
 .grind
 grind
noncomputable def f2(g:Int->Int->D):D->D->(D->Prop)->Prop:=aS λi j P=>P^g i j
noncomputable def VQ(C:Int->Int->Prop)(g:Int->Int->D):D->D->(D->Prop)->Prop:=aS λi j P=>C i j/\P^g i j
def VH{g:Int->Int->Int}:El K .sh (Hf λi j=>.int^g i j) (f2 λi j=>.int^g i j):=by
 intro U M H d e x y P Q dom vM hx hy w q;let#[i,j,rfl,rfl,w]:=MT w;exact#[i,j,hx,hy,q _ H (.int _) .refl rfl w]
def Px{g:Int->Int->Bool}:El K .sh (Hf λi j=>.bl^g i j) (f2 λi j=>.bl^g i j):=by
 intro U M H d e x y P Q dom vM hx hy w q;let#[i,j,rfl,rfl,w]:=MT w;exact#[i,j,hx,hy,q _ H (.bl _) .refl rfl w]
def G1{C:Int->Int->Prop}{g:Int->Int->Int}:El K .sh (rI C λi j=>.int^g i j) (VQ C λi j=>.int^g i j):=by
 intro U M H d e x y P Q dom vM hx hy w q;let#[i,j,rfl,rfl,w]:=MT w;exact#[i,j,hx,hy,w.1,q _ H (.int _) .refl rfl w.2]
noncomputable def aR(g:Str->Str->(D->Prop)->Prop)(d e:D)(P:D->Prop):Prop:=match d,e with
 |.str i,.str j=>g i j P
 |_,_=>False
def Qk{g:Str->Str->(D->Prop)->Prop}{d e:D}{P:D->Prop}(w:aR g d e P):∃i j,d=.str i/\e=.str j/\g i j P:=by
 unfold aR at w
 split at w
 .grind
 grind
def VD{g:Str->Str->Bool}:El K .sh (λx y H Q=>∃i j,x=.str i/\y=.str j/\Q (.bl^g i j) H) (aR λi j P=>P^.bl^g i j):=by
 intro U M H d e x y P Q dom vM hx hy w q;let#[i,j,rfl,rfl,w]:=Qk w;exact#[i,j,hx.1,hy.1,q _ H (.bl _) .refl rfl w]
def SU:El K .sh (λx y H Q=>∃i j,x=.str i/\y=.str j/\i.length+j.length<=sizeLine/\Q (.str (i++j)) H) (aR λi j P=>i.length+j.length<=sizeLine/\P^.str (i++j)):=by
 intro U M H d e x y P Q dom vM hx hy w q;let#[i,j,rfl,rfl,w]:=Qk w;exact#[i,j,hx.1,hy.1,w.1,q _ H (.str _) .refl #[rfl,by rw[Str.length_append i j];exact w.1] w.2]
noncomputable def a_(g:n_ D->n_ D->(D->Prop)->Prop)(d e:D)(P:D->Prop):Prop:=match d,e with
 |.tup i,.tup j=>g i j P
 |_,_=>False
noncomputable def bA(g:n_ D->n_ D->(D->Prop)->Prop)(d e:D)(P:D->Prop):Prop:=match d,e with
 |.lst i,.lst j=>g i j P
 |_,_=>False
def WD{g:n_ D->n_ D->(D->Prop)->Prop}{d e:D}{P:D->Prop}(w:a_ g d e P):∃i j,d=.tup i/\e=.tup j/\g i j P:=by
 unfold a_ at w
 split at w
 .grind
 grind
def WE{g:n_ D->n_ D->(D->Prop)->Prop}{d e:D}{P:D->Prop}(w:bA g d e P):∃i j,d=.lst i/\e=.lst j/\g i j P:=by
 unfold bA at w
 split at w
 .grind
 grind
def DH{M:Ch->Prop}{H:Hp}{p:Ch}{vs:n_ V}{ds:n_ D}(dom:∀a,M a->∃o,H a=P3 o)(hp:H p=k_)(h:Ats K M H ds vs):At K M (Aq H p^.tup vs) (.tup ds)^.ref p:=#[p,vs,rfl,AM,h.pres (Ap hp).pres]
def CP{U M:Ch->Prop}{H:Hp}{p:Ch}{vs:n_ V}{ds:n_ D}(hp:H p=k_)(h:Ats K M H ds vs):VR K U M H (Aq H p^.lst vs) .fr (.ref p)^.lst ds:=
 #[p,rfl,hp,vs,AM,h.pres^FS hp]
def SS:El K .sh (Tp K) (a_ λi j P=>i≠[]/\i.length+j.length<=sizeLine/\P^.tup (i++j)):=by
 intro U M H d e x y P Q dom vM hx hy w q;let#[i,j,rfl,rfl,w]:=WD w;let#[a,vs,rfl,ha,hs]:=hx.tup;let#[b,us,rfl,hb,ht]:=hy.tup;have l1:=hs.length;have l2:=ht.length;refine#[a,b,vs,us,rfl,rfl,ha.sq,hb.sq,λz=>w.1 ?_,by simp_all,λz=>?_,λz p hp=>?_]
 .rw[z]at l1;exact gK.mp l1.symm
 .rw[z]at l2
  have:j=[]:=gK.mp l2.symm
  subst this;exact q _ H (.tup i) .refl #[a,vs,rfl,ha,hs]^by grind
 .exact q _ _ (.tup (i++j)) (Ap hp) (DH dom hp^hs.append ht) w.2.2
def SV:El K .fr (λx y H Q=>∃l b xs zs,x=.ref l/\y=.ref b/\Rd H l^.lst xs/\Rd H b^.lst zs/\xs.length+zs.length<=sizeLine/\∀p,H p=k_->Q (.ref p)^Aq H p^.lst (xs++zs)) (bA λi j P=>i.length+j.length<=sizeLine/\P^.lst (i++j)):=by
 intro U M H d e x y P Q dom vM hx hy w q;let#[i,j,rfl,rfl,w]:=WE w;let#[a,vs,rfl,_,ha,hs]:=hx;let#[b,us,rfl,_,hb,ht]:=hy;exact#[a,b,vs,us,rfl,rfl,ha,hb,by rw[hs.length,ht.length];exact w.1,λp hp=>q _ _ _ (Ap hp) (CP hp^hs.append ht) w.2]
noncomputable def Ee(neg:Bool)(d e:D)(P:D->Prop):Prop:=match d,e with
 |.bl i,.bl j=>P^.bl (if neg then !(i==j)else i==j)
 |.int i,.int j=>P^.bl (if neg then !(i==j)else i==j)
 |.str i,.str j=>P^.bl (if neg then !(i==j)else i==j)
 |_,_=>False
def Qm{neg:Bool}{d e:D}{P:D->Prop}(w:Ee neg d e P):(∃i j,d=.bl i/\e=.bl j/\P^.bl (if neg then !(i==j)else i==j))\/(∃i j,d=.int i/\e=.int j/\P^.bl (if neg then !(i==j)else i==j))\/∃i j,d=.str i/\e=.str j/\P^.bl (if neg then !(i==j)else i==j):=by
 unfold Ee at w
 split at w
 .simp_all
 .simp_all
 .simp_all
 grind
def FX:El K .sh bS^Ee m_:=by
 intro U M H d e x y P Q dom vM hx hy w q
 rcases Qm w with⟨i,j,rfl,rfl,w⟩|⟨i,j,rfl,rfl,w⟩|⟨i,j,rfl,rfl,w⟩
 .rw[hx.bl,hy.bl];exact#[rfl,q _ H _ .refl (by rw[Mb];rfl) w]
 .rw[hx.int,hy.int];exact#[rfl,q _ H _ .refl (by rw[II];rfl) w]
 .rw[hx.str.1,hy.str.1];exact#[rfl,q _ H _ .refl (by rw[IH];rfl) w]
def OQ:El K .sh bP^Ee l_:=by
 intro U M H d e x y P Q dom vM hx hy w q
 rcases Qm w with⟨i,j,rfl,rfl,w⟩|⟨i,j,rfl,rfl,w⟩|⟨i,j,rfl,rfl,w⟩
 .rw[hx.bl,hy.bl];exact#[rfl,q _ H _ .refl (by rw[Mb];rfl) w]
 .rw[hx.int,hy.int];exact#[rfl,q _ H _ .refl (by rw[II];rfl) w]
 .rw[hx.str.1,hy.str.1];exact#[rfl,q _ H _ .refl (by rw[IH];rfl) w]
noncomputable def UV:D->Bool
 |.non=>l_
 |_=>m_
def Nz{U M:Ch->Prop}{H:Hp}{d:D}{x:V}(h:AtT K U M H d x):decide (x=.non)=UV d:=by
 cases d with
 |non=>rw[h];rfl
 |bl b=>rw[h.bl];rfl
 |int i=>rw[h.int];rfl
 |str z=>rw[h.str.1];rfl
 |tup ds=>let#[a,vs,rfl,_]:=h.tup;rfl
 |lst ds=>let#[a,vs,rfl,_]:=h;rfl
 |dic ks ds=>let#[a,vs,rfl,_]:=h;rfl
 |fdi ks ds=>let#[a,vs,rfl,_]:=h;rfl
 |dit ks ds=>let#[a,vs,rfl,_]:=h;rfl
 |ob a=>let#[rfl,_]:=h;rfl
noncomputable def A1(d e:D)(P:D->Prop):Prop:=match d,e with
 |.lst ds,.int i=>∃z,atI ds i=P3 z/\P z
 |.tup ds,.int i=>∃z,atI ds i=P3 z/\P z
 |.str x,.int i=>∃c,atI x.cps.toList i=P3 c/\P^.str #[#[ c]]
 |_,_=>False
def WF{d e:D}{P:D->Prop}(w:A1 d e P):(∃ds i z,d=.lst ds/\e=.int i/\atI ds i=P3 z/\P z)\/(∃ds i z,d=.tup ds/\e=.int i/\atI ds i=P3 z/\P z)\/∃x i c,d=.str x/\e=.int i/\atI x.cps.toList i=P3 c/\P^.str #[#[ c]]:=by
 unfold A1 at w
 split at w
 .simp_all
 .simp_all
 .simp_all
 grind
theorem Ats.atI{M:Ch->Prop}{H:Hp}{ds:n_ D}{vs:n_ V}{i:Int}{z:D}(h:Ats K M H ds vs)(e:atI ds i=P3 z):∃v,L2.atI vs i=P3 v/\At K M H z v:=by
 unfold L2.atI at e ⊢;rw[h.length];cases q:XE _ i with
 |none=>grind
 |some j=>
  rw[q]at e;exact h.get e
def Al:El K .sh (bQ K) A1:=by
 intro U M H d e x y P Q dom vM hx hy w q
 rcases WF w with⟨ds,i,z,rfl,rfl,hz,w⟩|⟨ds,i,z,rfl,rfl,hz,w⟩|⟨x,i,c,rfl,rfl,hc,w⟩
 .let#[a,vs,rfl,_,ha,hs]:=hx
  let#[v,hv,hAt]:=hs.atI hz;exact .inl #[a,vs,i,v,rfl,hy,.inl ha,hv,q v H z .refl hAt w]
 .let#[a,vs,rfl,ha,hs]:=hx.tup
  let#[v,hv,hAt]:=hs.atI hz;exact .inr^.inl #[a,vs,i,v,rfl,hy,ha.sq,hv,q v H z .refl hAt w]
 .exact .inr^.inr #[x,i,c,hx.str.1,hy,hx.str.2,hc,q _ H (.str _) .refl #[rfl,by show 1<=16777216;decide] w]
noncomputable def cutD{α:Type}(xs:n_ α)(lo hi:o_ Int):n_ α:=(xs.drop^HT.sIx xs.length 0 lo).take (HT.sIx xs.length xs.length hi - HT.sIx xs.length 0 lo)
def Dl{R:V->D->Prop}{vs:n_ V}{d:D}(h:Paired R vs [d]):∃v,vs=[v]/\R v d:=by
 cases h with
 |cons r t=>cases t;grind
noncomputable def aq:D->o_ Nat
 |.str x=>P3 x.length
 |.tup xs=>P3 xs.length
 |.lst xs=>P3 xs.length
 |_=>k_
noncomputable def DK(ds:n_ D)(P:D->Prop):Prop:=∃d n,ds=[d]/\aq d=P3 n/\P^.int (n:Int)
def ES:B_ K .sh (λxs H Q=>∃x n,xs=[x]/\Y2 K x H n/\Q (.int n) H) DK:=by
 intro U M H ds vs P Q dom vM hp w q;let#[d,n,rfl,hn,w]:=w;let#[v,rfl,hx]:=Dl hp;refine#[v,n,rfl,?_,q _ H (.int _) .refl rfl w];cases d with
 |str z=>cases hn;rw[hx.str.1];exact#[hx.str.2,rfl]
 |tup xs=>
  cases hn;let#[a,us,rfl,ha,hs]:=hx.tup;exact .inr #[us,ha.sq,hs.length.symm]
 |lst xs=>
  cases hn;let#[a,us,rfl,_,ha,hs]:=hx;exact .inl #[us,.inl ha,hs.length.symm]
 |_=>cases hn
noncomputable def allB:n_ D->o_^n_ Bool
 |[]=>P3 []
 |.bl b::r=>(allB r).map (b::·)
 |_::_=>k_
theorem Qz{M:Ch->Prop}{H:Hp}:∀{ds:n_ D}{vs:n_ V}{bs:n_ Bool},allB ds=P3 bs->Ats K M H ds vs->vs=bs.map V.bl
 |[],vs,bs,e,h=>by cases e;exact h
 |.bl b::r,vs,bs,e,h=>by
  let#[v,r',e1,h1,h2]:=h;let#[bs',e2,rfl]:=cU.mp e;rw[e1,Qz e2 h2,h1];rfl
 |.non::r,vs,bs,e,h=>by cases e
 |.int _::r,vs,bs,e,h=>by cases e
 |.str _::r,vs,bs,e,h=>by cases e
 |.tup _::r,vs,bs,e,h=>by cases e
 |.lst _::r,vs,bs,e,h=>by cases e
 |.dic _ _::r,vs,bs,e,h=>by cases e
 |.fdi _ _::r,vs,bs,e,h=>by cases e
 |.dit _ _::r,vs,bs,e,h=>by cases e
noncomputable def Z3(ds:n_ D)(P:D->Prop):Prop:=∃xs bs,ds=[.lst xs]/\allB xs=P3 bs/\P^.bl^bs.all id
def aA:B_ K .sh (λxs H Q=>∃(p:Ch) (bs:n_ Bool),xs=[.ref p]/\SqL K H p^bs.map V.bl/\Q (.bl^bs.all id) H) Z3:=by
 intro U M H ds vs P Q dom vM hp w q;let#[xs,bs,rfl,e,w]:=w;let#[v,rfl,hx]:=Dl hp;let#[a,us,rfl,_,ha,hs]:=hx
 have:=Qz e hs
 subst this;exact#[a,bs,rfl,.inl ha,q _ H (.bl _) .refl rfl w]
noncomputable def Pr:n_ D->o_^n_ Str
 |[]=>P3 []
 |.str b::r=>(Pr r).map (b::·)
 |_::_=>k_
theorem Qx{M:Ch->Prop}{H:Hp}:∀{ds:n_ D}{vs:n_ V}{bs:n_ Str},Pr ds=P3 bs->Ats K M H ds vs->vs=bs.map V.str
 |[],vs,bs,e,h=>by cases e;exact h
 |.str b::r,vs,bs,e,h=>by
  let#[v,r',e1,h1,h2]:=h;let#[bs',e2,rfl]:=cU.mp e;rw[e1,Qx e2 h2,h1.1];rfl
 |.non::r,vs,bs,e,h=>by cases e
 |.int _::r,vs,bs,e,h=>by cases e
 |.bl _::r,vs,bs,e,h=>by cases e
 |.tup _::r,vs,bs,e,h=>by cases e
 |.lst _::r,vs,bs,e,h=>by cases e
 |.dic _ _::r,vs,bs,e,h=>by cases e
 |.fdi _ _::r,vs,bs,e,h=>by cases e
 |.dit _ _::r,vs,bs,e,h=>by cases e
end
noncomputable def ZD:D->String
 |.non=>"NoneType"
 |.bl _=>"bool"
 |.int _=>"int"
 |.str _=>"str"
 |.tup _=>"tuple"
 |.lst _=>"list"
 |.dic _ _=>"dict"
 |.fdi _ _=>"dict"
 |.dit _ _=>"dict"
 |.ob _=>""
noncomputable def Zs:D->(String->Prop)->Prop
 |.ob _,_=>False
 |d,k=>k^ZD d
def MO{d:D}{k:String->Prop}(h:Zs d k):(∀a,d≠.ob a)/\k^ZD d:=by
 cases d <;>first|exact h.elim|exact#[(λ_ z=>by cases z),h]
noncomputable def Zt(t T:String):Bool:=t==T||(t=="bool"&&T=="int")
noncomputable def Xg(T:String)(wa:DW):DW:=λn ρ P=>wa n ρ λd n1=>Zs d λt=>P (.bl^Zt t T) n1
structure Y3 (K:Frag) (T:String):Prop where
 ans:∀t∈["NoneType","bool","int","str","tuple","list","dict"],PySem.W.kitOne K (.type t)^.type T=P3^Zt t T
def VW{K:Frag}{M U:Ch->Prop}{H:Hp}{d:D}{x:V}(h:AtT K U M H d x)(no:∀a,d≠.ob a):Fa K H x^.type^ZD d:=by
 cases d with
 |non=>cases(h);exact .non
 |bl b=>cases h.bl;exact .bl b
 |int i=>cases h.int;exact .int i
 |str z=>cases h.str.1;exact .str z
 |tup ds=>
  let#[a,vs,rfl,ha,hs]:=h.tup;exact .tup ha
 |lst ds=>
  let#[a,vs,rfl,_,ha,hs]:=h
  rcases ha with ha|⟨o,ha⟩
  .exact .lst ha
  .exact .frz ha
 |dic ks ds=>
  let#[a,vs,rfl,_,ha,_]:=h;exact .dK ha
 |fdi ks ds=>
  let#[a,vs,rfl,#[o,_,ha],_]:=h;exact .dF ha
 |dit ks ds=>
  let#[a,vs,rfl,_,ha,_]:=h;exact .dT ha
 |ob a=>exact absurd rfl (no a)
def VX(d:D)(no:∀a,d≠.ob a):ZD d∈["NoneType","bool","int","str","tuple","list","dict"]:=by cases d <;>first|exact absurd rfl (no _)|simp[ZD]
def U0{X:Cx}{a:cJ}{κ:Kd}{wa:DW}{T:String}{Tn:Str}{p p2 pos:Pos}(kt:Y3 X.K T)(ha:DE X a κ wa)(hg:Gl X "isinstance")(hm:X.mg "isinstance"=k_)(hgT:Gl X Tn)(hmT:X.mg Tn=k_)(hvT:bootBuiltins Tn=P3^.type T)
  (hnT:autoParam (Tn ≠ "__name__") zau1._auto_1) (hdT:autoParam ((Tn==("__debug__":Str))=m_) zau1._auto_1)
  (he:autoParam (starEach [a,.Name Tn p2] X.env=(m_,eval a X.env)::starEach [.Name Tn p2] X.env) zau3._auto_1) (he2:autoParam (starEach [.Name Tn p2] X.env=[(m_,eval (.Name Tn p2) X.env)]) zau3._auto_1)
  (hpl:autoParam ((backTo pos^starEach [.Name Tn p2] X.env).any (·.1)=m_) zau3._auto_1):DE X (.Call (.Name "isinstance" p) [a,.Name Tn p2] [] pos) .sh^Xg T wa:=by
 let#[t,h1,h2]:=ha;have pT:PE X (.Name Tn p2)^tC^.ty T:=Vw hgT hmT hvT rfl hnT hdT;exact#[_,D9 OF hg hm (by decide +kernel) (Bp h1 (Bp pT Ck he2) he) (by cbv) (by cbv) he hpl,λC M H n ρ Z P Q R w q=>h2 C M H n ρ Z _ _ R w λv H1 d n1 e1 f1 r1 p=>#[v,T,_,_,rfl,VW (r1.tpOf R.dom R.vM) (MO p).1,kt.ans _^VX d (MO p).1,q _ H1 (.bl _) n1 e1 f1 rfl (MO p).2]]
section
variable {K:Frag}{X:Cx}
noncomputable def XI(d e:D)(P:D->Prop):Prop:=match d,e with
 |.int i,.int j=>P^.int (i+j)
 |.str i,.str j=>i.length+j.length<=sizeLine/\P^.str (i++j)
 |.tup i,.tup j=>i≠[]/\i.length+j.length<=sizeLine/\P^.tup (i++j)
 |.lst i,.lst j=>i.length+j.length<=sizeLine/\P^.lst (i++j)
 |_,_=>False
noncomputable def Zi:R2:=λx y H Q=>∃l b xs zs,x=.ref l/\y=.ref b/\Rd H l^.lst xs/\Rd H b^.lst zs/\xs.length+zs.length<=sizeLine/\∀p,H p=k_->Q (.ref p)^Aq H p^.lst (xs++zs)
noncomputable def Zh:R2:=λx y H Q=>∃i j,x=.str i/\y=.str j/\i.length+j.length<=sizeLine/\Q (.str (i++j)) H
noncomputable def Wx(g:Str->Str->Bool):R2:=λx y H Q=>∃i j,x=.str i/\y=.str j/\Q (.bl^g i j) H
noncomputable def Tq(K:Frag):R2:=λx y H Q=>(Hf λi j=>.int (i+j)) x y H Q\/Zh x y H Q\/Tp K x y H Q\/Zi x y H Q
def op_addU:OpR X (binaryOp .Add)^Tq X.K:=op_add.or^(PL).or^op_catT.or^Vz
def Mi:El X.K .sh (Tq X.K) XI:=λU M H d e x y P Q dom vM hx hy w q=>by
 unfold XI at w
 split at w
 .exact .inl^VH U M H _ _ x y P Q dom vM hx hy w q
 .exact .inr^.inl^SU U M H _ _ x y P Q dom vM hx hy w q
 .exact .inr^.inr^.inl^SS U M H _ _ x y P Q dom vM hx hy w q
 .exact .inr^.inr^.inr^SV U M H _ _ x y P Q dom vM hx hy w λv H' z g r p=>q v H' z g (r.shOf dom^by grind) p
 grind
noncomputable def Z2(d e:D)(P:D->Prop):Prop:=match d,e with
 |.int i,.int j=>P^.bl (decide (i<j))
 |.str i,.str j=>P^.bl (decide (i.cps.toList<j.cps.toList))
 |_,_=>False
noncomputable def X2:R2:=λx y H Q=>(Hf λi j=>.bl (decide (i<j))) x y H Q\/Wx (λi j=>decide (i.cps.toList<j.cps.toList)) x y H Q
def op_ltU:OpR X (compareOp .Lt) X2:=op_lt.or Rh
def XU:El X.K .sh X2 Z2:=λU M H d e x y P Q dom vM hx hy w q=>by
 unfold Z2 at w
 split at w
 .exact .inl^Px U M H _ _ x y P Q dom vM hx hy w q
 .exact .inr^VD U M H _ _ x y P Q dom vM hx hy w q
 grind
noncomputable def Yd(d e:D)(P:D->Prop):Prop:=match d,e with
 |.int i,.int j=>P^.bl (decide (i<=j))
 |.str i,.str j=>P^.bl (!(decide (j.cps.toList<i.cps.toList)))
 |_,_=>False
noncomputable def Zb:R2:=λx y H Q=>(Hf λi j=>.bl (decide (i<=j))) x y H Q\/Wx (λi j=>!(decide (j.cps.toList<i.cps.toList))) x y H Q
def YI:OpR X (compareOp .LtE) Zb:=op_le.or Ri
def Z9:El X.K .sh Zb Yd:=λU M H d e x y P Q dom vM hx hy w q=>by
 unfold Yd at w
 split at w
 .exact .inl^Px U M H _ _ x y P Q dom vM hx hy w q
 .exact .inr^VD U M H _ _ x y P Q dom vM hx hy w q
 grind
noncomputable def Ze:R2:=Hf λi j=>.bl (decide (j<i))
def YJ:OpR X (compareOp .Gt) Ze:=W_
def Z_:El X.K .sh Ze (f2 λi j=>.bl (decide (j<i))):=Px
noncomputable def ZT:V->o_ Int->o_ Int->Hp->VK->Prop:=λx lo hi H Q=>∃z,x=.str z/\z.length<=sizeLine/\Q (.str^Txt.slice z lo hi) H
def sl_U:SlR X ZT:=Xv
noncomputable def Got(P:cH)(w:cN)(K:Frag)(mg:Str->o_ Db)(base:cA)(x:Str)(k:Nat)(ps:n_ Str)(κ:Kd)(W:W2):Prop:=
 ∃f fd,FnOk P w K mg base Fb k f fd ps^RE K κ W ps.length/\mg x=P3^.ref f/\keepIn K^.ref f=l_/\Binds K fd ps []/\∀ss n P,W ss n P->ss.length=ps.length
def U5{e:cJ}{es:n_ cJ}{k:Nat}{ps:n_ Str}{κ:Kd}{W:W2}{x:Str}{p pos:Pos}{was:Sd}(G:Got X.prog X.w X.K X.mg X.base x k ps κ W)
  (hr:Room k X.A) (hg:Gl X x) (ha:Wi X (e::es) was)
  (hdb:autoParam ((x==("__debug__":Str))=m_) zau1._auto_1) (he:autoParam (starEach (e::es) X.env=(m_,eval e X.env)::starEach es X.env) zau3._auto_1) (hpl:autoParam ((backTo pos^starEach es X.env).any (·.1)=m_) zau3._auto_1):
  DE X (.Call (.Name x p) (e::es) [] pos) κ (Aa W was):=by
 let#[f,fd,G,hm,hk,hb,hW]:=G;exact WU G hW hr hg hm hk hb ha hdb he hpl
def V7:Y3 K "str":=#[λt ht=>by
 simp at ht
 rcases ht with rfl|rfl|rfl|rfl|rfl|rfl|rfl <;>kernel_rfl]
def kit_tuple:Y3 K "tuple":=#[λt ht=>by
 simp at ht
 rcases ht with rfl|rfl|rfl|rfl|rfl|rfl|rfl <;>kernel_rfl]
end
theorem OO{α:Type}(p:α->Bool):∀l:n_ α,allB (l.map λc=>.bl^p c)=P3^l.map p
 |[]=>rfl
 |a::l=>by
  rw[cL];unfold allB;rw[OO p l];rfl
noncomputable def NP(K:Frag):Sp:=λvs H Q _=>∃a ns,vs=[V.ref a]/\(hV (α:=Int) ns<=63/\SqL K H a^ns.map V.int)/\∀H',Q (.bl l_) H'
noncomputable def Lj(K:Frag):Sp:=λvs H Q _=>∃a ns,vs=[V.ref a]/\(hV (α:=Int) ns<=63/\SqL K H a^ns.map V.int) /\
 ∀(c f:Ch) (H':Hp),c≠f->H' c=P3^.lst^ns.map V.int->H' f=P3^.lst [.ref c,.int 0,.int 0]->Q (.ref f) H'
def Z5{ns:n_ Int}(h:ns.length<=63):OB (ns.map V.int) k_^P3 63=ns.map V.int:=by
 have e:HT.sIx (ns.map V.int).length (ns.map V.int).length^P3 63=ns.length:=by
  rw[show(63:Int)=(63:Nat)from rfl,HT.sIx_nat,FM,Nat.min_eq_right h]
 unfold OB;rw[HT.sIx_none]
 grind
theorem K9{b:BW}{body:Ac}{D2:E2}(I:Nat->Sg->n_ Slot->Prop)(hend:∀n ρ,I 0 n ρ->D2.nx n ρ)
  (hstep:∀(k:Nat) (d:D) (n:Sg) (ρ:n_ Slot) (nx:Sg->n_ Slot->Prop),I (k+1) n ρ->(∀n' zY,I k n' zY->nx n' zY)->b d ρ λzP=>body {D2 with nx:=nx,ct:=nx,bk:=D2.nx} n zP):
  ∀(ds:n_ D) (n:Sg) (ρ:n_ Slot),I ds.length n ρ->Bh b body D2 ds n ρ
 |[],n,ρ,h=>hend n ρ h
 |d::ds,n,ρ,h=>hstep _ d n ρ _ h λn' zY h'=>K9 I hend hstep ds n' _ h'
def Zz{P:cH}{w:cN}{K:Frag}{mg:Str->o_ Db}{base:cA}{st s1:cS}{rest:n_ cS}{f:Ch}{fd:cv}{Nr:n_ Str}{k n0:Nat}{wb:Ac}(F:Fun K "law" "law" st f fd)
  (S:AZ ("_law_script"::"_law_feed_here"::Nr) ["_law_script"]^AJ st) (hbd:BM st=s1::rest) (hn0:n0<=2 ^ 60)
  (h1:∀(cdv:Db) (A:cW) (outer:n_ Env) (s:Go) (H:Hp) (E:XK),Room k^A.deeper^envOfC "law" (AJ st) s.heap.objs.size f cdv->
   PS (Jo Fb P w K mg base ("_law_script"::"_law_feed_here"::Nr) "law" (AJ st) f cdv A outer s H E).nox s1 (NL (QE (Lj K) [] E0^QD (Bu 0) RC)^HR 1))
  (h2:∀(cdv:Db) (A:cW) (outer:n_ Env) (s:Go) (H:Hp) (E:XK),Room k^A.deeper^envOfC "law" (AJ st) s.heap.objs.size f cdv->
   Se (Jo Fb P w K mg base ("_law_script"::"_law_feed_here"::Nr) "law" (AJ st) f cdv A outer s H E).nox .sh rest wb)
  (hW:wb {nx:=λ_ _=>False,rt:=λd _=>d=.bl l_} #[n0,λ_=>k_] (.no::.fd::T0 Nr.length .no)):FnOk P w K mg base Fb (k+1) f fd ["_law_script"]^NP K:=by
 refine F.ok S (λvs H Q E h=>?_) λcdv A outer s H vs Q E hr h=>?_
 .let#[a,ns,rfl,_]:=h
  rfl
 .let#[a,ns,rfl,#[hl,hS],q]:=h
  let#[t,t1,t2]:=h2 cdv A outer s H E hr;refine#[RB (NL (QE (Lj K) [] E0^QD (Bu 0) RC)^HR 1) t,by rw[hbd];exact BI (h1 cdv A outer s H E hr) t1,?_];refine#[_,rfl,a,ns,rfl,#[hl,hS],λc g H' hcg hc hg=>?_]
  have at_:∀(i:Nat) (sl:Slot),(Slot.no::Slot.fd::T0 Nr.length Slot.no)[i]?=P3 sl->Slot.no=sl\/(Slot.fd=sl/\i=1):=by
   intro i sl hs
   match i,hs with
   |0,hs=>exact .inl^bz hs
   |1,hs=>exact .inr #[bz hs,rfl]
   |i+2,hs=>
    rw[gL,gL,gJ]at hs
    split at hs
    .exact .inl^bz hs
    .cases hs
  have R:Rel K #[λb=>b=g,P3 (g,c),λb=>b=g,λb=>b=g,H',[],[]] (λb=>b=g) H' #[n0,λ_=>k_] (.no::.fd::T0 Nr.length .no)^(start ("_law_script"::"_law_feed_here"::Nr) [V.ref a]).set 1^P3^.ref g:=by
   refine#[by simp[L2.start],λ_ z=>z,λb z=>#[_,(congrArg H' z).trans hg],Ext.refl _ _,λb z=>by rw[←bz z],λ_ z=>z,λ_ z=>z,#[λb z=>?_,λa c z=>by cases z],λi sl hs=>?_,λp hp=>absurd hp^by simp,λi d b hs _=>?_,λi sl b hs o _=>?_,λi j sl t b hs o _ _ _ _=>?_,λp hp=>absurd hp^by simp]
   .have e:(g,c)=b:=bz z
    subst e;exact#[0,0,ns,hg,hcg,#[hcg,hc],hl,by cbv,by show(0:Int)+(n0:Int)<=2 ^ 60;lk]
   .rcases at_ i sl hs with e|⟨e,rfl⟩
    .rw[←e];trivial
    .rw[←e]
     exact#[(g,c),by simp[L2.start],rfl]
   .rcases at_ i _ hs with e|⟨e,_⟩ <;>cases e
   .rcases at_ i sl hs with e|⟨e,_⟩ <;>(rw[←e]at o;cases o)
   .rcases at_ i sl hs with e|⟨e,_⟩ <;>(rw[←e]at o;cases o)
  refine t2 _ _ H' #[n0,λ_=>k_] _ _ {nx:=λ_ _=>False,rt:=λd _=>d=.bl l_} _ R #[λ_ _ _ _ _ _ z=>z.elim,λv H2 d n' _ _ r p=>?_,λ_ _ _ _ _ _ z=>z.elim,λ_ _ _ _ _ _ z=>z.elim] hW;have e:d=.bl l_:=p;subst e;have e2:v=.bl l_:=r;subst e2;exact q H2
end Dp
namespace L2
section
variable {X:Cx}
theorem B0:∀{us:n_ Db}{ys:n_ Str},StrsAre us ys->Vals (ys.map V.str) us
 |_,_,.nil=>.nil
 |_,_,.cons x t r=>.cons #[t,rfl]^B0 r
noncomputable def Th(K:Frag):n_ V->Hp->VK->Prop:=λxs H Q=>∃(p:Ch) (ss:n_ Str),xs=[.ref p]/\SqL K H p^ss.map V.str/\ss.length<64/\∀(ss':n_ Str) (l:Ch),ss'.Perm ss->sortedS ss'=l_->H l=k_->Q (.ref l)^Aq H l^.lst^ss'.map V.str
def Jv:CallR X (.builtin "sorted")^Th X.K:=by
 intro zG s Z H xs us Q I r h;let#[p,ss,rfl,hq,h64,q]:=h;let#[u,rfl,rx]:=vals1 r;cases rx;let#[its,r',pl,hz]:=I.list hq;have hlen:=r'.length;rw[FM]at hlen;refine sorted_strs pl.isList (Ig r') (by lk) λout ss' a1 a2 a3=>?_;let#[e,he]:=sortedAll_at _ _ _;have hl':=a2.length_eq;have hn:=I.hok.fresh^c_ _;refine#[.ref _,_,I.laid (λb o z=>sortedAll_old z) (c_ _) (show ObjOk _ _ _ _ _^.lst _ from#[?_,_,e,B0 a1,?_]),rfl,q _ _ a2 a3 hn]
 .grind
 .exact he
noncomputable def W1:R2:=λx y H Q=>∃z k,x=.str z/\y=.int k/\MulOk z k/\Q (.str^Txt.mul z k) H
def Vx:OpR X (binaryOp .Mult) W1:=by
 intro zG s Z H x y v u Q I rx ry h;let#[z,k,rfl,rfl,hm,q]:=h;let#[t,rfl]:=rx;let#[t',rfl]:=ry;exact SB.mul hm λt' k=>#[.str _,H,I.tok _,#[_,rfl],q]
end
end L2
namespace Dp
open L2
section
variable {K:Frag}
noncomputable def Br(ds:n_ D)(P:D->Prop):Prop:=match ds with
 |[.lst xs]=>P^.tup xs
 |[.tup xs]=>P^.tup xs
 |_=>False
def CQ:B_ K .sh (λxs H Q=>∃p ys,xs=[.ref p]/\((SqL K H p ys/\∀l,H l=k_->Q (.ref l)^Aq H l^.tup ys)\/(SqT K H p ys/\Q (.ref p) H))) Br:=by
 intro U M H ds vs P Q dom vM hp w q;unfold Br at w
 split at w
 .let#[v,rfl,hx]:=Dl hp
  let#[a,us,rfl,_,ha,hs]:=hx;exact#[a,us,rfl,.inl #[.inl ha,λl hl=>q _ _ (.tup _) (Ap hl) (DH dom hl hs) w]]
 .let#[v,rfl,hx]:=Dl hp
  let#[a,us,rfl,ha,hs]:=hx.tup;exact#[a,us,rfl,.inr #[ha.sq,q _ H (.tup _) .refl #[a,us,rfl,ha,hs] w]]
 grind
theorem Ats.strs{M:Ch->Prop}{H:Hp}:∀{ss:n_ Str},(∀x∈ss,x.length<=sizeLine)->Ats K M H (ss.map D.str)^ss.map V.str
 |[],_=>rfl
 |x::r,h=>#[_,_,rfl,#[rfl,h x Re],Ats.strs λy hy=>h y^TW _ hy]
theorem Ats.strs_le{M:Ch->Prop}{H:Hp}:∀{ss:n_ Str}{vs:n_ V},Ats K M H (ss.map D.str) vs->∀x∈ss,x.length<=sizeLine
 |[],_,_=>λx hx=>by cases hx
 |y::r,vs,h=>λx hx=>by
  let#[v,t,e,h1,h2]:=h
  rcases Uf.mp hx with rfl|hx
  .exact h1.2
  .exact Ats.strs_le h2 x hx
noncomputable def Pg(ds:n_ D)(P:D->Prop):Prop:=∃(xs:n_ D) (ss:n_ Str),ds=[.lst xs]/\Pr xs=P3 ss/\ss.length<64/\∀ss':n_ Str,ss'.Perm ss->sortedS ss'=l_->P^.lst^ss'.map .str
theorem Qy:∀{xs:n_ D}{ss:n_ Str},Pr xs=P3 ss->xs=ss.map .str
 |[],ss,h=>by cases h;rfl
 |.str b::r,ss,h=>by
  let#[t,e,rfl]:=cU.mp h;rw[cL,←Qy e]
 |.non::r,ss,h=>by cases h
 |.int _::r,ss,h=>by cases h
 |.bl _::r,ss,h=>by cases h
 |.tup _::r,ss,h=>by cases h
 |.lst _::r,ss,h=>by cases h
 |.dic _ _::r,ss,h=>by cases h
 |.fdi _ _::r,ss,h=>by cases h
 |.dit _ _::r,ss,h=>by cases h
 |.ob _::r,ss,h=>by cases h
def Q2:B_ K .fr (Th K) Pg:=by
 intro U M H ds vs P Q dom vM hp w q;let#[xs,ss,rfl,e,h64,w]:=w;let#[v,rfl,hx]:=Dl hp;let#[a,us,rfl,_,ha,hs]:=hx
 have:=Qx e hs
 subst this;have e2:=Qy e;subst e2;exact#[a,ss,rfl,.inl ha,h64,λss' l h1 h2 hl=>q _ _ _ (Ap hl) (CP hl^Ats.strs λx hx=>hs.strs_le x^h1.mem_iff.mp hx)^w _ h1 h2]
noncomputable def DJ(d e:D)(P:D->Prop):Prop:=match d,e with
 |.int i,.int j=>CMul i j/\P^.int (i*j)
 |.str z,.int k=>MulOk z k/\(Txt.mul z k).length<=sizeLine/\P^.str^Txt.mul z k
 |_,_=>False
noncomputable def W4:R2:=λx y H Q=>(rI CMul λi j=>.int (i*j)) x y H Q\/W1 x y H Q
def Fy{X:Cx}:OpR X (binaryOp .Mult) W4:=op_mul.or Vx
def J3:El K .sh W4 DJ:=λU M H d e x y P Q dom vM hx hy w q=>by
 unfold DJ at w
 split at w
 .exact .inl^G1 U M H _ _ x y P Q dom vM hx hy w q
 .rename_i z k
  exact .inr #[z,k,hx.1,hy,w.1,q _ H (.str _) .refl #[rfl,w.2.1] w.2.2]
 grind
end
section
variable {X:Cx}{e:Expr}{es:n_ Expr}{pos:Pos}
noncomputable def aX(X:Cx)(ts:n_ cJ)(b:n_ D->n_ Slot->(n_ Slot->Prop)->Prop):Prop:=∃g,aH X ts g/\∀(C:Fm) (M:Ch->Prop) (H:Hp) (n:Sg) (ρ:n_ Slot) (Z:L2.St) (ds:n_ D) (vs:n_ V) (P:n_ Slot->Prop) (Q:L2.St->Hp->Prop),Rel X.K C M H n ρ Z->Ats X.K M H ds vs->b ds ρ P->
 (∀zY zZ,Rel X.K C M H n zY zZ->P zY->Q zZ H)->g vs Z H Q
noncomputable def E7:n_ D->n_ Slot->(n_ Slot->Prop)->Prop:=λds ρ P=>ds=[]/\P ρ
noncomputable def BP(b:BW)(bs:n_ D->n_ Slot->(n_ Slot->Prop)->Prop):n_ D->n_ Slot->(n_ Slot->Prop)->Prop:=λds ρ P=>match ds with
 |d::r=>b d ρ λzP=>bs r zP P
 |[]=>False
def GB:aX X [] E7:=#[_,QT,λC M H n ρ Z ds vs P Q R h w q=>by
 let#[rfl,w]:=w;exact#[h,q ρ Z R w]]
def Bo{b:BW}{bs:n_ D->n_ Slot->(n_ Slot->Prop)->Prop}(h1:DG X e b)(h2:aX X es bs)(hs:autoParam ((assignEach (e::es) X.env).map (·.2)=assign e X.env::(assignEach es X.env).map (·.2)) zau3._auto_1):aX X (e::es)^BP b bs:=by
 let#[g,a1,a2]:=h1;let#[g',b1,b2]:=h2;refine#[_,Fv a1 b1 hs,λC M H n ρ Z ds vs P Q R h w q=>?_];cases ds with
 |nil=>exact w.elim
 |cons d r=>
  let#[v,vr,e,hv,hr]:=h;exact#[v,vr,e,a2 C M H n ρ Z d v _ _ R hv w λzY zZ R' w'=>b2 C M H n _ _ r vr _ _ R' hr w' q]
noncomputable def Ke(k:Nat)(bs:n_ D->n_ Slot->(n_ Slot->Prop)->Prop):BW:=λd ρ P=>match d with
 |.tup ds=>ds.length=k/\bs ds ρ P
 |_=>False
def Jm{bs:n_ D->n_ Slot->(n_ Slot->Prop)->Prop}{k:Nat}{j:Nat}(hc:X.calm=l_)(h:aX X es bs)(hn:autoParam ((assignEach es X.env).length=k) zau3._auto_1)(hst:autoParam ((assignEach es X.env).findIdx? (·.1)=k_) zau3._auto_1):DG X (.Tuple es j pos)^Ke k bs:=by
 let#[g,a1,a2]:=h;refine#[_,T3 hc a1 hn hst,λC M H n ρ Z d v P Q R h w q=>?_];cases d with
 |tup ds=>
  let#[a,vs,rfl,hq,hs]:=h;exact#[a,vs,rfl,hq.sq,by rw[hs.length];exact w.1,a2 C M H n ρ Z ds vs P Q R hs w.2 q]
 |_=>exact w.elim
end
end Dp
namespace L2
mutual
noncomputable def RV(H:Hp):gB->V->Prop
 |.none,v=>v=.non
 |.bool b,v=>v=.bl b
 |.int i,v=>v=.int i
 |.str x,v=>v=.str x
 |.tuple xs,v=>∃a vs,v=.ref a/\H a=P3^.tup vs/\RVs H xs vs
 |.list xs,v=>∃a vs,v=.ref a/\Rd H a^.lst vs/\RVs H xs vs
 |.dict _,_=>False
noncomputable def RVs(H:Hp):n_ gB->n_ V->Prop
 |[],vs=>vs=[]
 |x::xs,vs=>∃v r,vs=v::r/\RV H x v/\RVs H xs r
end
section
variable {X:Cx}{zG:n_ (Addr×Obj)}{Z:L2.St}{H:Hp}{s:Shared}
mutual
theorem RV.reads(I:Inv X zG Z H s):∀{d:gB}{v:V}{u:Db},RV H d v->RelV v u->∃as,Reads s.heap u d as
 |.none,v,u,h,r=>by
  cases(show v=.non from h);cases(show u=cQ from r);exact#[_,.none]
 |.bool b,v,u,h,r=>by
  cases(show v=.bl b from h);cases(show u=fh b from r);exact#[_,.bool b]
 |.int i,v,u,h,r=>by
  cases(show v=.int i from h);let#[t,rfl]:=r;exact#[_,.int i t]
 |.str x,v,u,h,r=>by
  cases(show v=.str x from h);let#[t,rfl]:=r;exact#[_,.str x t]
 |.tuple xs,v,u,h,r=>by
  let#[a,vs,rfl,hq,hs]:=h;cases r;let#[its,rv,#[o,e,c,n,d],_]:=I.tuple (X:=X) (xs:=vs)^.inl^.inl hq;let#[as,ra]:=RVs.reads I hs rv;exact#[_,.tuple e c d ra]
 |.list xs,v,u,h,r=>by
  let#[a,vs,rfl,hq,hs]:=h;cases r;let#[its,rv,pl,_]:=I.list (X:=X) (xs:=vs)^.inl hq;let#[o,e,c,n,d]:=pl.isList;let#[as,ra]:=RVs.reads I hs rv;exact#[_,.list e c d ra]
 |.dict _,v,u,h,r=>h.elim
theorem RVs.reads(I:Inv X zG Z H s):∀{ds:n_ gB}{vs:n_ V}{us:n_ Db},RVs H ds vs->Vals vs us->∃as,ReadsAll s.heap us ds as
 |[],vs,us,h,r=>by
  cases(show vs=[]from h);cases r;exact#[_,.nil]
 | d::ds,vs,us,h,r=>by
  let#[v,w,rfl,h1,h2]:=h;cases r with
  |cons r1 r2=>
   let#[as,a1]:=RV.reads I h1 r1;let#[bs,a2]:=RVs.reads I h2 r2;exact#[_,.cons a1 a2]
end
end
theorem RV.noDict{H:Hp}:∀(d:gB) (v:V),RV H d v->d.hasDict=m_
 | d,v,h=>by
  have go:∀(n:Nat),(∀(d:gB) (v:V),sizeOf d<=n->RV H d v->d.hasDict=m_)/\∀(ds:n_ gB) (vs:n_ V),sizeOf ds<=n->RVs H ds vs->iJ ds=m_:=by
   intro n
   induction n with
   |zero=>
    refine#[λd v h _=>?_,λds vs h _=>?_]
    .cases d <;>simp at h
    .cases ds <;>simp at h
   | succ n ih=>
    refine#[λd v h hr=>?_,λds vs h hr=>?_]
    .cases d with
     |tuple xs=>
      let#[a,vs,_,_,hs]:=hr;simp only[fb]
      grind
     |list xs=>
      let#[a,vs,_,_,hs]:=hr;simp only[fb]
      grind
     |dict kvs=>exact(show False from hr).elim
     |none=>simp only[fb]
     |bool b=>simp only[fb]
     |int i=>simp only[fb]
     |str x=>simp only[fb]
    .cases ds with
     |nil=>simp only[iJ]
     |cons x xs=>
      let#[v,w,_,h1,h2]:=hr;simp only[iJ,ih.1 x v (by simp at h;lk) h1,ih.2 xs w (by simp at h;lk) h2,Bool.or_false]
  exact(go^sizeOf d).1 d v (Rs _) h
section
variable {X:Cx}
noncomputable def W0:n_ V->Hp->VK->Prop:=λxs H Q=>∃x d,xs=[x]/\RV H d x/\d.showable=l_/\d.depth<=100/\d.shown.length<=sizeLine/\Q (.str d.shown) H
def BL{k:Nat}(hr:Room k X.A):CallR X (.builtin "repr") W0:=by
 intro zG s Z H xs us Q I r h;let#[x,d,rfl,hx,hs,hd,hz,q]:=h;let#[u,rfl,rx]:=vals1 r;have hu:=hr.un;cases d with
 |none=>
  cases(show x=.non from hx);cases(show u=cQ from rx);exact PySem.P.repr_of_none #[.str _,H,I.tok _,#[_,rfl],q]
 |bool b=>
  cases(show x=.bl b from hx);cases(show u=fh b from rx);refine PySem.P.repr_of_bool #[.str _,H,I.tok _,#[_,rfl],?_]
  assumption
 |int i=>
  cases(show x=.int i from hx);let#[t,rfl]:=rx;refine PySem.P.repr_of_int (by simpa [PyData.showable]using hs) #[.str _,H,I.tok _,#[_,rfl],q]
 |str z=>
  cases(show x=.str z from hx);let#[t,rfl]:=rx;exact PySem.P.repr_of_str #[.str _,H,I.tok _,#[_,rfl],q] hz
 |tuple ds=>
  let#[as,ra]:=RV.reads I hx rx;let#[a,vs,rfl,_]:=id hx;cases rx;refine repr_of_reads' ra hs (PyData.noDict_hsm^RV.noDict _ _ hx) hr.gd (by lk) (λ_ _ e=>e) (λh' u tk hk=>#[.str _,H,I.kept (t':=tk) hk,#[_,rfl],q]) hz
 |list ds=>
  let#[as,ra]:=RV.reads I hx rx;let#[a,vs,rfl,_]:=id hx;cases rx;refine repr_of_reads' ra hs (PyData.noDict_hsm^RV.noDict _ _ hx) hr.gd (by lk) (λ_ _ e=>e) (λh' u tk hk=>#[.str _,H,I.kept (t':=tk) hk,#[_,rfl],q]) hz
 |dict _=>exact(show False from hx).elim
noncomputable def Zf:R2:=λx y H Q=>∃d e,RV H d x/\RV H e y/\d.canLay0=l_/\e.canLay0=l_/\d.depth<=100/\Q (.bl^fo d e) H
def UE{k:Nat}(hr:Room k X.A):OpR X (compareOp .Eq) Zf:=by
 intro zG s Z H x y v u Q I rx ry h;let#[d,e,hx,hy,h1,h2,hd,q]:=h;let#[as,ra]:=RV.reads I hx rx;let#[bs,rb]:=RV.reads I hy ry;have hu:=hr.un;have hm:min _ e.depth<=d.depth:=Nat.min_le_left _ _;exact PySem.SeqAt.compareEq_reads ra rb h1 h2 (by lk) #[.bl _,H,I,rfl,q]
noncomputable def X4(neg:Bool):R2:=λx y H Q=>∃d es,RV H d x/\(RV H (.list es) y\/RV H (.tuple es) y)/\d.canLay0=l_/\fA es=l_/\d.depth<=100/\Q (.bl (if neg then !(es.any λy=>fo y d)else es.any λy=>fo y d)) H
def UD{k:Nat}(hr:Room k X.A):OpR X (compareOp .In)^X4 m_:=by
 intro zG s Z H x y v u Q I rx ry h;let#[d,es,hx,hy,h1,h2,hd,q]:=h;let#[as,ra]:=RV.reads I hx rx;have hu:=hr.un;have hm:min (dq es) _<=d.depth:=iT _ _
 rcases hy with hy|hy
 .let#[bs,rb]:=RV.reads I hy ry
  exact PySem.SeqAt.in_list_reads rb ra h2 h1 (by lk) #[.bl _,H,I,rfl,q]
 .let#[bs,rb]:=RV.reads I hy ry
  exact PySem.SeqAt.in_tuple_reads rb ra h2 h1 (by lk) #[.bl _,H,I,rfl,q]
def CF{k:Nat}(hr:Room k X.A):OpR X (compareOp .NotIn)^X4 l_:=by
 intro zG s Z H x y v u Q I rx ry h;let#[d,es,hx,hy,h1,h2,hd,q]:=h;let#[as,ra]:=RV.reads I hx rx;have hu:=hr.un;have hm:min (dq es) _<=d.depth:=iT _ _
 rcases hy with hy|hy
 .let#[bs,rb]:=RV.reads I hy ry
  exact PySem.SeqAt.notIn_list_reads rb ra h2 h1 (by lk) #[.bl _,H,I,rfl,q]
 .let#[bs,rb]:=RV.reads I hy ry
  exact PySem.SeqAt.notIn_tuple_reads rb ra h2 h1 (by lk) #[.bl _,H,I,rfl,q]
end
end L2
namespace Dp
open L2
mutual
noncomputable def toPy:D->gB
 |.non=>.none
 |.bl b=>.bool b
 |.int i=>.int i
 |.str x=>.str x
 |.tup ds=>.tuple^Bi ds
 |.lst ds=>.list^Bi ds
 |.dic _ _=>.dict []
 |.fdi _ _=>.dict []
 |.dit _ _=>.dict []
 |.ob _=>.dict []
noncomputable def Bi:n_ D->n_ gB
 |[]=>[]
 |d::ds=>toPy d::Bi ds
end
mutual
noncomputable def E3:D->Bool
 |.tup ds=>C3 ds
 |.lst ds=>C3 ds
 |.dic _ _=>m_
 |.fdi _ _=>m_
 |.dit _ _=>m_
 |.ob _=>m_
 |_=>l_
noncomputable def C3:n_ D->Bool
 |[]=>l_
 |d::ds=>E3 d&&C3 ds
end
def EX(ds:n_ D):Bi ds=ds.map toPy:=by
 induction ds with
 |nil=>rfl
 |cons d r ih=>rw[Bi,ih,cL]
section
variable {K:Frag}{M:Addr->Prop}{H:Hp}
mutual
theorem At.rv:∀{d:D}{v:V},At K M H d v->E3 d=l_->RV H (toPy d) v
 |.non,v,h,_=>h
 |.bl b,v,h,_=>h
 |.int i,v,h,_=>h
 |.str x,v,h,_=>h.1
 |.tup ds,v,h,n=>by
  let#[a,vs,e,hn,hs]:=h;exact#[a,vs,e,hn,Ats.rv hs n]
 |.lst ds,v,h,n=>by
  let#[a,vs,e,hn,hs]:=h;exact#[a,vs,e,.inl hn.2,Ats.rv hs n]
 |.dic ks ds,v,h,n=>by cases n
 |.fdi ks ds,v,h,n=>by cases n
 |.dit ks ds,v,h,n=>by cases n
 |.ob _,v,h,n=>by cases n
theorem Ats.rv:∀{ds:n_ D}{vs:n_ V},Ats K M H ds vs->C3 ds=l_->RVs H (Bi ds) vs
 |[],vs,h,_=>h
 |d::ds,vs,h,n=>by
  let#[v,r,e,h1,h2]:=h;have n':(E3 d&&C3 ds)=l_:=n;rw[cP]at n';exact#[v,r,e,At.rv h1 n'.1,Ats.rv h2 n'.2]
end
def AtT.rv{U:Ch->Prop}{d:D}{v:V}(h:AtT K U M H d v)(n:E3 d=l_):RV H (toPy d) v:=by
 cases d with
 |lst ds=>
  let#[a,vs,e,_,hq,hs]:=h;exact#[a,vs,e,hq,Ats.rv hs n]
 |dic ks ds=>cases n
 |fdi ks ds=>cases n
 |dit ks ds=>cases n
 |ob a=>cases n
 |non=>exact h
 |bl b=>exact h
 |int i=>exact h
 |str x=>exact h.1
 |tup ds=>exact At.rv h n
noncomputable def Kw(d:D):Prop:=E3 d=l_/\(toPy d).showable=l_/\(toPy d).depth<=100/\(toPy d).shown.length<=sizeLine
noncomputable def CB(d:D):Str:=(toPy d).shown
noncomputable def Bv(ds:n_ D)(P:D->Prop):Prop:=∃d,ds=[d]/\Kw d/\P^.str^CB d
def CT:B_ K .sh W0 Bv:=by
 intro U M H ds vs P Q dom vM hp w q;let#[d,rfl,hd,w]:=w;let#[v,rfl,hx]:=Dl hp;exact#[v,_,rfl,hx.rv hd.1,hd.2.1,hd.2.2.1,hd.2.2.2,q _ H (.str _) .refl #[rfl,hd.2.2.2] w]
noncomputable def DC(d:D):Prop:=E3 d=l_/\(toPy d).canLay0=l_/\(toPy d).depth<=100
noncomputable def FT(d e:D):Bool:=fo (toPy d)^toPy e
noncomputable def Ye(d e:D)(P:D->Prop):Prop:=DC d/\DC e/\P^.bl^FT d e
def XW:El K .sh Zf Ye:=λU M H d e x y P Q dom vM hx hy w q=>
 #[_,_,hx.rv w.1.1,hy.rv w.2.1.1,w.1.2.1,w.2.1.2.1,w.1.2.2,q _ H (.bl _) .refl rfl w.2.2]
noncomputable def Im:D->o_^n_ D
 |.lst ds=>P3 ds
 |.tup ds=>P3 ds
 |_=>k_
noncomputable def Hq(neg:Bool)(d e:D)(P:D->Prop):Prop:=DC d/\DC e/\∃es,Im e=P3 es/\P^.bl (if neg then !(es.any λy=>FT y d)else es.any λy=>FT y d)
def GJ{neg:Bool}:El K .sh (X4 neg)^Hq neg:=λU M H d e x y P Q dom vM hx hy w q=>by
 let#[h1,h2,es,he,w]:=w;have any_eq:∀es:n_ D,(es.map _).any (λy=>fo y _)=es.any λy=>FT y d:=λes=>by rw[List.any_map];rfl
 cases e with
 |lst ds=>
  cases he;refine#[_,_,hx.rv h1.1,.inl^hy.rv h2.1,h1.2.1,by simpa [toPy,PyData.canLay0]using h2.2.1,h1.2.2,?_];rw[EX,any_eq];exact q _ H (.bl _) .refl rfl w
 |tup ds=>
  cases he;refine#[_,_,hx.rv h1.1,.inr^hy.rv h2.1,h1.2.1,by simpa [toPy,PyData.canLay0]using h2.2.1,h1.2.2,?_];rw[EX,any_eq];exact q _ H (.bl _) .refl rfl w
 |_=>cases he
noncomputable def Z1(d e:D)(P:D->Prop):Prop:=DC d/\DC e/\P^.bl (!FT d e)
end
end Dp
namespace L2
noncomputable def ZX:R2:=λx y H Q=>∃d e,RV H d x/\RV H e y/\d.canLay0=l_/\e.canLay0=l_/\d.depth<=100/\Q (.bl (!PyData.eqv d e)) H
def YF{X:Cx}{k:Nat}(hr:Room k X.A):OpR X (compareOp .NotEq) ZX:=by
 intro zG s Z H x y v u Q I rx ry h;let#[d,e,hx,hy,h1,h2,hd,q]:=h;let#[as,ra]:=RV.reads I hx rx;let#[bs,rb]:=RV.reads I hy ry;have hu:=hr.un;have hm:min _ e.depth<=d.depth:=Nat.min_le_left _ _;exact PySem.SeqAt.compareNe_reads ra rb h1 h2 (by lk) #[.bl _,H,I,rfl,q]
end L2
namespace Dp
open L2
def Z7{K:Frag}:El K .sh ZX Z1:=λU M H d e x y P Q dom vM hx hy w q=>
 #[_,_,hx.rv w.1.1,hy.rv w.2.1.1,w.1.2.1,w.2.1.2.1,w.1.2.2,q _ H (.bl _) .refl rfl w.2.2]
end Dp
namespace L2
noncomputable def kOf:Key->V
 |.inl i=>.int i
 |.inr x=>.str x
noncomputable def aQ:Key->Key->Bool
 |.inl i,.inl j=>decide (i<j)
 |.inr x,.inr y=>decide (x.cps.toList<y.cps.toList)
 |_,_=>m_
noncomputable def Kx:Key->Key->Bool
 |.inl _,.inl _=>l_
 |.inr _,.inr _=>l_
 |_,_=>m_
noncomputable def Gi:n_ Key->n_ Key->Bool
 |[],[]=>m_
 |[],_::_=>l_
 |_::_,[]=>m_
 |x::xs,y::ys=>if x=y then Gi xs ys else aQ x y
noncomputable def Bk:n_ Key->n_ Key->Bool
 |x::xs,y::ys=>Kx x y&&Bk xs ys
 |_,_=>l_
def Ur{A:cW}{s:Go}{x y:Key}{u v:Db}(rx:RelV (kOf x) u)(ry:RelV (kOf y) v):∃e,SeqAt.EqAt A s u v e/\(e=l_↔x=y):=by
 cases x with
 |inl i=>
  cases y with
  |inl j=>exact#[_,MU rx ry rfl rfl,by simp[kOf,Z4]]
  |inr z=>exact#[_,MU rx ry rfl rfl,by simp[kOf,Z4]]
 |inr z=>
  cases y with
  |inl j=>exact#[_,MU rx ry rfl rfl,by simp[kOf,Z4]]
  |inr z'=>exact#[_,MU rx ry rfl rfl,by simp[kOf,Z4]]
def Ta(A:cW)(s:Go){x y:Key}{u v:Db}(rx:RelV (kOf x) u)(ry:RelV (kOf y) v)(hs:Kx x y=l_)(prog:cH)(w:cN)(E:Db->Go->Prop)(Q:Db->Go->Prop)(h:Q (.bool^aQ x y) s):
  wpAny (model prog w) A (richCompare .Lt u v) Q E s:=by
 cases x with
 | inl i=>
  cases y with
  |inl j=>
   let#[t,rfl]:=rx;let#[t',rfl]:=ry;exact im h
  |inr z=>cases hs
 | inr z=>
  cases y with
  |inl j=>cases hs
  |inr z'=>
   let#[t,rfl]:=rx;let#[t',rfl]:=ry;exact PySem.P.lt_str h
section
open PySem.SeqAt
open PySem.AutoSeq1 (wpAny_loadPart')
open PySem.MeetsSeq PySem.MeetsSeq2 PySem.MeetsSeq3
def Em(l b:Ch)(items items2:Array Db)(n n2:Nat)(dd dd2:o_ Ch)(sl sl2:Array^o_ Db)(ns ms:n_ Key)(hi:Vals (ns.map kOf) items.toList)(hj:Vals (ms.map kOf) items2.toList)(hsame:Bk ns ms=l_):
  Meets (ej.«tuple.__lt__» #[[.ref l,.ref b],[]])
   (λ_ R s=>s.heap.get? l=P3 {cls:=.type "tuple",dict:=dd,data:=.seq items n,slots:=sl}/\s.heap.get? b=P3 {cls:=.type "tuple",dict:=dd2,data:=.seq items2 n2,slots:=sl2} /\
    R (.ok^.ret^.bool^Gi ns ms) s):=
 .of_wp λprog w A R s h=>by
  let#[hp,g,d,tk,os]:=s;let#[hl,hb,h]:=h
  have f2:=AutoSeq1.sub_tuple_tuple;have z1:items.size=ns.length:=by have:=hi.length;rw[FM]at this;rw[this];simp
  have z2:items2.size=ms.length:=by have:=hj.length;rw[FM]at this;rw[this];simp
  wp_walk using fM hl,fM hb,wpAny_forIn_list _ (λrest b s'=>b.1=k_/\s'=#[hp,g,d,tk,os]/\∃(vs ws:n_ Db) (ns' ms':n_ Key),rest=vs.zip ws /\
   Vals (ns'.map kOf) vs/\Vals (ms'.map kOf) ws/\Bk ns' ms'=l_/\ns'.length+items2.size=ms'.length+items.size/\R (.ok^.ret^.bool^Gi ns' ms') #[hp,g,d,tk,os]) _
  case turn=>
   rintro⟨y,x⟩ rest b s' ⟨hb',rfl,vs,ws,ns',ms',hz,hvi,hwi,hsm,hlen,hR⟩;cases ns' with
   |nil=>cases hvi;rw[List.zip_nil_left]at hz;cases hz
   | cons a ns'=>
    cases ms' with
    |nil=>cases hwi;rw[List.zip_nil_right]at hz;cases hz
    | cons c ms'=>
     rw[cL]at hvi hwi;cases hvi with
     | cons ra hvi'=>
      cases hwi with
      | cons rc hwi'=>
       rw[eX]at hz;injection hz with hyx hrest
       injection hyx with hy hx
       subst hy hx;have hR':R (.ok^.ret^.bool (if a=c then Gi ns' ms' else aQ a c)) #[hp,g,d,tk,os]:=hR;have hsm':(Kx a c&&Bk ns' ms')=l_:=hsm;rw[cP]at hsm';simp only[cT]at hlen;let#[e,he,hiff]:=Ur (A:=A.in1) (s:=#[hp,g,d,tk,os]) ra rc;refine Cn^he prog w _ _ ?_;cases e with
       |true=>
        rw[if_pos (hiff.mp rfl)]at hR'
        wp_walk
        exact#[rfl,rfl,_,_,_,_,hrest,hvi',hwi',hsm'.2,by lk,hR']
       |false=>
        rw[if_neg λq=>absurd (hiff.mpr q) cD]at hR';have hri:=Ta A.in1 #[hp,g,d,tk,os] ra rc hsm'.1 prog w
        wp_walk using hri
        exact#[_,rfl,by simpa using hR']
  case fin=>
   rintro⟨b1,b2⟩ s' ⟨hb',rfl,vs,ws,ns',ms',hz,hvi,hwi,hsm,hlen,hR⟩;simp only at hb';subst hb'
   have hv:Gi ns' ms'=decide (items.size<items2.size):=by
    cases ns' with
    | nil=>
     cases ms' with
     |nil=>
      simp only[dR]at hlen;exact(decide_eq_false^by lk).symm
     |cons c u=>
      simp only[dR,cT]at hlen;exact(decide_eq_true^by lk).symm
    | cons a t=>
     cases ms' with
     |nil=>
      simp only[dR,cT]at hlen;exact(decide_eq_false^by lk).symm
     |cons c u=>
      rw[cL]at hvi hwi;cases hvi;cases hwi;rw[eX]at hz;cases hz
   rw[hv]at hR
   wp_walk
   exact#[_,rfl,by simpa [Builtin.Tuple.tupleCompareSizes]using hR]
  case h=>
   exact#[rfl,rfl,items.toList,items2.toList,ns,ms,rfl,hi,hj,hsame,by lk,h]
end
section
variable {X:Cx}
noncomputable def ZZ(K:Frag):R2:=λx y H Q=>∃a b ns ms,x=.ref a/\y=.ref b/\SqT K H a^ns.map kOf/\SqT K H b^ms.map kOf/\Bk ns ms=l_/\Q (.bl^Gi ns ms) H
def YH(hu:X.A.units<cLine):OpR X (compareOp .Lt)^ZZ X.K:=by
 intro zG s Z H x y v u Q I rx ry h;let#[a,b,ns,ms,rfl,rfl,ha,hb,hsm,q]:=h;cases rx;cases ry;let#[its,r1,p1,_]:=I.tuple ha;let#[its2,r2,p2,_]:=I.tuple hb;let#[#[cls,dd,data,sl],ho,hc,n,hd]:=id p1;let#[#[cls2,dd2,data2,sl2],ho2,hc2,n2,hd2]:=id p2;subst hc hd hc2 hd2
 exact richCompare_meets_room (op:=.Lt) #[_,ho,rfl] #[_,ho2,rfl] PySem.F.slot_tuple_lt PySem.F.entry_tuple_lt (PySem.F.args_tuple_lt_2 _ _) (Em a b _ _ n n2 dd _ sl _ ns ms r1 r2 hsm)
  #[ho,ho2,#[(λx=>nomatch x),#[.bl _,H,I,rfl,q]]] hu
end
noncomputable def ItAt(κ:Bool)(h:cA)(it l:Ch)(k:Nat):Prop:=match κ with
 |true=>h.IsListIter it l k
 |false=>h.IsTupleIter it l k
noncomputable def SqAt(κ:Bool)(h:cA)(l:Ch)(items:Array Db):Prop:=match κ with
 |true=>h.IsList l items
 |false=>h.IsTuple l items
section
variable {κ:Bool}{h h':Heap}{it l b:Addr}{k:Nat}{items:Array Value}
def ItAt.mv(x:ItAt κ h it l k)(e:∀o,h.get? it=P3 o->h'.get? it=P3 o):ItAt κ h' it l k:=by
 cases κ with
 |true=>let#[o,ho,r]:=x;exact#[o,e o ho,r]
 |false=>let#[o,ho,r]:=x;exact#[o,e o ho,r]
def SqAt.mv(x:SqAt κ h l items)(e:∀o,h.get? l=P3 o->h'.get? l=P3 o):SqAt κ h' l items:=by
 cases κ with
 |true=>let#[o,ho,r]:=x;exact#[o,e o ho,r]
 |false=>let#[o,ho,r]:=x;exact#[o,e o ho,r]
def ItAt.eb(x:ItAt κ h it l k)(hs:io b h h')(n:it≠b):ItAt κ h' it l k:=x.mv λo e=>hs it o n e
def SqAt.eb(x:SqAt κ h l items)(hs:io b h h')(n:l≠b):SqAt κ h' l items:=x.mv λo e=>hs l o n e
def ItAt.lies(x:ItAt κ h it l k):∃o,h.get? it=P3 o/\∀v,o.data≠.cell v:=by
 cases κ with
 |true=>let#[o,ho,_,d]:=x;simp_all
 |false=>let#[o,ho,_,d]:=x;simp_all
def SqAt.lies(x:SqAt κ h l items):∃o,h.get? l=P3 o:=by
 cases κ with
 |true=>let#[o,ho,_]:=x;grind
 |false=>let#[o,ho,_]:=x;grind
end
section
variable {prog:Program}{w:World}{A:Around}{E:Value->Shared->Prop}{s:Shared}
def Gx{κ:Bool}{it l:Ch}{i:Nat}{items:Array Db}{x:Db}{Q:Db->Go->Prop}(hit:ItAt κ s.heap it l i)(hl:SqAt κ s.heap l items)(hx:items[i]?=P3 x)
  (hQ:∀h',ItAt κ h' it l (i+1)->eV it s.heap h'->Q x {s with heap:=h'}):wpAny (model prog w) A (dH^.ref it) Q E s:=by
 cases κ with
 |true=>exact wpAny_nextOf_list_item hit hl hx hQ
 |false=>
  have hit':s.heap.IsTupleIter it l i:=hit;have hl':s.heap.IsTuple l items:=hl;let#[o,ho,hc,hd]:=id hit';let#[ol,hol,_,nl,hdl]:=hl'
  unfold dH;refine Cn^c6 (name:=dY "__next__") hit'.typeIs eq^dP eq hit'.typeIs h7 ?_^g9 _;show wpAny (model prog w) _ (field (.ref it) 0 >>=_) _ _ s;refine Cn (dO ho hd (x:=.ref l) rfl ?_)
  show wpAny (model prog w) _ (if(b_ l==cQ)=l_ then _ else _) _ _ s;rw[if_neg (show ¬((b_ l==cQ)=l_)from cD)]
  show wpAny (model prog w) _ (field (.ref it) 1 >>=_) _ _ s;refine Cn (dO ho hd (x:=.int i 0) rfl ?_)
  show wpAny (model prog w) _ (seqItems?^.ref l >>=_) _ _ s;refine Cn^dQ hol hdl ?_;simp only[e8,hx]
  refine Cn^g_ ho hd (by simp)^On #[x,rfl,On^hQ _ (show Heap.IsTupleIter _ it l (i+1)from ?_) (eP ..)];exact#[_,dL _ ho^Obj.isFreed_of_fields^gC hd _,(Obj.cls_mapFields ..).trans hc,by(rw[gC hd];simp[rawInt])]
def N6{κ:Bool}{it l:Ch}{i:Nat}{items:Array Db}{Q:Db->Go->Prop}(hh:A.handled=k_)(hit:ItAt κ s.heap it l i)(hl:SqAt κ s.heap l items)(hx:items[i]?=k_)
  (hE:∀h' e,io it s.heap h'->(∃o,h'.get? e=P3 o/\o.cls=.type "StopIteration")->E (.ref e) {s with heap:=h'}):wpAny (model prog w) A (dH^.ref it) Q E s:=by
 cases κ with
 |true=>exact wpAny_nextOf_list_end hh hit hl hx hE
 |false=>
  have hit':=hit;have hl':s.heap.IsTuple l items:=hl;let#[o,ho,hc,hd]:=id hit';let#[ol,hol,_,nl,hdl]:=hl'
  refine Cn^c6 hit'.typeIs eq^dP eq hit'.typeIs h7 ?_^g9 _;show wpAny (model prog w) _ (field (.ref it) 0 >>=_) _ _ s;refine Cn (dO ho hd (x:=.ref l) rfl ?_)
  refine Cn (dO ho hd (x:=.int i 0) rfl ?_);refine Cn^dQ hol hdl ?_;simp only[e8,hx]
  refine Cn^gH^Cn^g_ ho hd (by simp) ?_;refine Cn ?_;refine Cn (m:=firstArgMember _ _)^ip (a:=cQ) (by first|rfl|omega) ?_;refine dI ?_^by size_fits
  simp only[raiseNew];refine Cn^wpAny_handled ?_;first|grind|rw[hh]
  refine Cn^On^wpAny_throw ?_;exact hE _ _ (((eP ..).extBut.push _).push _) #[_,Sc _ rfl,rfl]
structure Y8 (z TI TO i1 i2 l1 l2:Ch):Prop where
 TIz:TI≠z
 TOz:TO≠z
 i1z:i1≠z
 i2z:i2≠z
 TOi1:TO≠i1
 TOi2:TO≠i2
 i12:i1≠i2
 l1z:l1≠z
 l1TO:l1≠TO
 l1i1:l1≠i1
 l1i2:l1≠i2
 l2z:l2≠z
 l2TO:l2≠TO
 l2i1:l2≠i1
 l2i2:l2≠i2
def Sn{zX zW:Bool}{z TI TO i1 i2 l1 l2:Ch}{k:Nat}{xs ys:Array Db}{x y a b:Db}{Q:Db->Go->Prop}(D:Y8 z TI TO i1 i2 l1 l2)
  (hz:fW s.heap z TI TO .none) (hTI:dZ s.heap TI (.ref i1)^.ref i2) (hTO:dZ s.heap TO a b) (h1:ItAt zX s.heap i1 l1 k) (h2:ItAt zW s.heap i2 l2 k) (hl1:SqAt zX s.heap l1 xs) (hl2:SqAt zW s.heap l2 ys) (hx:xs[k]?=P3 x) (hy:ys[k]?=P3 y)
  (hQ:∀h',fW h' z TI TO^rawInt s.heap.objs.size->dZ h' TO x y->ItAt zX h' i1 l1 (k+1)->ItAt zW h' i2 l2 (k+1)->dZ h' s.heap.objs.size x y->h'.objs.size=s.heap.objs.size+1->(∀c o,c≠z->c≠TO->c≠i1->c≠i2->s.heap.get? c=P3 o->h'.get? c=P3 o)->Q (.ref s.heap.objs.size) {s with heap:=h'}):
  wpAny (model prog w) A (ej.«zip.__next__» #[[.ref z],[]]) (λfin s'=>∃v,fin=.done^.ret v/\Q v s') E s:=by
 show wpAny (model prog w) A (field (.ref z) 2 >>=_) _ _ _;refine Cn (dO hz rfl (x:=.bool m_) rfl ?_)
 show wpAny (model prog w) A (field (.ref z) 3 >>=_) _ _ _;refine Cn (dO hz rfl (x:=.ref TI) rfl ?_);refine Cn (dQ hTI rfl ?_)
 show wpAny (model prog w) A (dg^.ref z >>=_) _ _ _;refine Cn ?_;unfold dg
 refine Cn (dO hz rfl (x:=.none) rfl (On ?_));simp only[if_true];refine Cn^gH ?_;refine Cn (dO hz rfl (x:=.ref TO) rfl ?_)
 refine Cn^eY hz (by simp) λha hza hsa=>?_;replace hza:fW ha z TI TO .ellipsis:=hza;refine Cn ?_;simp only[List.zipIdx_cons,List.zipIdx_nil,gp,iw]
 refine Cn^Cn^iD ?_;show wpAny (model prog w) _ (dH^.ref i1 >>=_) _ _ _
 refine Cn^Gx (h1.eb hsa.extBut D.i1z) (hl1.eb hsa.extBut D.l1z) hx λhb h1b hsb=>On ?_;have hTOb:dZ hb TO a b:=hsb.extBut _ _ D.TOi1^hsa.extBut _ _ D.TOz hTO;refine Cn (dQ hTOb rfl ?_);refine Cn (gs hTOb λhc hTOc hsc=>?_)
 replace hTOc:dZ hc TO x b:=hTOc;refine Cn^eU^On ?_;refine Cn^Cn^iD ?_;show wpAny (model prog w) _ (dH^.ref i2 >>=_) _ _ _
 refine Cn^Gx (((h2.eb hsa.extBut D.i2z).eb hsb.extBut D.i12.symm).eb hsc.extBut D.TOi2.symm) (((hl2.eb hsa.extBut D.l2z).eb hsb.extBut D.l2i1).eb hsc.extBut D.l2TO) hy λhd h2d hsd=>On ?_;have hTOd:dZ hd TO x b:=hsd.extBut _ _ D.TOi2 hTOc;refine Cn (dQ hTOd rfl ?_);refine Cn (gs hTOd λhe hTOe hse=>?_)
 replace hTOe:dZ he TO x y:=hTOe;refine Cn^eU^On^On ?_;refine Cn (dQ hTOe rfl ?_);refine Cn^wpAny_newTuple ?_
 have hsz:he.objs.size=s.heap.objs.size:=by rw[hse.1,hsd.1,hsc.1,hsb.1,hsa.1]
 have hze:fW he z TI TO .ellipsis:=hse.extBut _ _ D.TOz.symm^hsd.extBut _ _ D.i2z.symm^hsc.extBut _ _ D.TOz.symm^hsb.extBut _ _ D.i1z.symm hza;have hke:∀c o,c≠z->c≠TO->c≠i1->c≠i2->s.heap.get? c=P3 o->he.get? c=P3 o:=λc o c1 c2 c3 c4 e=>hse.extBut _ _ c2^hsd.extBut _ _ c4^hsc.extBut _ _ c2^hsb.extBut _ _ c3^hsa.extBut _ _ c1 e;have h1e:ItAt zX he i1 l1 (k+1):=((h1b.eb hsc.extBut D.TOi1.symm).eb hsd.extBut D.i12).eb hse.extBut D.TOi1.symm;have h2e:ItAt zW he i2 l2 (k+1):=h2d.eb hse.extBut D.TOi2.symm;have hzlt:z<he.objs.size:=Tk hze;show wpAny (model prog w) _ (gD (.ref z)^.ref he.objs.size >>=_) _ _ _;refine Cn ?_;unfold gD
 have hzf:fW (he.push {cls:=.type "tuple",data:=.seq #[ x,y]}) z TI TO .ellipsis:=Ev _ hze;refine Cn^eY hzf (by simp) λhg hzg hsg=>?_;replace hzg:fW hg z TI TO^rawInt he.objs.size:=hzg;refine eY hzg (by simp) λhi hzi hsi=>?_;replace hzi:fW hi z TI TO^rawInt he.objs.size:=hzi;have up:∀c o,c≠z->he.get? c=P3 o->hi.get? c=P3 o:=λc o c1 e=>hsi.extBut _ _ c1^hsg.extBut _ _ c1^Ev _ e;have hTi:dZ hi he.objs.size x y:=hsi.extBut _ _ (gk hzlt)^hsg.extBut _ _ (gk hzlt) (Sc _ rfl);have hzs:hi.objs.size=he.objs.size+1:=by rw[hsi.1,hsg.1,dA]
 rw[hsz]at hzi hTi hzs;refine On #[_,rfl,?_];show Q (.ref he.objs.size) _;rw[hsz]
 exact hQ hi hzi (up _ _ D.TOz hTOe) (h1e.mv λo e=>up _ o D.i1z e) (h2e.mv λo e=>up _ o D.i2z e) hTi hzs λc o c1 c2 c3 c4 e=>up c o c1^hke c o c1 c2 c3 c4 e
def VT{zX zW:Bool}{z TI TO i1 i2 l1 l2:Ch}{k:Nat}{xs ys:Array Db}{a b:Db}{Q:Fin->Go->Prop}(hh:A.handled=k_)(D:Y8 z TI TO i1 i2 l1 l2)
  (hz:fW s.heap z TI TO .none) (hTI:dZ s.heap TI (.ref i1)^.ref i2) (hTO:dZ s.heap TO a b) (h1:ItAt zX s.heap i1 l1 k) (h2:ItAt zW s.heap i2 l2 k) (hl1:SqAt zX s.heap l1 xs) (hl2:SqAt zW s.heap l2 ys) (hend:xs[k]?=k_\/ys[k]?=k_)
  (hE:∀h' e,(∀c o,c≠z->c≠TO->c≠i1->c≠i2->s.heap.get? c=P3 o->h'.get? c=P3 o)->(∃o,h'.get? e=P3 o/\o.cls=.type "StopIteration")->E (.ref e) {s with heap:=h'}):
  wpAny (model prog w) A (ej.«zip.__next__» #[[.ref z],[]]) Q E s:=by
 show wpAny (model prog w) A (field (.ref z) 2 >>=_) _ _ _;refine Cn (dO hz rfl (x:=.bool m_) rfl ?_)
 show wpAny (model prog w) A (field (.ref z) 3 >>=_) _ _ _;refine Cn (dO hz rfl (x:=.ref TI) rfl ?_);refine Cn (dQ hTI rfl ?_)
 show wpAny (model prog w) A (dg^.ref z >>=_) _ _ _;refine Cn ?_;unfold dg
 refine Cn (dO hz rfl (x:=.none) rfl (On ?_));simp only[if_true];refine Cn^gH ?_;refine Cn (dO hz rfl (x:=.ref TO) rfl ?_)
 refine Cn^eY hz (by simp) λha hza hsa=>?_;replace hza:fW ha z TI TO .ellipsis:=hza;refine Cn ?_;simp only[List.zipIdx_cons,List.zipIdx_nil,gp,iw]
 refine Cn^Cn^iD ?_;show wpAny (model prog w) _ (dH^.ref i1 >>=_) _ _ _
 cases hx:xs[k]? with
 |none=>
  refine Cn^N6 hh (h1.eb hsa.extBut D.i1z) (hl1.eb hsa.extBut D.l1z) hx λhb e hsb he=>?_;let#[oe,hoe,hce]:=he;have hzb:fW hb z TI TO .ellipsis:=hsb _ _ D.i1z.symm hza;have hez:e≠z:=λx=>by subst x;rw[hzb]at hoe;cases hoe;simp at hce
  exact eY hzb (by simp) λhc _ hsc=>hE hc e (λc o c1 _ c3 _ x=>hsc.extBut _ _ c1^hsb _ _ c3^hsa.extBut _ _ c1 x) #[oe,hsc.extBut _ _ hez hoe,hce]
 | some x=>
  have hy:ys[k]?=k_:=by
   rcases hend with h|h
   .rw[hx]at h;cases h
   .exact h
  refine Cn^Gx (h1.eb hsa.extBut D.i1z) (hl1.eb hsa.extBut D.l1z) hx λhb h1b hsb=>On ?_;have hTOb:dZ hb TO a b:=hsb.extBut _ _ D.TOi1^hsa.extBut _ _ D.TOz hTO;refine Cn (dQ hTOb rfl ?_);refine Cn^gs hTOb λhc hTOc hsc=>?_
  refine Cn^eU^On ?_;refine Cn^Cn^iD ?_;show wpAny (model prog w) _ (dH^.ref i2 >>=_) _ _ _
  refine Cn^N6 hh (((h2.eb hsa.extBut D.i2z).eb hsb.extBut D.i12.symm).eb hsc.extBut D.TOi2.symm) (((hl2.eb hsa.extBut D.l2z).eb hsb.extBut D.l2i1).eb hsc.extBut D.l2TO) hy λhd e hsd he=>?_;let#[oe,hoe,hce]:=he;have hzd:fW hd z TI TO .ellipsis:=hsd _ _ D.i2z.symm^hsc.extBut _ _ D.TOz.symm^hsb.extBut _ _ D.i1z.symm hza;have hez:e≠z:=λx=>by subst x;rw[hzd]at hoe;cases hoe;simp at hce
  exact eY hzd (by simp) λhf _ hsf=>hE hf e (λc o c1 c2 c3 c4 x=>hsf.extBut _ _ c1^hsd _ _ c4^hsc.extBut _ _ c2^hsb.extBut _ _ c3^hsa.extBut _ _ c1 x) #[oe,hsf.extBut _ _ hez hoe,hce]
end
noncomputable def YX(κ:Bool):String:=match κ with
 |true=>"list_iterator"
 |false=>"tuple_iterator"
noncomputable def UU(κ:Bool)(l:Ch):Obj:={cls:=.type^YX κ,data:=.fields #[ .ref l,.int 0 0]}
noncomputable abbrev zA(zX:Bool)(h:cA)(l1:Ch):cA:=h.push^UU zX l1
noncomputable abbrev zB(zX zW:Bool)(h:cA)(l1 l2:Ch):cA:=(zA zX h l1).push^UU zW l2
noncomputable abbrev zC(zX zW:Bool)(h:cA)(l1 l2:Ch):cA:=(zB zX zW h l1 l2).push {cls:=.type "tuple",data:=.seq #[ .ref h.objs.size,.ref (zA zX h l1).objs.size]}
noncomputable abbrev zD(zX zW:Bool)(h:cA)(l1 l2:Ch):cA:=(zC zX zW h l1 l2).push {cls:=.type "tuple",data:=.seq #[ .none,.none]}
noncomputable abbrev zE(zX zW:Bool)(h:cA)(l1 l2:Ch):cA:=(zD zX zW h l1 l2).push {cls:=.type "zip",data:=.fields #[ .none,.bool m_,.bool m_,.ref (zB zX zW h l1 l2).objs.size,.ref (zC zX zW h l1 l2).objs.size]}
def V4(zX zW:Bool)(l1 l2:Ch)(xs ys:Array Db):Meets (ej.«zip.__new__» #[[.type "zip",.ref l1,.ref l2],[]])
  (λ_ R s=>SqAt zX s.heap l1 xs/\SqAt zW s.heap l2 ys/\R (.ok^.ret^.ref (zD zX zW s.heap l1 l2).objs.size) {s with heap:=zE zX zW s.heap l1 l2}):=
 .of_wp λprog w A R s h=>by
  let#[hp,g,d,tk,os]:=s;let#[hl1,hl2,h]:=h
  have hsub:=sub_zip;have hL2:SqAt zW (zA zX hp l1) l2 ys:=hl2.mv λo e=>Ev _ e;cases zX with
  | true=>
   have g1:Heap.IsList (gS #[hp,g,d,tk,os]) l1 xs:=hl1;cases zW with
   |true=>
    have g2:Heap.IsList (gS #[hp.push {cls:=.type "list_iterator",data:=.fields #[ .ref l1,.int 0 0]},g,d,tk,os]) l2 ys:=hL2
    wp_walk using eJ g1,eJ g2
    exact#[_,rfl,h]
   |false=>
    have g2:jB (gS #[hp.push {cls:=.type "list_iterator",data:=.fields #[ .ref l1,.int 0 0]},g,d,tk,os]) l2 ys:=hL2
    wp_walk using eJ g1,dW g2
    exact#[_,rfl,h]
  | false=>
   have g1:jB (gS #[hp,g,d,tk,os]) l1 xs:=hl1;cases zW with
   |true=>
    have g2:Heap.IsList (gS #[hp.push {cls:=.type "tuple_iterator",data:=.fields #[ .ref l1,.int 0 0]},g,d,tk,os]) l2 ys:=hL2
    wp_walk using dW g1,eJ g2
    exact#[_,rfl,h]
   |false=>
    have g2:jB (gS #[hp.push {cls:=.type "tuple_iterator",data:=.fields #[ .ref l1,.int 0 0]},g,d,tk,os]) l2 ys:=hL2
    wp_walk using dW g1,dW g2
    exact#[_,rfl,h]
def Ny(κ:Bool)(h:cA)(l:Ch):ItAt κ (h.push^UU κ l) h.objs.size l 0:=by
 cases κ with
 |true=>exact#[_,Sc _ rfl,rfl,rfl]
 |false=>exact#[_,Sc _ rfl,rfl,rfl]
section
variable {prog:Program}{w:World}{A:Around}{E:Value->Shared->Prop}{s:Shared}
def Me{zX zW:Bool}{l1 l2:Ch}{xs ys:Array Db}{Q:Db->Go->Prop}(hl1:SqAt zX s.heap l1 xs)(hl2:SqAt zW s.heap l2 ys)
  (h:∀h',fW h' (s.heap.objs.size+4) (s.heap.objs.size+2) (s.heap.objs.size+3) .none->dZ h' (s.heap.objs.size+2) (.ref s.heap.objs.size)^.ref (s.heap.objs.size+1)->dZ h' (s.heap.objs.size+3) .none .none->
   ItAt zX h' s.heap.objs.size l1 0->ItAt zW h' (s.heap.objs.size+1) l2 0->(∀c o,s.heap.get? c=P3 o->h'.get? c=P3 o)->Q (.ref (s.heap.objs.size+4)) {s with heap:=h'}):
  wpAny (model prog w) A (call (.type "zip") [.ref l1,.ref l2]) Q E s:=by
 refine callType_new F.called_zip (by cbv) (F.typeCall_zip_2 _ _) (F.newCall_zip_2 _ _) (λobj=>F.args_object_init_3 obj _ _) F.entry_zip_new (V4 zX zW l1 l2 xs ys) #[hl1,hl2,?_];have z1:(zA zX s.heap l1).objs.size=s.heap.objs.size+1:=dA ..;have z2:(zB zX zW s.heap l1 l2).objs.size=s.heap.objs.size+2:=by rw[dA,z1]
 have z3:(zC zX zW s.heap l1 l2).objs.size=s.heap.objs.size+3:=by rw[dA,z2]
 have z4:(zD zX zW s.heap l1 l2).objs.size=s.heap.objs.size+4:=by rw[dA,z3]
 have g5:(zE zX zW s.heap l1 l2).get? (zD zX zW s.heap l1 l2).objs.size=P3 _:=Sc _ rfl;have g4:(zE zX zW s.heap l1 l2).get? (zC zX zW s.heap l1 l2).objs.size=P3 _:=Ev _ (Sc _ rfl);have g3:(zE zX zW s.heap l1 l2).get? (zB zX zW s.heap l1 l2).objs.size=P3 _:=Ev _^Ev _ (Sc _ rfl);have i2:ItAt zW (zE zX zW s.heap l1 l2) (zA zX s.heap l1).objs.size l2 0:=(Ny zW (zA zX s.heap l1) l2).mv λo e=>Ev _^Ev _^Ev _ e;have i1:ItAt zX (zE zX zW s.heap l1 l2) s.heap.objs.size l1 0:=(Ny zX s.heap l1).mv λo e=>Ev _^Ev _^Ev _^Ev _ e;rw[z4]at g5;rw[z3]at g4;rw[z2]at g3;rw[z1]at i2;have fin:=h (zE zX zW s.heap l1 l2) (by rw[fW,g5,z2,z3]) (by rw[dZ,g3,z1]) g4 i1 i2 λc o e=>Ev _^Ev _^Ev _^Ev _^Ev _ e;refine#[#[_,by rw[z4];exact g5,rfl],?_];rw[z4];exact fin
def KW{zX zW:Bool}{z TI TO i1 i2 l1 l2:Ch}{k:Nat}{xs ys:Array Db}{x y a b:Db}{Q:o_ Db->Go->Prop}(D:Y8 z TI TO i1 i2 l1 l2)
  (hz:fW s.heap z TI TO .none) (hTI:dZ s.heap TI (.ref i1)^.ref i2) (hTO:dZ s.heap TO a b) (h1:ItAt zX s.heap i1 l1 k) (h2:ItAt zW s.heap i2 l2 k) (hl1:SqAt zX s.heap l1 xs) (hl2:SqAt zW s.heap l2 ys) (hx:xs[k]?=P3 x) (hy:ys[k]?=P3 y)
  (hQ:∀h',fW h' z TI TO^rawInt s.heap.objs.size->dZ h' TO x y->ItAt zX h' i1 l1 (k+1)->ItAt zW h' i2 l2 (k+1)->dZ h' s.heap.objs.size x y->h'.objs.size=s.heap.objs.size+1->(∀c o,c≠z->c≠TO->c≠i1->c≠i2->s.heap.get? c=P3 o->h'.get? c=P3 o)->Q (P3^.ref s.heap.objs.size) {s with heap:=h'}):
  wpAny (model prog w) A (pyNext^.ref z) Q E s:=by
 have hT:s.TypeIs (.ref z) "zip":=#[_,hz,rfl];unfold pyNext
 exact Cn (gU (c6 (name:=dY "__next__") hT gu (dP gu hT F.entry_zip_next
  (Sn D hz hTI hTO h1 h2 hl1 hl2 hx hy λh' a1 a2 a3 a4 a5 a6 a7=>On^hQ h' a1 a2 a3 a4 a5 a6 a7) (F.args_zip_next_1 _))))
def MI{zX zW:Bool}{z TI TO i1 i2 l1 l2:Ch}{k:Nat}{xs ys:Array Db}{a b:Db}{Q:o_ Db->Go->Prop}(hh:A.handled=k_)(D:Y8 z TI TO i1 i2 l1 l2)
  (hz:fW s.heap z TI TO .none) (hTI:dZ s.heap TI (.ref i1)^.ref i2) (hTO:dZ s.heap TO a b) (h1:ItAt zX s.heap i1 l1 k) (h2:ItAt zW s.heap i2 l2 k) (hl1:SqAt zX s.heap l1 xs) (hl2:SqAt zW s.heap l2 ys) (hend:xs[k]?=k_\/ys[k]?=k_)
  (hQ:∀h',(∀c o,c≠z->c≠TO->c≠i1->c≠i2->s.heap.get? c=P3 o->h'.get? c=P3 o)->Q k_ {s with heap:=h'}):wpAny (model prog w) A (pyNext^.ref z) Q E s:=by
 have hT:s.TypeIs (.ref z) "zip":=#[_,hz,rfl];unfold pyNext;refine Cn^gU^c6 (name:=dY "__next__") hT gu^dP gu hT F.entry_zip_next (VT hh D hz hTI hTO h1 h2 hl1 hl2 hend λh' e hk he=>?_)^F.args_zip_next_1 _;let#[o,ho,hc]:=he;exact Cn^gY (T:="StopIteration") (b:=l_) #[o,ho,hc] isSubtype_stop^On^hQ _ hk
end
section
variable {X:Cx}{zG:n_ (Addr×Obj)}{Z:L2.St}{H:Hp}{s:Shared}{h':Heap}
def Inv.turnedL{t':Nat}{ch:n_ Ch}(I:Inv X zG Z H s)(hf:∀b∈ch,GR X zG H b)(k:∀b o,b∉ch->s.heap.get? b=P3 o->h'.get? b=P3 o):Inv X zG Z H {s with heap:=h',toks:=t'}:=by
 have nit:∀b u,H b=P3 u->b∉ch:=λb u e z=>by rw[(hf b z).1]at e;cases e
 refine I.step (λb hb=>?_) (λb o _ _ hc e _=>k b o hc e) (λb o _ _ hc e _=>#[_,k b o hc e]) (λ_ _ _ _ n=>n) (λb o hc e=>#[o,k b o hc e]) (λ_ _ e=>e) (λ_ _ _ e=>e) (λb ps e=>#[#[],by rw[e];simp]) (λm hm=>?_) (λb u e=>(I.hok b u e).stay (λc v hc q=>k c v (hc.elim (λz=>by grind) λz=>nit c _ z) q) (λ_ q=>q) λ_ _ q=>q) I.bare
 .let#[f0,f1,f2,f3,f4,f5]:=hf b hb
  exact#[f3,f1,f4,f5]
 .let#[o,es,ep,ho,r]:=hm
  exact#[o,es,ep,k _ o (λz=>(hf _ z).2.1 rfl) ho,r]
def Inv.turnLaid{t':Nat}{ch:n_ Ch}{a:Ch}{o:HO}(I:Inv X zG Z H s)(hf:∀b∈ch,GR X zG H b)(k:∀b o,b∉ch->s.heap.get? b=P3 o->h'.get? b=P3 o)(ha:s.heap.objs.size<=a)(new:ObjOk X.prog X.w (Aq H a o) h' a o):
  Inv X zG Z (Aq H a o) {s with heap:=h',toks:=t'}:=by
 have nit:∀b u,H b=P3 u->b∉ch:=λb u e z=>by rw[(hf b z).1]at e;cases e
 have hn:H a=k_:=I.hok.fresh ha;have up:∀b u,H b=P3 u->Aq H a o b=P3 u:=λb u e=>by rw[AL^Ah e hn];exact e
 refine I.step (g':=s.gens) (d':=s.drawn) (ch:=ch) (λb hb=>?_) (λb o _ _ hc e _=>k b o hc e) (λb o _ _ hc e _=>#[o.slots,k b o hc e]) (λb u _ e n=>?_) (λb o hc e=>#[o,k b o hc e]) (λb xs e=>up _ _ e) (λb o u e=>up _ _ e) (λb ps e=>#[#[],by rw[up _ _ e];simp]) (λm hm=>?_) (λb u e=>?_) I.bare
 .let#[f0,f1,f2,f3,f4,f5]:=hf b hb
  exact#[f3,f1,f4,f5]
 .rw[AL^b9^cO (Tk e) ha];exact n
 .let#[o,es,ep,ho,r]:=hm
  exact#[o,es,ep,k _ o (λz=>(hf _ z).2.1 rfl) ho,r]
 .by_cases hb:b=a
  .subst hb;rw[AM]at e;cases e;exact new
  .rw[AL hb]at e
   exact(I.hok b u e).stay (λc v hc q=>k c v (hc.elim (λz=>by grind) λz=>nit c _ z) q) (λc q=>up _ _ q) λc xs q=>up _ _ q
end
noncomputable def SqK(κ:Bool)(K:Frag)(H:Hp)(a:Ch)(xs:n_ V):Prop:=match κ with
 |true=>SqL K H a xs
 |false=>SqT K H a xs
def SqK.at{κ:Bool}{X:Cx}{zG:n_ (Ch×Obj)}{Z:L2.St}{H:Hp}{s:Go}{a:Ch}{xs:n_ V}(I:Inv X zG Z H s)(h:SqK κ X.K H a xs):∃its:n_ Db,Vals xs its/\SqAt κ s.heap a its.toArray:=by
 cases κ with
 |true=>let#[its,r,pl,_]:=I.list h;exact#[_,r,pl.isList]
 |false=>let#[its,r,p,_]:=I.tuple h;exact#[_,r,p]
noncomputable def Y9 (K:Frag) (zX zW:Bool) (a b:Ch) (xs ys:n_ V):It:=
  #[λi H=>SqK zX K H a xs ∧ SqK zW K H b ys ∧ i < xs.length ∧ i < ys.length,λi H x H'=>∃ T p q,x=.ref T ∧ H T=k_ ∧ H'=Aq H T^.tup [p,q] ∧ xs[i]?=P3 p ∧ ys[i]?=P3 q,
   λi H=>SqK zX K H a xs ∧ SqK zW K H b ys ∧ (xs.length ≤ i ∨ ys.length ≤ i)]
structure aB (zX zW:Bool) (z TI TO i1 i2 a b:Ch) (k:Nat) (h:cA):Prop where
 z:fW h z TI TO .none
 ti:dZ h TI (.ref i1) (.ref i2)
 to:∃a b,dZ h TO a b
 i1:ItAt zX h i1 a k
 i2:ItAt zW h i2 b k
def S5{P:cH}{w:cN}{K:Frag}{es:n_ cJ}{j:Nat}{pos:Pos}(zX zW:Bool)(z TI TO i1 i2 a b:Ch)(xs ys:n_ V)(D:Y8 z TI TO i1 i2 a b)(hTI:TI∉[z,TO,i1,i2]):
  Turn P w K (.Tuple es j pos) (Y9 K zX zW a b xs ys) [z,TI,TO,i1,i2] z (aB zX zW z TI TO i1 i2 a b) where
 mem:=by simp
 obj:=λi h st c hc=>by
  simp only[Uf,cb,or_false]at hc
  rcases hc with rfl|rfl|rfl|rfl|rfl
  .exact#[_,st.z,λv q=>by cases q]
  .exact#[_,st.ti,λv q=>by cases q]
  .let#[a,b,e]:=st.to
   exact#[_,e,λv q=>by cases q]
  .exact st.i1.lies
  .exact st.i2.lies
 keep:=λi h h' st k=>by
  let#[p,q,e]:=st.to;exact#[k z (by simp) _ st.z,k TI (by simp) _ st.ti,#[p,q,k TO (by simp) _ e],st.i1.mv λo e=>k i1 (by simp) o e,st.i2.mv λo e=>k i2 (by simp) o e]
 item:=by
  intro X hP hw hK hc i zG s Z H E I hf st hg;subst hP hw hK;let#[ha,hb,hi,hj]:=hg;let#[us,r1,q1]:=ha.at I;let#[ws,r2,q2]:=hb.at I;let#[u,hu,ru]:=r1.get^No hi;let#[v,hv,rv]:=r2.get^No hj;let#[p,q,e]:=st.to;refine KW D st.z st.ti e st.i1 st.i2 q1 q2 (x:=u) (y:=v) (by simpa using hu) (by simpa using hv) λh' a1 a2 a3 a4 a5 a6 a7=>#[_,rfl,?_];refine wpAny_letOwnedTupleGo_zip a1 λh2 b1 b2=>?_;have hT:H s.heap.objs.size=k_:=I.hok.fresh^Rs _
  have kk:∀c o,c∉[z,TO,i1,i2]->s.heap.get? c=P3 o->h2.get? c=P3 o:=λc o hc e=>by
   simp only[Uf,cb,or_false,not_or]at hc;exact b2.extBut _ _ hc.1^a7 c o hc.1 hc.2.1 hc.2.2.1 hc.2.2.2 e
  have I2:Inv X zG Z (Aq H s.heap.objs.size^.tup [xs[i],ys[i]]) {s with heap:=h2}:=by
   refine I.turnLaid (t':=s.toks) (ch:=[z,TO,i1,i2]) (λc hc=>hf c ?_) kk (Rs _) ?_
   .simp only[Uf,cb,or_false]at hc ⊢
    rcases hc with rfl|rfl|rfl|rfl <;>simp
   .have nT:s.heap.objs.size≠z:=gk^Tk st.z
    exact#[by show 2<=sizeLine;decide,[u,v],.cons ru^.cons rv .nil,#[_,b2.extBut _ _ nT a5,rfl,_,rfl,rfl,rfl]]
  have ti2:dZ h2 TI (.ref i1)^.ref i2:=kk _ _ hTI st.ti;refine#[.ref s.heap.objs.size,_,I2,rfl,#[_,_,_,rfl,hT,rfl,No hi,No hj],#[b1,ti2,#[_,_,b2.extBut _ _ D.TOz a2],a3.eb b2.extBut D.i1z,a4.eb b2.extBut D.i2z],λc hc=>?_];have hcn:H c=k_:=(hf c hc).1
  have hlt:c≠s.heap.objs.size:=λz=>by
   obtain⟨o,ho,_⟩:∃o,s.heap.get? c=P3 o/\True:=by
    simp only[Uf,cb,or_false]at hc
    rcases hc with rfl|rfl|rfl|rfl|rfl
    .exact#[_,st.z,trivial]
    .exact#[_,st.ti,trivial]
    .exact#[_,e,trivial]
    .let#[o,q,_]:=st.i1.lies;exact#[o,q,trivial]
    .let#[o,q,_]:=st.i2.lies;exact#[o,q,trivial]
   rw[z]at ho;exact dC _^Tk ho
  rw[AL hlt];exact hcn
 done:=by
  intro X hP hw hK hc i zG s Z H E I hf st hg;subst hP hw hK;let#[ha,hb,hi]:=hg;let#[us,r1,q1]:=ha.at I;let#[ws,r2,q2]:=hb.at I;let#[p,q,e]:=st.to;have l1:=r1.length;have l2:=r2.length;refine MI (I.ok.hd hc) D st.z st.ti e st.i1 st.i2 q1 q2 (hi.imp (λhi=>by simp;lk) λhi=>by simp;lk) λh' kk=>#[rfl,?_];refine I.turnedL (t':=s.toks) (ch:=[z,TO,i1,i2]) (λc hc=>hf c ?_) λc o hc e=>?_
  .simp only[Uf,cb,or_false]at hc ⊢
   rcases hc with rfl|rfl|rfl|rfl <;>simp
  .simp only[Uf,cb,or_false,not_or]at hc
   exact kk c o hc.1 hc.2.1 hc.2.2.1 hc.2.2.2 e
 self:=λA i s Q E st h=>wpAny_pyIter_zip st.z h
section
variable {X:Cx}
def Xe(n a b:Nat)(h1:a<n)(h2:b<n):Y8 (n+4) (n+2) (n+3) n (n+1) a b:=by
 constructor <;>(grind)
def Xd(n:Nat):(n+2)∉[n+4,n+3,n,n+1]:=by
 grind
def Xf(n c:Nat)(h:c∈[n+4,n+2,n+3,n,n+1]):n<=c:=by
 grind
noncomputable def aw(K:Frag)(ta:TA):TI:=λZ H R=>ta Z H λvs H1=>∃zX zW a b xs ys,vs=[.ref a,.ref b]/\SqK zX K H1 a xs/\SqK zW K H1 b ys/\R (Y9 K zX zW a b xs ys) H1
def X_{e1 e2:cJ}{es:n_ cJ}{j:Nat}{tpos:Pos}{ta:TA}{p pos:Pos}(hg:Gl X "zip")(hm:X.mg "zip"=k_)(ha:PA X [e1,e2] ta)(hs:autoParam (starEach [e1,e2] X.env=[(m_,eval e1 X.env),(m_,eval e2 X.env)]) zau3._auto_1)(hs2:autoParam (starEach [e2] X.env=[(m_,eval e2 X.env)]) zau3._auto_1):
  PI X (.Tuple es j tpos) (.Call (.Name "zip" p) [e1,e2] [] pos) (aw X.K ta):=by
 intro zG s Z H R I h;refine Call_ (EB I hg hm boot_zip^dn (BF (ha pos zG s Z H _ I h) λus s1 #[vs,H1,I1,r1,q1]=>?_) (by rw[hs,hs2])^by rw[hs2];rfl);let#[zX,zW,a,b,xs,ys,e,h1,h2,q]:=q1;subst e;let#[u,v,rfl,ru,rv]:=vals2 r1;cases ru;cases rv;let#[us,r1',q1]:=h1.at I1;let#[ws,r2',q2]:=h2.at I1;have la:a<s1.heap.objs.size:=by let#[o,e]:=q1.lies;exact Tk e
 have lb:b<s1.heap.objs.size:=by let#[o,e]:=q2.lies;exact Tk e
 refine Me q1 q2 λh' hz hTI hTO hi1 hi2 hk=>?_;refine wpAny_pyIter_zip hz ?_;have D:=Xe s1.heap.objs.size a b la lb;refine#[s1.heap.objs.size+4,[s1.heap.objs.size+4,s1.heap.objs.size+2,s1.heap.objs.size+3,s1.heap.objs.size,s1.heap.objs.size+1],_,Y9 X.K zX zW a b xs ys,H1,rfl,I1.kept (t':=s1.toks) hk,S5 zX zW _ _ _ _ _ a b xs ys D^Xd s1.heap.objs.size,#[hz,hTI,#[_,_,hTO],hi1,hi2],λc hc=>?_,q];have hge:s1.heap.objs.size<=c:=Xf s1.heap.objs.size c hc;exact I1.fpOk hge^I1.hok.fresh hge
end
end L2
namespace Dp
open L2
noncomputable def He(ds es:n_ D):n_ D:=d_ (λd e=>.tup [d,e]) ds es
section
variable {K:Frag}
def TF{U V' M:Ch->Prop}{H:Hp}{d:D}{v:V}{ds:n_ D}(h:AtT K V' M H d v)(e:Im d=P3 ds)(uV:∀a,U a->V' a)(vM:∀a,V' a->M a):∃κ a vs,v=.ref a/\Ats K M H ds vs/\∀M' H',Pres M H M' H'->Ext U H H'->SqK κ K H' a vs:=by
 cases d with
 |lst xs=>
  cases e;let#[a,vs,e1,n1,hq,hs]:=h;refine#[l_,a,vs,e1,hs,λM' H' _ ex=>?_]
  rcases hq with hq|⟨o,hq⟩
  .exact .inl^.inl^ex.keep hq λz=>n1^uV a z
  .exact .inl^.inr #[o,ex.keep hq λz=>n1^uV a z]
 |tup xs=>
  cases e;let#[a,vs,e1,hq,hs]:=h;exact#[m_,a,vs,e1,hs,λM' H' pr _=>(hq.pres pr).sq]
 |_=>cases e
def TJ{M:Ch->Prop}{H:Hp}{d:D}{v:V}{ds:n_ D}(h:At K M H d v)(e:Im d=P3 ds):∃κ a vs,v=.ref a/\Ats K M H ds vs/\∀M' H',Pres M H M' H'->SqK κ K H' a vs:=by
 cases d with
 |lst xs=>
  cases e;let#[a,vs,e1,hq,hs]:=h;exact#[l_,a,vs,e1,hs,λM' H' pr=>(hq.pres pr).sq]
 |tup xs=>
  cases e;let#[a,vs,e1,hq,hs]:=h;exact#[m_,a,vs,e1,hs,λM' H' pr=>(hq.pres pr).sq]
 |_=>cases e
def Od{M:Ch->Prop}{H:Hp}{zX zW:Bool}{a b:Ch}{vs us:n_ V}{ds es:n_ D}(hs:Ats K M H ds vs)(ht:Ats K M H es us){i:Nat}{M':Ch->Prop}{H':Hp}(pr:Pres M H M' H')(h1:SqK zX K H' a vs)(h2:SqK zW K H' b us)(dom:∀a,M' a->∃o,H' a=P3 o):
  (∀d,(He ds es)[i]?=P3 d->(Y9 K zX zW a b vs us).go i H'/\∀x H2,(Y9 K zX zW a b vs us).yld i H' x H2->Grow H' H2/\At K M' H2 d x)/\((He ds es).length<=i->(Y9 K zX zW a b vs us).stop i H'):=by
 have l1:=hs.length;have l2:=ht.length;refine#[λd hd=>?_,λhl=>#[h1,h2,?_]]
 .unfold He at hd
  rw[iz]at hd;cases q1:ds[i]? with
  |none=>rw[q1]at hd;simp at hd
  | some d1=>
   cases q2:es[i]? with
   |none=>rw[q1,q2]at hd;simp at hd
   |some d2=>
    rw[q1,q2]at hd;have hd':D.tup [d1,d2]=d:=bz hd;have i1:i<ds.length:=(UF.mp q1).1;have i2:i<es.length:=(UF.mp q2).1;refine#[#[h1,h2,by lk,by lk],λx H2 y=>?_];let#[T,p,q,rfl,hT,rfl,e1,e2]:=y;let#[v1,f1,a1]:=(hs.pres pr).get q1;let#[v2,f2,a2]:=(ht.pres pr).get q2;rw[e1]at f1;rw[e2]at f2;cases f1;cases f2;subst hd';exact#[Ap hT,DH dom hT #[p,[q],rfl,a1,q,[],rfl,a2,rfl]]
 .unfold He at hl
  grind
end
section
variable {X:Cx}{e1 e2:Expr}{es:n_ Expr}{j:Nat}{tpos p pos:Pos}{ws:Dw}
noncomputable def ZC(ws:Dw):Dw:=λn ρ P=>ws n ρ λds n1=>∃d e xs ys,ds=[d,e]/\Im d=P3 xs/\Im e=P3 ys/\P (He xs ys) n1
def Yg(hg:Gl X "zip")(hm:X.mg "zip"=k_)(ha:XZ X [e1,e2] ws)(hs:autoParam (starEach [e1,e2] X.env=[(m_,eval e1 X.env),(m_,eval e2 X.env)]) zau3._auto_1)(hs2:autoParam (starEach [e2] X.env=[(m_,eval e2 X.env)]) zau3._auto_1):
  DI X (.Tuple es j tpos) (.Call (.Name "zip" p) [e1,e2] [] pos) (ZC ws):=by
 let#[t,a1,a2]:=ha;refine#[_,X_ hg hm a1 hs hs2,λC M H n ρ Z P Rr R w q=>?_];refine a2 C M H n ρ Z _ _ R w λvs H1 ds n1 ee f1 r1 p=>?_;let#[d,e,xs,ys,rfl,hd,he,p]:=p;let#[v,r,rfl,r1,v',r',rfl,r2,rr]:=r1;cases(show r'=[]from rr);let#[zX,a,us,rfl,h1,s1]:=TJ r1 hd;let#[zW,b,us',rfl,h2,s2]:=TJ r2 he;exact#[zX,zW,a,b,us,us',rfl,s1 M H1^Pres.refl _ _,s2 M H1^Pres.refl _ _,q _ H1 _ n1 ee f1 (λi M' H' pr dom=>Od h1 h2 pr (s1 M' H' pr) (s2 M' H' pr) dom) p]
noncomputable def au:D->o_ Key
 |.int i=>P3^.inl i
 |.str x=>P3^.inr x
 |_=>k_
noncomputable def LC:n_ D->o_^n_ Key
 |[]=>P3 []
 |d::ds=>match au d,LC ds with
  |some k,P3 ks=>P3 (k::ks)
  |_,_=>k_
theorem F6{K:Frag}{M:Ch->Prop}{H:Hp}:∀{ds:n_ D}{vs:n_ V}{ks:n_ Key},LC ds=P3 ks->Ats K M H ds vs->vs=ks.map kOf
 |[],vs,ks,e,h=>by cases e;exact h
 | d::ds,vs,ks,e,h=>by
  let#[v,r,e1,h1,h2]:=h;unfold LC at e
  split at e
  .rename_i k ks' hk hks
   cases e;rw[e1,F6 hks h2]
   congr 1
   cases d with
   |int i=>cases hk;exact h1
   |str x=>cases hk;exact h1.1
   |_=>cases hk
  .cases e
noncomputable def Ho(d e:D)(P:D->Prop):Prop:=match d,e with
 |.int i,.int j=>P^.bl (decide (i<j))
 |.str i,.str j=>P^.bl (decide (i.cps.toList<j.cps.toList))
 |.tup xs,.tup ys=>∃ks ls,LC xs=P3 ks/\LC ys=P3 ls/\Bk ks ls=l_/\P^.bl^Gi ks ls
 |_,_=>False
noncomputable def Za(K:Frag):R2:=λx y H Q=>X2 x y H Q\/ZZ K x y H Q
def JI{k:Nat}(hr:Room k X.A):OpR X (compareOp .Lt)^Za X.K:=op_ltU.or^YH hr.units0
def OR:El X.K .sh (Za X.K) Ho:=λU M H d e x y P Q dom vM hx hy w q=>by
 unfold Ho at w
 split at w
 .exact .inl^XU U M H _ _ x y P Q dom vM hx hy w q
 .exact .inl^XU U M H _ _ x y P Q dom vM hx hy w q
 .let#[ks,ls,h1,h2,h3,w]:=w
  let#[a,vs,rfl,ha,hs]:=hx.tup;let#[b,us,rfl,hb,ht]:=hy.tup;have e1:=F6 h1 hs;have e2:=F6 h2 ht;subst e1 e2;exact .inr #[a,b,ks,ls,rfl,rfl,ha.sq,hb.sq,h3,q _ H (.bl _) .refl rfl w]
 grind
end
end Dp
namespace L2
section
variable {prog:Program}{w:World}{A:Around}{E:Value->Shared->Prop}{s:Shared}
def NH{t sl:Ch}{items:Array Db}{vl vu:Db}{lo hi:o_ Int}{Q:Db->Go->Prop}(ht:IsTup s.heap t items)(hs:s.heap.IsSliceOf sl vl vu .none)(pl:gm vl lo)(pu:gm vu hi)
  (hw:HT.sIx items.size 0 lo=0/\HT.sIx items.size items.size hi=items.size) (h:Q (.ref t) s):wpAny (model prog w) A (getItem (.ref t)^.ref sl) Q E s:=by
 let#[os,hos,hcs,hds]:=id hs;have hTs:s.TypeIs (.ref sl) "slice":=#[os,hos,hcs];unfold getItem
 (try with_reducible refine dD ?_);(first|refine Cn^On ?_|skip)
 refine Cn^wpAny_sequenceKey ht.typeIs (by cbv)^Cn^c6 (name:=dY "__getitem__") ht.typeIs c7^dP c7 ht.typeIs entry_tuple_getitem ?_^args_tuple_getitem _ _;show wpAny (model prog w) _ (iC^.ref t >>=_) _ _ s;refine Cn^tupleItemsOf_ ht^Cn^f_ hTs ?_;rw[if_pos^by cbv]
 refine Cn^HT.sliceApplied_gen hs pl pu ?_;have hyes:(((HT.sIx items.size 0 lo:Nat):Int)==0&&(1:Int)==1&&(HT.sIx items.size items.size hi - HT.sIx items.size 0 lo)==items.size)=l_:=by rw[hw.1,hw.2];simp
 show wpAny (model prog w) _ (if(((HT.sIx items.size 0 lo:Nat):Int)==0&&(1:Int)==1&&(HT.sIx items.size items.size hi - HT.sIx items.size 0 lo)==items.size)=l_ then _ else _) _ _ s;rw[if_pos hyes];refine Cn (m:=iE _) ?_;unfold iE;refine Cn^f_ ht.typeIs^On ?_;show wpAny (model prog w) _ (if((cx "tuple"==cx "tuple")=l_)then _ else _) _ _ s;rw[if_pos^by cbv]
 first
  |grind
  |exact Cn^gH^On #[_,rfl,On h]
  |grind
end
section
variable {X:Cx}
noncomputable def Wy(K:Frag):V->o_ Int->o_ Int->Hp->VK->Prop:=λx lo hi H Q=>∃a xs,x=.ref a/\SqT K H a xs/\(HT.sIx xs.length 0 lo=0/\HT.sIx xs.length xs.length hi=xs.length)/\Q (.ref a) H
def Ve:SlR X^Wy X.K:=by
 intro zG s Z H x v vl vu lo hi sl Q I rx hs pl pu h;let#[a,xs,rfl,hx,hw,q]:=h;cases rx;let#[its,r,ht,hz]:=I.tuple hx;have hlen:=r.length.symm;exact#[_,_,c7.lookup,ht.typeIs,NH ht hs pl pu (by grind) #[.ref a,H,I,rfl,q]]
end
section
variable {X:Cx}
noncomputable def To(K:Frag):R2:=λx y H Q=>∃a b ys,x=.ref a/\y=.ref b/\SqT K H a []/\SqT K H b ys/\Q (.ref b) H
def UH:OpR X (binaryOp .Add)^To X.K:=by
 intro zG s Z H x y v u Q I rx ry h;let#[a,b,ys,rfl,rfl,ha,hb,q]:=h;cases rx;cases ry;let#[its,r1,p1,_]:=I.tuple ha;let#[its2,r2,p2,_]:=I.tuple hb;cases r1;let#[#[cls,dd,data,sl],ho,hc,n,hd]:=id p1;let#[#[cls2,dd2,data2,sl2],ho2,hc2,n2,hd2]:=id p2;subst hc hd hc2 hd2;exact concat_meets #[_,ho,rfl] #[_,ho2,rfl] iS seq_tuple_add PySem.F.slot_tuple_add PySem.F.entry_tuple_add (PySem.F.args_tuple_add_2 _ _) (tuple_addW0 a b _ _ n n2 dd _ sl _^by simp) #[ho,ho2,#[.ref b,H,I,rfl,q]]
noncomputable def bI(b:Bool):Int:=if b=l_ then 1 else 0
noncomputable def aO(g:Int->Int->Int):R2:=λx y H Q=>∃k j,x=.bl k/\y=.int j/\Q (.int^g (bI k) j) H
noncomputable def bR(g:Int->Int->Int):R2:=λx y H Q=>∃i k,x=.int i/\y=.bl k/\Q (.int^g i^bI k) H
def op_add_bi:OpR X (binaryOp .Add) (aO λi j=>i+j):=by
 intro zG s Z H x y v u Q I rx ry h;let#[k,j,rfl,rfl,q]:=h;cases rx;let#[t,rfl]:=ry;exact PySem.IntBool.add_bool_int #[.int _,H,I.tok _,#[_,rfl],q]
def op_sub_bi:OpR X (binaryOp .Sub) (aO λi j=>i - j):=by
 intro zG s Z H x y v u Q I rx ry h;let#[k,j,rfl,rfl,q]:=h;cases rx;let#[t,rfl]:=ry;exact PySem.IntBool.sub_bool_int #[.int _,H,I.tok _,#[_,rfl],q]
def Rf:OpR X (binaryOp .Sub) (bR λi j=>i - j):=by
 intro zG s Z H x y v u Q I rx ry h;let#[i,k,rfl,rfl,q]:=h;let#[t,rfl]:=rx;cases ry;exact PySem.IntBool.sub_int_bool #[.int _,H,I.tok _,#[_,rfl],q]
end
end L2
namespace Dp
open L2
section
variable {K:Frag}{X:Cx}
noncomputable def BZ(d e:D)(P:D->Prop):Prop:=match d,e with
 |.int i,.int j=>P^.int (i+j)
 |.bl k,.int j=>P^.int (bI k+j)
 |.str i,.str j=>i.length+j.length<=sizeLine/\P^.str (i++j)
 |.tup i,.tup j=>i.length+j.length<=sizeLine/\P^.tup (i++j)
 |.lst i,.lst j=>i.length+j.length<=sizeLine/\P^.lst (i++j)
 |_,_=>False
noncomputable def W9(K:Frag):R2:=λx y H Q=>Tq K x y H Q\/(aO λi j=>i+j) x y H Q\/To K x y H Q
def Bw:OpR X (binaryOp .Add)^W9 X.K:=op_addU.or^op_add_bi.or UH
def CU:El X.K .sh (W9 X.K) BZ:=λU M H d e x y P Q dom vM hx hy w q=>by
 unfold BZ at w
 split at w
 .exact .inl^Mi U M H (.int _) (.int _) x y P Q dom vM hx hy w q
 .rename_i k j
  exact .inr^.inl #[k,j,hx,hy,q _ H (.int _) .refl rfl w]
 .exact .inl^Mi U M H _ (.str _) x y P Q dom vM hx hy w q
 .rename_i i j
  cases i with
  |nil=>
   let#[a,vs,rfl,ha,hs]:=hx.tup;let#[b,us,rfl,hb,ht]:=hy.tup;cases(hs);exact .inr^.inr #[a,b,us,rfl,rfl,ha.sq,hb.sq,q _ H (.tup j) .refl #[b,us,rfl,hb,ht]^by grind]
  |cons i0 i=>exact .inl^Mi U M H _ (.tup j) x y P Q dom vM hx hy #[(by grind),w] q
 .exact .inl^Mi U M H (.lst _) (.lst _) x y P Q dom vM hx hy w q
 grind
noncomputable def HS(d e:D)(P:D->Prop):Prop:=match d,e with
 |.int i,.int j=>P^.int (i - j)
 |.bl k,.int j=>P^.int (bI k - j)
 |.int i,.bl k=>P^.int (i - bI k)
 |_,_=>False
noncomputable def Ww:R2:=λx y H Q=>(Hf λi j=>.int (i - j)) x y H Q\/(aO λi j=>i - j) x y H Q\/(bR λi j=>i - j) x y H Q
def L6:OpR X (binaryOp .Sub) Ww:=op_sub.or^op_sub_bi.or Rf
def Pt:El K .sh Ww HS:=λU M H d e x y P Q dom vM hx hy w q=>by
 unfold HS at w
 split at w
 .exact .inl^VH U M H _ _ x y P Q dom vM hx hy w q
 .rename_i k j
  exact .inr^.inl #[k,j,hx,hy,q _ H (.int _) .refl rfl w]
 .rename_i i k
  exact .inr^.inr #[i,k,hx,hy,q _ H (.int _) .refl rfl w]
 grind
noncomputable def Ul(d:D)(lo hi:o_ Int)(P:D->Prop):Prop:=match d with
 |.str z=>P^.str^Txt.slice z lo hi
 |.lst xs=>P^.lst^cutD xs lo hi
 |.tup xs=>P^.tup^cutD xs lo hi
 |_=>False
noncomputable def ZW(K:Frag):V->o_ Int->o_ Int->Hp->VK->Prop:=λx lo hi H Q=>ZT x lo hi H Q\/ZV K x lo hi H Q\/ZU K x lo hi H Q\/Wy K x lo hi H Q
def Xw:SlR X^ZW X.K:=sl_U.or^sl_list.or^sl_tup.or Ve
def Qs{M:Ch->Prop}{H:Hp}{ds:n_ D}{vs:n_ V}(lo hi:o_ Int)(h:Ats K M H ds vs):Ats K M H (cutD ds lo hi)^OB vs lo hi:=by
 unfold cutD OB;rw[h.length];exact(h.drop _).take _
def VE:bX K .sh (ZW K) Ul:=by
 intro U M H d x lo hi P Q dom vM hx w q;unfold Ul at w
 split at w
 .rename_i z
  exact .inl #[z,hx.str.1,hx.str.2,q _ H (.str^Txt.slice z lo hi) .refl #[rfl,cG (Txt.slice_le z lo hi) hx.str.2] w]
 .rename_i xs
  let#[a,vs,rfl,_,ha,hs]:=hx;exact .inr^.inl #[a,vs,rfl,.inl ha,λp hp=>q _ _ (.lst _) (Ap hp) ((CP (U:=U) hp^Qs lo hi hs).shOf dom^by grind) w]
 .rename_i xs
  let#[a,vs,rfl,ha,hs]:=hx.tup
  by_cases hw:HT.sIx vs.length 0 lo=0/\HT.sIx vs.length vs.length hi=vs.length
  .refine .inr^.inr^.inr #[a,vs,rfl,ha.sq,hw,?_]
   have e:cutD xs lo hi=xs:=by
    unfold cutD;rw[←hs.length,hw.1,hw.2,List.drop_zero,Nat.sub_zero,hs.length,iU]
   rw[e]at w;exact q _ H (.tup xs) .refl #[a,vs,rfl,ha,hs] w
  .exact .inr^.inr^.inl #[a,vs,rfl,ha.sq,hw,λp hp=>q _ _ (.tup _) (Ap hp) (DH dom hp^Qs lo hi hs) w]
 grind
end
end Dp
namespace Nt
open L2 Dp
noncomputable def BN:W2:=λss n P=>∃m:Int,ss=[.fd,.sh^.int m]/\1<=m/\m<1073741824/\1<=n.n/\∀r:Int,0<=r->r<m->P (.int r) (n - 1)
end Nt
namespace K67
open L2 Dp Nt
noncomputable def top(i:Nat):cS:=PySem.Challenge.pw_thinnet_k67_keepers_deeds.main.body.getD i^.Pass #[0,0,0,0]
noncomputable def Dn(j:Nat)(s:cS):cS:=match s with
 |.ClassDef _ _ _ b _ _ _ _ _ _ _=>b.getD j^.Pass #[0,0,0,0]
 |_=>.Pass #[0,0,0,0]
noncomputable abbrev K0:cS:=top 10
noncomputable abbrev Iu:cS:=top 11
noncomputable abbrev FJ:cS:=top 12
noncomputable abbrev TL:cS:=top 13
noncomputable abbrev Ky:cS:=top 14
noncomputable abbrev Iw:cS:=top 15
noncomputable abbrev G_:cS:=top 17
noncomputable abbrev Fe:cS:=top 18
noncomputable abbrev Fg:cS:=top 19
noncomputable abbrev Ws:cS:=top 20
noncomputable abbrev NS:cS:=top 22
noncomputable abbrev HA:cS:=top 24
noncomputable abbrev Iv:cS:=top 25
noncomputable abbrev Kz:cS:=top 26
noncomputable abbrev D6:cS:=top 30
noncomputable abbrev Cv:cS:=top 31
noncomputable abbrev Fk:cS:=top 32
noncomputable abbrev Eo:cS:=top 33
noncomputable abbrev Er:cS:=top 34
noncomputable abbrev Fh:cS:=top 35
noncomputable abbrev HC:cS:=top 36
noncomputable abbrev Fj:cS:=top 37
noncomputable abbrev Fi:cS:=top 38
noncomputable abbrev D4:cS:=top 39
noncomputable abbrev Ep:cS:=top 40
noncomputable abbrev HD:cS:=top 41
noncomputable abbrev K3:cS:=top 42
noncomputable abbrev DA:cS:=Dn 1^top 28
noncomputable abbrev Eu:cS:=Dn 5^top 28
noncomputable abbrev Ci:cS:=Dn 2^top 28
noncomputable abbrev Fo:cS:=Dn 11^top 28
noncomputable abbrev HF:cS:=Dn 6^top 28
noncomputable abbrev CA:cS:=Dn 3^top 28
noncomputable abbrev Fn:cS:=Dn 7^top 28
noncomputable abbrev CM:cS:=Dn 4^top 28
noncomputable abbrev Et:cS:=Dn 8^top 28
noncomputable abbrev HB:cS:=top 43
noncomputable abbrev En:cS:=top 44
noncomputable abbrev HE:cS:=top 45
noncomputable abbrev C_:cS:=top 46
noncomputable abbrev A4:cS:=Dn 0^top 28
noncomputable abbrev Fl:cS:=Dn 9^top 28
noncomputable abbrev Es:cS:=Dn 10^top 28
noncomputable abbrev Iy:cS:=top 47
structure Txt (K:Frag) (mg:Str->Option Db):Prop where
 Gam:mg "all"=k_
 Gag:mg "isinstance"=k_
 Gad:mg "len"=k_
 Gal:mg "list"=k_
 Gaj:mg "max"=k_
 Gah:mg "min"=k_
 Gai:mg "range"=k_
 Gab:mg "repr"=k_
 Gak:mg "reversed"=k_
 Gaa:mg "sorted"=k_
 Gan:mg "str"=k_
 Gac:mg "tuple"=k_
 Gao:mg "zip"=k_
 Gae:∃t,mg "MOST_PLACES"=P3 (.int 24 t)
 Gaf:∃t,mg "MOST_TIES"=P3^.int 60 t
section
variable {P:Program}{w:World}{K:Frag}{mg:Str->o_ Value}{base:Heap}
def jC:AZ ["_law_feed_here","_law_many","_law_digit","_law_at","_law_cell","_law_first"] ["_law_feed_here","_law_many"]^AJ Cv:=#[rfl,rfl,rfl,by decide +kernel,rfl,by decide +kernel,by decide +kernel]
def V1{f:Ch}{fd:cv}(F:Fun K "_law_next" "_law_next" Cv f fd)(ml:mg "len"=k_):FnOk P w K mg base Fb 1 f fd ["_law_feed_here","_law_many"]^RE K .sh BN 2:=by
 refine F.ok jC (λvs H Q E h=>h.1) λcdv A outer s H vs Q E hr h=>?_;let#[hl,F0,U,V',M,n,ss,Pd,ra,#[m,rfl,hm1,hm2,hn,hP],q]:=h;let#[dom,fU,uV,vM,fd0,pa]:=ra;cases pa with
 |cons r1 pa=>
 cases pa with
 |cons r2 pa=>
 cases pa;let#[#[f0,c],e0,hF]:=r1.1;cases e0;let#[v2,e2,h2]:=r2.1;cases e2;cases(show _=V.int m from h2);let#[a,r,cells,hf,hcf,hc,hcl,ha0,han]:=fd0.1 (f0,c) hF
 have fin:∀(a' r' z:Int) (H':Hp),(∀b o,H b=P3 o->b≠f0->H' b=P3 o)->H' f0=P3^.lst [.ref c,.int a',.int r']->0<=a'->a'<=a+1->0<=z->z<m->Q (.int z) H':=by
  intro a' r' z H' hk' hf' h0 h1 hz0 hz1;refine q (.int z) H' (.int z) (n - 1) (λb o e=>?_) #[λg hg=>?_,λb k hk=>(fd0.2 b k hk).to (λ_ _ z=>z) (λb vs e=>hk' b _ e λz=>by rw[z,hf]at e;cases e) (λb o e=>if z:b=f0 then#[_,z▸hf']else#[o,hk' b o e z]) λu e=>hk' b _ e λz=>by rw[z,hf]at e;cases e] rfl (hP z hz0 hz1)
  .by_cases hb:b=f0
   .subst hb
    exact#[_,hf',λnu _=>absurd (fU (b,c) hF) nu,λvs z=>by rw[z,hf]at e;cases e]
   .exact#[o,hk' b o e hb,λ_ _=>rfl,λ_ _=>rfl]
  .have:g=(f0,c):=bz^hg.symm.trans hF
   subst this;exact#[a',r',cells,hf',hcf,#[hc.1,hk' c _ hc.2 hcf],hcl,h0,by have e:(n - 1:Sg).n=n.n - 1:=rfl;lk]
 have hu:(A.deeper^envOfC "_law_next" (AJ Cv) s.heap.objs.size f cdv).units<cLine:=hr.units0;have hsq:∀{H':Hp}{xs:n_ V},H' f0=P3^.lst xs->SqL K H' f0 xs:=λh=>SqL.of h;have ed:∀z:Int,0<=z % m/\z % m<m:=λz=>#[ie _^by lk,h8 _^by lk]
 refine#[_,BI (Tw (Ft W_ (Dk ix_list (pv 0) Ax λ_ _=>rfl) Ax^Am _)
   (BI (D8 (i:=2) jC.nd rfl (ZB rfl) (Bl DV (Dk ix_list (pv 0) Ax λ_ _=>rfl)^pv 1))
   (BI (O_ (Bl L8 (Dk ix_list (pv 0) Ax λ_ _=>rfl)^pv 1)^PF (pv 0) Ax set_list)
   (Cw^FN^pv 2))) L1)
  (BI (D8 (i:=3) jC.nd rfl (ZB rfl) (Dk ix_list (pv 0) Ax λ_ _=>rfl))
  (BI (O_ (Bl op_add (pv 3) Ax)^PF (pv 0) Ax set_list)
  (BI (D8 (i:=4) jC.nd rfl (ZB rfl) (Nc (Ft (Rg hu) (Dk ix_list (pv 0) Ax λ_ _=>rfl) (PJ Ck)^Am _)
   (Dk ix_list (Dk ix_list (pv 0) Ax λ_ _=>rfl) (Bl DV (pv 3) (D9 BV rfl ml PySem.boot_len (Bp (Dk ix_list (pv 0) Ax λ_ _=>rfl) Ck))) λ_ _=>rfl) Ax))
  (BI (Tw (PW.pt^Tr (Ft Zo (pv 4) (Bl L7 Ax Ax)^Am _)^QM^Ft op_lt (pv 3) (D9 BV rfl ml PySem.boot_len (Bp (Dk ix_list (pv 0) Ax λ_ _=>rfl) Ck))^Am _)
   (BI (O_ (Bl L8 (pv 4)^pv 1)^PF (pv 0) Ax set_list)
   (Cw^FN^Bl DV (pv 4)^pv 1)) L1)
  (BI (D8 (i:=5) jC.nd rfl (ZB rfl) (Bl DV (Bl op_mul (Bl op_add (Bl op_add (Bl op_add (Bl DV (pv 4) Ax)^Bl op_mul (Bl op_mul Ax^pv 3)^pv 3)^Bl op_mul Ax^pv 3) Ax) Ax) Ax))
  (Cw^FN^Bl DV (Bl L8 (Bl DV (Bl op_mul (Bl op_add (pv 5)^Bl op_mul Ax^pv 3) Ax) Ax) Ax)^pv 1)))))),?_]
 refine#[_,rfl,f0,_,2,_,rfl,rfl,hsq hf,rfl,_,_,rfl,rfl,_,rfl,?_];refine Du (λc1=>?_) λc1=>?_
 .refine#[_,rfl,f0,_,2,_,rfl,rfl,hsq hf,rfl,_,rfl,_,_,rfl,rfl,(by show(0:Int)<m;lk),?_]
  refine#[_,rfl,f0,_,2,_,rfl,rfl,hsq hf,rfl,_,rfl,_,_,rfl,rfl,#[(by show(0:Int)<m;lk),hm2],_,rfl,f0,_,2,2,rfl,rfl,hf,rfl,?_];refine#[_,rfl,?_];exact fin a _ _ _ (λb o e hb=>by rw[AL hb];exact e) AM ha0 (by lk) (ed _).1 (ed _).2
 ·-- at=feed[1];feed[1]=at+1
  refine#[_,rfl,f0,_,1,_,rfl,rfl,hsq hf,rfl,?_];refine#[_,rfl,_,_,rfl,rfl,_,rfl,f0,_,1,1,rfl,rfl,hf,rfl,?_];generalize hH1:Aq H f0^.lst^[V.ref c,V.int a,V.int r].set 1^V.int (a+1)=H1;have f1:H1 f0=P3^.lst [.ref c,.int (a+1),.int r]:=by rw[←hH1];exact AM
  have k1:∀b o,H b=P3 o->b≠f0->H1 b=P3 o:=λb o e hb=>by rw[←hH1,AL hb];exact e
  have c1':H1 c=P3^.lst^cells.map V.int:=k1 c _ hc.2 hcf
  have rest:∀(z:Int) (H2:Hp),(∀b o,H1 b=P3 o->H2 b=P3 o)->
    (RB (ZJ (ZP (S7^C6 (Hf λi j=>V.bl (decide (j<=i))) (Bu 4)^C6 (rI Oc λi j=>V.int (i ^ j.toNat)) (tC^V.int 10)^tC^V.int 18)^S7^C6 (Hf λi j=>V.bl (decide (i<j))) (Bu 3)^ZN (λxs H Q=>∃x n,xs=[x]/\Y2 K x H n/\Q (V.int n) H)^QD (C6 (X3 K) (Bu 0)^tC^V.int 0) RC) (RB (NL (C6 (rI Wj λi j=>V.int (i / j)) (Bu 4)^Bu 1)^Zw (Bu 0) (tC^V.int 2) Wz)^Vb^C6 (rI (λ_ j=>0<j) λi j=>V.int (i % j)) (Bu 4)^Bu 1) Wp)^RB (NL (C6 (rI (λ_ j=>0<j) λi j=>V.int (i % j)) (C6 (rI CMul λi j=>V.int (i*j)) (C6 (Hf λi j=>V.int (i+j)) (C6 (Hf λi j=>V.int (i+j)) (C6 (Hf λi j=>V.int (i+j)) (C6 (rI (λ_ j=>0<j) λi j=>V.int (i % j)) (Bu 4)^tC^V.int 1000003)^C6 (rI CMul λi j=>V.int (i*j)) (C6 (rI CMul λi j=>V.int (i*j)) (tC^V.int 41)^Bu 3)^Bu 3)^C6 (rI CMul λi j=>V.int (i*j)) (tC^V.int 17)^Bu 3)^tC^V.int 3)^tC^V.int 51749)^tC^V.int 999917)^HR 5)^Vb^C6 (rI (λ_ j=>0<j) λi j=>V.int (i % j)) (C6 (rI Wj λi j=>V.int (i / j)) (C6 (rI (λ_ j=>0<j) λi j=>V.int (i % j)) (C6 (rI CMul λi j=>V.int (i*j)) (C6 (Hf λi j=>V.int (i+j)) (Bu 5)^C6 (rI CMul λi j=>V.int (i*j)) (tC^V.int 8111)^Bu 3)^tC^V.int 39373)^tC^V.int 2097143)^tC^V.int 3)^Bu 1)
     {nx:=λ_ H'=>Q .non H',rt:=Q} [P3^.ref f0,P3^.int m,k_,P3^.int a,P3^.int z,k_] H2:=by
   intro z H2 k2;have f2:=k2 _ _ f1;have c2:=k2 _ _ c1'
   have lastWay:∀H3:Hp,H3=H2->(RB (NL (C6 (rI (λ_ j=>0<j) λi j=>V.int (i % j)) (C6 (rI CMul λi j=>V.int (i*j)) (C6 (Hf λi j=>V.int (i+j)) (C6 (Hf λi j=>V.int (i+j)) (C6 (Hf λi j=>V.int (i+j)) (C6 (rI (λ_ j=>0<j) λi j=>V.int (i % j)) (Bu 4)^tC^V.int 1000003)^C6 (rI CMul λi j=>V.int (i*j)) (C6 (rI CMul λi j=>V.int (i*j)) (tC^V.int 41)^Bu 3)^Bu 3)^C6 (rI CMul λi j=>V.int (i*j)) (tC^V.int 17)^Bu 3)^tC^V.int 3)^tC^V.int 51749)^tC^V.int 999917)^HR 5)^Vb^C6 (rI (λ_ j=>0<j) λi j=>V.int (i % j)) (C6 (rI Wj λi j=>V.int (i / j)) (C6 (rI (λ_ j=>0<j) λi j=>V.int (i % j)) (C6 (rI CMul λi j=>V.int (i*j)) (C6 (Hf λi j=>V.int (i+j)) (Bu 5)^C6 (rI CMul λi j=>V.int (i*j)) (tC^V.int 8111)^Bu 3)^tC^V.int 39373)^tC^V.int 2097143)^tC^V.int 3)^Bu 1)
     {nx:=λ_ H'=>Q .non H',rt:=Q} [P3^.ref f0,P3^.int m,k_,P3^.int a,P3^.int z,k_] H3:=by
    intro H3 e3;subst e3;have hb:CMul (41*a) a:=.inr #[by lk,by lk];refine#[_,rfl,_,_,rfl,rfl,(by show(0:Int)<1000003;decide),_,rfl,_,_,rfl,rfl,.inl #[by cbv,by cbv],_,rfl,_,_,rfl,rfl,hb,_,_,rfl,rfl,_,rfl,_,_,rfl,rfl,.inl #[by cbv,by cbv],_,_,rfl,rfl,_,_,rfl,rfl,_,_,rfl,rfl,.inr #[by cbv,by cbv],_,_,rfl,rfl,(by show(0:Int)<999917;decide),?_];refine#[_,rfl,_,rfl,_,_,rfl,rfl,.inl #[by cbv,by cbv],_,_,rfl,rfl,_,_,rfl,rfl,.inr #[by cbv,by cbv],_,_,rfl,rfl,(by show(0:Int)<2097143;decide),_,_,rfl,rfl,#[by cbv,by cbv],_,rfl,_,_,rfl,rfl,(by show(0:Int)<m;lk),?_];exact fin (a+1) r _ _ (λb o e hb=>k2 b o^k1 b o e hb) f2 (by lk) (by lk) (ed _).1 (ed _).2
   refine#[_,rfl,_,_,rfl,rfl,#[by cbv,by cbv,by cbv],_,_,rfl,rfl,_,rfl,?_];refine Du (λc3=>?_) λc3=>?_
   .refine#[_,rfl,_,rfl,f0,_,0,_,rfl,rfl,hsq f2,rfl,_,_,rfl,.inl #[_,SqL.of c2,rfl],_,_,rfl,rfl,_,rfl,?_]
    refine Du (λc4=>?_) λc4=>lastWay H2 rfl;refine#[_,rfl,_,rfl,_,_,rfl,rfl,#[(by show(0:Int)<m;lk),hm2],_,rfl,f0,_,2,2,rfl,rfl,f2,rfl,?_];refine#[_,rfl,_,rfl,_,_,rfl,rfl,(by show(0:Int)<m;lk),?_];exact fin (a+1) _ _ _ (λb o e hb=>by rw[AL hb];exact k2 b o^k1 b o e hb) AM (by lk) (by lk) (ed _).1 (ed _).2
   .refine Du (λc4=>absurd c4^by simp) λ_=>lastWay H2 rfl
  refine#[_,rfl,f0,_,0,_,rfl,rfl,hsq f1,rfl,(by show 0<=sizeLine;decide),λp hp=>?_];have kp:∀b o,H1 b=P3 o->Aq H1 p (.lst []) b=P3 o:=λb o e=>by rw[AL^Ah e hp];exact e
  refine#[c,p,_,rfl,rfl,SqL.of^kp _ _ c1',SqL.of AM,_,rfl,?_];cases cells with
  |nil=>exact Ce^rest 0 _ kp
  | cons z0 cs=>
   refine Dt ?_;have hlen:(((z0::cs).map V.int).length:Int)=(cs.length:Int)+1:=by simp
   have hpos:(0:Int)<(((z0::cs).map V.int).length:Int):=by lk
   obtain⟨z,hz⟩:∃z,atI ((z0::cs).map V.int) (a % (((z0::cs).map V.int).length:Int))=P3^.int z:=by
    have h1:=ie a (show(((z0::cs).map V.int).length:Int)≠0 by lk);have h2:=h8 a hpos;generalize a % (((z0::cs).map V.int).length:Int)=j at h1 h2;obtain⟨k,rfl⟩:∃k:Nat,j=(k:Int):=#[j.toNat,by lk];have hk:k<(z0::cs).length:=by rw[FM]at h2;lk
    refine#[(z0::cs)[k],AH ?_];rw[XV,No hk];rfl
   refine#[_,rfl,f0,_,0,_,rfl,rfl,hsq^kp _ _ f1,rfl,_,rfl,_,rfl,f0,_,0,_,rfl,rfl,hsq^kp _ _ f1,rfl,_,_,rfl,.inl #[_,SqL.of^kp _ _ c1',rfl],_,_,rfl,rfl,hpos,c,_,_,_,rfl,rfl,SqL.of^kp _ _ c1',hz,?_];exact rest z _ kp
end
end K67
namespace Nt
open L2 Dp
noncomputable def cs(x:Str):n_ Nat:=x.cps.toList
def Yl{x y:Str}(h:cs x=cs y):x=y:=by
 let#[a]:=x;unfold cs at h
 simp_all
noncomputable def JU(x:Str):Prop:=1<=x.length/\x.length<=8/\∀c∈cs x,97<=c/\c<=122
noncomputable def rising(xs:n_ Str):Prop:=xs.Pairwise λx y=>cs x<cs y
def UM(a b:n_ Nat):ltCps a b=decide (a<b):=ltCps_eq a b
theorem HL:∀(l:n_ Str) (p:Str),risingS p l=l_->(p::l).Pairwise λa b=>¬cs b<cs a
 |[],p,_=>iY _ _
 |x::r,p,h=>by
  have h':(!ltCps _ _&&risingS x r)=l_:=h;rw[cP,iK,UM,decide_eq_false_iff_not]at h';have ih:=HL r x h'.2;refine cw.mpr #[λy hy=>?_,ih]
  rcases Uf.mp hy with rfl|hy
  .exact h'.1
  .exact List.le_trans h'.1^(cw.mp ih).1 y hy
def C2{l:n_ Str}(h:sortedS l=l_)(nd:l.Nodup):rising l:=by
 have hp:l.Pairwise λa b=>¬cs b<cs a:=by
  cases l with
  |nil=>simp_all
  |cons x r=>exact HL r x h
 exact(hp.and nd).imp λ{a b} #[h1,h2]=>Classical.byContradiction λh3=>h2^Yl^List.le_antisymm h1 h3
def Fp(lo:Int)(n:Nat):(Ls lo n).length=n:=by unfold Ls;grind
def TQ{lo:Int}{n:Nat}{d:D}(h:d∈Ls lo n):∃k:Nat,k<n/\d=.int (lo+k):=by
 let#[k,hk,rfl]:=TM.mp h;exact#[k,eB.mp hk,rfl]
end Nt
namespace Dp
open L2
section
variable {X:Cx}
def SF{k:Nat}{ps:n_ Str}{κ:Kd}{W:W2}{x:Str}{p pos:Pos}(G:Got X.prog X.w X.K X.mg X.base x k ps κ W)
  (hr:Room k X.A) (hg:Gl X x) (hdb:autoParam ((x==("__debug__":Str))=m_) zau1._auto_1):DE X (.Call (.Name x p) [] [] pos) κ^Aa W AS:=by
 let#[f,fd,G,hm,hk,hb,hW]:=G;refine#[_,T9 G hr hg hm hk hb .nil JG hdb,λC M H n ρ Z P Q R w q=>?_];show RE X.K κ W ps.length ([]++[]) H Q E0;rw[cX];refine#[hW _ _ _ w,C.F,C.U,C.V,M,n,[],P,#[R.dom,R.fU,R.uV,R.vM,R.feed,.nil],w,λv H2 d n2 e2 f2 r2 p2=>?_];exact q v H2 d n2 e2 f2 r2 p2
end
end Dp
namespace L2
section
variable {X:Cx}{tg elt iter:Expr}{ifs:n_ Expr}{sc:Scope}{pos spos pos':Pos}{N':n_ Str}{js:n_^o_ Nat}{wi:TI}{i:Nat}{x:Str}
def Vl(hc:X.calm=l_)(N':n_ Str)(js:n_^o_ Nat)(hi:PI X tg iter wi)
  (hB:HW sc X.env.scope X.N N' js=l_) (hN:X.N.Nodup) (hix:X.N[i]?=P3 x) (hx:Loc X.env.scope x)
  (hsw:swapsWith (.ListComp elt [#[tg,iter,ifs,0]] sc pos) (P3^.Name x pos') spos.line X.env=pure l_)
  (hs:autoParam (∀x,foldedSetIterable iter X.env x=pure x) zau2._auto_1)
  (hf:autoParam (X.fn x=l_\/X.env.scope.names.lookup x=P3 .local) zau0._auto_1):
  PS X (.Assign [.Name x pos'] (.ListComp elt [#[tg,iter,ifs,0]] sc pos) spos) (NL (S8 X sc N' js tg elt ifs wi)^HR i):=by
 intro zG s Z H D I h;have O:CompOk X sc N' js:=CompOk.of hB;let#[cl,hclos,hcl,hcl2]:=Jq (scope:=sc) (env:=X.env) λx hx=>I.ok.has x^O.free x hx;rw[exec_Assign_Name_used _ _ _ _ hsw];refine Cn^wpAny_standAt^Cn ?_;show wpAny _ _ (do let _ ←comprehension (.ListComp elt [#[tg,iter,ifs,0]] sc pos) sc X.env _ (newList []) m_ (eval iter X.env)^P3^assign (.Name x pos') X.env) _ _ s
 refine Cn (c9 (wpAny_comprehension_free (Q:=λ_ s'=>SP X zG D .next s') (use:=P3^assign (.Name x pos') X.env) rfl hs hclos O.kind O.names (BF (hi zG s Z H _ I h) λv s1 h1=>BF h1 λitv s2 h2=>?_))
  (λ_ s' hq=>On^On hq) λ_ _ e=>e)
 let#[it,fp,tn,J,H2,e,I2,T,st2,f2,hq]:=h2;subst e
 have kfree:X.K.lookup s2.heap.objs.size=k_:=by
  cases q:X.K.lookup s2.heap.objs.size with
  |none=>rfl
  |some o=>exact absurd (Tk^I2.kIn _ _ q)^dC _
 let#[g,tt,te,W,hg,ht,he,#[m0,w0],hW]:=hq s2.heap.objs.size (I2.hok.fresh^Rs _) kfree cl (s2.heap.objs.size+1) s2 H2 fp;refine dI^wpAny_newFunctionEnv O.cell (by intro y hy;simp at hy) (λh₁ hns₁ hsb₁=>?_) O.kind
 dsimp only at hns₁ hsb₁ ⊢
 generalize hH2:s2.heap.push {cls:=.type "list",dict:=k_,data:=.seq ([]:n_ Db).toArray}=Hh at hns₁ hsb₁ ⊢;have hCe:Hh.objs.size=s2.heap.objs.size+1:=by rw[←hH2,dA]
 have hlt:∀b∈fp,b<s2.heap.objs.size:=λb hb=>by
  let#[o,e,_]:=T.obj _ _ st2 b hb;exact Tk e
 have old:∀b o,s2.heap.get? b=P3 o->h₁.get? b=P3 o:=λb o e=>hsb₁.extBut b o (by rw[hCe];exact b9^di^Tk e)^Ev _ (hH2▸Ev _ e);have hD:∃n,h₁.get? s2.heap.objs.size=P3 {cls:=.type "list",data:=.seq #[] n}:=#[_,hsb₁.extBut _ _ (by rw[hCe];exact b9^eQ _)^Ev _ (hH2▸Sc _ rfl)]
 have I3:∀tk,Inv (Ay X sc N' cl (s2.heap.objs.size+1) s2 H2 fp) [] (CH js Z) (Aq H2 s2.heap.objs.size^.lst []) {s2 with heap:=h₁,toks:=tk}:=λtk=>
  N1 I2 hc O hcl hcl2 f2 (λb hb=>let #[o,e,_]:=T.obj _ _ st2 b hb;#[o,e]) (by rw[←hCe];exact hns₁) old hD
 have st3:tn 0 h₁:=T.keep _ _ _ st2 λb hb o e=>old b o e
 have fr3:∀b∈fp,Aq H2 s2.heap.objs.size (.lst []) b=k_:=λb hb=>by
  rw[AL^b9^hlt b hb];exact(f2 b hb).1
 have loop:∀tk,codeAny (model X.prog X.w) X.A (.compLoop (.ListComp elt [#[tg,iter,ifs,0]] sc pos) 0 (.ref it) (.ref s2.heap.objs.size)^compEnvC sc cl (s2.heap.objs.size+1) X.env)
   (compPost (model X.prog X.w) X.A X.xe (P3^assign (.Name x pos') X.env) (λ_ s'=>SP X zG D .next s') (.ref s2.heap.objs.size) (s2.heap.objs.size+1)) {s2 with heap:=h₁,toks:=tk}:=λtk=>by
  refine LL (W:=W) (m0:=m0) (Q:=λv H1=>HR i v Z H1 λzO H2=>D.nx zO H2) I2 f2 hlt (c_ _) T hg ht he hW (λzZ H' s' J' q'=>?_) (I3 tk) st3 fr3 w0;let#[m,hn,_]:=J'.loc;have hCn:H' (s2.heap.objs.size+1)=k_:=J'.free;have I4:Inv X zG Z H' s':=JW (h':=s'.heap) I2 f2 (c_ _) J' λb _=>rfl;let#[g1,g2,g3,g4,g5,g6]:=I2.fpOk (b:=s2.heap.objs.size+1) (c_ _) hCn;show wpAny (model X.prog X.w) X.A (assign (.Name x pos') X.env^.ref s2.heap.objs.size) (λ_ s''=>∃m,s''.heap.Ns (s2.heap.objs.size+1) m/\∀h',eV (s2.heap.objs.size+1) s''.heap h'->SP X zG D .next {s'' with heap:=h'}) X.xe s';refine wpAny_assign_Name (Ku (v:=.ref s2.heap.objs.size) I4 hN hix hx rfl (λs5 I5 #[a,hsame,ha]=>?_) hf)
  have na:s2.heap.objs.size+1≠a:=by
   rcases ha with rfl|ha
   .exact g2
   .exact λz=>g5 _ _ ha z.symm
  refine#[m,hn.sameBut hsame na,λh' hs'=>?_];exact#[_,H',I5.turned (t':=s5.toks) (it:=s2.heap.objs.size+1) (λb o hb e=>hs'.extBut b o hb e) hCn g2 g4 g5 g6,q']
 rw[show(newEnv sc Hh.objs.size X.env.globals cl X.env.qual k_ .none (P3 X.env) builtinsNs).locals=s2.heap.objs.size+1 from hCe];show codeAny (model X.prog X.w) X.A (.compStart (.ListComp elt [#[tg,iter,ifs,0]] sc pos) 0 (.ref it) (.ref s2.heap.objs.size)^compEnvC sc cl (s2.heap.objs.size+1) X.env) _ _;exact codeAny_compStart_list (loop _)^T.self _ 0 _ _ _ st3^loop _
end
end L2
namespace Dp
open L2
section
variable {X:Cx}{zM:Kd}{tg elt iter:Expr}{ifs:n_ Expr}{sc:Scope}{pos:Pos}{src:Dw}{b:BW}{tt:Hd}{te:DW}
def U8(hc:X.calm=l_)(N':n_ Str)(js:n_^o_ Nat)(hi:ZA X tg iter src)(hg:∀cl C s H fp,DG (Ay X sc N' cl C s H fp) tg b)(ht:∀cl C s H fp,Y_ (Ay X sc N' cl C s H fp) ifs tt)(he:∀cl C s H fp,DE (Ay X sc N' cl C s H fp) elt zM te)
  (hB:HW sc X.env.scope X.N N' js=l_) (hk:autoParam (zM≠.tp) zau7._auto_1)
  (hs:autoParam (∀x,foldedSetIterable iter X.env x=pure x) zau2._auto_1):∃wi,PI X tg iter wi/\∀(C:Fm) (M:Ch->Prop) (H:Hp) (n:Sg) (ρ:n_ Slot) (Z:L2.St) (P:D->Sg->Prop) (Q:VK),Rel X.K C M H n ρ Z->CV js src b tt te n ρ P->
   (∀v H' d n',Ext C.U H H'->FeedC X.K C.F M H' n'->VR X.K C.V M H H' .fr v d->P d n'->Q v H')->S8 X sc N' js tg elt ifs wi Z H Q:=by
 let#[wi,a1,a2]:=hi;refine#[wi,a1,λC M H n ρ Z P Q R w q=>?_];refine a2 C M H n ρ Z _ _ R w λJ H1 ds n1 e1 f1 y w1=>?_;let#[hlen,w1]:=w1;have R1:=R.step e1 f1;intro l hl hkl cl Ca s0 H0 fp;let#[g,g1,g2]:=hg cl Ca s0 H0 fp;let#[tc,c1,c2]:=ht cl Ca s0 H0 fp;let#[tx,x1,x2]:=he cl Ca s0 H0 fp
 have noU:¬C.U l:=λz=>by
  let#[o,z]:=R1.udom l z;rw[hl]at z;cases z
 generalize hM':(λb=>M b\/b=l)=M';have M'l:M' l:=by rw[←hM'];exact .inr rfl
 have M'of:∀b,M b->M' b:=λb z=>by rw[←hM'];exact .inl z
 have ofM':∀b,M' b->M b\/b=l:=λb z=>by rw[←hM']at z;exact z
 have inV:∀b,C.V b\/b=l->M' b:=λb z=>z.elim (λz=>M'of b^R1.vM b z) λz=>by rw[z];exact M'l
 have lenj:js.length=N'.length:=EK (CompOk.of hB).cap
 refine#[g,tc,tx,λi m zZ H'=>m=ds.length - i/\i<=ds.length/\∃n' zY acc vs,Rel X.K #[M',C.F,C.U,λb=>C.V b\/b=l,H1,[],[]] M' H' n' zY zZ/\H' l=P3^.lst vs/\Ats X.K M' H' acc vs/\acc.length<=i/\Pres M H1 M' H' /\
   HM b tt te (λacc n2=>P (.lst acc) n2) (ds.drop i) acc n' zY,g1,c1,x1,#[ds.length,by simp,cB _,n1,F4 js ρ,[],[],?_],?_]
 .have gr:Grow H1^Aq H1 l^.lst []:=Ap hl
  have pr:Pres M H1 M'^Aq H1 l^.lst []:=#[λb o e _ _=>gr.all b o e,λb z=>(ofM' b z).elim .inl λz=>.inr (by rw[z];exact hl),λb vs e=>gr.all b _ e,λb o e=>#[o,gr.all b o e]];refine#[#[?_,λa z=>z,λa z=>?_,gr.ext,R1.fU,λa z=>.inl^R1.uV a z,inV,f1.pres pr (λf o _ e=>gr.all f.1 o e) λa u e=>gr.all a _ e,?_,λp hp=>absurd hp^by simp,λi d a q z=>Qb R1.sl q z,λi s a q o _=>absurd o (by rw[DY q];decide),λi j s t a q o _ _ _ _=>absurd o (by rw[DY q];decide),λp hp=>absurd hp^by simp],AM,rfl,cB _,pr,w1]
  .unfold F4 CH
   rw[FM,FM]
  .rcases ofM' a z with z|z
   .let#[o,z]:=R1.dom a z
    exact#[o,gr.all a o z]
   .subst z
    exact#[_,AM]
  .refine Np R1.sl pr λd v h=>h.same pr (λa o _ e=>gr.all a o e) λa e n1 z=>z.elim n1 λz=>?_
   subst e;let#[o,w]:=h.lies;rw[z,hl]at w;cases w
 .rintro i m zZ H' ⟨rfl,hi,n',zY,acc,vs,R',hlv,hac,hal,pr,w'⟩
  by_cases hlt:i<ds.length
  .have ed:ds.drop i=ds[i]::ds.drop (i+1):=eF hlt
   rw[ed]at w';let#[go,yl]:=(y i M' H' pr R'.ext R'.dom).1 ds[i] (No hlt);refine .inr #[go,λx H2 hy=>?_];let#[gr,hx]:=yl x H2 hy;have R2':=R'.step gr.ext^R'.feed.grow gr;refine g2 _ M' H2 n' zY zZ ds[i] x _ _ R2' hx w' λzQ zV R3 w3=>?_;refine c2 _ M' H2 n' zQ zV _ _ R3 w3 λc H4 n4 e4 f4 w4=>?_;have R4:=R3.step e4 f4;have p4:Pres M' H' M' H4:=gr.pres.trans^R3.pres e4;have l4:H4 l=P3^.lst vs:=e4.keep (gr.all _ _ hlv) noU;cases c with
   |false=>exact#[ds.length - (i+1),by lk,rfl,hlt,n4,zQ,acc,vs,R4,l4,hac.pres p4,by lk,pr.trans p4,w4]
   | true=>
    refine x2 _ M' H4 n4 zQ zV _ _ R4 w4 λyv H5 d5 n5 e5 f5 r5 w5=>?_;have R5:=R4.step e5 f5;have p5:Pres M' H4 M' H5:=R4.pres e5;have l5:H5 l=P3^.lst vs:=e5.keep l4 noU;have hy5:=r5.shOf R4.dom hk;have a5:=(hac.pres p4).pres p5;have pu:Pres M' H5 M'^Aq H5 l^.lst (vs++[yv]):=Cd M'l l5;have hvl:vs.length=acc.length:=hac.length;refine#[vs,l5,by rw[cZ];lk,ds.length - (i+1),by lk,rfl,hlt,n5,zQ,acc++[d5],vs++[yv],?_,AM,(a5.append^Ats.one hy5).pres pu,by rw[cj,dM];lk,(pr.trans p4).trans^p5.trans pu,w5];refine#[R5.len,R5.sub,λa z=>?_,λb o e=>?_,R5.fU,R5.uV,R5.vM,?_,λj s hs=>?_,λp hp=>absurd hp^by simp,R5.br0,R5.new,R5.two,λp hp=>absurd hp^by simp]
    .by_cases ha:a=l
     .subst ha;exact#[_,AM]
     .rw[AL ha];exact R5.dom a z
    .let#[o',q1,q2]:=R5.ext b o e
     by_cases hb:b=l
     .subst hb
      have e':H1 b=P3 o:=e;rw[hl]at e';cases e'
     .exact#[o',by rw[AL hb];exact q1,q2]
    .refine f5.pres pu (λf o hf e=>?_) λa u e=>by rw[AL λz=>by rw[z,l5]at e;cases e];exact e
     rw[AL λz=>noU^by rw[←z];exact R1.fU f hf];exact e
    .have hs5:=R5.sl j s hs
     cases s with
     |no=>trivial
     |sh d=>let#[v,e1,h2]:=hs5;exact#[v,e1,h2.pres pu]
     |ex a nm ks ds=>let#[e1,h2]:=hs5;exact#[e1,h2.pres pu]
     | br d=>
      let#[v,e1,h2]:=hs5;refine#[v,e1,h2.same pu (λa o z e=>?_) λ_ _ z=>z];subst z;let#[o3,w]:=R5.br0 j d a hs e1
      have hal:a≠l:=λz=>by
       have w':H1 a=P3 o3:=w;rw[z,hl]at w';cases w'
      rw[AL hal];exact e
     |ow d=>
      let#[a,e1,h2,_]:=hs5;exact absurd h2 (R5.new j _ a hs rfl e1).1
     |lt a d=>
      let#[e1,h2,_]:=hs5;exact absurd h2 (R5.new j _ a hs rfl e1).1
     |fd=>exact hs5
  .have e:i=ds.length:=by lk
   subst e;rw[fm]at w';refine .inl #[(y _ M' H' pr R'.ext R'.dom).2 (Rs _),?_];have eb:Ext C.U H1 H':=R'.ext;have less:Pres M' H' M H':=Pres.less M'of;refine q _ H' (.lst acc) n' (e1.trans eb) (R'.feed.pres less (λ_ _ _ z=>z) λ_ _ z=>z) (VR.back e1 ?_) w';exact#[l,rfl,hl,vs,hlv,by rw[hM'];exact hac]
def MW{κ:Kd}{i:Nat}{x:Str}{pos' spos:Pos}(hN:X.N.Nodup)(hix:X.N[i]?=P3 x)(hx:Loc X.env.scope x)(hc:X.calm=l_)(N':n_ Str)(js:n_^o_ Nat)(hi:ZA X tg iter src)(hg:∀cl C s H fp,DG (Ay X sc N' cl C s H fp) tg b)(ht:∀cl C s H fp,Y_ (Ay X sc N' cl C s H fp) ifs tt)(he:∀cl C s H fp,DE (Ay X sc N' cl C s H fp) elt zM te)
  (hB:HW sc X.env.scope X.N N' js=l_) (hsw:autoParam (swapsWith (.ListComp elt [#[tg,iter,ifs,0]] sc pos) (P3^.Name x pos') spos.line X.env=pure l_) zau3._auto_1) (hk:autoParam (zM≠.tp) zau7._auto_1)
  (hs:autoParam (∀x,foldedSetIterable iter X.env x=pure x) zau2._auto_1)
  (hf:autoParam (X.fn x=l_\/X.env.scope.names.lookup x=P3 .local) zau0._auto_1):DS X κ (.Assign [.Name x pos'] (.ListComp elt [#[tg,iter,ifs,0]] sc pos) spos)^Au i^CV js src b tt te:=by
 let#[wi,a1,a2]:=U8 hc N' js hi hg ht he hB hk hs;exact#[_,Vl hc N' js a1 hB hN hix hx hsw hs hf,λC M H n ρ Z D2 E R L w=>a2 C M H n ρ Z _ _ R w λv H' d n' e1 f1 r1 p=>L.nx M H' n' _ _ ((R.step e1 f1).set^r1.shOf R.dom^by grind) p]
end
noncomputable abbrev Fu(K:Frag)(x:Str)(st:cS)(f:Ch)(fd:cv):Prop:=Fun K x x st f fd
def GU{P:cH}{w:cN}{K:Frag}{mg:Str->o_ Db}{base:cA}{x:Str}{st:cS}{f:Ch}{fd:cv}{N ps:n_ Str}{k:Nat}{κ:Kd}{W:W2}{wb:Ac}(F:Fu K x st f fd)(S:AZ N ps^AJ st)
  (hb:∀{cdv:Db}{A:cW}{outer:n_ Env}{s:Go}{H:Hp}{E:XK},Room k^A.deeper^envOfC x (AJ st) s.heap.objs.size f cdv->Se (Jo Fb P w K mg base N x (AJ st) f cdv A outer s H E).nox κ (BM st) wb)
  (hW:∀{ss n Pd},W ss n Pd->wb {nx:=λn _=>κ=.sh/\Pd .non n,rt:=Pd} n (ss++T0 (N.length - ps.length) .no)) (hNp:autoParam (ps.length<=N.length) zau1._auto_1):
  FnOk P w K mg base Fb (k+1) f fd ps (RE K κ W ps.length):=bU F S hNp (λ_ _ _ _ _ _ h=>hb h) λ_ _ _ _ h=>hW h
section
variable {X:Cx}
def cg{m:Nat}(hr:Room m X.A){e:cJ}{es:n_ cJ}{k:Nat}{ps:n_ Str}{κ:Kd}{W:W2}{x:Str}{p pos:Pos}{was:Sd}(G:Got X.prog X.w X.K X.mg X.base x k ps κ W)(ha:Wi X (e::es) was)(hk:autoParam (k<=m) zau1._auto_1)(hg:autoParam (Gl X x) zau3._auto_1)
  (hdb:autoParam ((x==("__debug__":Str))=m_) zau1._auto_1) (he:autoParam (starEach (e::es) X.env=(m_,eval e X.env)::starEach es X.env) zau3._auto_1) (hpl:autoParam ((backTo pos^starEach es X.env).any (·.1)=m_) zau3._auto_1):DE X (.Call (.Name x p) (e::es) [] pos) κ^Aa W was:=U5 G (hr.mono hk) hg ha hdb he hpl
variable {tg iter elt:Expr}{ifs:n_ Expr}{sc:Scope}{pos:Pos}{b:BW}{tt:Hd}{te:DW}{zM:Kd}{src:Dw}
def WX(N':n_ Str)(js:n_^o_ Nat)(hi:ZA X tg iter src)(hg:∀{cl C s H fp},DG (Ay X sc N' cl C s H fp) tg b)(ht:∀{cl C s H fp},Y_ (Ay X sc N' cl C s H fp) ifs tt)(he:∀{cl C s H fp},DE (Ay X sc N' cl C s H fp) elt zM te)
  (hB:HW sc X.env.scope X.N N' js=l_) (hc:autoParam (X.calm=l_) zau3._auto_1) (hk:autoParam (zM≠.tp) zau7._auto_1) (hs:autoParam (∀x,foldedSetIterable iter X.env x=pure x) zau2._auto_1):DE X (.ListComp elt [#[tg,iter,ifs,0]] sc pos) .fr^CV js src b tt te:=WT hc N' js hi (λ_ _ _ _ _=>hg) (λ_ _ _ _ _=>ht) (λ_ _ _ _ _=>he) hB hk hs
end
def Sk{P:cH}{w:cN}{K:Frag}{mg:Str->o_ Db}{base:cA}{x q:Str}{st:cS}{f:Ch}{fd:cv}{N ps:n_ Str}{k:Nat}{κ:Kd}{W:W2}{wb:Ac}(F:Fun K x q st f fd)(S:AZ N ps^AJ st)
  (hb:∀{cdv:Db}{A:cW}{outer:n_ Env}{s:Go}{H:Hp}{E:XK},Room k^A.deeper^envOfC q (AJ st) s.heap.objs.size f cdv->Se (Jo Fb P w K mg base N q (AJ st) f cdv A outer s H E).nox κ (BM st) wb)
  (hW:∀{ss n Pd},W ss n Pd->wb {nx:=λn _=>κ=.sh/\Pd .non n,rt:=Pd} n (ss++T0 (N.length - ps.length) .no)) (hNp:autoParam (ps.length<=N.length) zau1._auto_1):
  FnOk P w K mg base Fb (k+1) f fd ps (RE K κ W ps.length):=bU F S hNp (λ_ _ _ _ _ _ h=>hb h) λ_ _ _ _ h=>hW h
end Dp
namespace Nt
open L2 Dp
theorem K6{α β:Type}{f:α->β}:∀{l:n_ α},l.Nodup->(∀a∈l,∀b∈l,f a=f b->a=b)->(l.map f).Nodup
 |[],_,_=>ci
 |a::l,h,hf=>by
  rw[cF]at h;rw[cL,cF];refine#[λhm=>?_,K6 h.2 λx hx y hy=>hf x (TW _ hx) y^TW _ hy];let#[b,hb,e]:=TM.mp hm;exact h.1 (hf a Re b (TW _ hb) e.symm▸hb)
def J0(ss:n_ Str):Pr^ss.map .str=P3 ss:=by
 induction ss with
 |nil=>rfl
 |cons y r ih=>
  rw[cL];unfold Pr
  grind
structure A_ where
 a:Str
 b:Str
 len:Int
structure Net where
 ps:List Str
 ts:List A_
noncomputable def An(t:A_):D:=.tup [.str t.a,.str t.b,.int t.len]
noncomputable def enc(N:Net):D:=.tup [.tup^N.ps.map .str,.tup^N.ts.map An]
noncomputable def Bn(s t:A_):Prop:=cs s.a<cs t.a\/(s.a=t.a/\cs s.b<cs t.b)
structure Net.Ok (N:Net):Prop where
 names:∀x∈N.ps,JU x
 rise:rising N.ps
 tin:∀t∈N.ts,t.a∈N.ps/\t.b∈N.ps/\cs t.a<cs t.b/\1<=t.len/\t.len<=1000000
 trise:N.ts.Pairwise Bn
structure Ix where
 i:Nat
 j:Nat
 len:Int
noncomputable abbrev EE(Pd:D->Sg->Prop):E2:={nx:=λn _=>Kd.sh=.sh/\Pd .non n,rt:=Pd}
theorem DB{b:BW}{te:DW}{P:n_ D->Sg->Prop}(g:D->D)(I:n_ Slot->Prop):∀(ds acc:n_ D) (n:Sg) (ρ:n_ Slot),
  (∀d∈ds,∀(ρ:n_ Slot) (n:Sg) (nx:D->Sg->n_ Slot->Prop),I ρ->(∀zY,I zY->nx (g d) n zY)->b d ρ λzP=>te n zP λy n2=>nx y n2 zP)->I ρ->P (acc++ds.map g) n->HM b Q9 te P ds acc n ρ
 |[],acc,n,ρ,_,_,h=>by rw[List.map_nil,cX]at h;exact h
 |d::ds,acc,n,ρ,ht,hρ,h=>ht d Re ρ n _ hρ λzY hρ'=>
  DB g I ds _ n _ (λd hd=>ht d^TW _ hd) hρ' (by simp_all)
section
def bD{α:Type}(xs:n_ α):Dp.cutD xs (P3 1) k_=xs.drop 1:=by
 unfold Dp.cutD;rw[HT.sIx_none,show 1=((1:Nat):Int)from rfl,HT.sIx_nat]
 by_cases h:1<=xs.length
 .rw[Nat.min_eq_left h]
  exact List.take_of_length_le^by simp_all
 grind
end
noncomputable def strsOf(xs:n_ D):n_ Str:=(Pr xs).getD []
def Yn{α:Type}(p:α->Bool)(l:n_ α):(l.map p).all id=l.all p:=by simp_all
def NO{x:Str}(h:∀c∈cs x,c<1114112):PyData.strOk x=l_:=by
 unfold PyData.strOk;rw[←Array.all_toList,gX];intro c hc;exact decide_eq_true^h c hc
def CO{x:Str}(h:JU x):DC^.str x:=#[rfl,NO λc hc=>by have:=h.2.2 c hc;lk,cB _]
def Nu{ps:n_ Str}(h:∀p∈ps,JU p):C3^ps.map .str=l_/\fA^Bi^ps.map .str=l_/\dq^Bi^ps.map .str=0:=by
 induction ps with
 |nil=>exact#[rfl,rfl,rfl]
 | cons p r ih=>
  let#[h1,h2,h3]:=ih λq hq=>h q^TW _ hq;refine#[by assumption,?_,?_]
  .rw[cL,Bi,fA,h2,Bool.and_true]
   exact(CO^h p Re).2.1
  assumption
def Gk{ps:n_ Str}(h:∀p∈ps,JU p):DC^.tup^ps.map .str:=by
 let#[h1,h2,h3]:=Nu h;refine#[h1,h2,?_];show dq _+1<=100
 simp_all
def Ie(ps:n_ Str):strsOf^ps.map .str=ps:=by unfold strsOf;rw[J0];rfl
mutual
noncomputable def Hl(B:Nat):D->Prop
 |.int i=>i.natAbs<=B
 |.str x=>∀c∈cs x,c<1114112
 |.tup ds=>Jb B ds
 |.lst ds=>Jb B ds
 |.dic _ _=>False
 |.fdi _ _=>False
 |.dit _ _=>False
 |.ob _=>False
 |_=>True
noncomputable def Jb(B:Nat):n_ D->Prop
 |[]=>True
 |d::ds=>Hl B d/\Jb B ds
end
mutual
noncomputable def Si:D->Nat
 |.int _=>200
 |.str x=>x.length
 |.tup ds=>NM ds
 |.lst ds=>NM ds
 |_=>0
noncomputable def NM:n_ D->Nat
 |[]=>0
 |d::ds=>Si d+1+NM ds
end
mutual
noncomputable def Sl:D->Nat
 |.tup ds=>M8 ds+1
 |.lst ds=>M8 ds+1
 |_=>0
noncomputable def M8:n_ D->Nat
 |[]=>0
 |d::ds=>max (Sl d)^M8 ds
end
theorem fines_iff{B:Nat}:∀{ds:n_ D},Jb B ds↔∀d∈ds,Hl B d
 |[]=>#[(λ_ d h=>by cases h),λ_=>trivial]
 | d::ds=>by
  have ih:=@fines_iff B ds;constructor
  .rintro⟨h1,h2⟩ e he
   rcases Uf.mp he with rfl|he
   .exact h1
   .exact ih.mp h2 e he
  .exact λh=>#[h d Re,ih.mpr λe he=>h e^TW _ he]
theorem dps_le{k:Nat}:∀{ds:n_ D},M8 ds<=k↔∀d∈ds,Sl d<=k
 |[]=>#[(λ_ d h=>by cases h),λ_=>cB _]
 | d::ds=>by
  have ih:=@dps_le k ds;show max (Sl d)^M8 ds<=k↔_;rw[Nat.max_le,ih];constructor
  .rintro⟨h1,h2⟩ e he
   rcases Uf.mp he with rfl|he
   .exact h1
   .exact h2 e he
  .exact λh=>#[h d Re,λe he=>h e^TW _ he]
theorem QF:∀(xs:n_ D),xs.length<=NM xs
 |[]=>cB _
 |d::xs=>by
  have:=QF xs
  show xs.length+1<=Si d+1+NM xs;lk
mutual
theorem MR{B:Nat}(hB:B<10 ^ 45):∀{d:D},Hl B d->E3 d=l_/\(toPy d).showable=l_/\(toPy d).canLay0=l_/\(toPy d).depth=Sl d/\(toPy d).leavesShort 60=l_/\(toPy d).weight<=Si d
 |.non,_=>#[rfl,rfl,rfl,rfl,rfl,Rs _]
 |.bl b,_=>#[rfl,rfl,rfl,rfl,rfl,Rs _]
 | .int i,h=>by
  have h':i.natAbs<=B:=h;have hlt:i.natAbs<10 ^ 45:=eC h' hB;have h2:i.natAbs<2 ^ 150:=Nat.lt_trans hlt^by cbv
  have hl:i.natAbs.log2<150:=by
   by_cases h0:i.natAbs=0
   .rw[h0];decide
   .exact(Nat.log2_lt h0).mpr h2
  refine#[rfl,?_,rfl,rfl,?_,?_]
  .show decide (i.natAbs.log2<1920)=l_
   exact decide_eq_true^by lk
  .show decide ((PyData.shown^.int i).length<=60)=l_
   refine decide_eq_true ?_
   have:=int_text_length_le10 (a:=i) (k:=45) (by cbv) hlt
   show(dY^toString i).length<=60;rw[PySem.ofString_length];lk
  .show(if i==0 then 0 else i.natAbs.log2+1)<=200
   split <;>lk
 |.str x,h=>by
  have h':∀c∈cs x,c<1114112:=h;refine#[rfl,rfl,NO h',rfl,?_,Rs _];show(x.cps.toList.all λc=>decide (c<16 ^ 8))=l_;rw[gX];intro c hc;exact decide_eq_true^Nat.lt_trans (h' c hc)^by cbv
 |.tup ds,h=>by
  let#[h1,h2,h3,h4,h5,h6]:=Ja hB (ds:=ds) h;refine#[h1,h2,h3,?_,h5,h6];show dq^Bi ds+1=M8 ds+1;rw[h4]
 |.lst ds,h=>by
  let#[h1,h2,h3,h4,h5,h6]:=Ja hB (ds:=ds) h;refine#[h1,h2,h3,?_,h5,h6];show dq^Bi ds+1=M8 ds+1;rw[h4]
 |.dic ks ds,h=>(show False from h).elim
 |.fdi ks ds,h=>(show False from h).elim
 |.dit ks ds,h=>(show False from h).elim
 |.ob _,h=>(show False from h).elim
theorem Ja{B:Nat}(hB:B<10 ^ 45):∀{ds:n_ D},Jb B ds->C3 ds=l_/\PyData.showableAll^Bi ds=l_/\fA^Bi ds=l_/\dq^Bi ds=M8 ds/\i4 60^Bi ds=l_/\PyData.weightAll^Bi ds<=NM ds
 |[],_=>#[rfl,rfl,rfl,rfl,rfl,Rs _]
 | d::ds,h=>by
  let#[h1,h2,h3,h4,h5,h6]:=MR hB (d:=d) h.1;let#[g1,g2,g3,g4,g5,g6]:=Ja hB (ds:=ds) h.2;refine#[?_,?_,?_,?_,?_,?_]
  .show(E3 d&&C3 ds)=l_
   rw[h1,g1];rfl
  .show((toPy d).showable&&PyData.showableAll^Bi ds)=l_
   rw[h2,g2];rfl
  .show((toPy d).canLay0&&fA^Bi ds)=l_
   rw[h3,g3];rfl
  .show max (toPy d).depth^dq^Bi ds=max (Sl d)^M8 ds
   rw[h4,g4]
  .show((toPy d).leavesShort 60&&i4 60^Bi ds)=l_
   rw[h5,g5];rfl
  .show(toPy d).weight+1+PyData.weightAll^Bi ds<=Si d+1+NM ds
   omega
end
def TC{B:Nat}{d:D}(hB:B<10 ^ 45)(h:Hl B d)(hd:Sl d<=100)(hs:Si d<=270000):Kw d:=by
 let#[h1,h2,h3,h4,h5,h6]:=MR hB h;refine#[h1,h2,by rw[h4];exact hd,?_]
 have:=PyData.shown_le 60 (by cbv) (toPy d) h5
 rw[PySem.sizeLine_eq]
 have:62*(toPy d).weight<=62*270000:=Nat.mul_le_mul_left _^by lk
 omega
def Hx{B:Nat}{d:D}(hB:B<10 ^ 45)(h:Hl B d)(hd:Sl d<=100)(hs:Si d<=200000):Kw d:=TC hB h hd^by lk
def PZ{B:Nat}{d:D}(hB:B<10 ^ 45)(h:Hl B d)(hd:Sl d<=100):DC d:=by
 let#[h1,h2,h3,h4,h5,h6]:=MR hB h;exact#[h1,h3,by rw[h4];exact hd]
noncomputable def item(d:D):Prop:=Hl 1000001 d/\Si d<=450/\Sl d<=1
theorem Ib{k:Nat}:∀{ds:n_ D},(∀d∈ds,Si d+1<=k)->NM ds<=k*ds.length
 |[],_=>cB _
 |d::ds,h=>by
  have h2:=Ib λe he=>h e^TW _ he;show Si d+1+NM ds<=k*(ds.length+1)
  grind
def F8{B:Nat}{xs:n_ D}(h:∀d∈xs,Hl B d):Hl B^.tup xs:=fines_iff.mpr h
def item_str{x:Str}(h1:x.length<=8)(h2:∀c∈cs x,c<1114112):item^.str x:=#[h2,by show x.length<=450;lk,cB _]
def DD{x:Str}(h:JU x):item^.str x:=item_str h.2.1 λc hc=>by have:=h.2.2 c hc;lk
def UT{a b:Str}{l:Int}(ha:item^.str a)(hb:item^.str b)(la:a.length<=8)(lb:b.length<=8)(hl:l.natAbs<=1000001):item^.tup [.str a,.str b,.int l]:=by
 refine#[F8 λd hd=>?_,?_,?_]
 .simp at hd
  rcases hd with rfl|rfl|rfl
  .exact ha.1
  .exact hb.1
  .exact hl
 .show a.length+1+(b.length+1+(200+1+0))<=450
  omega
 .show max 0^max 0^max 0 0+1<=1
  decide
def ED{N:Net}(ok:N.Ok):∀d∈N.ts.map An,item d:=λd hd=>by
 let#[t,ht,rfl]:=TM.mp hd;let#[h1,h2,_,h3,h4]:=ok.tin t ht;have n1:=ok.names _ h1;have n2:=ok.names _ h2;exact UT (DD n1) (DD n2) n1.2.1 n2.2.1^by lk
def V9{N:Net}(ok:N.Ok):∀d∈N.ps.map D.str,item d:=λd hd=>by
 let#[x,hx,rfl]:=TM.mp hd;exact DD^ok.names x hx
def Xi{xs ys:n_ D}(hx:∀d∈xs,item d)(hy:∀d∈ys,item d)(lx:xs.length<=26)(ly:ys.length<=80):Hl 1000001^.tup [.tup xs,.tup ys]/\Si^.tup [.tup xs,.tup ys]<=48000/\Sl^.tup [.tup xs,.tup ys]<=3:=by
 have s1:=Ib λd hd=>fk (hx d hd).2.1;have s2:=Ib λd hd=>fk (hy d hd).2.1;have d1:=dps_le.mpr λd hd=>(hx d hd).2.2;have d2:=dps_le.mpr λd hd=>(hy d hd).2.2;refine#[F8 λd hd=>?_,?_,?_]
 .simp at hd
  rcases hd with rfl|rfl
  .exact F8 λd hd=>(hx d hd).1
  .exact F8 λd hd=>(hy d hd).1
 .show NM xs+1+(NM ys+1+0)<=48000
  omega
 .show max (M8 xs+1)^max (M8 ys+1) 0+1<=3
  omega
def BK(x:Str):¬cs x<cs x:=gI _
def z2:2<=sizeLine:=by cbv
def z3:3<=sizeLine:=by cbv
def z0:0<=sizeLine:=cB _
def bV:Oc 10 6:=#[by cbv,by cbv,by cbv]
end Nt
namespace L2
noncomputable def Zg:R2:=λy x H Q=>∃a o,x=.ref a/\DGet H a y o/\Q (.bl o.isSome) H
noncomputable def W8:R2:=λy x H Q=>∃a o,x=.ref a/\DGet H a y o/\Q (.bl (!o.isSome)) H
noncomputable def Tj:R2:=λx y H Q=>∃a v,x=.ref a/\DGet H a y^P3 v/\Q v H
def UG{X:Cx}{k:Nat}(hr:Room k X.A):OpR X (compareOp .In) Zg:=by
 intro zG s Z H y x iv u Q I ry rx #[a,ov,ex,g,q];subst ex;obtain rfl:u=b_ a:=rx;exact bC (F7 hr) I g ry λs3 I3=>#[.bl _,H,I3,rfl,q]
def Ea{X:Cx}{k:Nat}(hr:Room k X.A):OpR X (compareOp .NotIn) W8:=by
 intro zG s Z H y x iv u Q I ry rx #[a,ov,ex,g,q];subst ex;obtain rfl:u=b_ a:=rx;exact WW (F7 hr) I g ry λs3 I3=>#[.bl _,H,I3,rfl,q]
end L2
namespace Dp
open L2
noncomputable def BO:n_ Key->n_ D->Key->o_ D
 |k0::ks,d::ds,k=>if k0=k then P3 d else BO ks ds k
 |_,_,_=>k_
section
variable {K:Frag}{X:Cx}
theorem Fd{M:Ch->Prop}{H:Hp}{k:Key}:∀{ks:n_ Key}{ds:n_ D}{vs:n_ V},Ats K M H ds vs->
  match BO ks ds k with
  |some z=>∃v,Cb (ks.zip vs) k=P3 v/\At K M H z v
  |none=>Cb (ks.zip vs) k=k_
 |[],ds,vs,h=>by exact rfl
 |k0::ks,[],vs,h=>by cases h;exact rfl
 | k0::ks,d::ds,vs,h=>by
  let#[v,r,rfl,h1,h2]:=h;have ih:=Fd (k:=k) (ks:=ks) h2;unfold BO
  by_cases e:k0=k
  .rw[if_pos e]
   refine#[v,?_,h1];show Cb ((k0,v)::ks.zip r) k=P3 v;rw[C7 e]
  .have:Cb ((k0,v)::ks.zip r) k=Cb _ k:=C8 e
   simp_all
noncomputable def keyOf:D->o_ Key
 |.int i=>P3^.inl i
 |.str x=>P3^.inr x
 |_=>k_
def Cq{U M:Ch->Prop}{H:Hp}{d:D}{v:V}{k:Key}(e:keyOf d=P3 k)(h:AtT K U M H d v):v=kV k:=by
 cases d with
 |int i=>cases e;exact h
 |str x=>cases e;exact h.str.1
 |_=>cases e
noncomputable def Jk:D->o_ (n_ Key×n_ D)
 |.dic ks ds=>P3 (ks,ds)
 |.fdi ks ds=>P3 (ks,ds)
 |_=>k_
def Jj{U M:Ch->Prop}{H:Hp}{d:D}{x:V}{ks:n_ Key}{ds:n_ D}(e:Jk d=P3 (ks,ds))(h:AtT K U M H d x):∃a vs,x=.ref a/\Rd H a^.dK^ks.zip vs/\Ats K M H ds vs:=by
 cases d with
 |dic k2 d2=>cases e;let#[a,vs,rfl,_,ha,_,hs]:=h;exact#[a,vs,rfl,.inl ha,hs]
 |fdi k2 d2=>cases e;let#[a,vs,rfl,#[o,_,ha],_,hs]:=h;exact#[a,vs,rfl,.inr #[o,ha],hs]
 |_=>cases e
def IF{H:Hp}{a:Ch}{kvs:n_ (Key×V)}{k:Key}(e:Rd H a^.dK kvs):DGet H a (kV k)^Cb kvs k:=.inl #[_,k,e,rfl,rfl]
noncomputable def Hr(neg:Bool)(e d:D)(P:D->Prop):Prop:=∃ks ds k,Jk d=P3 (ks,ds)/\keyOf e=P3 k/\P^.bl (if neg then !(BO ks ds k).isSome else(BO ks ds k).isSome)
noncomputable def A2(d e:D)(P:D->Prop):Prop:=∃ks ds k z,Jk d=P3 (ks,ds)/\keyOf e=P3 k/\BO ks ds k=P3 z/\P z
def XX:El K .sh Zg^Hr m_:=λU M H e d y x P Q dom vM hy hx w q=>by
 let#[ks,ds,k,hd,he,w]:=w;let#[a,vs,rfl,ha,hs]:=Jj hd hx;refine#[a,_,rfl,by rw[Cq he hy];exact IF ha,q _ H (.bl _) .refl rfl ?_];have h:=Fd (k:=k) (ks:=ks) hs;cases c:BO ks ds k with
 |none=>simp_all
 |some z=>rw[c]at h w;let#[v,h1,_]:=h;simp_all
def GK:El K .sh W8^Hr l_:=λU M H e d y x P Q dom vM hy hx w q=>by
 let#[ks,ds,k,hd,he,w]:=w;let#[a,vs,rfl,ha,hs]:=Jj hd hx;refine#[a,_,rfl,by rw[Cq he hy];exact IF ha,q _ H (.bl _) .refl rfl ?_];have h:=Fd (k:=k) (ks:=ks) hs;cases c:BO ks ds k with
 |none=>simp_all
 |some z=>rw[c]at h w;let#[v,h1,_]:=h;simp_all
def Ys:El K .sh Tj A2:=λU M H d e x y P Q dom vM hx hy w q=>by
 let#[ks,ds,k,z,hd,he,hz,w]:=w;let#[a,vs,rfl,ha,hs]:=Jj hd hx;have h:=Fd (k:=k) (ks:=ks) hs;rw[hz]at h;let#[v,h1,h2]:=h;exact#[a,v,rfl,by rw[Cq he hy,←h1];exact IF ha,q v H z .refl h2 w]
variable {a b:Expr}{zU zR:Kd}{wa wb:DW}{pos:Pos}
def A6{k:Nat}(hr:Room k X.A)(ha:DE X a zU wa)(hb:DE X b zR wb)(hs:autoParam (Wg b) zau6._auto_1):DE X (.Subscript a b pos) .sh^AV A2 wa wb:=by
 let#[ta,ha1,ha2]:=ha;let#[tb,hb1,hb2]:=hb;exact#[_,Hz (F7 hr) ha1 hb1 hs,λC M H n ρ Z P Q R w q=>Dg Ys ha2 hb2 C M H n ρ Z P Q R w q]
end
noncomputable def Sy(i:Nat)(w:DW):Ac:=λD2 n ρ=>∃a:Int,ρ[i]?=P3^.sh^.int a/\w n ρ λd n1=>∃b:Int,d=.int b/\D2.nx n1^ρ.set i^.sh^.int (a+b)
def WN{X:Cx}{κ zM:Kd}{e:cJ}{wa:DW}{pos:Pos}{i:Nat}{x:Str}{pos':Pos}(hN:X.N.Nodup)(hi:X.N[i]?=P3 x)(hx:Loc X.env.scope x)(he:DE X e zM wa)
  (hf:autoParam (X.fn x=l_\/X.env.scope.names.lookup x=P3 .local) zau0._auto_1):DS X κ (.AugAssign (.Name x pos') .Add e pos)^Sy i wa:=by
 let#[t,a1,a2]:=he;refine#[_,X9 hN hi hx a1 YZ hf,λC M H n ρ Z D2 E R L w=>?_];let#[a,ha,w]:=w;let#[v,e1,h1]:=R.sl i _ ha;cases(h1);refine#[_,getD_some e1,a2 C M H n ρ Z _ _ R w λv H' d n' e1 f1 r1 p=>?_];let#[b,rfl,p]:=p;exact#[a,b,rfl,Ub r1,L.nx M H' n' _ _ ((R.step e1 f1).set (d:=.int _) rfl) p]
end Dp
namespace So
open PySem.W
section
variable {O:KeyOrd}{key:Nat->O.α}{N:Nat}{cmp:Nat->Nat->(Bool->Shared->Prop)->Shared->Prop}{s:Shared}{p p0:Array Nat}
noncomputable def KN(O:KeyOrd)(key:Nat->O.α)(p:Array Nat)(i:Nat):O.α:=key^p.getD i 0
noncomputable def Srt(O:KeyOrd)(key:Nat->O.α)(p:Array Nat)(k:Nat):Prop:=∀i j,i<=j->j<k->O.kle (KN O key p i)^KN O key p j
noncomputable def aI(O:KeyOrd)(key:Nat->O.α)(p:Array Nat)(k:Nat):Prop:=∀i j,i<=j->j<k->O.kle (KN O key p j)^KN O key p i
noncomputable def Xc(O:KeyOrd)(key:Nat->O.α)(N:Nat)(cmp:Nat->Nat->(Bool->Go->Prop)->Go->Prop)(s:Go):Prop:=∀(i j:Nat) (C:Bool->Go->Prop),i<N->j<N->C (O.blt (key i)^key j) s->cmp i j C s
noncomputable def Bd(N:Nat)(p:Array Nat):Prop:=0<N/\∀x∈p,x<N
def WC(p:Array Nat)(i:Nat):p.getD i 0=(p[i]?).getD 0:=by
 simp
def Bd.get(h:Bd N p)(i:Nat):p.getD i 0<N:=by
 rw[WC];cases e:p[i]? with
 |none=>exact h.1
 |some x=>exact h.2 x^Array.mem_of_getElem? e
def Bd.perm{p':Array Nat}(h:Bd N p)(hp:p'.Perm p):Bd N p':=#[h.1,λx hx=>h.2 x^hp.mem_iff.mp hx]
def EV{p q:Array Nat}{i j:Nat}(h:p[i]?=q[j]?):KN O key p i=KN O key q j:=by
 unfold KN
 simp_all
def Lc{src d:Nat}(hs:src<p.size)(hd:d<=src)(k:Nat):
  KN O key (bubble p src d) k=if k=src - d then KN O key p src else if src - d<k/\k<=src then KN O key p (k - 1)else KN O key p k:=by
 have e:=getElem?_bubble hs d hd k
 by_cases h1:k=src - d
 .rw[if_pos h1]at e ⊢;exact EV e
 .rw[if_neg h1]at e ⊢
  by_cases h2:src - d<k/\k<=src
  .rw[if_pos h2]at e ⊢;exact EV e
  .rw[if_neg h2]at e ⊢;exact EV e
def G4{i j:Nat}(hj:j<=p.size)(k:Nat):KN O key (kas_rev p i j) k=if i<=k/\k<j then KN O key p (i+j - 1 - k)else KN O key p k:=by
 have e:=getElem?_mirror_all (i:=i) hj k
 by_cases h1:i<=k/\k<j
 .rw[if_pos h1]at e ⊢;exact EV e
 .rw[if_neg h1]at e ⊢;exact EV e
def Bb{i j:Nat}(hj:j<=p.size)(heq:∀k,i<=k->k<j->KN O key p k=KN O key p (j - 1))(k:Nat):KN O key (kas_rev p i j) k=KN O key p k:=by
 rw[G4 hj]
 grind
def B3(p:Array Nat)(i j:Nat):(kas_rev p i j).Perm p:=mirror_perm _ _ _ _
def yes{α:Type}{T₁ T₂:KasT α}{Q:α->Go->Prop}(h:T₁.kasWp cmp Q s):(if l_=l_ then T₁ else T₂).kasWp cmp Q s:=by grind
def no{α:Type}{T₁ T₂:KasT α}{Q:α->Go->Prop}(h:T₂.kasWp cmp Q s):(if m_=l_ then T₁ else T₂).kasWp cmp Q s:=by grind
theorem Pq(hC:Xc O key N cmp s)(hb:Bd N p){nrem:Nat}{G:Nat->Go->Prop}:∀(f n:Nat),1<=n->n+f=nrem->Srt O key p n->
  (∀m,n<=m->m<=nrem->Srt O key p m->(m=nrem\/O.klt (KN O key p m)^KN O key p (m - 1))->G m s)->(kas_asc p f n).kasWp cmp G s
 |0,n,_,e,hs,h=>h n (Rs _) (by lk) hs^.inl^by lk
 | f+1,n,h1,e,hs,h=>by
  show cmp (p.getD n 0) (p.getD (n - 1) 0) (λc s'=>(if c=l_ then KasT.ret n else kas_asc p f (n+1)).kasWp cmp G s') s;refine hC _ _ _ (hb.get n) (hb.get _) ?_;cases hless:O.blt (key^p.getD n 0)^key^p.getD (n - 1) 0 with
  |true=>exact yes^h n (Rs _) (by lk) hs^.inr hless
  | false=>
   refine no^Pq hC hb f (n+1) (by lk) (by lk) (λi j hij hj=>?_) λm m1 m2 m3 m4=>h m (by lk) m2 m3 m4
   by_cases hjx:j<n
   .exact hs i j hij hjx
   .have hj':j=n:=by lk
    subst hj'
    by_cases hi':i=j
    .subst hi';exact dS _
    .exact gZ (hs i (j - 1) (by lk)^by lk) hless
theorem IG(hC:Xc O key N cmp s){nrem:Nat}{G:Array Nat×Nat×Nat->Go->Prop}:∀(f:Nat) (p:Array Nat) (n q:Nat),p.Perm p0->Bd N p->nrem<=p.size->1<=n->n+f=nrem->aI O key p n->q+1<=n->
  (∀i,n - (q+1)<=i->i<n->KN O key p i=KN O key p (n - 1))->
  (∀p' m q',p'.Perm p0->Bd N p'->p'.size=p.size->n<=m->m<=nrem->aI O key p' m->q'+1<=m->(∀i,m - (q'+1)<=i->i<m->KN O key p' i=KN O key p' (m - 1))->G (p',m,q') s)->(kas_desc f p n q).kasWp cmp G s
 |0,p,n,q,hp,hb,hz,h1,e,hs,hq,he,h=>h p n q hp hb rfl (Rs _) (by lk) hs hq he
 | f+1,p,n,q,hp,hb,hz,h1,e,hs,hq,he,h=>by
  show cmp (p.getD n 0) (p.getD (n - 1) 0) (λc s'=>(if c=l_ then(if q > 0 then kas_desc f (kas_rev p (n - (q+1)) n) (n+1) 0 else kas_desc f p (n+1) 0)
   else .ask (p.getD (n - 1) 0) (p.getD n 0) λd=>if d=l_ then .ret (p,n,q)else kas_desc f p (n+1) (q+1)).kasWp cmp G s') s
  refine hC _ _ _ (hb.get n) (hb.get _) ?_;cases hless:O.blt (key^p.getD n 0)^key^p.getD (n - 1) 0 with
  | true=>
   have hl:O.klt (KN O key p n)^KN O key p (n - 1):=hless
   have step1:∀xs:Array Nat,(∀k,KN O key xs k=KN O key p k)->aI O key xs (n+1):=by
    intro xs hk i j hij hj;rw[hk,hk]
    by_cases hjx:j<n
    .exact hs i j hij hjx
    .have hj':j=n:=by lk
     subst hj'
     by_cases hi':i=j
     .subst hi';exact dS _
     .exact gZ (gO hl)^hs i (j - 1) (by lk)^by lk
   refine yes ?_;have hsz:n<=p.size:=by lk
   by_cases hq0:q > 0
   .rw[if_pos hq0]
    refine IG hC f _ (n+1) 0 ((B3 _ _ _).trans hp) (hb.perm^B3 _ _ _) (by rw[kas_rev_size];exact hz) (by lk) (by lk) (step1 _^Bb hsz he) (by lk) (λi a b=>by congr 1;lk) λp' m q' a1 a2 a3 a4 a5 a6 a7 a8=>h p' m q' a1 a2 (a3.trans^kas_rev_size _ _) (by lk) a5 a6 a7 a8
   .rw[if_neg hq0]
    exact IG hC f _ (n+1) 0 hp hb hz (by lk) (by lk) (step1 _ λ_=>rfl) (by lk) (λi a b=>by congr 1;lk) λp' m q' a1 a2 a3 a4 a5 a6 a7 a8=>h p' m q' a1 a2 a3 (by lk) a5 a6 a7 a8
  | false=>
   refine no ?_;show cmp (p.getD (n - 1) 0) (p.getD n 0) (λd s'=>(if d=l_ then KasT.ret (p,n,q)else kas_desc f p (n+1) (q+1)).kasWp cmp G s') s;refine hC _ _ _ (hb.get _) (hb.get n) ?_;cases hlarger:O.blt (key^p.getD (n - 1) 0)^key^p.getD n 0 with
   |true=>exact yes (h p n q hp hb rfl (Rs _) (by lk) hs hq he)
   | false=>
    have heqx:KN O key p n=KN O key p (n - 1):=i9 (O:=O) hlarger hless;refine no^IG hC f p (n+1) (q+1) hp hb hz (by lk) (by lk) (λi j hij hj=>?_) (by lk) (λi a b=>?_) λp' m q' a1 a2 a3 a4 a5 a6 a7 a8=>h p' m q' a1 a2 a3 (by lk) a5 a6 a7 a8
    .by_cases hjx:j<n
     .exact hs i j hij hjx
     .have hj':j=n:=by lk
      subst hj'
      by_cases hi':i=j
      .subst hi';exact dS _
      .rw[heqx];exact hs i (j - 1) (by lk)^by lk
    .rw[show n+1 - 1=n by lk]
     by_cases hix:i=n
     .subst hix;rfl
     .rw[heqx];exact he i (by lk)^by lk
def NK(hC:Xc O key N cmp s){n nrem:Nat}{G:Nat×Array Nat->Go->Prop}(hp:p.Perm p0)(hb:Bd N p)(hz:nrem<=p.size)(h1:1<=n)(hn:n<=nrem)(hs:aI O key p n)
  (h:∀m p',p'.Perm p0->Bd N p'->p'.size=p.size->1<=m->m<=nrem->Srt O key p' m->G (m,p') s):(kas_tail3 n nrem p).kasWp cmp G s:=by
 unfold kas_tail3;rw[KasT.kasWp_bind];have hsz:n<=p.size:=by lk
 refine Pq hC (hb.perm^B3 _ _ _) _ n h1 (by lk) (λi j hij hj=>?_) λm m1 m2 m3 _=>h m _ ((B3 _ _ _).trans hp) (hb.perm^B3 _ _ _) (kas_rev_size _ _) (by lk) m2 m3;rw[G4 hsz,G4 hsz,if_pos^by lk,if_pos^by lk];exact hs _ _ (by lk)^by lk
def HU(hC:Xc O key N cmp s){n nrem:Nat}{G:Nat×Array Nat->Go->Prop}(hp:p.Perm p0)(hb:Bd N p)(hz:nrem<=p.size)(hn:n+1<=nrem)(hs:aI O key p (n+1))
  (h:∀m p',p'.Perm p0->Bd N p'->p'.size=p.size->1<=m->m<=nrem->Srt O key p' m->G (m,p') s):(kas_descPart n nrem p).kasWp cmp G s:=by
 unfold kas_descPart;rw[KasT.kasWp_bind];refine IG (p0:=p0) hC (nrem - (n+1)) p (n+1) 0 hp hb hz (by lk) (by lk) hs (by lk) (λi a b=>by grind) λp' m q' a1 a2 a3 a4 a5 a6 a7 a8=>?_;have hsz:m<=p'.size:=by lk
 show(if q' > 0 then kas_tail3 m nrem^kas_rev p' (m - (q'+1)) m else kas_tail3 m nrem p').kasWp cmp G s
 by_cases hq0:q' > 0
 .rw[if_pos hq0]
  refine NK hC ((B3 _ _ _).trans a1) (a2.perm^B3 _ _ _) (by rw[kas_rev_size];lk) (by lk) a5 (λi j hij hj=>?_) λm' p'' b1 b2 b3 b4 b5 b6=>h m' p'' b1 b2 (b3.trans^(kas_rev_size _ _).trans a3) b4 b5 b6;rw[Bb hsz a8,Bb hsz a8];exact a6 i j hij hj
 .rw[if_neg hq0]
  exact NK hC a1 a2 (by lk) (by lk) a5 a6 λm' p'' b1 b2 b3 b4 b5 b6=>h m' p'' b1 b2 (b3.trans a3) b4 b5 b6
def U7(hC:Xc O key N cmp s){nrem:Nat}{G:Nat×Array Nat->Go->Prop}(hp:p.Perm p0)(hb:Bd N p)(hz:nrem<=p.size)(h1:1<=nrem)
  (h:∀m p',p'.Perm p0->Bd N p'->p'.size=p.size->1<=m->m<=nrem->Srt O key p' m->G (m,p') s):(kas_count nrem p).kasWp cmp G s:=by
 unfold kas_count;rw[KasT.kasWp_bind];refine Pq (nrem:=nrem) hC hb (nrem - 1) 1 (Rs _) (by lk) (λi j hij hj=>by have:i=j:=(by lk);subst this;exact dS _) λn hn1 hn2 hsn hor=>?_
 by_cases hnn:n=nrem
 .rw[if_pos^by simpa using hnn]
  exact h n p hp hb rfl hn1 hn2 hsn
 .rw [if_neg^by simpa using hnn]
  have hlt:O.klt (KN O key p n)^KN O key p (n - 1):=hor.resolve_left hnn
  by_cases hgt:n > 1
  .rw[if_pos hgt]
   show cmp (p.getD 0 0) (p.getD (n - 1) 0) (λc s'=>(if c=l_ then KasT.ret (n,p)else kas_descPart n nrem^kas_rev p 0 n).kasWp cmp G s') s;refine hC _ _ _ (hb.get _) (hb.get _) ?_;cases hrose:O.blt (key^p.getD 0 0)^key^p.getD (n - 1) 0 with
   |true=>exact yes (h n p hp hb rfl hn1 hn2 hsn)
   | false=>
    have hrose':O.kle (KN O key p (n - 1))^KN O key p 0:=hrose;have hsz:n<=p.size:=by lk
    have hall:∀k,0<=k->k<n->KN O key p k=KN O key p (n - 1):=by
     intro k _ hk;have a1:=hsn 0 k (by lk) hk;have a2:=hsn k (n - 1) (by lk) (by lk);exact i9 a2^gZ hrose' a1
    refine no^HU hC ((B3 _ _ _).trans hp) (hb.perm^B3 _ _ _) (by rw[kas_rev_size];exact hz) (by lk) (λi j hij hj=>?_) λm' p'' b1 b2 b3 b4 b5 b6=>h m' p'' b1 b2 (b3.trans^kas_rev_size _ _) b4 b5 b6;rw[Bb hsz hall,Bb hsz hall]
    by_cases hjn:j<n
    .rw[hall i (by lk)^by lk,hall j (by lk) hjn];exact dS _
    .have hj':j=n:=by lk
     subst hj'
     by_cases hi':i=j
     .subst hi';exact dS _
     .rw[hall i (by lk)^by lk];exact gO hlt
  .rw[if_neg hgt]
   have hn1':n=1:=by lk
   subst hn1';refine HU hC hp hb hz (by lk) (λi j hij hj=>?_) h
   by_cases hi':i=j
   .subst hi';exact dS _
   .have hi0:i=0:=by lk
    have hj1:j=1:=by lk
    subst hi0;subst hj1
    exact gO hlt
theorem JD(hC:Xc O key N cmp s)(hb:Bd N p){k:Nat}(hs:Srt O key p k){G:Nat->Go->Prop}
  (h:∀l,l<=k->(∀i,i<l->O.kle (KN O key p i)^KN O key p k)->(∀i,l<=i->i<k->O.klt (KN O key p k)^KN O key p i)->G l s):∀(f l r:Nat),l<=r->r<=k->r - l<=f->
  (∀i,i<l->O.kle (KN O key p i)^KN O key p k)->(∀i,r<=i->i<k->O.klt (KN O key p k)^KN O key p i)->(kas_place p k f l r).kasWp cmp G s
 |0,l,r,hlr,hrk,hm,hlo,hhi=>by
  have:l=r:=by lk
  subst this;exact h l hrk hlo hhi
 | f+1,l,r,hlr,hrk,hm,hlo,hhi=>by
  unfold kas_place
  by_cases hge:l≥r
  .rw[if_pos hge]
   have:l=r:=by lk
   subst this;exact h l hrk hlo hhi
  .rw[if_neg hge]
   refine hC _ _ _ (hb.get _) (hb.get _) ?_;cases hless:O.blt (key^p.getD k 0)^key^p.getD ((l+r) / 2) 0 with
   |true=>
    have hl:O.klt (KN O key p k)^KN O key p ((l+r) / 2):=hless;exact yes^JD hC hb hs h f l ((l+r) / 2) (by lk) (by lk) (by lk) hlo λi h1 h2=>KeyOrd.klt_of_klt_of_kle hl^hs _ _ h1 h2
   |false=>
    have hl:O.kle (KN O key p ((l+r) / 2))^KN O key p k:=hless;exact no^JD hC hb hs h f ((l+r) / 2+1) r (by lk) (by lk) (by lk) (λi h1=>gZ (hs i ((l+r) / 2) (by lk)^by lk) hl) hhi
theorem Dg(hC:Xc O key N cmp s){n:Nat}{G:Array Nat->Go->Prop}(h:∀p',p'.Perm p0->Srt O key p' n->G p' s):∀(f:Nat) (p:Array Nat) (k:Nat),p.Perm p0->Bd N p->n<=p.size->k+f=n->Srt O key p k->(kas_bin f p k).kasWp cmp G s
 |0,p,k,hp,hb,hz,e,hs=>h p hp^by rw[←e];exact hs
 | f+1,p,k,hp,hb,hz,e,hs=>by
  rw[show kas_bin (f+1) p k=(kas_place p k k 0 k).bind λl=>kas_bin f (bubble p k (k - l)) (k+1)from rfl,KasT.kasWp_bind];refine JD hC hb hs (λl hlk hlo hhi=>?_) k 0 k (cB _) (Rs _) (by lk) (λi hi=>by lk) λi a b=>by lk
  have hks:k<p.size:=by lk
  refine Dg hC h f _ (k+1) ((bubble_perm _ _ _).trans hp) (hb.perm^bubble_perm _ _ _) (by rw[bubble_size];exact hz) (by lk) λi j hij hj=>?_;rw[Lc hks^by lk,Lc hks^by lk,show k - (k - l)=l by lk]
  by_cases hi1:i=l
  .rw[if_pos hi1]
   by_cases hj1:j=l
   .rw[if_pos hj1];exact dS _
   .rw[if_neg hj1,if_pos^by lk]
    exact gO^hhi (j - 1) (by lk)^by lk
  .rw [if_neg hi1]
   by_cases hi2:l<i/\i<=k
   .rw[if_pos hi2,if_neg^by lk,if_pos^by lk]
    exact hs (i - 1) (j - 1) (by lk)^by lk
   .rw[if_neg hi2]
    by_cases hj1:j=l
    .rw[if_pos hj1];exact hlo i^by lk
    .rw[if_neg hj1]
     by_cases hj2:l<j/\j<=k
     .rw[if_pos hj2]
      exact hs i (j - 1) (by lk)^by lk
     .rw[if_neg hj2]
      exact hs i j hij^by lk
def sort_ok{n:Nat}(h1:1<=n)(hC:Xc O key n cmp s){G:Array Nat->Go->Prop}(h:∀p,p.Perm^cM^cV n->Srt O key p n->G p s):(kas_sort n).kasWp cmp G s:=by
 unfold kas_sort;rw[KasT.kasWp_bind];have hb:Bd n^cM^cV n:=#[h1,λx hx=>by grind];have hsz:(cM^cV n).size=n:=by simp
 refine U7 hC (ig _) hb (by lk) h1 λm p' a1 a2 a3 a4 a5 a6=>?_
 by_cases hlt:m<n
 .rw[if_pos hlt,show max m 1=m by lk]
  exact Dg hC h _ p' m a1 a2 (by lk) (by lk) a6
 .rw[if_neg hlt]
  exact h p' a1^by grind
end
end So
namespace L2
open PySem.W
noncomputable def YN:Key->Key->Bool
 |.inl i,.inl j=>decide (i<j)
 |.inr x,.inr y=>decide (x.cps.toList<y.cps.toList)
 |.inl _,.inr _=>l_
 |.inr _,.inl _=>m_
noncomputable def BY:n_ Key->n_ Key->Bool
 |[],[]=>m_
 |[],_::_=>l_
 |_::_,[]=>m_
 |x::xs,y::ys=>if x=y then BY xs ys else YN x y
theorem PY:∀x:Key,YN x x=m_
 |.inl i=>decide_eq_false^Int.lt_irrefl i
 |.inr x=>decide_eq_false^gI _
theorem Rv:∀x y z:Key,YN x y=l_->YN y z=l_->YN x z=l_
 |.inl i,.inl j,.inl k,h1,h2=>decide_eq_true^Int.lt_trans (of_decide_eq_true h1)^of_decide_eq_true h2
 |.inr i,.inr j,.inr k,h1,h2=>decide_eq_true^ft (of_decide_eq_true h1)^of_decide_eq_true h2
 |.inl i,.inl j,.inr k,_,_=>rfl
 |.inl i,.inr j,.inr k,_,_=>rfl
 |.inl i,.inr j,.inl k,_,h=>by cases h
 |.inr i,.inl j,_,h,_=>by cases h
 |.inr i,.inr j,.inl k,_,h=>by cases h
theorem K8:∀x y:Key,YN x y=m_->YN y x=m_->x=y
 |.inl i,.inl j,h1,h2=>congrArg _^by have a:=of_decide_eq_false h1;have b:=of_decide_eq_false h2;lk
 |.inr x,.inr y,h1,h2=>by
  have e:=List.le_antisymm (of_decide_eq_false h2)^of_decide_eq_false h1;let#[u]:=x
  simp_all
 |.inl i,.inr j,h,_=>by cases h
 |.inr i,.inl j,_,h=>by cases h
theorem CN:∀x:n_ Key,BY x x=m_
 |[]=>rfl
 |x::xs=>by unfold BY;rw[if_pos rfl];exact CN xs
theorem Cp:∀x y z:n_ Key,BY x y=l_->BY y z=l_->BY x z=l_
 |[],[],_,h,_=>by cases h
 |[],_::_,[],_,h=>by cases h
 |[],_::_,_::_,_,_=>rfl
 |_::_,[],_,h,_=>by cases h
 |_::_,_::_,[],_,h=>by cases h
 | x::xs,y::ys,z::zs,h1,h2=>by
  unfold BY at h1 h2 ⊢
  by_cases e1:x=y
  .subst e1
   rw[if_pos rfl]at h1
   by_cases e2:x=z
   .subst e2
    rw[if_pos rfl]at h2 ⊢;exact Cp xs ys zs h1 h2
   grind
  .rw[if_neg e1]at h1
   by_cases e2:y=z
   .grind
   .rw[if_neg e2]at h2
    have h3:=Rv x y z h1 h2
    by_cases e3:x=z
    .subst e3
     rw[PY]at h3;cases h3
    grind
theorem CI:∀x y:n_ Key,BY x y=m_->BY y x=m_->x=y
 |[],[],_,_=>rfl
 |[],_::_,h,_=>by cases h
 |_::_,[],_,h=>by cases h
 | x::xs,y::ys,h1,h2=>by
  unfold BY at h1 h2
  by_cases e:x=y
  .subst e
   rw[if_pos rfl]at h1 h2;rw[CI xs ys h1 h2]
  .rw[if_neg e]at h1
   rw[if_neg λz=>e z.symm]at h2;exact absurd (K8 x y h1 h2) e
noncomputable def Rc:KeyOrd:=#[n_ Key,BY,CN,Cp,λa b c h=>by
 cases h1:BY a b with
 |true=>exact .inl rfl
 |false=>
  cases h2:BY b a with
  |true=>exact .inr^Cp b a c h2 h
  |false=>rw[←CI a b h1 h2];exact .inr h,CI]
theorem ML:∀x y:n_ Key,Bk x y=l_->Gi x y=BY x y
 |[],[],_=>rfl
 |[],_::_,_=>rfl
 |_::_,[],_=>rfl
 | x::xs,y::ys,h=>by
  have h':(Kx x y&&Bk xs ys)=l_:=h;rw[cP]at h';unfold Gi BY
  by_cases e:x=y
  .rw[if_pos e,if_pos e];exact ML xs ys h'.2
  .rw[if_neg e,if_neg e]
   cases x with
   |inl i=>cases y with
    |inl j=>rfl
    |inr z=>cases h'.1
   |inr i=>cases y with
    |inl j=>cases h'.1
    |inr z=>rfl
section
variable {prog:Program}{w:World}{A:Around}{E:Value->Shared->Prop}{s:Shared}
theorem UQ{b:Bool}{Q:Bool->Go->Prop}{nx ny:Nat}:∀(ns ms:n_ Key) (us ws:n_ Db) (i:Nat),Vals (ns.map kOf) us->Vals (ms.map kOf) ws->Bk ns ms=l_->ns.length+ny=ms.length+nx->Q (Gi ns ms) s->
  KatLex prog w A b (decide (nx<ny)) Q (us.zip ws) i s
 |[],[],us,ws,i,h1,h2,_,hl,q=>by
  cases h1;cases h2;refine kat_nil ?_;rw[show decide (nx<ny)=m_ from decide_eq_false^by simp only[dR]at hl;lk];exact q
 |[],m::ms,us,ws,i,h1,h2,_,hl,q=>by
  cases h1;rw[List.zip_nil_left];refine kat_nil ?_;rw[show decide (nx<ny)=l_ from decide_eq_true^by simp only[dR,cT]at hl;lk];exact q
 |n::ns,[],us,ws,i,h1,h2,_,hl,q=>by
  cases h2;rw[List.zip_nil_right];refine kat_nil ?_;rw[show decide (nx<ny)=m_ from decide_eq_false^by simp only[dR,cT]at hl;lk];exact q
 | n::ns,m::ms,us,ws,i,h1,h2,hs,hl,q=>by
  have hs':(Kx n m&&Bk ns ms)=l_:=hs;rw[cP]at hs';have q':Q (if n=m then Gi ns ms else aQ n m) s:=q;cases h1 with
  | @cons _ u _ ur r1 t1=>
   cases h2 with
   | @cons _ v _ vr r2 t2=>
    rw[eX];have ih:n=m->KatLex prog w A b (decide (nx<ny)) Q (ur.zip vr) (i+1) s:=λe=>UQ ns ms ur vr (i+1) t1 t2 hs'.2 (by simp only[cT]at hl;lk) (by rw[if_pos e]at q';exact q');cases n with
    | inl x=>
     cases m with
     |inr y=>cases hs'.1
     | inl y=>
      let#[tu,rfl]:=r1;let#[tv,rfl]:=r2;refine kat_cons^wpAny_eqBool_int ?_
      by_cases e:x=y
      .rw[show(x==y)=l_ by simpa using e]
       exact kat_yes^ih^by rw[e]
      .rw[show(x==y)=m_ by simpa using e]
       refine kat_no ?_;rw[if_neg λz=>e^Sum.inl.inj z]at q';cases hf:(b&&i==0)with
       |true=>exact oneLt_int q'
       |false=>exact kat_one _ _^im (show PySem.W.BoolBack Q (.bool (decide (x<y))) s from q')
    | inr x=>
     cases m with
     |inl y=>cases hs'.1
     | inr y=>
      let#[tu,rfl]:=r1;let#[tv,rfl]:=r2;refine kat_cons^wpAny_eqBool_str ?_
      by_cases e:x=y
      .rw[show decide (x=y)=l_ by simpa using e]
       exact kat_yes^ih^by rw[e]
      .rw[show decide (x=y)=m_ by simpa using e]
       refine kat_no ?_;rw[if_neg λz=>e^fF z]at q';cases hf:(b&&i==0)with
       |true=>exact oneLt_str q'
       |false=>exact kat_one _ _^PySem.P.lt_str (show PySem.W.BoolBack Q (.bool (decide (x.cps.toList<y.cps.toList))) s from q')
structure Q5 (h:cA) (ks:List Db) (keys:List^List Key):Prop where
 at_:∀(i:Nat) (ns:List Key),keys[i]?=P3 ns->∃a o its n,ks[i]?=P3^.ref a/\h.get? a=P3 o/\o.cls=.type "tuple"/\o.data=.seq its n/\Vals (ns.map kOf) its.toList
 len:ks.length=keys.length
 same:∀x∈keys,∀y∈keys,Bk x y=l_
 ne:∀x∈keys,x≠[]
noncomputable def aN:Key->String
 |.inl _=>"int"
 |.inr _=>"str"
theorem firsts{h:cA}:∀(ks:n_ Db) (keys:n_^n_ Key) (T:String),ks.length=keys.length->(∀(i:Nat) (ns:n_ Key),keys[i]?=P3 ns->∃a o its n,ks[i]?=P3^.ref a/\h.get? a=P3 o/\o.cls=.type "tuple"/\o.data=.seq its n/\Vals (ns.map kOf) its.toList)->
  (∀x∈keys,∃k r,x=k::r/\aN k=T)->∃fs:n_ Db,KatTups h ks fs/\fs.length=keys.length/\∀v∈fs,typeOf v=pure^.type T
 |[],[],T,_,_,_=>#[[],trivial,rfl,λv hv=>by cases hv]
 |[],_::_,T,hl,_,_=>by cases hl
 |_::_,[],T,hl,_,_=>by cases hl
 | k::ks,x::keys,T,hl,h1,h2=>by
  let#[fs,g1,g2,g3]:=firsts ks keys T (by simpa using hl) (λi ns e=>by
   let#[a,o,its,n,e1,r]:=h1 (i+1) ns (by simpa using e);exact#[a,o,its,n,by simpa using e1,r]) λy hy=>h2 y^TW _ hy
  let#[a,o,its,n,e1,e2,e3,e4,e5]:=h1 0 x rfl;have e1:k=.ref a:=by simpa using e1
  subst e1;let#[k,r,rfl,hk]:=h2 x Re;rw[cL]at e5;cases hits:its.toList with
  |nil=>rw[hits]at e5;cases e5
  | cons f tl=>
   rw[hits]at e5;cases e5 with
   | cons r1 r2=>
    refine#[f::fs,KatTups.cons e2 e3 e4 (by rw[←fc,hits];rfl) g1,by rw[cT,cT,g2],λv hv=>?_]
    rcases Uf.mp hv with rfl|hv
    .cases k with
     |inl i=>let#[t,rfl]:=r1;subst hk;rfl
     |inr i=>let#[t,rfl]:=r1;subst hk;rfl
    .exact g3 v hv
def Ks{ks:n_ Db}{keys:n_^n_ Key}(K:Q5 s.heap ks keys)(h2:2<=ks.length){G:Array Nat->Go->Prop}(h:∀p,p.Perm^cM^cV ks.length->So.Srt Rc (λi=>keys.getD i []) p ks.length->G p s):
  wpAny (model prog w) A (keyKind' ks.toArray) (λκ s'=>(kas_sort ks.length).kasWp (kas_ask prog w A κ ks) G s') (λ_ _=>False) s:=by
 obtain⟨x0,xr,hx⟩:∃x0 xr,keys=x0::xr:=by
  cases e:keys with
  |nil=>have:=K.len;rw[e]at this;simp only[dR]at this;lk
  |cons x r=>exact#[x,r,rfl]
 have m0:x0∈keys:=by rw[hx];exact Re
 obtain⟨k0,r0,e0⟩:∃k r,x0=k::r:=by
  cases e:x0 with
  |nil=>exact absurd e^K.ne x0 m0
  |cons k r=>exact#[k,r,rfl]
 have hty:∀x∈keys,∃k r,x=k::r/\aN k=aN k0:=λx hm=>by
  cases e:x with
  |nil=>exact absurd e^K.ne x hm
  | cons k r=>
   refine#[k,r,rfl,?_];have hsm:=K.same x hm x0 m0;rw[e,e0]at hsm;have hsm:(Kx k k0&&Bk r r0)=l_:=hsm;rw[cP]at hsm;cases k with
   |inl i=>cases k0 with
    |inl j=>rfl
    |inr j=>cases hsm.1
   |inr i=>cases k0 with
    |inl j=>cases hsm.1
    |inr j=>rfl
 let#[fs,g1,g2,g3]:=firsts ks keys (aN k0) K.len K.at_ hty;refine kat_kind g1 (by rw[g2,←K.len];lk) (λv hv=>by rw[g3 v hv];exact Looks.now) (by simp) ?_;refine So.sort_ok (O:=Rc) (key:=λi=>keys.getD i []) (by lk) (λi j C hi hj hC=>?_) h;have hi':i<keys.length:=by rw[←K.len];exact hi
 have hj':j<keys.length:=by rw[←K.len];exact hj
 let#[a,o,its,n,e1,e2,e3,e4,e5]:=K.at_ i keys[i] (No hi');let#[a',o',its',n',e1',e2',e3',e4',e5']:=K.at_ j keys[j] (No hj');unfold kas_ask;rw[show ks.getD i cQ=.ref a by rw[cI,e1];rfl,show ks.getD j cQ=.ref a' by rw[cI,e1'];rfl];have hsm:=K.same _ (dE hi') _^dE hj';refine kat_lt e2 e4 e2' e4' (UQ keys[i] keys[j] _ _ 0 e5 e5' hsm ?_ ?_)
 .have l1:=e5.length
  have l2:=e5'.length;have l3:(keys[i].map kOf).length=keys[i].length:=FM ..;have l4:(keys[j].map kOf).length=keys[j].length:=FM ..;have l5:its.toList.length=its.size:=cq;have l6:its'.toList.length=its'.size:=cq;lk
 .rw[ML _ _ hsm]
  have g1:keys.getD i []=keys[i]:=by rw[cI,No hi'];rfl
  have g2:keys.getD j []=keys[j]:=by rw[cI,No hj'];rfl
  have hC':C (BY (keys.getD i [])^keys.getD j []) s:=hC;rw[g1,g2]at hC';exact hC'
def Cc{v:Db}{kw:n_ (Str×Db)}{Q:Db->Go->Prop}(ha1:argsOk "sorted" #[[v],kw])(ha2:∀x,argsOk "list.sort" #[[.ref x],kw])
  (hc:wpAny (model prog w) A.in1 (collect v) (λvs s1=>vs.length<=sizeLine/\wpAny (model prog w) A.in1.in1 (ej.«list.sort» #[[.ref s1.heap.objs.size],kw]) (λfin s'=>fin=.done^.ret .none/\Q (.ref s1.heap.objs.size) s') E {s1 with heap:=s1.heap.push^seqObj "list" vs.toArray 0}) E s):
  wpAny (model prog w) A (call (.builtin "sorted") [v] kw) Q E s:=call_function_entry_kw kind_sorted plain_sorted entry_sorted ha1^Cn^On^Cn^c9 hc (λvs s1 h=>Cn^iF (Cn^dD^wpAny_call_entry_kw PyProof.Rows.slot_list_sort #[_,Sc _ rfl,rfl] PyProof.Rows.entry_list_sort (c9 h.2 (λfin s' hf=>#[_,hf.1,On #[_,rfl,hf.2]]) λ_ _ x=>x)^ha2 _) h.1) λ_ _ x=>x
noncomputable def Cu(h:cA)(D:Ch)(vs:n_ Db):cA:=((h.update D^cn λ_=>(#[]:Array Db)).push^seqObj "tuple" vs.toArray 0).push^seqObj "list" #[] 0
def GZ{h:cA}{D:Ch}{vs:n_ Db}{b:Ch}{o:Obj}(hb:b≠D)(e:h.get? b=P3 o):(Cu h D vs).get? b=P3 o:=
 Ev _ (Ev _^(b8 _ _^cY hb).trans e)
def Ii{h:cA}{D:Ch}{vs:n_ Db}{n:Nat}(ho:h.get? D=P3^seqObj "list" vs.toArray n):∃e1,(Cu h D vs).get? D=P3^seqObj "list" #[] e1/\(h.update D^cn λ_=>(#[]:Array Db)).get? D=P3^seqObj "list" #[] e1:=by
 obtain⟨e1,ho1⟩:∃e1,(h.update D _).get? D=P3^seqObj _ _ e1:=#[_,fN ho _];exact#[e1,Ev _^Ev _ ho1,ho1]
def Nl{D:Ch}{vs:n_ Db}{n:Nat}{P:PySem.Fin->Go->Prop}{G:Array Nat->Prop}(ho:s.heap.get? D=P3^seqObj "list" vs.toArray n)(h64:vs.length<64)
  (hk:2<=vs.length->wpAny (model prog w) A (keyKind' vs.toArray) (λκ s'=>(kas_sort vs.length).kasWp (kas_ask prog w A κ vs) (λp s''=>s''={s with heap:=Cu s.heap D vs}/\G p) s') (λ_ _=>False) {s with heap:=Cu s.heap D vs})
  (h1:vs.length<2->G^cM^cV vs.length) (hfin:∀(p:Array Nat) (h':cA) (c:Nat),p.size=vs.length->G p->(∀b o,b≠D->s.heap.get? b=P3 o->h'.get? b=P3 o)->h'.get? D=P3^seqObj "list" (cM^p.toList.map λi=>vs.getD i cQ) c->P (.done^.ret .none) {s with heap:=h'}):
  wpAny (model prog w) A (ej.«list.sort» #[[.ref D],[]]) P E s:=by
 let#[e1,ho6,ho1]:=Ii ho
 have fin:∀(p:Array Nat),p.size=vs.length->G p->P (.done^.ret .none) {s with heap:=(Cu s.heap D vs).update D^cn λ_=>cM^p.toList.map λi=>vs.getD i cQ}:=λp hp hg=>by
  obtain⟨c2,hc2⟩:∃c2,((Cu s.heap D vs).update D^cn λ_=>cM^p.toList.map λi=>vs.getD i cQ).get? D=P3^seqObj "list" (cM^p.toList.map λi=>vs.getD i cQ) c2:=#[_,fN ho6 λ_=>cM^p.toList.map λi=>vs.getD i cQ];exact hfin p _ c2 hp hg (λb o hb e=>(b8 _ _^cY hb).trans^GZ hb e) hc2
 rw[list_sort_plain];refine Cn (gv ho rfl ?_);refine Cn (et ho rfl ?_ (by rw[b7,cZ];lk) (cB _));refine Cn (hX ho1 rfl ?_);refine Cn (wpAny_newTuple ?_^by show vs.length<=_;rw[cZ];lk);refine Cn^iF ?_^cB _;refine dD ?_;show wpAny (model prog w) A _ P E {s with heap:=Cu s.heap D vs}
 dsimp only
 by_cases h2:vs.length<2
 .have h2':vs.toArray.size<2:=by rw[b7];exact h2
  rw[if_pos h2',if_pos h2'];refine Cn^On ?_;rw[StateT.run_pure];refine Cn^On ?_
  dsimp only
  refine Cn (hX ho6 rfl ?_);have hsz:(cM^cV vs.length).size=vs.length:=by simp
  have hout:(arrOf^SortSt.mk' general' (vs.toArray.zip vs.toArray) #[] 7 k_).map (·.2)=cM ((cM^cV vs.length).toList.map λi=>vs.getD i cQ):=by
   refine kat_snds rfl ?_;have e:=kas_range^vs.toArray.zip vs.toArray;rw[show(vs.toArray.zip vs.toArray).size=vs.length by simp]at e;exact e.symm
  rw[hout];refine Cn (et ho6 rfl ?_ (cB _) (by rw[b7,FM,cq,hsz,cZ];lk));simp only[bne_self_eq_false,cm,if_false];exact On^fin _ hsz^h1 h2
 .have h2':¬vs.toArray.size<2:=by rw[b7];exact h2
  rw[if_neg h2',if_neg h2'];refine Cn^c9 (hk^by lk) (λκ s0 hk=>?_) λ_ _ x=>x.elim
  refine Cn (c9 (kat_run (Q:=λst' s'=>∃p:Array Nat,p.size=vs.length/\arrOf st'=p.map^kas_item^vs.toArray.zip vs.toArray/\failedOf st'=k_/\s'={s with heap:=Cu s.heap D vs}/\G p)
   rfl (by lk) h64 (λp' st' s' a1 a2 a3 a4=>#[p',a1,a2,a3,a4]) hk) ?_ λ_ _ e=>e)
  rintro⟨⟨⟩,st'⟩ s' ⟨p,hp,har,hf,rfl,hg⟩
  dsimp only
  have hout:=kat_snds rfl har;have hsz:(cM^p.toList.map λi=>vs.getD i cQ).size=vs.length:=by rw[b7,FM,cq,hp]
  rw[hout];refine Cn (hX ho6 rfl ?_);refine Cn (et ho6 rfl ?_ (cB _) (cG (gl hsz)^by rw[cZ];lk));rw[hf];simp only[bne_self_eq_false,cm,if_false];exact On^fin p hp hg
def Rw{D:Ch}{f:Db}{vs:n_ Db}{n:Nat}{P:PySem.Fin->Go->Prop}(ho:s.heap.get? D=P3^seqObj "list" vs.toArray n)(h64:vs.length<64)(J:n_ Db->Go->Prop)(kS:Ch)(hkS:kS=s.heap.objs.size+1)
  (h0:∀e1,(Cu s.heap D vs).get? D=P3^seqObj "list" #[] e1->J [] {s with heap:=Cu s.heap D vs})
  (hstep:∀(ks:n_ Db) (s':Go) (e:Nat) (v:Db),J ks s'->s'.heap.get? kS=P3^seqObj "list" ks.toArray e->vs[ks.length]?=P3 v->wpAny (model prog w) A (call f [v]) (λk s''=>s''.heap.get? kS=P3^seqObj "list" ks.toArray e/\J (ks++[k]) {s'' with heap:=s''.heap.update kS (cn (·.push k))}) (λ_ _=>False) s')
  (hend:∀(e1:Nat),(Cu s.heap D vs).get? D=P3^seqObj "list" #[] e1->∀(ks:n_ Db) (s':Go),J ks s'->ks.length=vs.length->s'.heap.get? D=P3^seqObj "list" #[] e1/\∃G:Array Nat->Prop,
   (2<=vs.length->wpAny (model prog w) A (keyKind' ks.toArray) (λκ s2=>(kas_sort vs.length).kasWp (kas_ask prog w A κ ks) (λp s''=>s''=s'/\G p) s2) (λ_ _=>False) s')/\(vs.length<2->G^cM^cV vs.length) /\
   ∀(p:Array Nat) (h':cA) (c:Nat),p.size=vs.length->G p->(∀b o,b≠D->b≠kS->s'.heap.get? b=P3 o->h'.get? b=P3 o)->h'.get? D=P3^seqObj "list" (cM^p.toList.map λi=>vs.getD i cQ) c->(∃o,h'.get? kS=P3 o)->P (.done^.ret .none) {s' with heap:=h'}):
  wpAny (model prog w) A (ksk_tree D f m_) P E s:=by
 let#[e1,ho6,ho1]:=Ii ho;have hsz1:((s.heap.update D^cn λ_=>(#[]:Array Db)).push^seqObj "tuple" vs.toArray 0).objs.size=kS:=by rw[size_push',Heap.size_update,hkS]
 have hD:D<s.heap.objs.size:=Tk ho;have hDk:D≠kS:=by rw[hkS];exact b9^di hD
 have hk0:(Cu s.heap D vs).get? kS=P3^seqObj "list" #[] 0:=by rw[←hsz1];exact Sc _ rfl
 unfold ksk_tree;refine Cn (gv ho rfl ?_);refine Cn (et ho rfl ?_ (by rw[b7,cZ];lk) (cB _));refine Cn (hX ho1 rfl ?_);refine Cn (wpAny_newTuple ?_^by show vs.length<=_;rw[cZ];lk);refine Cn^iF ?_^cB _;refine dD ?_;show wpAny (model prog w) A (ksk_rest D f m_ vs.toArray e1^.ref ((s.heap.update D^cn λ_=>(#[]:Array Db)).push^seqObj "tuple" vs.toArray 0).objs.size) P E {s with heap:=Cu s.heap D vs};rw[hsz1];unfold ksk_rest;refine Cn^gH ?_
 first
  |rw[List.forIn_toArray]
  |(rw[←Array.forIn_toList];simp only[List.toList_toArray])
  |rw[←Array.forIn_toList]
 refine Cn^ksk_fold (I:=λi s'=>∃ks e,hV ks=i/\J ks s'/\s'.heap.get? kS=P3^seqObj "list" ks.toArray e) vs 0 _ #[[],0,rfl,h0 e1 ho6,hk0] (λj x s' hx hI=>?_) λs' hI=>?_
 .let#[ks,e,hl,hJ,hk]:=hI
  have hj:j<vs.length:=(UF.mp hx).1;have hl:ks.length=j:=by lk
  refine Cn^gU^c9 (hstep ks s' e x hJ hk^by rw[hl];exact hx) (λk s'' hk2=>?_) λ_ _ hF=>hF.elim;have ea:(cM ks).push k=cM (ks++[k]):=by simp
  obtain⟨c2,hc2⟩:∃c2,(s''.heap.update kS (cn (·.push k))).get? kS=P3^seqObj "list" (cM (ks++[k])) c2:=#[_,by rw[←ea];exact fN hk2.1 (·.push k)]
  try dsimp only
  refine Cn (et hk2.1 rfl ?_ (by rw[b7,cZ];lk) (cG (gl (Array.size_push ..))^by rw[b7,cZ];lk));exact On #[rfl,ks++[k],c2,by rw[cj,dM];lk,hk2.2,hc2]
 .let#[ks,e,hl,hJ,hk]:=hI
  have hl:ks.length=vs.length:=by lk
  let#[hD',G,g2,g1,g3]:=hend e1 ho6 ks s' hJ hl
  try dsimp only
  refine Cn (gv hk rfl ?_)
  have tail:∀(st:SortSt) (p:Array Nat),p.size=vs.length->G p->(arrOf st).map (·.2)=cM (p.toList.map λi=>vs.getD i cQ)->failedOf st=k_->wpAny (model prog w) A (ksk_tail D m_ e1 (.ref kS) st) P E s':=λst p hp hg hout hf=>by
   have hsz:(cM^p.toList.map λi=>vs.getD i cQ).size=vs.length:=by rw[b7,FM,cq,hp]
   obtain⟨ck,hck⟩:∃ck,(s'.heap.update kS^cn λ_=>(#[]:Array Db)).get? kS=P3^seqObj "list" #[] ck:=#[_,fN hk λ_=>#[]];have hD2:(s'.heap.update kS^cn λ_=>(#[]:Array Db)).get? D=P3^seqObj "list" #[] e1:=(b8 _ _^cY hDk).trans hD';obtain⟨c2,hc2⟩:∃c2,((s'.heap.update kS^cn λ_=>(#[]:Array Db)).update D^cn λ_=>cM^p.toList.map λi=>vs.getD i cQ).get? D=P3^seqObj "list" (cM^p.toList.map λi=>vs.getD i cQ) c2:=#[_,fN hD2 λ_=>cM^p.toList.map λi=>vs.getD i cQ];unfold ksk_tail
   try dsimp only
   rw[hout];refine Cn (et hk rfl ?_ (by rw[b7,cZ];lk) (cB _));refine Cn^eU ?_;refine Cn (hX hD2 rfl ?_);refine Cn (et hD2 rfl ?_ (cB _) (cG (gl hsz)^by rw[cZ];lk));rw[hf];simp only[bne_self_eq_false,cm,if_false];refine On^g3 p _ c2 hp hg (λb o hb1 hb2 e=>(b8 _ _^cY hb1).trans^(b8 _ _^cY hb2).trans e) hc2 #[_,(b8 _ _ hDk).trans hck]
  unfold ksk_end
  try dsimp only
  simp only[cm,if_false]
  by_cases h2:vs.length<2
  .have h2':vs.toArray.size<2:=by rw[b7];exact h2
   rw[if_pos h2',if_pos h2'];refine Cn^On ?_;rw[StateT.run_pure];refine Cn^On ?_
   try dsimp only
   refine tail _ (cM^cV vs.length) (by simp) (g1 h2) (kat_snds hl ?_) rfl;have er:=kas_range^ks.toArray.zip vs.toArray;rw[show(ks.toArray.zip vs.toArray).size=vs.length by simp[hl]]at er;exact er.symm
  .have h2':¬vs.toArray.size<2:=by rw[b7];exact h2
   rw[if_neg h2',if_neg h2'];refine Cn^c9 (g2^by lk) (λκ s0 hk=>?_) λ_ _ x=>x.elim
   refine Cn (c9 (kat_run (Q:=λst' s2=>∃p:Array Nat,p.size=vs.length/\arrOf st'=p.map^kas_item^ks.toArray.zip vs.toArray/\failedOf st'=k_/\s2=s'/\G p)
    hl (by lk) h64 (λp' st' s2 a1 a2 a3 a4=>#[p',a1,a2,a3,a4]) hk) ?_ λ_ _ e=>e)
   rintro⟨⟨⟩,st'⟩ s2 ⟨p,hp,har,hf,rfl,hg⟩
   try dsimp only
   exact tail st' p hp hg (kat_snds hl har) hf
end
section
variable {X:Cx}{zG:n_ (Addr×Obj)}{Z:L2.St}{H:Hp}{s:Shared}{h':Heap}
structure Sb (X:Cx) (zG:List (Ch×Obj)) (D:Ch):Prop where
 new:X.s₀.heap.objs.size<=D
 loc:D≠X.env.locals
 cell:∀x c,X.env.cells.lookup x=P3 c->c≠D
 pin:∀p∈X.pn++zG,p.1≠D
 fs:D∉X.fs
def Inv.mine(I:Inv X zG Z H s){D:Ch}(h:s.heap.objs.size<=D):Sb X zG D:=by
 refine#[cG I.sz h,λz=>?_,λx c e z=>?_,λp hp z=>?_,I.nofs h]
 .have:=I.lt
  rw[←z]at this;exact absurd this^gG.mpr h
 .let#[v,o,ho,_]:=I.cell x c e
  have:=Tk ho
  rw[z]at this;exact absurd this^gG.mpr h
 .let#[e,_]:=I.pin p hp
  have:=Tk e
  rw[z]at this;exact absurd this^gG.mpr h
structure KeysAt (K:Frag) (H:Hp) (vs:List V) (keys:List^List Key):Prop where
 len:vs.length=keys.length
 at_:∀(i:Nat) (ns:List Key),keys[i]?=P3 ns->∃a,vs[i]?=P3^.ref a/\SqT K H a (ns.map kOf)
 same:∀x∈keys,∀y∈keys,Bk x y=l_
 ne:∀x∈keys,x≠[]
noncomputable def Hb(keys:n_^n_ Key)(ix:n_ Nat):Prop:=ix.Perm^cV keys.length/\∀i j,i<=j->j<keys.length->BY (keys.getD (ix.getD j 0) [])^keys.getD (ix.getD i 0) []=m_
def KeysAt.tups{vs:n_ V}{us:n_ Db}{keys:n_^n_ Key}(I:Inv X zG Z H s)(r:Vals vs us)(k:KeysAt X.K H vs keys){h':cA}(hk:∀b o,s.heap.get? b=P3 o->h'.get? b=P3 o):Q5 h' us keys:=by
 refine#[λi ns e=>?_,r.length.symm.trans k.len,k.same,k.ne];let#[a,e1,h1]:=k.at_ i ns e;let#[u,e2,r2]:=r.get e1;cases r2;let#[its,r3,#[o,ho,hc,n,hd],_]:=I.tuple h1;exact#[a,o,_,n,e2,hk a o ho,hc,hd,by grind]
theorem GX:∀{vs:n_ V}{us:n_ Db},Vals vs us->∀i:Nat,RelV (vs.getD i .non)^us.getD i cQ
 |_,_,.nil,i=>by simp[RelV]
 |_,_,.cons r t,0=>by simpa using r
 |_,_,.cons r t,i+1=>by simpa using GX t i
theorem IW{f:Nat->V}{g:Nat->Db}(h:∀i,RelV (f i)^g i):∀ix:n_ Nat,Vals (ix.map f)^ix.map g
 |[]=>.nil
 |i::ix=>.cons (h i)^IW h ix
def getD_list(p:Array Nat)(i:Nat):p.getD i 0=p.toList.getD i 0:=by simp
def UC{keys:n_^n_ Key}{n:Nat}{p:Array Nat}(hn:keys.length=n)(h1:p.Perm^cM^cV n)(h2:So.Srt Rc (λi=>keys.getD i []) p n):Hb keys p.toList:=by
 subst hn;refine#[Array.perm_iff_toList_perm.mp h1,λi j hij hj=>?_];have h:=h2 i j hij hj;unfold So.KN at h;rw[getD_list,getD_list]at h;exact h
def Kv{A':cW}{E':Db->Go->Prop}{vs:n_ V}{us:n_ Db}{keys:n_^n_ Key}{Q:VK}(I:Inv X zG Z H s)(r:Vals vs us)(h64:vs.length<64)(k:KeysAt X.K H vs keys)
  (q:∀(ix:n_ Nat) (l:Ch),Hb keys ix->H l=k_->Q (.ref l)^Aq H l^.lst^ix.map λi=>vs.getD i .non):
  wpAny (model X.prog X.w) A' (ej.«list.sort» #[[.ref s.heap.objs.size],[]]) (λfin s'=>fin=.done^.ret .none/\EP X zG Z Q (.ref s.heap.objs.size) s') E' {s with heap:=s.heap.push^seqObj "list" us.toArray 0}:=by
 have hl:=r.length;have hkl:keys.length=us.length:=k.len.symm.trans hl;refine Nl (G:=λp=>p.Perm _/\So.Srt Rc (λi=>keys.getD i []) p us.length) (n:=0) (Sc _ rfl) (by lk) (λh2=>?_) (λh1=>#[ig _,λi j hij hj=>?_]) λp h' c hp hg hold hD=>#[rfl,?_]
 .refine Ks (keys:=keys) (k.tups I r λb o e=>?_) h2 λp a b=>#[rfl,a,b]
  exact GZ (b9^Tk e)^Ev _ e
 .have:i=j:=by lk
  subst this;exact dS _
 .have hf:H s.heap.objs.size=k_:=I.fresh
  have hix:(p.toList.map λi=>vs.getD i .non).length=us.length:=by grind
  refine#[.ref s.heap.objs.size,Aq H s.heap.objs.size^.lst _,I.laid (t':=s.toks) (λb o e=>hold b o (b9^Tk e)^Ev _ e) (Rs _) #[by rw[hix,←hl,cZ];lk,_,c,IW (GX r) p.toList,hD],rfl,q _ _ (UC hkl hg.1 hg.2) hf]
def OC{prog:cH}{w:cN}{A:cW}{E:Db->Go->Prop}{s:Go}{l:Ch}{vs:n_ Db}{Q:n_ Db->Go->Prop}(hl:IsTup s.heap l vs.toArray)
  (h:Q vs {s with heap:=(s.heap.push^seqObj "list" #[] 0).update s.heap.objs.size (cn (·++vs.toArray))}) (hsz:vs.length<=sizeLine):
  wpAny (model prog w) A (collect^.ref l) Q E s:=by
 let#[o,ho,hc,n,hd]:=id hl;unfold collect;refine Cn^wpAny_runValue^dU entry_proto_collect' ?_;show wpAny _ _ (do again (.builtin "list.__iadd__" #[[←newList [],.ref l],[]])) _ _ s;refine Cn^iF^On #[Code.quiet_builtin _ (by decide +kernel),dU entry_list_iadd' ?_];show wpAny _ _ (eZ (.ref s.heap.objs.size) (.ref l)^.ref s.heap.objs.size) _ _ {s with heap:=s.heap.push^seqObj "list" #[] 0};unfold eZ;have ho':(s.heap.push^seqObj "list" #[] 0).get? l=P3 o:=Ev _ ho;refine Cn^f_ (T:="tuple") #[o,ho',hc] ?_;have ht:(cx "tuple"==cx "tuple")=l_:=by rfl
 rw[if_pos^by rw[ht];simp];refine Cn^gv ho' hd ?_;refine Cn (gv (xs:=#[]) (n:=0) (Sc _ rfl) rfl ?_);rw[if_neg^by simp];refine Cn (et (xs:=#[]) (n:=0) (Sc _ rfl) rfl ?_ (cB _) (by show(#[]++vs.toArray).size<=sizeLine+1;simp only[Array.size_append,b7,dR];lk));refine On ?_
 show wpAny (model prog w) A (do
   let o ←load s.heap.objs.size
   match o.data with
   |.seq xs _=>pure xs.toList
   |_=>unsupported "internal:collect") Q E {s with heap:=(s.heap.push^seqObj "list" #[] 0).update s.heap.objs.size (cn (·++vs.toArray))}
 refine Cn^wpAny_load (fN (Sc _ rfl) _) ?_;show wpAny _ _ (pure ((#[]:Array Db)++vs.toArray).toList) Q E _;rw[show((#[]:Array Db)++vs.toArray).toList=vs by simp];exact On h
def OD{h:cA}{g:Array Db->Array Db}{b:Ch}{o:Obj}(e:h.get? b=P3 o):((h.push^seqObj "list" #[] 0).update h.objs.size^cn g).get? b=P3 o:=
 (b8 _ _^cY^b9^Tk e).trans (Ev _ e)
def Jp{κ:Bool}{A':cW}{E':Db->Go->Prop}{p:Ch}{vs:n_ V}{Q:n_ Db->Go->Prop}(I:Inv X zG Z H s)(h:SqK κ X.K H p vs)(q:∀us s1,Vals vs us->vs.length<=sizeLine->Inv X zG Z H s1->Q us s1):
  wpAny (model X.prog X.w) A' (collect^.ref p) Q E' s:=by
 cases κ with
 |true=>
  let#[its,r,pl,hz]:=I.list h;exact collect_list pl.isList (q _ _ r hz^I.kept λb o e=>OD e)^by rw[←r.length];exact hz
 |false=>
  let#[its,r,pl,hz]:=I.tuple h;exact OC pl (q _ _ r hz^I.kept λb o e=>OD e)^by rw[←r.length];exact hz
noncomputable def Tg(K:Frag):n_ V->Hp->VK->Prop:=λxs H Q=>∃(κ:Bool) (p:Ch) (vs:n_ V) (keys:n_^n_ Key),xs=[.ref p]/\SqK κ K H p vs/\vs.length<64/\KeysAt K H vs keys /\
 ∀(ix:n_ Nat) (l:Ch),Hb keys ix->H l=k_->Q (.ref l)^Aq H l^.lst^ix.map λi=>vs.getD i .non
def Ju:CallR X (.builtin "sorted")^Tg X.K:=by
 intro zG s Z H xs us Q I r h;let#[κ,p,vs,keys,rfl,hq,h64,hk,q]:=h;let#[u,rfl,rx]:=vals1 r;cases rx;exact Cc (args_sorted1 _) (λx=>args_list_sort _)^Jp I hq λus s1 r1 hz I1=>#[by rw[←r1.length];exact hz,Kv I1 r1 h64 hk q]
end
noncomputable def FR(H:Hp)(L:n_ Ch)(f:Ch->Obj):Hp:=λb=>if b∈L then(H b).map^HO.frz^f b else H b
def DF{H:Hp}{L:n_ Ch}{f:Ch->Obj}{b:Ch}(h:b∉L):FR H L f b=H b:=by unfold FR;rw[if_neg h]
def Qh{H:Hp}{L:n_ Ch}{f:Ch->Obj}{b:Ch}{o:HO}(h:b∈L)(e:H b=P3 o):FR H L f b=P3^.frz (f b) o:=by unfold FR;grind
section
variable {X:Cx}{zG:n_ (Addr×Obj)}{Z:L2.St}{H:Hp}{s:Shared}
def Inv.frz{L:n_ Ch}(I:Inv X zG Z H s)(hL:∀b∈L,∃kvs,H b=P3^.dK kvs):∃f,Inv X zG Z (FR H L f) s:=by
 have keep:∀(f:Ch->Obj) b o,H b=P3 o->(∀kvs,o≠.dK kvs)->FR H L f b=P3 o:=λf b o e n=>by
  rw[DF λhm=>by grind];exact e
 refine#[λb=>(s.heap.get? b).getD {cls:=.none,data:=.fields #[]},?_];refine I.step (g':=s.gens) (d':=s.drawn) (t':=s.toks) (h':=s.heap) (ch:=[]) (λ_ z=>nomatch z) (λ_ _ _ _ _ e _=>e) (λb o _ _ _ e _=>#[o.slots,e]) (λb o _ e n=>?_) (λb o _ e=>#[o,e]) (λb xs e=>keep _ b _ e λ_ z=>by cases z) (λb o u e=>keep _ b _ e λ_ z=>by cases z) (λb ps e=>#[#[],by grind]) (λ_ h=>h) (λb u e=>?_) I.bare
 .unfold FR
  simp_all
 .by_cases hb:b∈L
  .let#[kvs,e2]:=hL b hb
   rw[Qh hb e2]at e;cases e;let#[z,y,vs,r,ob,es,ep,e3,c]:=(show ObjOk X.prog X.w H s.heap b^.dK kvs from I.hok b _ e2);exact#[by rw[e3];rfl,z,y,vs,r,ob,es,ep,e3,c]
  .rw[DF hb]at e
   exact(I.hok b u e).stay (λ_ _ _ q=>q) (λc q=>keep _ c _ q λ_ z=>by cases z) λc xs q=>keep _ c _ q λ_ z=>by cases z
noncomputable def ag(t:TE):TE:=λZ H Q=>t Z H λv H1=>∃L:n_ Ch,(∀b∈L,∃kvs,H1 b=P3^.dK kvs)/\∀f:Ch->Obj,Q v^FR H1 L f
def YC{e:cJ}{t:TE}(h:PE X e t):PE X e^ag t:=by
 intro zG s Z H Q I hq;refine BF (h _ s Z H _ I hq) λu s1 #[v,H1,I1,r,L,hL,q]=>?_;let#[f,I2]:=I1.frz hL;exact#[v,_,I2,r,q f]
end
end L2
namespace Nt
open L2 Dp
noncomputable def C4(ts:n_ A_)(p:Str):n_ (Str×Int):=ts.flatMap λt=>(if t.a=p then [(t.b,t.len)]else [])++(if t.b=p then [(t.a,t.len)]else [])
noncomputable def VP(ts:n_ A_)(p:Str):D:=.fdi ((C4 ts p).map λx=>.inr x.1)^(C4 ts p).map λx=>.int x.2
noncomputable def D1(N:Net):D:=.dic (N.ps.map .inr)^N.ps.map^VP N.ts
noncomputable def Mw:W2:=λss n P=>∃N:Net,ss=[.sh^enc N]/\N.Ok/\N.ps.length<=1000/\N.ts.length<=1000/\P (D1 N) n
noncomputable def kv(x:Str×Int):Key×V:=(.inr x.1,.int x.2)
structure Stp (H:Hp) (d:Ch) (as:List (Str×Ch)) (tb:Str->List (Key×V)) (H':Hp):Prop where
 old:∀b o,H b=P3 o->H' b=P3 o
 new:H d=k_
 top:H' d=P3 (.dK^as.map λx=>(.inr x.1,.ref x.2))
 inn:∀x∈as,H x.2=k_/\x.2≠d/\H' x.2=P3 (.dK^tb x.1)
 ads:(as.map (·.2)).Nodup
 nms:(as.map (·.1)).Nodup
def Hv{as:n_ (Str×Ch)}(hn:(as.map (·.1)).Nodup){p:Str}{a:Ch}(h:(p,a)∈as):Cb (as.map λx=>((.inr x.1:Key),V.ref x.2))^.inr p=P3^.ref a:=by
 induction as with
 |nil=>cases h
 | cons x r ih=>
  rw[cL,cF]at hn
  rcases Uf.mp h with e|h
  .rw[←e]
   exact C7 rfl
  .exact(C8 λe=>hn.1^by rw[fF e];exact TM.mpr #[_,h,rfl]).trans^ih hn.2 h
def O9{as:n_ (Str×Ch)}{p:Str}{v:V}(h:p∉as.map (·.1)):putK (as.map λx=>((.inr x.1:Key),V.ref x.2)) (.inr p) v=(as.map λx=>((.inr x.1:Key),V.ref x.2))++[(.inr p,v)]:=by
 unfold putK
 simp_all
def QO{xs:n_ (Str×Int)}{p:Str}{l:Int}(h:p∉xs.map (·.1)):putK (xs.map kv) (.inr p)^.int l=(xs++[(p,l)]).map kv:=by
 unfold putK;rw[if_neg,c0]
 .rfl
 .rw[fH]
  rintro⟨y,hy,e⟩;let#[x,hx,rfl]:=TM.mp hy;exact h^TM.mpr #[x,hx,fF^of_decide_eq_true e]
def Stp.more{H H':Hp}{d q:Ch}{as:n_ (Str×Ch)}{tb:Str->n_ (Key×V)}{p:Str}(s:Stp H d as tb H')(hq:H' q=k_)(hp:p∉as.map (·.1))(ht:tb p=[]):
  Stp H d (as++[(p,q)]) tb (Aq (Aq H' q^.dK []) d^.dK^putK (as.map λx=>((.inr x.1:Key),V.ref x.2)) (.inr p)^.ref q):=by
 have nq:q≠d:=λe=>by rw[e,s.top]at hq;cases hq
 have hHq:H q=k_:=by
  cases c:H q with
  |none=>rfl
  |some o=>rw[s.old q o c]at hq;cases hq
 refine#[λb o e=>?_,s.new,?_,λx hx=>?_,?_,?_]
 .have n1:b≠d:=λz=>by rw[z,s.new]at e;cases e
  have n2:b≠q:=λz=>by rw[z,hHq]at e;cases e
  rw[AL n1,AL n2];exact s.old b o e
 .rw[AM,O9 hp,c0];rfl
 .rcases cE.mp hx with hx|hx
  .let#[h1,h2,h3]:=s.inn x hx
   have n2:x.2≠q:=λz=>by rw[z,hq]at h3;cases h3
   exact#[h1,h2,by rw[AL h2,AL n2];exact h3]
  .rw[Op.mp hx]
   exact#[hHq,nq,by rw[AL nq,AM,ht]]
 .rw[c0,dJ]
  refine#[s.ads,cF.mpr #[(λh=>by cases h),ci],λa ha b hb e=>?_];let#[x,hx,rfl]:=TM.mp ha;have hb:b=q:=Op.mp hb;let#[h1,h2,h3]:=s.inn x hx;rw[e,hb,hq]at h3;cases h3
 .rw[c0,dJ]
  refine#[s.nms,cF.mpr #[(λh=>by cases h),ci],λa ha b hb e=>?_];have hb:b=p:=Op.mp hb;exact hp^by rw[←hb,←e];exact ha
def Rn{as:n_ (Str×Ch)}(hn:(as.map (·.1)).Nodup){p:Str}{a b:Ch}(h1:(p,a)∈as)(h2:(p,b)∈as):a=b:=by
 have:=(Hv hn h1).symm.trans^Hv hn h2
 grind
def Rm{as:n_ (Str×Ch)}(hn:(as.map (·.2)).Nodup){p q:Str}{a:Ch}(h1:(p,a)∈as)(h2:(q,a)∈as):p=q:=by
 induction as with
 |nil=>cases h1
 | cons x r ih=>
  rw[cL,cF]at hn
  rcases Uf.mp h1 with e1|g1
  .rcases Uf.mp h2 with e2|g2
   .grind
   .exact absurd (TM.mpr #[_,g2,by rw[←e1]]) hn.1
  .rcases Uf.mp h2 with e2|g2
   .exact absurd (TM.mpr #[_,g1,by rw[←e2]]) hn.1
   .exact ih hn.2 g1 g2
def Stp.put{H H':Hp}{d a:Ch}{as:n_ (Str×Ch)}{tb tb2:Str->n_ (Key×V)}{p:Str}{kvs:n_ (Key×V)}(s:Stp H d as tb H')(ha:(p,a)∈as)(h1:tb2 p=kvs)(h2:∀q,q≠p->tb2 q=tb q):
  Stp H d as tb2 (Aq H' a^.dK kvs):=by
 let#[i1,i2,i3]:=s.inn _ ha;refine#[λb o e=>?_,s.new,?_,λx hx=>?_,s.ads,s.nms]
 .have n1:b≠a:=λz=>by grind
  rw[AL n1];exact s.old b o e
 .rw[AL^cY i2]
  exact s.top
 .let#[g1,g2,g3]:=s.inn x hx
  refine#[g1,g2,?_]
  by_cases e:x.2=a
  .have:=Rm s.ads (show(x.1,a)∈as by grind) ha
   rw[e,AM,this,h1]
  .have:x.1≠p:=λz=>e^Rn s.nms (show(p,x.2)∈as by grind) ha
   rw[AL e,h2 _ this];exact g3
def Nh(ts:n_ A_)(t:A_)(p:Str):C4 (ts++[t]) p=C4 ts p++((if t.a=p then [(t.b,t.len)]else [])++(if t.b=p then [(t.a,t.len)]else [])):=by
 unfold C4
 simp_all
def MJ{ts:n_ A_}{p q:Str}(h:q∈(C4 ts p).map (·.1)):∃t∈ts,(t.a=p/\t.b=q)\/(t.b=p/\t.a=q):=by
 let#[x,hx,rfl]:=TM.mp h;let#[t,ht,hx]:=de.mp hx;refine#[t,ht,?_]
 rcases cE.mp hx with hx|hx
 .simp_all
 simp_all
def QZ(ts:n_ A_)(p:Str):(C4 ts p).length<=2*ts.length:=by
 induction ts with
 |nil=>exact cB _
 |cons t r ih=>
  unfold C4 at ih ⊢;rw[eK,cj,cj];have h1:(if t.a=p then [(t.b,t.len)]else []).length<=1:=by grind
  grind
def Us{ts:n_ A_}{t:A_}(hp:(ts++[t]).Pairwise Bn)(hlt:∀s∈ts++[t],cs s.a<cs s.b):t.b∉(C4 ts t.a).map (·.1)/\t.a∉(C4 ts t.b).map (·.1):=by
 rw[List.pairwise_append]at hp
 have key:∀s∈ts,¬((s.a=t.a/\s.b=t.b)\/(s.b=t.a/\s.a=t.b)):=λs hs e=>by
  have h1:=hp.2.2 s hs t (Op.mpr rfl);have h2:=hlt s^cu _ hs;have h3:=hlt t^cC _ (Op.mpr rfl)
  rcases e with⟨e1,e2⟩|⟨e1,e2⟩
  .unfold Bn at h1
   grind
  grind
 refine#[λh=>?_,λh=>?_]
 .let#[s,hs,e]:=MJ h
  exact key s hs e
 .let#[s,hs,e]:=MJ h
  exact key s hs^e.elim (λz=>.inr #[z.2,z.1]) λz=>.inl #[z.2,z.1]
def Lu{xs:n_ Str}(h:rising xs):xs.Nodup:=h.imp λ{a b} hlt e=>by grind
def PQ{xs:n_ Str}(h:xs.Nodup){i:Nat}(hi:i<xs.length):xs[i]∉xs.take i:=by
 have e:xs=xs.take i++xs[i]::xs.drop (i+1):=by
  simp_all
 intro hm;rw[e,dJ]at h;exact h.2.2 _ hm _ Re rfl
def Stp.at_{K:Frag}{M:Ch->Prop}{H H':Hp}{d:Ch}{as:n_ (Str×Ch)}{N:Net}(dom:∀a,M a->∃o,H a=P3 o)(s:Stp H d as (λp=>(C4 N.ts p).map kv) H')(hp:as.map (·.1)=N.ps)(f:Ch->Obj):At K M (FR H' (as.map (·.2)) f) (D1 N)^.ref d:=by
 have nd:∀b,H b=k_->¬M b:=λb e m=>by let#[o,h]:=dom b m;rw[h]at e;cases e
 have zip1:∀as:n_ (Str×Ch),(as.map λx=>((.inr x.1:Key),V.ref x.2))=((as.map (·.1)).map (.inr:Str->Key)).zip (as.map λx=>V.ref x.2):=λas=>by
  grind
 refine#[d,as.map λx=>.ref x.2,rfl,#[nd d s.new,by rw[DF (λhm=>by let#[x,hx,e]:=TM.mp hm;exact(s.inn x hx).2.1 e),s.top,zip1,hp]],by rw[FM,FM],?_];rw[←hp]
 have go:∀bs:n_ (Str×Ch),(∀x∈bs,x∈as)->Ats K M (FR H' (as.map (·.2)) f) ((bs.map (·.1)).map^VP N.ts) (bs.map λx=>V.ref x.2):=λbs=>by
  induction bs with
  |nil=>intro _;rfl
  | cons x r ih=>
   intro hx;refine#[.ref x.2,r.map λx=>V.ref x.2,rfl,?_,ih λy hy=>hx y^TW _ hy];let#[g1,g2,g3]:=s.inn x^hx x Re
   have zip2:∀xs:n_ (Str×Int),xs.map kv=(xs.map λx=>(.inr x.1:Key)).zip (xs.map λx=>V.int x.2):=λxs=>by
    induction xs with
    |nil=>rfl
    |cons x r ih=>rw[cL,ih];rfl
   refine#[x.2,(C4 N.ts x.1).map λx=>V.int x.2,rfl,#[f x.2,nd _ g1,by rw[Qh (TM.mpr #[x,hx x Re,rfl]) g3,zip2]],by rw[FM,FM],?_];generalize C4 N.ts x.1=xs
   induction xs with
   |nil=>rfl
   |cons x r ih=>exact#[.int x.2,_,rfl,rfl,ih]
 exact go as λ_ h=>h
end Nt
namespace L2
open PySem.W
section
variable {X:Cx}{zG:n_ (Addr×Obj)}{Z:L2.St}{H:Hp}{s:Shared}{h':Heap}
def Inv.adopt2{D e:Ch}{o:HO}(I:Inv X zG Z H s)(m:Sb X zG D)(hn:H D=k_)(m2:Sb X zG e)(hn2:H e=k_)(hne:D≠e)(k:∀b u,b≠D->b≠e->s.heap.get? b=P3 u->h'.get? b=P3 u)(new:ObjOk X.prog X.w (Aq H D o) h' D o):Inv X zG Z (Aq H D o) {s with heap:=h'}:=by
 have nin:∀b,b∉[D,e]->b≠D/\b≠e:=λb hc=>#[λz=>hc (by rw[z];exact Re),λz=>hc^by rw[z];exact TW _ (Op.mpr rfl)]
 refine I.step (g':=s.gens) (d':=s.drawn) (t':=s.toks) (ch:=[D,e]) (λb hb=>?_) (λb u _ _ hc q _=>k b u (nin b hc).1 (nin b hc).2 q) (λb u _ _ hc q _=>#[u.slots,k b u (nin b hc).1 (nin b hc).2 q]) (λb u hc q n=>?_)
  (λb u hc q=>#[u,k b u (nin b hc).1 (nin b hc).2 q]) (λb xs q=>?_) (λb u v q=>?_) (λb ps q=>#[#[],?_]) (λmm hm=>?_) (λb u q=>?_) I.bare
 .rcases Uf.mp hb with rfl|hb
  .exact#[.inr m.new,m.loc,m.cell,m.pin]
  .rw[Op.mp hb]
   exact#[.inr m2.new,m2.loc,m2.cell,m2.pin]
 .rw[AL (nin b hc).1];exact n
 .rw[AL^Ah q hn];exact q
 .rw[AL^Ah q hn];exact q
 .rw[AL^Ah q hn,q];simp
 .let#[u,es,ep,ho,r]:=hm
  exact#[u,es,ep,k _ u (cY m.loc) (cY m2.loc) ho,r]
 .by_cases hb:b=D
  .subst hb;rw[AM]at q;cases q;exact new
  .rw[AL hb]at q
   refine(I.hok b u q).stay (λc v hc q2=>k c v ?_ ?_ q2) (λc q2=>by rw[AL^Ah q2 hn];exact q2) λc xs q2=>by rw[AL^Ah q2 hn];exact q2
   .grind
   grind
noncomputable def Xo(K:Frag)(sp:Sp)(te:TE):TE:=λZ H Q=>te Z H λx H1=>∃(κ:Bool) (l:Ch) (vs:n_ V) (keys:n_^n_ Key) (J:n_ V->Hp->Prop),x=.ref l/\SqK κ K H1 l vs/\vs.length<64/\J [] H1 /\
 (∀ks H2 v,J ks H2->vs[ks.length]?=P3 v->sp [v] H2 (λk H3=>J (ks++[k]) H3) E0) /\
 ∀ks H2,J ks H2->ks.length=vs.length->KeysAt K H2 ks keys/\∀(ix:n_ Nat) (l:Ch),Hb keys ix->H2 l=k_->Q (.ref l)^Aq H2 l^.lst^ix.map λi=>vs.getD i .non
def T4{k:Nat}{f:Ch}{fd:cv}{pn fn:Str}{sp:Sp}{te:TE}{e:cJ}{p fp kp pos:Pos}(F:FnOk X.prog X.w X.K X.mg X.base Fb k f fd [pn] sp)(hr:Room (k+2) X.A)(hg:Gl X "sorted")(hm:X.mg "sorted"=k_)
  (hgf:Gl X fn) (hmf:X.mg fn=P3^.ref f) (hb:Binds X.K fd [pn] []) (he:PE X e te) (hs:autoParam (starEach [e] X.env=[(m_,eval e X.env)]) zau3._auto_1) (hdf:autoParam ((fn==("__debug__":Str))=m_) zau1._auto_1):
  PE X (.Call (.Name "sorted" p) [e] [#[P3 "key",.Name fn fp,kp]] pos) (Xo X.K sp te):=by
 intro zG s Z H Q I h;refine dX^EB I hg hm fR ?_
 refine callWith_kw (BF (Bp he Ck hs pos zG s Z H (λvs H1=>∃x,vs=[x]/\∃(κ:Bool) (l:Ch) (vs:n_ V) (keys:n_^n_ Key) (J:n_ V->Hp->Prop),x=.ref l/\SqK κ X.K H1 l vs/\vs.length<64/\J [] H1 /\
   (∀ks H2 v,J ks H2->vs[ks.length]?=P3 v->sp [v] H2 (λk H3=>J (ks++[k]) H3) E0) /\
   ∀ks H2,J ks H2->ks.length=vs.length->KeysAt X.K H2 ks keys/\∀(ix:n_ Nat) (l:Ch),Hb keys ix->H2 l=k_->Q (.ref l)^Aq H2 l^.lst^ix.map λi=>vs.getD i .non) I ?first) λus s1 #[xs,H1,I1,r1,q1]=>kws_cons^F5 I1 hgf hmf (kws_nil ?_) hdf) (by rw[hs];rfl)^by rw[hs];rfl
 case first=>
  show te Z H _;refine cast (congrArg (te Z H) ?_) h
  funext x H1
  refine propext #[λz=>#[x,rfl,z],fun#[y,e,z]=>?_];cases e;exact z
 let#[x,rfl,κ,l,vs,keys,J,rfl,hq,h64,j0,jstep,jend]:=q1;let#[u,rfl,ru]:=vals1 r1;cases ru;show wpAny (model X.prog X.w) X.A (call (.builtin "sorted") [.ref l] [(dY "key",.ref f)]) _ _ s1;refine Cc (ksk_s1 _ _) (λx=>ksk_l1 _ _)^Jp I1 hq λus s2 r2 hz I2=>#[by rw[←r2.length];exact hz,?_];rw[ksk_t1];have hl:=r2.length;generalize hD:s2.heap.objs.size=D;have hsz3:(s2.heap.push^seqObj "list" us.toArray 0).objs.size=D+1:=by rw[size_push',hD]
 have hoD:(s2.heap.push^seqObj "list" us.toArray 0).get? D=P3^seqObj "list" us.toArray 0:=by rw[←hD];exact Sc _ rfl
 have mD:Sb X zG D:=I2.mine (by rw[hD];exact Rs _);have mK:Sb X zG (D+2):=I2.mine (by rw[hD];exact Nat.le_add_right _ _);have nD:H1 D=k_:=I2.hok.fresh (by rw[hD];exact Rs _);have nK:H1 (D+2)=k_:=I2.hok.fresh (by rw[hD];exact Nat.le_add_right _ _);have hne:D≠D+2:=b9^di^eQ D;have nstk:∀b,Sb X zG b->b∉Qi X.stack:=λb m z=>(Uf.mp^I2.stkSub b z).elim m.loc m.fs
 refine Rw (s:={s2 with heap:=s2.heap.push^seqObj "list" us.toArray 0}) (n:=0) hoD (by rw[←hl];exact h64)
  (λks s'=>∃kV H',Vals kV ks/\J kV H'/\Inv X zG Z H' s'/\H' D=k_/\H' (D+2)=k_/\s'.heap.get? D=(Cu (s2.heap.push^seqObj "list" us.toArray 0) D us).get? D) (D+2) (by show D+2=(s2.heap.push _).objs.size+1;rw[hsz3]) (λe1 he1=>?_) (λks s' e v hJ hk hv=>?_) λe1 he1 ks s' hJ hkl=>?_
 .refine#[[],H1,.nil,j0,?_,nD,nK,rfl]
  exact I2.kept (t':=s2.toks) λb o q=>GZ (by rw[←hD];exact b9^Tk q)^Ev _ q
 .let#[kV,H',rk,hJ,I',n1,n2,hD']:=hJ
  have hi:ks.length<us.length:=(UF.mp hv).1;have hvi:vs[kV.length]?=P3 (vs[kV.length]'(by rw[rk.length];lk)):=No _;let#[u',e2,ru]:=r2.get hvi;rw[rk.length,hv]at e2;cases e2;have hsp:=jstep kV H' _ hJ hvi;have E1:Env0 X.prog X.w X.K X.mg X.base X.A.in1.in1 X.stack s' H':=I'.env0.in1.in1;refine wpAny_call^f9 (F.run X.A.in1.in1 X.stack s' H' #[[v],[]] [v] _ _ E0 (hr.in1).in1 E1 (by simpa using hb s' [v] I'.kIn rfl) (.cons ru .nil) hsp) λr s'' hq'=>?_;cases r with
  |error e=>exact cz hq'
  | ok fl=>
   cases fl with
   |next=>exact cz hq'
   |brk=>exact cz hq'
   |cont=>exact cz hq'
   | ret u=>
    let#[w',H3,os,bare,un,hok,rw',q3]:=id hq'
    obtain⟨oD,eD⟩:∃o,s'.heap.get? D=P3 o:=by
     let#[c,hc,_]:=Ii hoD;exact#[_,hD'.trans hc]
    have kD:s''.heap.get? D=P3 oD:=un.keep D oD eD n1 (nstk D mD) (by simp);have kK:s''.heap.get? (D+2)=P3^seqObj "list" ks.toArray e:=un.keep _ _ hk n2 (nstk _ mK) (by simp);have f1:H3 D=k_:=un.free D oD eD n1 (by simp);have f2:H3 (D+2)=k_:=un.free _ _ hk n2 (by simp);have I3:Inv X zG Z H3 s'':=I'.call' os un hok bare (λb z=>absurd z^by simp);refine#[kK,kV++[w'],H3,rk.append^.cons rw' .nil,q3,?_,f1,f2,?_]
    .exact I3.turned (t':=s''.toks) (λb o hb q=>(b8 _ _^cY hb).trans q) f2 mK.loc (.inr mK.new) mK.cell mK.pin
    .show(s''.heap.update (D+2) _).get? D=_
     rw[b8 _ _^cY hne,kD,←eD,hD']
 .let#[kV,H',rk,hJ,I',n1,n2,hD']:=hJ
  let#[hka,q]:=jend kV H' hJ (by rw[rk.length,hkl,hl]);have hkk:keys.length=us.length:=by rw[←hka.len,rk.length,hkl]
  refine#[hD'.trans he1,λp=>p.Perm^cM^cV us.length/\So.Srt Rc (λi=>keys.getD i []) p us.length,λh2=>?_,λh1=>#[ig _,λi j hij hj=>?_],λp h' c hp hg hold hDn _=>#[rfl,?_]]
  .have ts:=Ks (prog:=X.prog) (w:=X.w) (A:=X.A.in1.in1) (keys:=keys) (hka.tups I' rk λb o e=>e) (by lk) (G:=λp s''=>s''=s'/\p.Perm^cM^cV us.length/\So.Srt Rc (λi=>keys.getD i []) p us.length) λp a b=>#[rfl,by rw[←hkl];exact a,by rw[←hkl];exact b]
   rw[hkl]at ts;exact ts
  .have:i=j:=by lk
   subst this;exact dS _
  .have hix:(p.toList.map λi=>vs.getD i .non).length=us.length:=by rw[FM,cq,hp]
   refine#[.ref D,Aq H' D^.lst^p.toList.map λi=>vs.getD i .non,I'.adopt2 mD n1 mK n2 hne hold #[by rw[hix,←hl,cZ];lk,_,c,IW (GX r2) p.toList,hDn],rfl,q _ _ (UC hkk hg.1 hg.2) n1]
theorem JH{α β:Type}{F:α->β->Prop}:∀{l₁:n_ α}{l₂:n_ β}{j:Nat}{a:α}{b:β},Paired F l₁ l₂->l₁[j]?=P3 a->l₂[j]?=P3 b->F a b
 |_,_,_,_,_,.nil,h,_=>by simp at h
 |_,_,0,_,_,.cons r t,h1,h2=>by
  grind
 |_,_,j+1,_,_,.cons r t,h1,h2=>JH (j:=j) t (by simp_all)^by simp_all
theorem GW:∀as:n_ Ch,Vals (as.map V.ref)^as.map b_
 |[]=>.nil
 |a::as=>.cons rfl (GW as)
end
end L2
namespace Dp
open L2
noncomputable def CJ:D->o_^n_ Key
 |.tup xs=>LC xs
 |_=>k_
noncomputable def Hc(kf:D->o_^n_ Key)(xs:n_ D):Prop:=xs.Pairwise λa b=>∀ka kb,kf a=P3 ka->kf b=P3 kb->BY kb ka=m_
noncomputable def Keyed(kf:D->o_^n_ Key)(xs:n_ D):Prop:=(∀x∈xs,∃k,kf x=P3 k/\k≠[])/\∀x∈xs,∀y∈xs,∀ka kb,kf x=P3 ka->kf y=P3 kb->Bk ka kb=l_
def range_getD(xs:n_ D):(cV xs.length).map (λi=>xs.getD i .non)=xs:=by
 apply iV
 .simp
 simp_all
def QX{kf:D->o_^n_ Key}{xs:n_ D}{keys:n_^n_ Key}{ix:n_ Nat}(hl:keys.length=xs.length)(hk:∀(i:Nat) (x:D),xs[i]?=P3 x->∃k,keys[i]?=P3 k/\kf x=P3 k)(h:Hb keys ix):
  (ix.map λi=>xs.getD i .non).Perm xs/\Hc kf (ix.map λi=>xs.getD i .non):=by
 let#[hp,hs]:=h;constructor
 .have:=hp.map λi=>xs.getD i D.non
  rw[hl,range_getD]at this;exact this
 .unfold Hc
  rw[iN];intro i j hi hj hij ka kb ea eb;rw[iW]at ea eb;rw[FM]at hi hj;have il:ix.length=keys.length:=by rw[hp.length_eq,gP]
  have g:∀i (h:i<ix.length) k,kf (xs.getD ix[i] .non)=P3 k->keys.getD (ix.getD i 0) []=k:=λi h k e=>by
   have hm:ix[i]<keys.length:=eB.mp^hp.mem_iff.mp^dE h;have hx:ix[i]<xs.length:=by rw[←hl];exact hm
   let#[k',e1,e2]:=hk ix[i] xs[ix[i]] (No hx);have e3:xs.getD ix[i] .non=xs[ix[i]]:=by rw[cI,No hx];rfl
   rw[e3,e2]at e;have e4:ix.getD i 0=ix[i]:=by rw[cI,No h];rfl
   rw[e4,cI,e1];exact bz e
  have:=hs i j (gi hij)^by rw[←il];exact hj
  rw[g i hi ka ea,g j hj kb eb]at this;exact this
theorem Ec{kf:D->o_^n_ Key}:∀{xs:n_ D},(∀x∈xs,∃k,kf x=P3 k/\k≠[])->∃keys:n_^n_ Key,keys.length=xs.length/\(∀(i:Nat) (x:D),xs[i]?=P3 x->∃k,keys[i]?=P3 k/\kf x=P3 k/\k≠[])
 |[],_=>#[[],rfl,λi x e=>by simp at e]
 | x::xs,h=>by
  let#[k,e1,e2]:=h x Re;let#[keys,l,g]:=Ec (xs:=xs) λy hy=>h y^TW _ hy;refine#[k::keys,by simp_all,λi y e=>?_];cases i with
  |zero=>
   simp_all
  |succ i=>
   simp_all
section
variable {K:Frag}{M:Addr->Prop}{H:Hp}
theorem Ats.getD:∀{ds:n_ D}{vs:n_ V},Ats K M H ds vs->∀i:Nat,At K M H (ds.getD i .non)^vs.getD i .non
 |[],vs,h,i=>by cases(h);simp[At]
 |d::ds,vs,h,0=>by
  let#[v,r,e,h1,h2]:=h
  grind
 |d::ds,vs,h,i+1=>by
  let#[v,r,e,h1,h2]:=h;subst e
  simpa using Ats.getD h2 i
theorem Ats.pick{ds:n_ D}{vs:n_ V}(h:Ats K M H ds vs):∀ix:n_ Nat,Ats K M H (ix.map λi=>ds.getD i .non)^ix.map λi=>vs.getD i .non
 |[]=>rfl
 |i::ix=>#[_,_,rfl,h.getD i,Ats.pick h ix]
def Gp{kf:D->o_^n_ Key}{ds:n_ D}{vs:n_ V}{keys:n_^n_ Key}(hkf:∀d k v,d∈ds->kf d=P3 k->At K M H d v->∃a,v=.ref a/\SqT K H a^k.map kOf)(hs:Ats K M H ds vs)(hK:Keyed kf ds)(hl:keys.length=ds.length)(hk:∀(i:Nat) (x:D),ds[i]?=P3 x->∃k,keys[i]?=P3 k/\kf x=P3 k/\k≠[]):KeysAt K H vs keys:=by
 have from_:∀(i:Nat) (ns:n_ Key),keys[i]?=P3 ns->∃x,ds[i]?=P3 x/\kf x=P3 ns/\ns≠[]:=λi ns e=>by
  have hi:i<ds.length:=by rw[←hl];exact(UF.mp e).1
  let#[k,e1,e2,e3]:=hk i ds[i] (No hi);rw[e]at e1;cases e1;exact#[ds[i],No hi,e2,e3]
 refine#[hs.length.trans hl.symm,λi ns e=>?_,λx hx y hy=>?_,λx hx=>?_]
 .let#[d,e1,e2,_]:=from_ i ns e
  let#[v,e3,h3]:=hs.get e1;let#[a,rfl,h4]:=hkf d ns v (fi e1) e2 h3;exact#[a,e3,h4]
 .let#[i,hi]:=fe.mp hx
  let#[j,hj]:=fe.mp hy;let#[d,e1,e2,_]:=from_ i x hi;let#[d',e1',e2',_]:=from_ j y hj;exact hK.2 d (fi e1) d' (fi e1') x y e2 e2'
 .let#[i,hi]:=fe.mp hx
  let#[d,e1,e2,e3]:=from_ i x hi;exact e3
def Gq{d:D}{k:n_ Key}{v:V}(e:CJ d=P3 k)(h:At K M H d v):∃a,v=.ref a/\SqT K H a^k.map kOf:=by
 cases d with
 |tup xs=>
  let#[a,vs,e1,hn,hs]:=h
  have:=F6 (e) hs
  subst this;exact#[a,e1,hn.sq]
 |_=>cases e
noncomputable def Gs(ds:n_ D)(P:D->Prop):Prop:=∃d xs,ds=[d]/\Im d=P3 xs/\xs.length<64/\Keyed CJ xs/\∀xs':n_ D,xs'.Perm xs->Hc CJ xs'->P^.lst xs'
def Q1:B_ K .fr (Tg K) Gs:=by
 intro U M H ds vs P Q dom vM hp w q;let#[d,xs,rfl,e,h64,hK,w]:=w;let#[v,rfl,hx]:=Dl hp;let#[κ,a,us,rfl,hs,sq]:=TF hx e (λ_ z=>z) vM;let#[keys,hl,hk]:=Ec hK.1;refine#[κ,a,us,_,rfl,sq M H (Pres.refl _ _)^Ext.refl _ _,by rw[hs.length];exact h64,Gp (λd k v _=>Gq) hs hK hl hk,λix l ho hn=>?_];let#[o1,o2]:=QX (kf:=CJ) hl (λi x e=>by let#[k,a,b,_]:=hk i x e;simp_all) ho;exact q _ _ _ (Ap hn) (CP hn^hs.pick ix)^w _ o1 o2
end
section
variable {X:Cx}{a e:Expr}{zU:Kd}{wa:DW}{pos p fp kp:Pos}
noncomputable def Og(W:W2)(wa:DW):DW:=λn ρ P=>wa n ρ λd n1=>∃(xs:n_ D) (rk:D->D),Im d=P3 xs/\xs.length<64/\(∀x∈xs,∀Pd:D->Sg->Prop,Pd (rk x) n1->W [.sh x] n1 Pd)/\Keyed (λx=>CJ^rk x) xs /\
 ∀xs':n_ D,xs'.Perm xs->Hc (λx=>CJ^rk x) xs'->P (.lst xs') n1
def N9{k:Nat}{fn pn:Str}{W:W2}(G:Got X.prog X.w X.K X.mg X.base fn k [pn] .sh W)(hr:Room (k+2) X.A)(hg:Gl X "sorted")(hm:X.mg "sorted"=k_)(hgf:Gl X fn)(he:DE X e zU wa)
  (hs:autoParam (starEach [e] X.env=[(m_,eval e X.env)]) zau3._auto_1) (hdf:autoParam ((fn==("__debug__":Str))=m_) zau1._auto_1):DE X (.Call (.Name "sorted" p) [e] [#[P3 "key",.Name fn fp,kp]] pos) .fr^Og W wa:=by
 let#[f,fd,F,hmf,hkf,hb,hW]:=G;let#[t,h1,h2]:=he;refine#[_,T4 F hr hg hm hgf hmf hb h1 hs hdf,λC M H n ρ Z P Q R w q=>?_];refine h2 C M H n ρ Z _ _ R w λv H1 d n1 e1 f1 r1 p=>?_;let#[xs,rk,hd,h64,hw,hK,w]:=p;have R1:=R.step e1 f1;let#[κ,l,us,rfl,hs,sq]:=TF (U:=C.U) (r1.tpOf R.dom R.vM) hd R.uV R1.vM;let#[keys,hl,hk]:=Ec hK.1;have hlen:=hs.length;refine#[κ,l,us,keys,λks H2=>Ext C.U H1 H2/\FeedC X.K C.F M H2 n1/\ks.length<=xs.length/\∀(i:Nat) (k:V),ks[i]?=P3 k->∃x,xs[i]?=P3 x/\At X.K M H2 (rk x) k,rfl,sq M H1 (Pres.refl _ _)^Ext.refl _ _,by rw[hlen];exact h64,#[Ext.refl _ _,f1,cB _,λi k z=>absurd (show(k_:o_ V)=P3 k from z) λh=>nomatch h],λks H2 v hJ hv=>?_,λks H2 hJ hkl=>?_]
 .let#[ex,fd2,hle,hat]:=hJ
  have R2':=R1.step ex fd2;have hi:ks.length<xs.length:=by rw[←hlen];exact(UF.mp hv).1
  have hxi:xs[ks.length]?=P3 xs[ks.length]:=No hi;let#[v',e2,hA]:=(hs.pres^R1.pres ex).get hxi;rw[hv]at e2;cases e2;refine#[rfl,C.F,C.U,C.V,M,n1,[.sh xs[ks.length]],λd n=>d=rk xs[ks.length]/\n=n1,#[R2'.dom,R2'.fU,R2'.uV,R2'.vM,fd2,.cons #[#[v,rfl,hA],rfl] .nil],hw _ (dE hi) _ #[rfl,rfl],λr H3 d n' ex3 f3 vr hd=>?_];let#[rfl,rfl]:=hd;refine#[ex.trans ex3,f3,by rw[cj,dM];lk,λi k hik=>?_]
  by_cases hlt:i<ks.length
  .rw[fC hlt]at hik
   let#[x,h3,h4]:=hat i k hik;exact#[x,h3,h4.pres^R2'.pres ex3]
  .rw[eo^by lk]at hik
   have hi0:i=ks.length:=by
    have:=(UF.mp hik).1
    rw[dM]at this;lk
   subst hi0;rw[Nat.sub_self]at hik;cases(show P3 r=P3 k from hik);exact#[_,hxi,vr]
 .let#[ex,fd2,hle,hat]:=hJ
  have R2':=R1.step ex fd2;have hkx:ks.length=xs.length:=by rw[hkl,hlen]
  have hs2:Ats X.K M H2 (xs.map rk) ks:=by
   have go:∀(xs:n_ D) (ks:n_ V),ks.length=xs.length->(∀(i:Nat) (k:V),ks[i]?=P3 k->∃x,xs[i]?=P3 x/\At X.K M H2 (rk x) k)->Ats X.K M H2 (xs.map rk) ks:=by
    intro xs
    induction xs with
    |nil=>intro ks h _;exact gK.mp h
    | cons x xs ih=>
     intro ks h hh;cases ks with
     |nil=>cases h
     | cons k ks=>
      let#[x',e3,h3]:=hh 0 k rfl;cases(show P3 x=P3 x' from e3)
      exact#[k,ks,rfl,h3,ih ks (by simpa using h) λi k' e4=>by
       let#[y,e5,h5]:=hh (i+1) k' (by simpa using e4);exact#[y,by simpa using e5,h5]]
   exact go xs ks hkx hat
  have hK2:Keyed CJ^xs.map rk:=by
   refine#[λy hy=>?_,λy hy z hz ka kb ea eb=>?_]
   .let#[x,hx,rfl]:=TM.mp hy
    exact hK.1 x hx
   .let#[x,hx,rfl]:=TM.mp hy
    let#[x',hx',rfl]:=TM.mp hz;exact hK.2 x hx x' hx' ka kb ea eb
  refine#[Gp (λd k v _=>Gq) hs2 hK2 (by rw[hl,FM]) λi x e=>?_,λix l ho hn=>?_]
  .rw[XV]at e
   let#[x',hx',rfl]:=cU.mp e;exact hk i x' hx'
  .let#[o1,o2]:=QX (kf:=λx=>CJ^rk x) hl (λi x e=>by let#[k,a,b,_]:=hk i x e;exact#[k,a,b]) ho
   have g:Grow H2 (Aq H2 l^.lst^ix.map λi=>us.getD i .non):=Ap hn;refine q _ _ (.lst^ix.map λi=>xs.getD i .non) n1 ((e1.trans ex).trans g.ext) (fd2.grow g) (VR.back (e1.trans ex) ?_)^w _ o1 o2;exact CP hn^(hs.pres^R1.pres ex).pick ix
noncomputable def XO:Key->D
 |.inl i=>.int i
 |.inr x=>.str x
noncomputable def DZ:Key->Prop
 |.inl _=>True
 |.inr x=>x.length<=sizeLine
def U6{K:Frag}{M:Ch->Prop}{H:Hp}{k:Key}(h:DZ k):At K M H (XO k)^kOf k:=by
 cases k with
 |inl i=>exact rfl
 |inr x=>exact#[rfl,h]
end
end Dp
namespace L2
section
open PySem.MeetsSeq
open PySem.AutoSeq1 (wpAny_loadPart')
def TU(l:Ch)(items:Array Db)(n:Nat)(x:Db)(e:Db->Bool)(j:Nat)(hj:j<items.size)(hit:e items[j]=l_)(hs1:items.size<=sizeLine)(prog:cH)(w:cN)(A:cW)(R:Result->Go->Prop)(hp:cA)(g:Array GenState)(d:Drawn)(tk:Nat)(os:_)
  (hl:hp.get? l=P3 {cls:=.type "list",dict:=k_,data:=.seq items n,slots:=#[]}) (he:∀y,y∈items->PySem.SeqAt.EqAt A.in1 #[hp,g,d,tk,os] y x^e y) (h:R (.ok^.ret .none) #[hp.update l^cn λxs=>xs.eraseIdxIfInBounds j,g,d,tk,os]):
  ∀k i:Nat,j - i=k->i<=j->(∀m (hm:m<items.size),i<=m->m<j->e items[m]=m_)->
   wpAny (model prog w) A.in1 (ej.«list.remove.loop» #[[.ref l,x,rawInt i],[]]) (λfin s'=>match fin with|.done f=>R (.ok f) s'|.again c'=>c'.quiet=l_/\codeAny (model prog w) A c' R s') (λe s'=>R (.error e) s') #[hp,g,d,tk,os]:=by
 intro k
 induction k with
 |zero=>
  intro i hk hij hno;have hij':i=j:=by lk
  subst hij'
  wp_walk using fM hl
  have hi:items[((i:Nat):Int).toNat]?=P3 items[i]:=by simp[hj]
  rw[hi];refine Cn^he _ (Array.getElem_mem hj) prog w _ _ ?_;rw[hit];have hz':(items.eraseIdxIfInBounds i).size<=sizeLine+1:=cG (size_erased items _)^gQ hs1
  wp_walk using (fO hl rfl (hz:=hs1) (_hz':=hz')),fM hl
  simpa using h
 | succ k ih=>
  intro i hk hij hno;have hlt:i<items.size:=by lk
  wp_walk using fM hl
  have hi:items[((i:Nat):Int).toNat]?=P3 items[i]:=by simp[hlt]
  have hc:((i:Int)+1)=((i+1:Nat):Int):=by push_cast;rfl
  rw[hi];refine Cn^he _ (Array.getElem_mem hlt) prog w _ _ ?_;rw[hno i hlt (Rs _)^by lk]
  wp_walk
  rw[hc]
  exact#[eA plain_remove_loop _,dU entry_remove_loop (by
   rw[eG plain_remove_loop _];exact ih (i+1) (by lk) (by lk) λm hm h1 h2=>hno m hm (by lk) h2)]
def TV{prog:cH}{w:cN}{A:cW}{E:Db->Go->Prop}{s:Go}{Q:Db->Go->Prop}(l:Ch)(items:Array Db)(n:Nat)(x:Db)(e:Db->Bool)(j:Nat)(hj:j<items.size)(hit:e items[j]=l_)(hno:∀m (hm:m<items.size),m<j->e items[m]=m_)
  (hs1:items.size<=sizeLine) (hl:s.heap.get? l=P3 {cls:=.type "list",dict:=k_,data:=.seq items n,slots:=#[]}) (he:∀y,y∈items->PySem.SeqAt.EqAt A.in1 s y x^e y)
  (h:Q .none {s with heap:=s.heap.update l^cn λxs=>xs.eraseIdxIfInBounds j}):wpAny (model prog w) A (call (.builtin "list.remove") [.ref l,x]) Q E s:=by
 have key:wpAny (model prog w) A.in1 (ej.«list.remove» #[[.ref l,x],[]]) (λfin s'=>match fin with|.done f=>wants Q E (.ok f) s'|.again c'=>c'.quiet=l_/\codeAny (model prog w) A c' (wants Q E) s') (λe s'=>wants Q E (.error e) s') s:=by
  let#[hp,g,d,tk,os]:=s
  wp_walk using fM hl
  exact#[eA plain_remove_loop _,dU entry_remove_loop (TU l _ n x e j hj hit hs1 _ w A _ hp g d tk os hl he h _ 0 rfl (cB _) (λm hm _ h2=>hno m hm h2))]
 exact wpAny_call^codeAny_call_builtin PySem.F.slot_list_remove.plain PySem.F.entry_list_remove^PySem.F.slot_list_remove.check _ _ _ _ _ _ _ _ #[_,hl,rfl] (PySem.F.args_list_remove_2 _ _) key
end
section
variable {X:Cx}
noncomputable def QK:V->n_ V->Hp->VK->Prop:=λx vs H Q=>∃(l:Ch) (xs:n_ V) (y:V) (ds:n_ gB) (d:gB) (j:Nat),x=.ref l/\vs=[y]/\H l=P3^.lst xs/\RVs H ds xs/\RV H d y/\fA ds=l_/\d.canLay0=l_/\d.depth<=100 /\
 (∃dj,ds[j]?=P3 dj/\fo dj d=l_)/\(∀m dm,m<j->ds[m]?=P3 dm->fo dm d=m_)/\Q .non^Aq H l^.lst^xs.eraseIdx j
def K7{k:Nat}(hr:Room k X.A):XY X "list.remove" QK:=by
 intro zG s Z H x vs v us Q I rx rv h;let#[l,xs,y,ds,d,j,rfl,rfl,hH,hds,hd,c1,c2,dd,#[dj,hj,hit],hno,q]:=h;cases rx;let#[u,rfl,ru]:=rv.one;let#[z,its,n,r,hl,e]:=I.lstM hH;let#[as,ra]:=RVs.reads I hds r;let#[bs,rb]:=RV.reads I hd ru;have hm:=PySem.SeqAt.readsAll_map ds its as c1 ra;have hlen:ds.length=its.length:=by rw[←hm,FM]
 have hu:=hr.un;have hmin:min (dq ds) d.depth<=d.depth:=iT _ _
 have at_:∀m dm,ds[m]?=P3 dm->∀(h:m<its.toArray.size),PySem.SeqAt.readOf s.heap its.toArray[m]=dm:=λm dm e h=>by
  rw[←hm,XV]at e;have h':m<its.length:=by simpa using h
  rw[No h']at e;have e:=bz e
  simpa using e
 have hjl:j<its.length:=by rw[←hlen];exact(UF.mp hj).1
 refine TV l its.toArray n u (λy=>fo (PySem.SeqAt.readOf s.heap y) d) j (by rw[b7];exact hjl) (by rw[at_ j dj hj];exact hit) (λm hm' hlt=>?_) (by rw[b7];lk) e (PySem.SeqAt.items_eqAt (vs:=its.toArray) (by rw[List.toList_toArray];exact ra) rb c1 c2^by lk) ?_
 .have hml:m<ds.length:=by rw[hlen];simpa using hm'
  rw[at_ m ds[m] (No hml) hm'];exact hno m ds[m] hlt (No hml)
 .refine#[.non,_,I.lset (t':=s.toks) (its':=its.eraseIdx j) hH e ?_ (r.eraseIdx j) ?_,rfl,q]
  .show its.toArray.eraseIdxIfInBounds j=(its.eraseIdx j).toArray
   rw[List.eraseIdxIfInBounds_toArray]
  .have:=LB xs j
   omega
end
end L2
namespace Dp
open L2
noncomputable def Yb(d:D)(ds:n_ D)(P:D->D->Prop):Prop:=∃(xs:n_ D) (y:D) (j:Nat),d=.lst xs/\ds=[y]/\DC^.lst xs/\DC y/\(∃x,xs[j]?=P3 x/\FT x y=l_)/\(∀m x,m<j->xs[m]?=P3 x->FT x y=m_)/\P (.lst^xs.eraseIdx j) .non
def XS{K:Frag}:Oa K QK Yb:=by
 intro M H a d ds vs P Q m t hv w q;let#[xs,y,j,rfl,rfl,#[n1,l1,_],#[n2,l2,d2],#[x,hx,hit],hno,w]:=w;let#[us,h1,h2]:=t;let#[u,r,rfl,hu,hr]:=hv;cases(show r=[]from hr)
 have get:∀(m:Nat) (p:gB),(Bi xs)[m]?=P3 p->∃x,xs[m]?=P3 x/\p=toPy x:=λm p e=>by
  rw[EX,XV]at e;let#[x,e1,rfl]:=cU.mp e
  grind
 refine#[a,us,u,Bi xs,toPy y,j,rfl,rfl,h1,h2.rv n1,hu.rv n2,l1,l2,d2,#[toPy x,by rw[EX,XV,hx];rfl,hit],λm p hm e=>?_,q _ (.lst^xs.eraseIdx j) .non _ #[us.eraseIdx j,AM,?_] rfl w]
 .let#[x',e1,rfl]:=get m p e
  exact hno m x' hm e1
 .exact(h2.eraseIdx j).pres^Cd m h1
noncomputable def IS(c:Hd)(wb:Ac):Ac:=λD2 n ρ=>∃W:Nat->Sg->n_ Slot->Prop,(∃m,W m n ρ)/\∀m n ρ,W m n ρ->
 c n ρ λb n1=>if b=l_ then ∃N:Sg->n_ Slot->Prop,(∀n' zY,N n' zY->∃m',m'<m/\W m' n' zY)/\wb {D2 with nx:=N,ct:=N,bk:=D2.nx} n1 ρ else D2.nx n1 ρ
section
variable {X:Cx}{κ:Kd}{c:Expr}{body:n_ Stmt}{wc:Hd}{wb:Ac}{pos:Pos}
def Jg(hp:ia (model X.prog X.w) X.A X.env X.xe)(hc:DT X c wc)(hb:Se X κ body wb):DS X κ (.While c body [] pos)^IS wc wb:=by
 let#[tc,c1,c2]:=hc;let#[tb,b1,b2]:=hb;refine#[_,Tv hp c1 b1,λC M H n ρ Z D2 E R L w=>?_];let#[W,#[m0,w0],turn]:=w;refine#[λm zZ H'=>∃M' n' zY,Rel X.K C M' H' n' zY zZ/\W m n' zY,#[m0,M,n,ρ,R,w0],?_];rintro m zZ H' ⟨M',n',zY,R',w'⟩;refine c2 C M' H' n' zY zZ _ _ R' (turn m n' zY w') λb H2 n2 e f p=>?_;have R2:=R'.step e f;cases b with
 | true=>
  rw[if_pos rfl]at p ⊢;let#[N,hN,p]:=p;refine#[λzV H3=>∃M3 n3 zQ,Rel X.K C M3 H3 n3 zQ zV/\N n3 zQ,λzV H3 #[M3,n3,zQ,R3,w3]=>?_,?_]
  .let#[m',hm,w4]:=hN n3 zQ w3
   exact#[m',hm,M3,n3,zQ,R3,w4]
  .exact b2 C M' H2 n2 zY zZ {D2 with nx:=N,ct:=N,bk:=D2.nx} _ R2 #[λM4 H4 n4 zT zS R4 w4=>#[M4,n4,zT,R4,w4],L.rt,λM4 H4 n4 zT zS R4 w4=>L.nx M4 H4 n4 zT zS R4 w4,λM4 H4 n4 zT zS R4 w4=>#[M4,n4,zT,R4,w4]] p
 |false=>
  rw[if_neg^by cbv]at p ⊢;exact L.nx M' H2 n2 zY zZ R2 p
def GV{D2:E2}{n:Sg}{ρ:n_ Slot}(I:Nat->Sg->n_ Slot->Prop)(m0:Nat)(h0:I m0 n ρ)
  (hs:∀m n ρ (N:Sg->n_ Slot->Prop),I m n ρ->(∀m' n' zY,m'<m->I m' n' zY->N n' zY)->wc n ρ λb n1=>if b=l_ then wb {D2 with nx:=N,ct:=N,bk:=D2.nx} n1 ρ else D2.nx n1 ρ)
  (mono:∀n ρ (P Q:Bool->Sg->Prop),(∀b n1,P b n1->Q b n1)->wc n ρ P->wc n ρ Q):IS wc wb D2 n ρ:=by
 refine#[I,#[m0,h0],λm n ρ h=>?_];refine mono n ρ _ _ (λb n1 p=>?_)^hs m n ρ (λn' zY=>∃m',m'<m/\I m' n' _) h λm' n' zY hm hi=>#[m',hm,hi];cases b with
 |true=>exact#[_,λ_ _ z=>z,p]
 |false=>exact p
end
end Dp
namespace Nt
open L2 Dp
noncomputable def ZG(s t:A_):Decidable (s=t):=
 if h:s.a=t.a/\s.b=t.b/\s.len=t.len then .isTrue (by let#[a,b,l]:=s;let#[a',b',l']:=t;let#[h1,h2,h3]:=h;simp only at h1 h2 h3;subst h1 h2 h3;rfl)else .isFalse λe=>h^by rw[e];exact#[rfl,rfl,rfl]
noncomputable instance:DecidableEq A_:=ZG
noncomputable abbrev EF(Pd:D->Sg->Prop):E2:={nx:=λn _=>Kd.fr=.sh/\Pd .non n,rt:=Pd}
noncomputable def NT(t:A_):n_ Key:=[.inl t.len,.inr t.a,.inr t.b]
noncomputable def FW(ts:n_ A_):Prop:=ts.Pairwise λs t=>BY (NT t)^NT s=m_
noncomputable def Wv:D->D
 |.tup [x,y,z]=>.tup [z,x,y]
 |d=>d
noncomputable def av(x:Str×Int):D:=.tup [.str x.1,.int x.2]
noncomputable abbrev LZ:W2:=λss n P=>∃x y z:D,ss=[.sh^.tup [x,y,z]]/\P (.tup [z,x,y]) n
noncomputable def C5:W2:=λss n P=>∃(d:D) (ts:n_ A_),ss=[.sh d]/\Im d=P3^ts.map An/\ts.length<64/\∀ts':n_ A_,ts'.Perm ts->FW ts'->P (.lst^ts'.map An) n
noncomputable def SO:Ac:=(As^A3^AD (AV A1 (AA 0)^wC^D.int 2)^AD (AV A1 (AA 0)^wC^D.int 0)^AD (AV A1 (AA 0)^wC^D.int 1) AQ)
noncomputable def Jw:Ac:=(As^Og LZ^AA 0)
def TR{s t:A_}(h:NT s=NT t):s=t:=by
 let#[a,b,l]:=s;let#[a',b',l']:=t;unfold NT at h
 grind
theorem EZ{α:Type}{R:α->α->Prop}(anti:∀a b,R a b->R b a->a=b):∀{l1 l2:n_ α},l1.Perm l2->l1.Pairwise R->l2.Pairwise R->l1=l2
 |[],l2,p,_,_=>(List.nil_perm.mp p).symm
 |a::l1,[],p,_,_=>absurd (List.perm_nil.mp p)^dG _ _
 | a::l1,b::l2,p,h1,h2=>by
  have e:a=b:=by
   rcases Uf.mp^p.mem_iff.mp Re with e|h
   .exact e
   .rcases Uf.mp^p.mem_iff.mpr^Re with e|h'
    .exact e.symm
    .exact anti a b ((cw.mp h1).1 b h')^(cw.mp h2).1 a h
  subst e;rw[EZ anti ((List.perm_cons a).mp p) (cw.mp h1).2 (cw.mp h2).2]
def HH{l1 l2:n_ A_}(p:l1.Perm l2)(h1:FW l1)(h2:FW l2):l1=l2:=EZ (λa b x y=>TR^CI _ _ y x) p h1 h2
def S1{α:Type}{f:α->D}{g:D->α}(hg:∀x,g^f x=x){xs:n_ D}{ts:n_ α}(h:xs.Perm^ts.map f):∃ts':n_ α,ts'.Perm ts/\xs=ts'.map f:=by
 refine#[xs.map g,?_,?_]
 .have:=h.map g
  rw[eg,show g∘f=id from funext hg,fS]at this;exact this
 .rw[eg]
  have:∀x∈xs,(f∘g) x=x:=λx hx=>by
   let#[t,_,rfl]:=TM.mp^h.mem_iff.mp hx
   grind
  rw[d8 this,List.map_id']
noncomputable def Ux:D->A_
 |.tup [.str a,.str b,.int l]=>#[a,b,l]
 |_=>#["","",0]
section
variable {ss:n_ Slot}{n:Sg}{Pd:D->Sg->Prop}
def Iz(h:LZ ss n Pd):SO (EE Pd) n (ss++T0 0 .no):=by
 let#[x,y,z,rfl,p]:=h;exact#[_,AH rfl,_,AH rfl,_,AH rfl,z3,p]
def UA{ts:n_ A_}(h:Hc (λx=>CJ^Wv x)^ts.map An):FW ts:=by
 unfold Hc at h;rw[gR]at h;exact h.imp λ{s t} z=>z _ _ rfl rfl
def HG(h:C5 ss n Pd):Jw (EF Pd) n (ss++T0 0 .no):=by
 let#[d,ts,rfl,hd,h64,p]:=h;unfold Jw;refine#[ts.map An,Wv,hd,by rw[FM];exact h64,λx hx Q hq=>?_,#[λx hx=>?_,λx hx y hy ka kb ea eb=>?_],λxs' hp ho=>?_]
 .let#[t,_,rfl]:=TM.mp hx
  exact#[_,_,_,rfl,hq]
 .let#[t,_,rfl]:=TM.mp hx
  exact#[NT t,rfl,dG _ _]
 .let#[t,_,rfl]:=TM.mp hx
  let#[u,_,rfl]:=TM.mp hy;cases(show P3^NT t=P3 ka from ea);cases(show P3^NT u=P3 kb from eb);rfl
 .let#[ts',h1,rfl]:=S1 (g:=Ux) (λ_=>rfl) hp
  exact p ts' h1^UA ho
def MK{N:Net}(ok:N.Ok){x:Str}{p:Str×Int}(h:p∈C4 N.ts x):p.1∈N.ps/\1<=p.2/\p.2<=1000000/\∃t∈N.ts,t.len=p.2/\((t.a=x/\t.b=p.1)\/(t.b=x/\t.a=p.1)):=by
 let#[t,ht,h]:=de.mp h;let#[m1,m2,m3,m4,m5]:=ok.tin t ht
 rcases cE.mp h with h|h
 .split at h
  .rename_i e
   rw[Op.mp h];exact#[m2,m4,m5,t,ht,rfl,.inl #[e,rfl]]
  .cases h
 .split at h
  .rename_i e
   rw[Op.mp h];exact#[m1,m4,m5,t,ht,rfl,.inr #[e,rfl]]
  .cases h
def Qn(s t:A_):FT (An s)^An t=l_↔s=t:=by
 let#[a,b,l]:=s;let#[a',b',l']:=t;show(a==a'&&(b==b'&&(l==l'&&l_)))=l_↔_
 simp_all
def Gj{xs:n_ D}(h:∀d∈xs,item d):DC^.lst xs:=by
 have d1:=dps_le.mpr λd hd=>(h d hd).2.2;exact PZ (by cbv) (fines_iff.mpr λd hd=>(h d hd).1)^by show M8 xs+1<=100;lk
theorem LG{α β:Type}(f:α->β):∀(l:n_ α) (i:Nat),(l.map f).eraseIdx i=(l.eraseIdx i).map f
 |[],i=>rfl
 |x::l,0=>rfl
 |x::l,i+1=>by
  show f x::(l.map f).eraseIdx i=f x::(l.eraseIdx i).map f;rw[LG f l i]
def WJ{N:Net}(ok:N.Ok){x o:Str}{s t:A_}(hs:s∈N.ts)(ht:t∈N.ts)(e:Bn s t)(h1:(s.a=x/\s.b=o)\/(s.b=x/\s.a=o))(h2:(t.a=x/\t.b=o)\/(t.b=x/\t.a=o)):False:=by
 have ls:=(ok.tin s hs).2.2.1;have lt:=(ok.tin t ht).2.2.1;have irr:∀a,¬cs a<cs a:=λa=>gI _
 rcases h1 with⟨a1,b1⟩|⟨a1,b1⟩ <;>rcases h2 with⟨a2,b2⟩|⟨a2,b2⟩ <;>rw[a1,b1]at ls <;>rw[a2,b2]at lt
 .rcases e with e|⟨_,e⟩
  .rw[a1,a2]at e;exact irr _ e
  grind
 .grind
 .exact irr _^ft ls lt
 .rcases e with e|⟨_,e⟩
  .rw[b1,b2]at e;exact irr _ e
  grind
def Ro{N:Net}(ok:N.Ok)(x:Str):((C4 N.ts x).map (·.1)).Nodup:=by
 have go:∀ts:n_ A_,(∀t∈ts,t∈N.ts)->ts.Pairwise Bn->((C4 ts x).map (·.1)).Nodup:=by
  intro ts
  induction ts with
  |nil=>intro _ _;exact ci
  | cons t ts ih=>
   intro hin hp;have i1:=ih (λs hs=>hin s^TW _ hs) (cw.mp hp).2;have lt:=(ok.tin t^hin t Re).2.2.1
   have new:∀y,((t.a=x/\t.b=y)\/(t.b=x/\t.a=y))->y∉(C4 ts x).map (·.1):=λy hy hm=>by
    let#[s,hs,h]:=MJ hm;exact WJ ok (hin t Re) (hin s^TW _ hs) ((cw.mp hp).1 s hs) hy h
   have e:C4 (t::ts) x=((if t.a=x then [(t.b,t.len)]else [])++(if t.b=x then [(t.a,t.len)]else []))++C4 ts x:=by
    unfold C4;rw[eK]
   rw[e]
   by_cases h1:t.a=x
   .have h2:¬t.b=x:=λz=>by rw[h1,z]at lt;exact gI _ lt
    rw[if_pos h1,if_neg h2,cX,ge,cL,cF];exact#[new _^.inl #[h1,rfl],i1]
   .rw[if_neg h1,dB]
    by_cases h2:t.b=x
    .rw[if_pos h2,ge,cL,cF]
     exact#[new _^.inr #[h2,rfl],i1]
    .rw[if_neg h2,dB]
     exact i1
 exact go N.ts (λ_ h=>h) ok.trise
end
noncomputable def FG(t:A_):n_ Key:=[.inr t.a,.inr t.b,.inl t.len]
noncomputable def LN(ts:n_ A_):Prop:=ts.Pairwise λs t=>BY (FG t)^FG s=m_
def KZ(s:A_):¬Bn s s:=by
 rintro(h|⟨_,h⟩) <;>exact BK _ h
def VZ{s t:A_}(h:Bn s t):BY (FG s)^FG t=l_:=by
 show(if d7 _=.inr _ then(if d7 _=.inr _ then(if gc _=.inl _ then m_ else decide _)else decide (cs _<cs _))else decide (cs _<cs _))=l_
 rcases h with h|⟨h,h'⟩
 .rw[if_neg λe=>BK s.a^by simp_all,decide_eq_true h]
 .rw[if_pos (by rw[h]),if_neg λe=>BK s.b^by grind,decide_eq_true h']
def Bm{ts:n_ A_}(h:ts.Pairwise Bn):ts.Nodup:=h.imp λ{s t} h e=>by rw[e]at h;exact KZ _ h
def sub_len{l m:n_ A_}(hl:l.Nodup)(hm:m.Nodup)(h:∀t∈l,t∈m):l.length<=m.length:=by
 have:l.Perm (m.filter λt=>decide (t∈l)):=(iG hl^hm.filter _).mpr λt=>by
  simp_all
 rw[this.length_eq];exact cf _ _
def Xu{N:Net}(ok:N.Ok){ts:n_ A_}(h:∀t∈ts,t∈N.ts)(hp:ts.Pairwise Bn):Net.Ok #[N.ps,ts]:=#[ok.names,ok.rise,λt ht=>ok.tin t^h t ht,hp]
end Nt
namespace L2
open PySem.W
end L2
namespace Dp
open L2
end Dp
namespace Nt
open L2 Dp
noncomputable def look(ts:n_ A_)(x y:Str):o_ Int:=((C4 ts x).find? λz=>decide (z.1=y)).map (·.2)
noncomputable def MM(ts:n_ A_):Str->n_ Str->Int->o_ Int
 |_,[],s=>P3 s
 |x,y::r,s=>match look ts x y with
  |some l=>MM ts y r (s+l)
  |none=>k_
noncomputable def FK:o_ Int->D
 |some i=>.int i
 |none=>.non
noncomputable def EG:D->Bool
 |.str _=>l_
 |_=>m_
noncomputable def YO(N:Net):n_ Str->D
 |x::r=>if x∈N.ps then FK^MM N.ts x r 0 else .non
 |[]=>.non
noncomputable def Zq(N:Net):D->D
 |.tup xs=>if xs.all EG then YO N^strsOf xs else .non
 |_=>.non
noncomputable def Z0(d:D):Prop:=Hl (10 ^ 40) d/\Si d<=160000/\Sl d<=50
noncomputable abbrev Yw:W2:=λss n P=>∃(N:Net) (d:D),ss=[.sh^enc N,.sh d]/\N.Ok/\N.ps.length<=26/\N.ts.length<=60/\Z0 d/\P (Zq N d) n
noncomputable def OI:Ac:=(AW (BC (IT (G6^AX^Xg "tuple"^AA 1)^AX^AV (Ee m_) (Be DK^AD (AA 1) AQ)^wC^D.int 0) (As^wC D.non) Ao)
 (AW (BC (G6^AX^Be Z3^AD (CV [k_] (BS^AA 1) (Az 0) Q9^Xg "str"^AA 0) AQ) (As^wC D.non) Ao)
 (AW (Au 2^Aa Mw^AE (AK^AA 0) AS)
 (AW (BC (AX^AV (Hr l_) (AV A1 (AA 1)^wC^D.int 0)^AA 2) (As^wC D.non) Ao)
 (AW (Au 3^wC^D.int 0)
 (AW (IV (ZC^AD (AA 1)^AD (aM Ul (AA 1) (P8^wC^D.int 1) Hu) AQ) (Ke 2^BP (Az 4)^BP (Az 5) E7) (AW (BC (AX^AV (Hr l_) (AA 5)^AV A2 (AA 2)^AA 4) (As^wC D.non) Ao)
 (Sy 3^AV A2 (AV A2 (AA 2)^AA 4)^AA 5)))
 (As^AA 3)))))))
theorem NN:∀{xs:n_ D},xs.all EG=l_->∃ys:n_ Str,xs=ys.map .str
 |[],_=>#[[],rfl]
 |d::r,h=>by
  rw[List.all_cons,cP]at h;let#[ys,e]:=NN h.2;cases d with
  |str x=>exact#[x::ys,by grind]
  |_=>cases h.1
def all_strs(ys:n_ Str):(ys.map D.str).all EG=l_:=by rw[List.all_map];exact gX.mpr λ_ _=>rfl
theorem Lf{g:Str->D}{x:Str}:∀{ps:n_ Str},BO (ps.map .inr) (ps.map g)^.inr x=if x∈ps then P3^g x else k_
 |[]=>rfl
 |p::ps=>by
  show(if d7 p=.inr x then P3 _ else BO _ _ _)=_;rw[Lf]
  grind
theorem Lg{y:Str}:∀{xs:n_ (Str×Int)},BO (xs.map λx=>.inr x.1) (xs.map λx=>.int x.2)^.inr y=((xs.find? λz=>decide (z.1=y)).map (·.2)).map .int
 |[]=>rfl
 |p::ps=>by
  show(if d7 _=.inr y then P3 _ else BO _ _ _)=_;rw[Lg]
  by_cases e:p.1=y
  .simp_all
  simp_all
def UP{N:Net}(ok:N.Ok){x y:Str}{l:Int}(h:look N.ts x y=P3 l):y∈N.ps/\1<=l/\l<=1000000:=by
 unfold look at h;cases c:(C4 N.ts x).find? λz=>decide (z.1=y)with
 |none=>grind
 |some z=>
  have h1:=List.find?_some c;let#[t,ht,hz]:=de.mp^iO c;let#[m1,m2,_,m3,m4]:=ok.tin t ht
  rcases cE.mp hz with hz|hz
  .simp_all
  simp_all
section
variable {ss:n_ Slot}{n:Sg}{Pd:D->Sg->Prop}
theorem Nm{N:Net}(ok:N.Ok){D2:E2}{b0 b1:Slot}:∀(r:n_ Str) (x:Str) (s:Int) (s4 s5:Slot),x∈N.ps->(match MM N.ts x r s with|some l=>∀s4 s5,D2.nx n [b0,b1,.sh^D1 N,.sh^.int l,s4,s5]|none=>D2.rt .non n)->
  Bh (Ke 2^BP (Az 4)^BP (Az 5) E7) (AW (BC (AX^AV (Hr l_) (AA 5)^AV A2 (AA 2)^AA 4) (As^wC D.non) Ao)^Sy 3^AV A2 (AV A2 (AA 2)^AA 4)^AA 5) D2 (He ((x::r).map .str)^r.map .str) n [b0,b1,.sh^D1 N,.sh^.int s,s4,s5]
 |[],x,s,s4,s5,hx,h=>h s4 s5
 | y::r,x,s,s4,s5,hx,h=>by
  have v1:BO (N.ps.map .inr) (N.ps.map^VP N.ts)^.inr x=P3^VP N.ts x:=by rw[Lf,if_pos hx]
  refine#[rfl,rfl,?_];refine#[_,_,.inr x,_,rfl,rfl,v1,_,_,.inr y,rfl,rfl,?_];rw[Lg];unfold MM at h;have hl:((C4 N.ts x).find? λz=>decide (z.1=y)).map (·.2)=look N.ts x y:=rfl;rw[hl];cases c:look N.ts x y with
  |none=>rw[c]at h;exact Dt h
  |some l=>
   rw[c]at h;have v2:BO ((C4 N.ts x).map λz=>.inr z.1) ((C4 N.ts x).map λz=>.int z.2)^.inr y=P3^.int l:=by rw[Lg,hl,c];rfl
   refine Ce #[s,rfl,_,_,.inr x,_,rfl,rfl,v1,_,_,.inr y,_,rfl,rfl,v2,l,rfl,?_];exact Nm ok r y (s+l) _ _ (UP ok c).1 h
def Ly(h0:Yw ss n Pd):OI (EE Pd) n (ss++T0 4 .no):=by
 let#[N,d,rfl,ok,lp,lt,fd,p]:=h0;cases d with
 | tup xs=>
  have hl:=QF xs;have hz:NM xs<=160000:=fd.2.1;have p':Pd (if xs.all EG then YO N^strsOf xs else .non) n:=p;refine#[_,_,rfl,rfl,?_];show if((xs.length:Int)==0)=l_ then _ else _
  cases xs with
  |nil=>exact Dt p'
  | cons x0 r0=>
   rw[show(((x0::r0).length:Int)==0)=m_ from beq_eq_false_iff_ne.mpr^by rw[cT];lk];refine Ce #[by lk,?_];refine DB (λd=>.bl^EG d) (λρ=>∃s,ρ=[s]) _ _ _ _ ?_ #[_,rfl] ?_
   .rintro d hd ρ m nx ⟨s,rfl⟩ hnx
    have:=hnx [.sh d] #[_,rfl]
    have hf:=fines_iff.mp (show Jb _ _ from fd.1) d hd;cases d <;>first|exact this|exact hf.elim
   rw[dB];refine#[_,_,rfl,OO EG (x0::r0),?_];rw[Yn];show if(!(x0::r0).all EG)=l_ then _ else _
   cases ha:(x0::r0).all EG with
   |false=>rw[ha]at p';exact Dt p'
   | true=>
    rw[ha]at p';let#[ys,e]:=NN ha;rw[e,Ie]at p';cases ys with
    |nil=>cases e
    | cons y r=>
     rw[cL]at e;cases e;refine Ce #[N,rfl,ok,by lk,by lk,?_];refine#[.str y,AH (j:=0) rfl,_,_,.inr y,rfl,rfl,?_];show if(!(BO (N.ps.map .inr) (N.ps.map^VP N.ts)^.inr y).isSome)=l_ then _ else _
     rw[Lf];have p2:Pd (if y∈N.ps then FK^MM N.ts y r 0 else .non) n:=p'
     by_cases hy:y∈N.ps
     .rw[if_pos hy]at p2 ⊢
      refine Ce #[_,_,(y::r).map .str,r.map .str,rfl,rfl,by show P3^Dp.cutD (D.str y::r.map .str) (P3 1) k_=_;rw[bD];rfl,?_];refine Nm ok r y 0 _ _ hy ?_;cases c:MM N.ts y r 0 with
      |none=>rw[c]at p2;exact p2
      |some l=>rw[c]at p2;exact λ_ _=>p2
     .rw[if_neg hy]at p2 ⊢
      exact Dt p2
 |ob a=>exact(show False from fd.1).elim
 |_=>exact p
theorem B7{b:BW}{tt:Hd}{te:DW}{P:n_ D->Sg->Prop}(c:D->Bool)(g:D->D)(I:n_ Slot->Prop):∀(ds acc:n_ D) (n:Sg) (ρ:n_ Slot),
  (∀d∈ds,∀(ρ:n_ Slot) (n:Sg) (nx:D->Sg->n_ Slot->Prop) (sk:Sg->n_ Slot->Prop),I ρ->(∀zY,I zY->c d=l_->nx (g d) n zY)->(∀zY,I zY->c d=m_->sk n zY)->b d ρ λzP=>tt n zP λc n1=>if c=l_ then te n1 zP λy n2=>nx y n2 zP else sk n1 zP)->I ρ->P (acc++(ds.filter c).map g) n->HM b tt te P ds acc n ρ
 |[],acc,n,ρ,_,_,h=>by rw[ii,List.map_nil,cX]at h;exact h
 |d::ds,acc,n,ρ,ht,hρ,h=>ht d Re ρ n _ _ hρ
  (λzY hρ' hc=>B7 c g I ds _ n _ (λd hd=>ht d^TW _ hd) hρ'^by simp_all)
  (λzY hρ' hc=>B7 c g I ds _ n _ (λd hd=>ht d^TW _ hd) hρ'^by grind)
end
noncomputable def Jx:Ac:=(As^Aa C5^AE (AK^CV [P3 1,k_] (BS^AV A1 (AA 0)^wC^D.int 1) (Az 1) (AX^AV (Hq l_) (AA 1)^AV A1 (AA 0)^wC^D.int 1)^AA 1) AS)
def QW{ts:n_ A_}(h:Hc CJ^ts.map An):LN ts:=by
 unfold Hc at h;rw[gR]at h;exact h.imp λ{s t} z=>z _ _ rfl rfl
def Nq{N:Net}(ok:N.Ok){ts:n_ A_}(h:∀t∈ts,t∈N.ts):DC^.tup^ts.map An/\DC^.lst^ts.map An:=by
 have it:∀d∈ts.map An,item d:=λd hd=>by
  let#[t,ht,rfl]:=TM.mp hd;exact ED ok _^TM.mpr #[t,h t ht,rfl]
 have d1:M8^ts.map An<=1:=dps_le.mpr λd hd=>(it d hd).2.2;exact#[PZ (B:=1000001) (by cbv) (fines_iff.mpr λd hd=>(it d hd).1) (by show M8^ts.map An+1<=100;lk),Gj it]
def MN{N:Net}(ok:N.Ok){t:A_}(h:t∈N.ts):DC^An t:=by
 have it:=ED ok _^TM.mpr #[t,h,rfl];exact PZ (B:=1000001) (by cbv) it.1^by have:=it.2.2;lk
def Wb{ts:n_ A_}{t:A_}:((ts.map An).any λy=>FT y^An t)=decide (t∈ts):=by
 rw[ce,fH,decide_eq_true_eq];constructor
 .rintro⟨d,hd,e⟩
  let#[s,hs,rfl]:=TM.mp hd;rw[←(Qn s t).mp e];exact hs
 .intro h
  exact#[An t,TM.mpr #[t,h,rfl],(Qn t t).mpr rfl]
def S6{s t:A_}(h:FG s=FG t):s=t:=by
 let#[a,b,l]:=s;let#[a',b',l']:=t;unfold FG at h;simp only[List.cons.injEq,Sum.inl.injEq,Sum.inr.injEq,and_true]at h;let#[rfl,rfl,rfl]:=h;rfl
def FH{l1 l2:n_ A_}(p:l1.Perm l2)(h1:LN l1)(h2:LN l2):l1=l2:=EZ (λa b x y=>S6^CI _ _ y x) p h1 h2
def FV{ts:n_ A_}(h:ts.Pairwise Bn):LN ts:=h.imp λ{s t} z=>by
 cases e:BY (FG t)^FG s with
 |false=>rfl
 |true=>
  have:=Cp _ _ _ (VZ z) e
  rw[CN]at this;cases this
noncomputable def Mt:W2:=λss n P=>∃l t b x:Int,ss=[.sh^.int l,.sh^.tup [.int t,.int b],.sh^.int x]/\1<=b/\b<=1000000/\1<=t/\t<=1000000/\P (.bl (decide (l*b<=x*t))) n
noncomputable def OJ:Ac:=(As^AV Yd (AV DJ (AA 0)^AV A1 (AA 1)^wC^D.int 1)^AV DJ (AA 2)^AV A1 (AA 1)^wC^D.int 0)
section
variable {ss:n_ Slot}{n:Sg}{Pd:D->Sg->Prop}
def bF{i j:Int}(h0:0<=j)(h1:j<=1000000):CMul i j:=.inr #[by lk,by lk]
def Lz(h:Mt ss n Pd):OJ (EE Pd) n (ss++T0 0 .no):=by
 let#[l,t,b,x,rfl,b0,b1,t0,t1,p]:=h;exact#[_,AH rfl,bF (by lk) b1,_,AH rfl,bF (by lk) t1,p]
end
end Nt
namespace L2
open PySem.W
section
variable {prog:Program}{w:World}{A:Around}{E:Value->Shared->Prop}{R:Result->Shared->Prop}{I:Addr}{fp wr:n_ Addr}{n:Nat}{P:Nat->Value->Prop}{St:Nat->Heap->Prop}
noncomputable def Xb(prog:cH)(w:cN)(A:cW)(op:CmpOp)(P:Nat->Db->Prop)(Cm:cA->Prop)(bt:Nat->Nat->Bool):Prop:=
 ∀i j vi vj (s:Go) (Q:Db->Go->Prop) (E:Db->Go->Prop),Cm s.heap->P i vi->P j vj->Q (.bool^bt i j) s->wpAny (model prog w) A (richCompare op vi vj) Q E s
def Rt(W:Walks prog w A.in1 I fp wr n P St)(bt:Nat->Nat->Bool)(Cm:cA->Prop)(hcmp:Xb prog w A.in1 .Lt P Cm bt)(S:Ch)(hSf:S∉fp)(hmono:∀h h':cA,Cm h->(∀b o,b∉wr->b≠S->h.get? b=P3 o->h'.get? b=P3 o)->Cm h'):
  ∀(k j:Nat) (s:Go) (vb:Db) (c:Nat),n - (j+1)=k->j+1<=n->St (j+1) s.heap->Cm s.heap->P (argBest bt j) vb->
  s.heap.get? S=P3 {cls:=.type "list",dict:=k_,data:=.seq #[ vb,vb] c,slots:=#[]}->
  (∀v h' tk,P (argBest bt (n - 1)) v->(∀b o,b∉wr->b≠S->s.heap.get? b=P3 o->h'.get? b=P3 o)->R (.ok^.ret v) {s with heap:=h',toks:=tk})->
  codeAny (model prog w) A (.builtin "min.loop" #[[.ref I,.none,.ref S],[]]) R s:=by
 have hSw:S∉wr:=λh=>hSf^W.sub _ h;have hname:(toString "min"++toString ".loop":String)="min.loop":=by cbv
 intro k
 induction k with
 |zero=>
  intro j s vb c hk hj hst hcm hPb hS hR;have hin:j+1=n:=by lk
  refine dU PySem.F.entry_min_loop ?_;rw[eG PySem.F.plain_min_loop _];show wpAny _ A.in1 (seqItems?^.ref S >>=_) _ _ s;refine Cn (dQ hS rfl ?_);show wpAny _ A.in1 (tryCatch (pyNext^.ref I) _ >>=_) _ _ s;refine Cn^hG^W.done s _ _ (hin▸hst) λh' tk hk'=>?_;have hS':=hk' S _ hSw hS;show wpAny _ A.in1 (updateSeq S (λ_=>#[]) >>=_) _ _ _;refine Cn ?_;refine fO hS' rfl (Cn^eU^On ?_);refine hR vb _ tk (by rw[←hin];exact hPb) λb o hbw hbS e=>(b8 _ _^cY hbS).trans^hk' b o hbw e
 | succ k ih=>
  intro j s vb c hk hj hst hcm hPb hS hR;have hlt:j+1<n:=by lk
  refine dU PySem.F.entry_min_loop ?_;rw[eG PySem.F.plain_min_loop _];show wpAny _ A.in1 (seqItems?^.ref S >>=_) _ _ s;refine Cn (dQ hS rfl ?_);show wpAny _ A.in1 (tryCatch (pyNext^.ref I) _ >>=_) _ _ s;refine Cn^hG^W.item (j+1) s _ _ hlt hst λv h' tk hP hst' hk'=>?_;have hS':=hk' S _ hSw hS;have hcm':Cm h':=hmono _ _ hcm λb o h1 _ e=>hk' b o h1 e;show wpAny _ A.in1 (tryCatch (holding [v,v] (richCompare .Lt v vb >>=_)) _ >>=_) _ _ _;refine Cn^hG^dD^Cn^hcmp (j+1) (argBest bt j) v vb _ _ _ hcm' hP hPb ?_;refine Cn^dD^fT ?_;refine Cn^eU^On ?_;cases hb:bt (j+1)^argBest bt j with
  | true=>
   simp only[if_true];refine Cn ?_;refine fO hS' rfl (Cn^eU ?_);rw[hname]
   refine On #[eA PySem.F.plain_min_loop _,ih (j+1) _ v _ (by lk) hlt (W.frame _ _ _ hst' λb hbf o e=>?_) (hmono _ _ hcm' λb o _ h2 e=>(b8 _ _^cY h2).trans e) (by simp only[argBest,hb,if_true];exact hP) (dL _ hS' rfl)
    λv' h'' tk'' hP' hk''=>?_]
   .exact(b8 _ _ λh:S=b=>hSf^by rw[h];exact hbf).trans e
   .exact hR v' h'' tk'' hP' λb o hbw hbS e=>hk'' b o hbw hbS^(b8 _ _^cY hbS).trans^hk' b o hbw e
  |false=>
   simp only[cm,if_false];refine Cn^eU ?_;rw[hname];refine On #[eA PySem.F.plain_min_loop _,ih (j+1) _ vb c (by lk) hlt hst' hcm' (by simp only[argBest,hb,cm,if_false];exact hPb) hS' λv' h'' tk'' hP' hk''=>?_];exact hR v' h'' tk'' hP' λb o hbw hbS e=>hk'' b o hbw hbS^hk' b o hbw e
def PR(W:Walks prog w A.in1 I fp wr n P St)(bt:Nat->Nat->Bool)(Cm:cA->Prop)(hcmp:Xb prog w A.in1 .Lt P Cm bt)(S:Ch)(hSf:S∉fp)(hmono:∀h h':cA,Cm h->(∀b o,b∉wr->b≠S->h.get? b=P3 o->h'.get? b=P3 o)->Cm h')(hn:0<n){s:Go}{c:Nat}(hst:St 0 s.heap)(hcm:Cm s.heap)
  (hS:s.heap.get? S=P3 {cls:=.type "list",dict:=k_,data:=.seq #[] c,slots:=#[]})
  (hR:∀v h' tk,P (argBest bt (n - 1)) v->(∀b o,b∉wr->b≠S->s.heap.get? b=P3 o->h'.get? b=P3 o)->R (.ok^.ret v) {s with heap:=h',toks:=tk}):
  codeAny (model prog w) A (.builtin "min.loop" #[[.ref I,.none,.ref S],[]]) R s:=by
 have hSw:S∉wr:=λh=>hSf^W.sub _ h;have hname:(toString "min"++toString ".loop":String)="min.loop":=by cbv
 refine dU PySem.F.entry_min_loop ?_;refine Cn (dQ hS rfl ?_);refine Cn^hG^W.item 0 s _ _ hn hst λv h' tk hP hst' hk'=>?_;have hS':=hk' S _ hSw hS;have hcm':Cm h':=hmono _ _ hcm λb o h1 _ e=>hk' b o h1 e;show wpAny _ A.in1 (updateSeq S (λ_=>#[ v,v]) >>=_) _ _ _;refine Cn ?_;refine fO hS' rfl ?_;rw[hname];refine On #[eA PySem.F.plain_min_loop _,Rt W bt Cm hcmp S hSf hmono _ 0 _ v _ rfl hn (W.frame _ _ _ hst' λb hbf o e=>?_) (hmono _ _ hcm' λb o _ h2 e=>(b8 _ _^cY h2).trans e) hP (dL _ hS' rfl) λv' h'' tk'' hP' hk''=>?_]
 .exact(b8 _ _ λh:S=b=>hSf^by grind).trans e
 .exact hR v' h'' tk'' hP' λb o hbw hbS e=>hk'' b o hbw hbS^(b8 _ _^cY hbS).trans^hk' b o hbw e
def min_list{s:Go}{l:Ch}{items:Array Db}{Q:Db->Go->Prop}(bt:Nat->Nat->Bool)(hh:A.handled=k_)(hl:s.heap.IsList l items)(hn:0<items.size)
  (hcmp:∀i j vi vj (s':Go) (Q:Db->Go->Prop) (E:Db->Go->Prop),(∀b o,s.heap.get? b=P3 o->s'.heap.get? b=P3 o)->items[i]?=P3 vi->items[j]?=P3 vj->Q (.bool^bt i j) s'->wpAny (model prog w) A.in1 (richCompare .Lt vi vj) Q E s')
  (h:∀v h' tk,items[argBest bt (items.size - 1)]?=P3 v->(∀b o,s.heap.get? b=P3 o->h'.get? b=P3 o)->Q v {s with heap:=h',toks:=tk}):wpAny (model prog w) A (call (.builtin "min") [.ref l]) Q E s:=by
 have hname:(toString "min"++toString ".loop":String)="min.loop":=by cbv
 have hlt:l<s.heap.objs.size:=by let#[_,e,_]:=hl;exact Tk e
 refine call_function_tree PySem.F.kind_min PySem.F.plain_min PySem.F.entry_min (PySem.F.args_min1 _) ?_;show wpAny _ A.in1 (h9 "min" ["key","default"] 0 #[[],[]] >>=_) _ _ s;refine Cn^ip (show h9 "min" ["key","default"] 0 #[[],[]]=pure [k_,k_]from rfl) ?_;refine Cn^On ?_;refine Cn^eJ hl ?_;refine Cn^dI ?_;rw[hname];have W:=Walks.list (prog:=prog) (w:=w) (A:=A.in1) hh s.heap.objs.size l (b9 hlt) items;have hs1:(s.heap.push {cls:=.type "list_iterator",data:=.fields #[ .ref l,.int 0 0]}).objs.size=s.heap.objs.size+1:=dA _ _;refine On #[eA PySem.F.plain_min_loop _,PR W bt (λh'=>∀b o,s.heap.get? b=P3 o->h'.get? b=P3 o) (λi j vi vj s' Q E hc h1 h2 q=>hcmp i j vi vj s' Q E hc h1 h2 q) (s.heap.push {cls:=.type "list_iterator",data:=.fields #[ .ref l,.int 0 0]}).objs.size (λhm=>?_) (λh1 h2 hc hk b o e=>hk b o (λhm=>?_) ?_^hc b o e) hn #[#[_,Ev _ (Sc _ rfl),rfl,rfl],(hl.push _).push _] (λb o e=>Ev _^Ev _ e) (Sc _ rfl) λv h' tk hP hk=>?_]
 .rw[hs1]at hm
  rcases Uf.mp hm with e|hm
  .exact absurd e^Nat.succ_ne_self _
  .rw[←Op.mp hm]at hlt
   exact absurd hlt^gG.mpr^c_ _
 .rw[Op.mp hm]at e
  exact absurd (Tk e)^dC _
 .rw[hs1]
  exact b9^di^Tk e
 .refine h v h' tk hP λb o e=>hk b o (λhm=>?_) ?_^Ev _^Ev _ e
  .rw[Op.mp hm]at e
   exact absurd (Tk e)^dC _
  .rw[hs1]
   exact b9^di^Tk e
end
theorem Jz(keys:n_^n_ Key):∀m:Nat,argBest (λi j=>BY (keys.getD i [])^keys.getD j []) m<=m/\∀i,i<=m->BY (keys.getD i [])^keys.getD (argBest (λi j=>BY (keys.getD i [])^keys.getD j []) m) []=m_
 |0=>#[Rs _,λi hi=>by
  have:i=0:=by lk
  subst this;exact CN _]
 | m+1=>by
  let#[h1,h2]:=Jz keys m;unfold argBest
  by_cases c:BY (keys.getD (m+1) [])^keys.getD (argBest (λi j=>BY (keys.getD i [])^keys.getD j []) m) []=l_
  .rw[if_pos c]
   refine#[Rs _,λi hi=>?_]
   by_cases e:i=m+1
   .subst e;exact CN _
   .cases z:BY (keys.getD i [])^keys.getD (m+1) [] with
    |false=>rfl
    |true=>
     have:=Cp _ _ _ z c
     rw[h2 i^by lk]at this;cases this
  grind
section
variable {X:Cx}
noncomputable def W6(K:Frag):n_ V->Hp->VK->Prop:=λxs H Q=>∃(p:Ch) (vs:n_ V) (keys:n_^n_ Key),xs=[.ref p]/\SqL K H p vs/\0<vs.length/\KeysAt K H vs keys /\
 ∀j v,vs[j]?=P3 v->(∀i,i<vs.length->BY (keys.getD i [])^keys.getD j []=m_)->Q v H
def SK{k:Nat}(hr:Room k X.A):CallR X (.builtin "min")^W6 X.K:=by
 intro zG s Z H xs us Q I r h;let#[p,vs,keys,rfl,hq,hn,hk,q]:=h;let#[u,rfl,rx]:=vals1 r;cases rx;let#[its,r',pl,hz]:=I.list hq;have hl:=r'.length;have tk:=hk.tups I r' λb o e=>e;have hu:=hr.un;refine min_list (λi j=>BY (keys.getD i [])^keys.getD j []) hr.hd pl.isList (by rw[b7];lk) (λi j vi vj s' Q' E' hold h1 h2 q'=>?_) λv h' tk' hv hold=>?_
 .have hi:i<keys.length:=by rw[←hk.len,hl];have:=(iH.mp h1).1;simpa using this
  have hj:j<keys.length:=by rw[←hk.len,hl];have:=(iH.mp h2).1;simpa using this
  let#[a,#[cls,dd,data,sl],xs,n,e1,e2,e3,e4,e5]:=tk.at_ i keys[i] (No hi);let#[a',#[cls',dd',data',sl'],xs',n',e1',e2',e3',e4',e5']:=tk.at_ j keys[j] (No hj);simp only at e3 e4 e3' e4';subst e3 e4 e3' e4';have e1:its.toArray[i]?=P3^.ref a:=by rw[←e1];simp
  have e1':its.toArray[j]?=P3^.ref a':=by rw[←e1'];simp
  rw[e1]at h1;rw[e1']at h2;cases h1;cases h2;have hsm:=hk.same _ (dE hi) _^dE hj;have g1:keys.getD i []=keys[i]:=by rw[cI,No hi];rfl
  have g2:keys.getD j []=keys[j]:=by rw[cI,No hj];rfl
  simp only[g1,g2]at q';rw[←ML _ _ hsm]at q'
  exact richCompare_meets_room (op:=.Lt) #[_,hold _ _ e2,rfl] #[_,hold _ _ e2',rfl] PySem.F.slot_tuple_lt PySem.F.entry_tuple_lt (PySem.F.args_tuple_lt_2 _ _) (Em a a' xs xs' n n' dd dd' sl sl' keys[i] keys[j] e5 e5' hsm)
   #[hold _ _ e2,hold _ _ e2',show fh (Gi keys[i] keys[j])≠Value.notImplemented/\Q' (.bool (Gi keys[i] keys[j])) s' from#[(λx=>nomatch x),q']] (by show X.A.units+1<cLine;lk)
 .let#[b1,b2]:=Jz keys (its.toArray.size - 1)
  rw[b7]at hv b1 b2;have hj:argBest (λi j=>BY (keys.getD i [])^keys.getD j []) (its.length - 1)<vs.length:=by lk
  let#[u,e1,ru]:=r'.get^No hj;have e2:its.toArray[argBest (λi j=>BY (keys.getD i [])^keys.getD j []) (its.length - 1)]?=P3 u:=by rw[←e1];simp
  rw[e2]at hv;cases hv;exact#[_,H,I.kept (t':=tk') hold,ru,q _ _ (No hj) λi hi=>b2 i^by lk]
end
end L2
namespace Dp
open L2
noncomputable def XH(ds:n_ D)(P:D->Prop):Prop:=∃xs,ds=[.lst xs]/\0<xs.length/\Keyed CJ xs/\∀x∈xs,(∀y∈xs,∀kx ky,CJ x=P3 kx->CJ y=P3 ky->BY ky kx=m_)->P x
def Yq{K:Frag}:B_ K .sh (W6 K) XH:=by
 intro U M H ds vs P Q dom vM hp w q;let#[xs,rfl,hn,hK,w]:=w;let#[v,rfl,hx]:=Dl hp;let#[a,us,rfl,_,hq,hs]:=hx;let#[keys,hl,hk]:=Ec hK.1;have hlen:=hs.length;refine#[a,us,keys,rfl,.inl hq,by lk,Gp (λd k v _=>Gq) hs hK hl hk,λj v hv hle=>?_];have hj:j<xs.length:=by rw[←hlen];exact(UF.mp hv).1
 let#[v',e1,h1]:=hs.get^No hj;rw[hv]at e1;cases e1;refine q v H xs[j] .refl h1 (w _ (dE hj) λy hy kx ky ex ey=>?_);let#[i,hi]:=fe.mp hy;have hil:i<xs.length:=(UF.mp hi).1;let#[k1,a1,b1,_]:=hk i y hi;let#[k2,a2,b2,_]:=hk j xs[j] (No hj)
 grind
end Dp
namespace L2
noncomputable def bN(d:Ch)(o:Obj)(kvs:n_ (Key×V)):It:=
 #[λi H=>H d=P3^.frz o^.dK kvs/\i<kvs.length,λi H x H'=>∃T p,x=.ref T/\H T=k_/\kvs[i]?=P3 p/\H'=Aq H T^.tup [kV p.1,p.2],λi H=>H d=P3^.frz o^.dK kvs/\kvs.length<=i]
def YU{P:cH}{w:cN}{k:Key}{u:Db}(h:(A9 P w).is k u=l_):RelV (kV k) u:=by
 rcases BG h with⟨i,t,rfl,rfl⟩|⟨x,t,rfl,rfl⟩
 .exact#[t,rfl]
 .exact#[t,rfl]
def Ma{X:Cx}{zG:n_ (Ch×Obj)}{Z:L2.St}{H:Hp}{s:Go}{d:Ch}{o:Obj}{kvs:n_ (Key×V)}{es:Array fK}{ep:Nat}(I:Inv X zG Z H s)(h:H d=P3^.frz o^.dK kvs)(hd:o.data=.dict es ep):
  ∃ws,KV kvs ws/\s.heap.DictAt (A9 X.prog X.w) d ws ep:=by
 let#[e0,_,_,ws,kv,o',es',ep',e1,e2,e3,e4]:=(I.hok d _ h);rw[e0]at e1;cases e1;rw[hd]at e3;cases e3;exact#[ws,kv,o,es,e0,e2,hd,e4]
def Oo{P:cH}{w:cN}{K:Frag}{els:n_ cJ}{j:Nat}{pos:Pos}(d it:Ch)(o:Obj)(kvs:n_ (Key×V))(es:Array fK)(ep:Nat)(hdat:o.data=.dict es ep):
  Turn P w K (.Tuple els j pos) (bN d o kvs) [it] it (λi h=>∃ok ov,IsItemIter h it d i kvs.length ep ok ov) where
 mem:=by simp
 obj:=λi h #[ok,ov,st] c hc=>by
  rw[Op.mp hc];exact#[_,st,λv q=>by cases q]
 keep:=λi h h' #[ok,ov,st] k=>#[ok,ov,k it (by simp) _ st]
 item:=by
  intro X hP hw hK hc i zG s Z H E I hf st hg;subst hP hw hK;let#[hH,hi]:=hg;let#[ok,ov,st]:=st;let#[ws,kv,D]:=Ma I hH hdat
  have hl:=kv.length;have hiw:i<ws.length:=by lk
  rw[hl]at st;obtain⟨k,v,hkv⟩:∃k v,ws[i]=(k,v):=#[_,_,rfl];have hx:ws[i]?=P3 (k,v):=by rw[No hiw,hkv]
  have hp:kvs[i]?=P3 kvs[i]:=No hi;let#[ek,rv]:=JH kv hp hx;have ek:kvs[i].1=k:=ek;refine wpAny_pyNext_items_item st D hx λkey h' hkey hout htup hsz hold=>#[_,rfl,?_];refine wpAny_letOwnedTupleGo_items hout λh2 hit2 hsame=>?_;have hT:H s.heap.objs.size=k_:=I.hok.fresh^Rs _;have nit:s.heap.objs.size≠it:=gk^Tk st
  have kk:∀c o,c∉[it]->s.heap.get? c=P3 o->h2.get? c=P3 o:=λc o hc e=>by
   have hc:c≠it:=λz=>hc (by rw[z];exact Op.mpr rfl);exact(hsame.2 c hc).trans^hold c o hc e
  have I2:Inv X zG Z (Aq H s.heap.objs.size^.tup [kV kvs[i].1,kvs[i].2]) {s with heap:=h2}:=by
   refine I.turnLaid (t':=s.toks) (ch:=[it]) (λc hc=>hf c hc) kk (Rs _) ?_;exact#[by show 2<=sizeLine;decide,[key,v],.cons (YU^by rw[ek];exact hkey)^.cons rv .nil,#[_,(hsame.2 _ nit).trans htup,rfl,_,rfl,rfl,rfl]]
  refine#[.ref s.heap.objs.size,_,I2,rfl,#[_,_,rfl,hT,hp,rfl],#[key,v,by rw[hl];exact hit2],λc hc=>?_];rw[Op.mp hc,AL^cY nit];exact(hf it^by simp).1
 done:=by
  intro X hP hw hK hc i zG s Z H E I hf st hg;subst hP hw hK;let#[hH,hi]:=hg;let#[ok,ov,st]:=st;let#[ws,kv,D]:=Ma I hH hdat
  have hl:=kv.length;rw[hl]at st;refine wpAny_pyNext_items_end (I.ok.hd hc) st D (fg^by lk) λh' ext=>#[rfl,?_];exact I.turnedL (t':=s.toks) (ch:=[it]) (λc hc=>hf c hc) λc o hc e=>ext c o (λz=>hc^by rw[z];exact Op.mpr rfl) e
 self:=λA i s Q E #[ok,ov,st] h=>PySem.W.kcp_self st h
noncomputable def Ya(to:TE):TI:=λZ H R=>to Z H λx H1=>∃d o kvs,x=.ref d/\H1 d=P3^.frz o^.dK kvs/\∀r,H1 r=k_->R (bN d o kvs)^Aq H1 r^.ext λh=>h.IsItemsView r d
def T2{X:Cx}{e:cJ}{els:n_ cJ}{j:Nat}{tpos apos cpos:Pos}{to:TE}(ho:PE X e to)(hbase:autoParam (attributeBase e "items" X.env^eval e X.env=eval e X.env) zau3._auto_1)(hline:autoParam ((apos.endLine==cpos.line)=l_) zau3._auto_1):
  PI X (.Tuple els j tpos) (.Call (.Attribute e "items" apos) [] [] cpos) (Ya to):=by
 intro zG s Z H R I h;refine wpAny_Call_method0_late hbase hline^BF (ho zG s Z H _ I h) λv s1 #[x,H1,I1,r1,d,o,kvs,ex,hd,q]=>?_;subst ex;cases r1;let#[h1,h2,lo]:=Pb I1^.inl #[kvs,.inr #[o,hd]];let#[_,_,ws,kv,D]:=E5 I1.hok^.inr #[o,hd];refine#["dict","dict.items",PySem.F.plainAttrs_dict,PySem.F.slot_dict_items,PySem.F.type_dict_items,h1,h2,d9 rfl (PySem.evalArgs_none ?_)];refine fY PySem.F.slot_dict_items D.typeIs PySem.F.entry_dict_items (PySem.F.args_dict_items_1 _) (meets_dict_items (A9 X.prog X.w) d lo) #[#[ws,D],?_];have hf:H1 s1.heap.objs.size=k_:=I1.fresh;have hv:(s1.heap.push {cls:=.type "dict_items",data:=.fields #[ .ref d]}).IsItemsView s1.heap.objs.size d:=#[_,Sc _ rfl,rfl,rfl]
 have I2:Inv X zG Z (Aq H1 s1.heap.objs.size^.ext λh=>h.IsItemsView s1.heap.objs.size d) {s1 with heap:=s1.heap.push {cls:=.type "dict_items",data:=.fields #[ .ref d]}}:=
  I1.laid (t':=s1.toks) (λb o e=>Ev _ e) (Rs _) #[hv,#[_,Sc _ rfl],λh1 h2 #[o,e,c] k=>#[o,k o e,c]]
 have hd2:(Aq H1 s1.heap.objs.size^.ext λh=>h.IsItemsView s1.heap.objs.size d) d=P3^.frz o^.dK kvs:=by rw[AL^Ah hd hf];exact hd
 obtain⟨es,ep,hdat⟩:∃es ep,o.data=.dict es ep:=by
  let#[e0,_,_,ws,kv,o',es',ep',e1,e2,e3,e4]:=(show ObjOk X.prog X.w H1 s1.heap d^.frz o^.dK kvs from I1.hok d _ hd)
  grind
 let#[ws2,kv2,D2]:=Ma I2 hd2 hdat
 have hl:=kv2.length;refine wpAny_pyIter_items (s:={s1 with heap:=s1.heap.push {cls:=.type "dict_items",data:=.fields #[ .ref d]}}) hv D2 ?_;refine#[_,[(s1.heap.push {cls:=.type "dict_items",data:=.fields #[ .ref d]}).objs.size],_,bN d o kvs,_,rfl,I2.kept (t':=s1.toks) λb o e=>Ev _ e,Oo d _ o kvs es ep hdat,#[.none,.none,by rw[hl];exact Sc _ rfl],λc hc=>?_,q _ hf];rw[Op.mp hc];exact I2.fpOk (Rs _) I2.fresh
end L2
namespace Dp
open L2
noncomputable def wItems(wa:DW):Dw:=λn ρ P=>wa n ρ λd n1=>∃ks ds,d=.fdi ks ds/\(∀k∈ks,DZ k)/\P (He (ks.map XO) ds) n1
def YV(k:Key):kV k=kOf k:=by cases k <;>rfl
section
variable {X:Cx}{a:Expr}{zU:Kd}{wa:DW}{els:n_ Expr}{j:Nat}{tpos apos cpos:Pos}
def Uw(ha:DE X a zU wa)(hbase:autoParam (attributeBase a "items" X.env^eval a X.env=eval a X.env) zau3._auto_1)(hline:autoParam ((apos.endLine==cpos.line)=l_) zau3._auto_1):DI X (.Tuple els j tpos) (.Call (.Attribute a "items" apos) [] [] cpos)^wItems wa:=by
 let#[t,a1,a2]:=ha;refine#[_,T2 a1 hbase hline,λC M H n ρ Z P Rr R w q=>?_];refine a2 C M H n ρ Z _ _ R w λv H1 d n1 ee f1 r1 p=>?_;let#[ks,ds,rfl,hfit,p]:=p;have R1:=R.step ee f1;obtain⟨ad,vs,rfl,⟨o,nM,hd⟩,hlen,hs⟩:∃a vs,v=.ref a/\NdF M H1 a ks vs/\ks.length=ds.length/\Ats X.K M H1 ds vs:=r1.tpOf R.dom R.vM;have hl:=hs.length;refine#[ad,o,_,rfl,hd,λr hr=>?_];have g:Grow H1 (Aq H1 r^.ext λh=>h.IsItemsView r ad):=Ap hr;refine q _ _ _ n1 (ee.trans g.ext) (f1.grow g) (λi M' H' pr dom=>?_) p;have pr2:Pres M H1 M' H':=g.pres.trans pr;have hd':H' ad=P3^.frz o^.dK^ks.zip vs:=(pr2.nd nM hd).2;have zl:(ks.zip vs).length=ks.length:=by rw[d6];lk
 have zd:(He (ks.map XO) ds).length=ks.length:=by unfold He;rw[List.length_zipWith,FM];lk
 refine#[λe he=>?_,λhle=>#[hd',by lk]];have hi:i<ks.length:=by rw[←zd];exact(UF.mp he).1
 have hid:i<ds.length:=by lk
 refine#[#[hd',by lk],λx H2 y=>?_];let#[T,pp,rfl,hT,hp,rfl]:=y;let#[v',e1,h1]:=(hs.pres pr2).get^No hid
 have e2:(ks.zip vs)[i]?=P3 (ks[i],v'):=by
  rw[f7];exact#[No hi,e1]
 rw[e2]at hp;cases hp
 have e3:e=.tup [XO ks[i],ds[i]]:=by
  unfold He at he;rw[iz,XV,No hi,No hid]at he;exact(bz he).symm
 subst e3;refine#[Ap hT,DH dom hT #[_,_,rfl,?_,_,_,rfl,h1,rfl]];show At X.K M' H' (XO ks[i]) (kV ks[i]);rw[YV];exact U6^hfit _^dE hi
end
section
variable {K:Frag}{C:Fm}{M:Addr->Prop}{H:Hp}{n:Sg}{ρ:n_ Slot}{Z:L2.St}
def Rel.hold(R:Rel K C M H n ρ Z){p:Ch}{o:HO}(hp:H p=k_)(nv:autoParam (¬Sm o) zau5._auto_1):Rel K C (λb=>M b\/b=p) (Aq H p o) n ρ Z:=by
 have g:Grow H^Aq H p o:=Ap hp;have pr:Pres M H _^Aq H p o:=FS hp;refine#[R.len,λa z=>.inl^R.sub a z,λa z=>?_,R.ext.trans g.ext,R.fU,R.uV,λa z=>.inl^R.vM a z,(R.feed.grow g).more p (λf hf q=>?_) λu z=>nv #[u,by rw[AM]at z;exact bz z],λi s q=>(R.sl i s q).pres pr (λ_ z=>.inl z) g.ext R.uV,λq hq=>(R.pin q hq).trans pr,R.br0,R.new,R.two,λq hq=>?_]
 .rcases z with z|z
  .let#[u,h1]:=R.dom a z
   exact#[u,g.all a u h1]
  .rw[z];exact#[o,AM]
 .let#[_,_,_,_,_,h3,_]:=R.feed.1 f hf
  have:=h3.2
  grind
 .let#[h1,h2,h3,h4]:=R.kept q hq
  exact#[g.all _ _ h1,#[.inl h2.1,h2.2],h3,h4]
end
noncomputable def JY(ks:n_ Key)(k:Key):Bool:=ks.any λk0=>decide (k0=k)
def hasK_iff{ks:n_ Key}{k:Key}:JY ks k=l_↔k∈ks:=by
 unfold JY
 simp_all
noncomputable def CW(ks:n_ Key)(k:Key):n_ Key:=if JY ks k=l_ then ks else ks++[k]
noncomputable def Cj{α:Type}(ks:n_ Key)(ds:n_ α)(k:Key)(d:α):n_ α:=if JY ks k=l_ then d_ (λk0 d0=>if k0=k then d else d0) ks ds else ds++[d]
def Wa{ks:n_ Key}{vs:n_ V}(hl:ks.length=vs.length)(k:Key):((ks.zip vs).any λkv=>decide (kv.1=k))=JY ks k:=by
 rw[ce,fH,hasK_iff];constructor
 .rintro⟨⟨a,b⟩,hm,e⟩
  have e:=of_decide_eq_true e;rw[←e];exact(fu hm).1
 .intro h
  let#[i,hi,e]:=fq.mp h;exact#[(ks[i],vs[i]'(by lk)),fq.mpr #[i,by grind,by grind],by grind]
def Tt{ks:n_ Key}{vs:n_ V}(hl:ks.length=vs.length)(k:Key)(v:V):putK (ks.zip vs) k v=(CW ks k).zip^Cj ks vs k v:=by
 unfold putK CW Cj;rw[Wa hl]
 by_cases h:JY ks k=l_
 .have go:∀(ks:n_ _) (vs:n_ V),((ks.zip vs).map λkv=>if kv.1=k then(kv.1,v)else kv)=ks.zip^d_ (λk0 d0=>if k0=k then v else d0) ks vs:=by
   intro ks
   induction ks with
   |nil=>intro vs;rfl
   | cons a ks ih=>
    intro vs;cases vs with
    |nil=>rfl
    |cons b vs=>
     show(if a=k then(a,v)else(a,b))::_=(a,if a=k then v else b)::_;exact List.cons_eq_cons.mpr #[by split <;>rfl,ih vs]
  simp_all
 .rw[if_neg h,if_neg h,if_neg h,List.zip_append hl]
  rfl
theorem Ats.put{K:Frag}{M:Ch->Prop}{H:Hp}{k:Key}{d:D}{v:V}(hd:At K M H d v):∀{ks:n_ Key}{ds:n_ D}{vs:n_ V},Ats K M H ds vs->Ats K M H (d_ (λk0 d0=>if k0=k then d else d0) ks ds)^d_ (λk0 d0=>if k0=k then v else d0) ks vs
 |[],ds,vs,h=>rfl
 |a::ks,[],vs,h=>by cases(h);rfl
 |a::ks,e::ds,vs,h=>by
  let#[u,r,rfl,h1,h2]:=h;refine#[_,_,rfl,?_,Ats.put hd h2]
  grind
def Ats.putX{K:Frag}{M:Ch->Prop}{H:Hp}{k:Key}{d:D}{v:V}{ks:n_ Key}{ds:n_ D}{vs:n_ V}(hd:At K M H d v)(h:Ats K M H ds vs):Ats K M H (Cj ks ds k d)^Cj ks vs k v:=by
 unfold Cj
 split
 .exact Ats.put hd h
 .exact h.append^Ats.one hd
def QN{α:Type}{ks:n_ Key}{ds:n_ α}{k:Key}{d:α}(hl:ks.length=ds.length):(CW ks k).length=(Cj ks ds k d).length:=by
 unfold CW Cj
 grind
theorem Kr:∀{ks:n_ Key}{ds:n_ D}{k:Key},k∉ks->BO ks ds k=k_
 |[],ds,k,_=>by rfl
 |a::ks,[],k,_=>rfl
 |a::ks,d::ds,k,h=>by
  unfold BO;rw[if_neg λe=>h^by grind];exact Kr λz=>h^TW _ z
theorem Kq:∀{ks:n_ Key}{ds:n_ D}{k:Key},ks.length=ds.length->k∈ks->∃z,BO ks ds k=P3 z
 |[],ds,k,_,h=>by cases h
 |a::ks,[],k,h,_=>by cases h
 | a::ks,d::ds,k,hl,h=>by
  unfold BO
  by_cases e:a=k
  .simp_all
  .rw[if_neg e]
   exact Kq (by simp_all)^(Uf.mp h).resolve_left λz=>e z.symm
def S0{ks:n_ Key}{ds:n_ D}{k:Key}{d:D}(hl:ks.length=ds.length)(j:Key):BO (CW ks k) (Cj ks ds k d) j=if j=k then P3 d else BO ks ds j:=by
 unfold CW Cj
 by_cases h':JY ks k=l_
 .have h:=hasK_iff.mp h'
  rw[if_pos h',if_pos h']
  have go:∀(ks:n_ Key) (ds:n_ D),ks.length=ds.length->(j=k->k∈ks)->BO ks (d_ (λk0 d0=>if k0=k then d else d0) ks ds) j=if j=k then P3 d else BO ks ds j:=by
   intro ks
   induction ks with
   |nil=>
    intro ds _ hm
    by_cases e:j=k
    .exact absurd (hm e) cb
    .rw[if_neg e];cases ds <;>rfl
   | cons a ks ih=>
    intro ds hl hm;cases ds with
    |nil=>cases hl
    | cons e ds=>
     show(if a=j then P3 (if a=k then d else e)else BO ks _ j)=if j=k then P3 d else if a=j then P3 e else BO ks ds j
     by_cases e1:a=j
     .rw[if_pos e1,if_pos e1]
      by_cases e2:j=k
      .rw[if_pos e2,if_pos^e1.trans e2]
      .rw[if_neg e2,if_neg λz=>e2^e1.symm.trans z]
     .rw[if_neg e1,if_neg e1]
      refine ih ds (by simpa using hl) λz=>(Uf.mp^hm z).resolve_left λw=>e1^w.symm.trans z.symm
  exact go ks ds hl λ_=>h
 .have h:k∉ks:=λz=>h'^hasK_iff.mpr z
  rw[if_neg h',if_neg h']
  have go:∀(ks:n_ Key) (ds:n_ D),ks.length=ds.length->k∉ks->BO (ks++[k]) (ds++[d]) j=if j=k then P3 d else BO ks ds j:=by
   intro ks
   induction ks with
   | nil=>
    intro ds hl _;cases ds with
    |nil=>
     show(if k=j then P3 d else k_)=if j=k then P3 d else k_
     by_cases e:j=k
     .rw[if_pos e,if_pos e.symm]
     .rw[if_neg e,if_neg λz=>e z.symm]
    |cons e ds=>cases hl
   | cons a ks ih=>
    intro ds hl hm;cases ds with
    |nil=>cases hl
    |cons e ds=>
     show(if a=j then P3 e else BO (ks++[k]) (ds++[d]) j)=if j=k then P3 d else if a=j then P3 e else BO ks ds j
     rw[ih ds (by simpa using hl) λz=>hm^TW _ z]
     by_cases e1:a=j
     .rw[if_pos e1,if_pos e1,if_neg λz=>hm^by rw[←z,←e1];exact Re]
     .rw[if_neg e1,if_neg e1]
  exact go ks ds hl h
section
variable {X:Cx}{a b e:Expr}{κ zU zR:Kd}{wa wb:DW}{pos pos':Pos}
noncomputable def Oh(wk wv:DW):DW:=λn ρ P=>wk n ρ λk n1=>wv n1 ρ λd n2=>∃key,keyOf k=P3 key/\P (.dic [key] [d]) n2
def N_(ha:DE X a zU wa)(hb:DE X b zR wb)(hk:autoParam (zR≠.tp) zau7._auto_1):DE X (.Dict [P3 a] [b] pos) .fr^Oh wa wb:=by
 let#[t,h1,h2]:=ha;let#[u,g1,g2]:=hb;refine#[_,QU (JC h1 g1 QQ) rfl rfl (dG _ _) (by show 1<=15;decide),λC M H n ρ Z P Q R w q=>λp hp=>?_];have R1:=R.hold (o:=.dK []) hp
 have np:¬C.U p:=λz=>by
  let#[o,w]:=R.dom p^R.vM p^R.uV p z;rw[hp]at w;cases w
 refine h2 C _ _ n ρ Z _ _ R1 w λx H2 k n1 e1 f1 r1 p1=>?_;have R2:=R1.step e1 f1;refine g2 C _ _ n1 ρ Z _ _ R2 p1 λy H3 d n2 e2 f2 r2 p2=>?_;let#[key,hkey,p2]:=p2;have R3:=R2.step e2 f2;have hat:At X.K (λb=>M b\/b=p) H3 d y:=r2.shOf R2.dom hk;have hp3:H3 p=P3^.dK []:=e2.keep (e1.keep AM np) np;have hx:x=kV key:=Cq hkey^r1.tpOf R1.dom R1.vM;refine#[hp3,[(key,y)],by rw[hx];rfl,by show 1<=15;decide,?_];show Q (.ref p)^Aq H3 p^.dK [(key,y)];refine q _ _ (.dic [key] [d]) n2 (λb o eb=>?_) ?_ #[p,rfl,hp,[y],AM,rfl,?_] p2
 .have nb:b≠p:=Ah eb hp
  let#[o1,z1,k1,t1]:=e1 b o (by rw[AL nb];exact eb);let#[o2,z2,k2,t2]:=e2 b o1 z1;exact#[o2,by rw[AL nb];exact z2,λnu nv=>(k2 nu^by rw[k1 nu nv];exact nv).trans^k1 nu nv,λvs z=>(t2 vs^(t1 vs z).trans z).trans^t1 vs z]
 .refine f2.pres #[λb o eb nb _=>by rw[AL λz=>nb^.inr z];exact eb,λb z=>.inl^.inl z,λb vs eb=>by rw[AL λz=>by rw[z,hp3]at eb;cases eb];exact eb,λb o eb=>(fZ (b=p)).elim (λz=>by rw[z];exact#[_,AM]) λz=>#[o,by rw[AL z];exact eb]] (λf o hf eb=>?_) λb u eb=>by rw[AL λz=>by rw[z,hp3]at eb;cases eb];exact eb
  rw[AL λz=>np^by rw[←z];exact R.fU f hf];exact eb
 .exact#[y,[],rfl,hat.pres^Cd (.inr rfl) hp3,rfl]
noncomputable def Fc(i:Nat)(wk wv:DW):Ac:=λD2 n ρ=>∃ks ds,ρ[i]?=P3^.ow^.dic ks ds/\wv n ρ λd n1=>wk n1 ρ λk n2=>∃key,keyOf k=P3 key/\ks.length<sizeLine/\D2.nx n2^ρ.set i^.ow^.dic (CW ks key)^Cj ks ds key d
def MX{i k:Nat}{x:cJ}(hr:Room k X.A)(hx:PE X x^Bu i)(ha:DE X a zU wa)(hb:DE X b zR wb)(hk:autoParam (zR≠.tp) zau7._auto_1)
  (hs:autoParam (swapsWith b (P3^.Subscript x a pos') pos.line X.env=pure m_) zau3._auto_1):DS X κ (.Assign [.Subscript x a pos'] b pos)^Fc i wa wb:=by
 let#[t,h1,h2]:=ha;let#[u,g1,g2]:=hb;refine#[_,Hy (F7 hr) hx h1 g1 hs,λC M H n ρ Z D2 E R L w=>?_];let#[ks,ds,hd,w]:=w;refine g2 C M H n ρ Z _ _ R w λv H1 d n1 e1 f1 r1 p=>?_;have R1:=R.step e1 f1;let#[ad,ea,m,nv,tt]:=R1.sl i _ hd;refine#[.ref ad,getD_some ea,?_];refine h2 C M H1 n1 ρ Z _ _ R1 p λy H2 kk n2 e2 f2 r2 p=>?_;let#[key,hkey,hlt,p]:=p;have R2:=R1.step e2 f2;let#[ad',ea',m',nv',tt']:=R2.sl i _ hd;rw[ea]at ea';cases ea';let#[vs,hH,hl,hs']:=tt';have hat:At X.K M H2 d v:=(r1.shOf R.dom hk).pres^R1.pres e2;have hvl:ks.length=vs.length:=by rw[hl,hs'.length]
 refine#[ad,_,rfl,by rw[Cq hkey^r2.tpOf R1.dom R1.vM];exact DPut.k hH (by rw[d6];lk),L.nx M _ n2 _ Z (R2.mut (e:=.dic (CW ks key)^Cj ks ds key d) hd ea #[Cj ks vs key v,by rw[AM,Tt hvl],QN hl,(hs'.putX hat).pres^Cd m' hH]) p]
noncomputable def ZF:D->o_ Bool
 |.lst xs=>P3 (!xs.isEmpty)
 |.tup xs=>P3 (!xs.isEmpty)
 |.bl b=>P3 b
 |.non=>P3 m_
 |_=>k_
noncomputable def Ss(wa:DW):Hd:=λn ρ P=>wa n ρ λd n1=>∃c,ZF d=P3 c/\P c n1
def LW{K:Frag}{M:Ch->Prop}{H:Hp}{ds:n_ D}{vs:n_ V}(h:Ats K M H ds vs):vs.isEmpty=ds.isEmpty:=by
 have:=h.length
 cases vs <;>cases ds <;>first|rfl|cases this
def Xl{U M:Ch->Prop}{H:Hp}{K:Frag}{d:D}{x:V}{c:Bool}(h:AtT K U M H d x)(e:ZF d=P3 c):Yy K x H c:=by
 cases d with
 |lst ds=>cases e;let#[a,vs,rfl,_,hq,hs]:=h;exact .inl #[vs,.inl hq,by rw[LW hs]]
 |tup ds=>cases e;let#[a,vs,rfl,hq,hs]:=h;exact .inr^.inl #[vs,.inl^.inl hq,by rw[LW hs]]
 |bl b=>cases e;rw[h.bl];exact rfl
 |non=>cases e;rw[h];exact rfl
 |_=>cases e
def Ph(h:DE X e κ wa)(he:autoParam (∀whole,isTrue e X.env whole=(do let v ←whole;standAt e.pos;holding [v]^truthy v)) zau2._auto_1):DT X e^Ss wa:=by
 let#[t,h1,h2]:=h;refine#[_,Tu h1 he,λC M H n ρ Z P Q R w q=>?_];refine h2 C M H n ρ Z _ _ R w λv H' d n' e1 f1 r1 p=>?_;let#[c,hc,p]:=p;exact#[c,Xl (r1.tpOf R.dom R.vM) hc,q c H' n' e1 f1 p]
noncomputable def Jd(neg:Bool)(d e:D)(P:D->Prop):Prop:=e=.non/\P^.bl (if neg then !UV d else UV d)
def VG{K:Frag}:El K .sh (λx y H Q=>y=.non/\Q (.bl (decide (x=.non))) H)^Jd m_:=λU M H d e x y P Q dom vM hx hy w q=>by
 let#[rfl,w]:=w;exact#[hy,q _ H _ .refl (by rw[Nz hx];rfl) w]
def Yp{K:Frag}:El K .sh (λx y H Q=>y=.non/\Q (.bl (!decide (x=.non))) H)^Jd l_:=λU M H d e x y P Q dom vM hx hy w q=>by
 let#[rfl,w]:=w;exact#[hy,q _ H _ .refl (by rw[Nz hx];rfl) w]
variable {apos cpos:Pos}{f:Expr}{κf:Kd}{wf:DW}
noncomputable def IU(wa wk:DW):DW:=λn ρ P=>wa n ρ λd n1=>∃ks ds,Jk d=P3 (ks,ds)/\wk n1 ρ λk n2=>∃key,keyOf k=P3 key/\P ((BO ks ds key).getD .non) n2
noncomputable def P9(wa wk wx:DW):DW:=λn ρ P=>wa n ρ λd n1=>∃ks ds,Jk d=P3 (ks,ds)/\wk n1 ρ λk n2=>wx n2 ρ λz n3=>∃key,keyOf k=P3 key/\P ((BO ks ds key).getD z) n3
def Sz{U M:Ch->Prop}{H:Hp}{K:Frag}{d z:D}{x v:V}{ks:n_ Key}{ds:n_ D}{key:Key}(e:Jk d=P3 (ks,ds))(h:AtT K U M H d x)(hz:At K M H z v):∃a o,x=.ref a/\DGet H a (kV key) o/\At K M H ((BO ks ds key).getD z)^o.getD v:=by
 let#[a,vs,rfl,ha,hs]:=Jj e h;refine#[a,_,rfl,IF ha,?_];have h:=Fd (k:=key) (ks:=ks) hs;cases c:BO ks ds _ with
 |none=>simp_all
 |some y=>rw[c]at h;let#[u,h1,h2]:=h;grind
def Ua{U M:Ch->Prop}{H:Hp}{K:Frag}{d:D}{x:V}{ks:n_ Key}{ds:n_ D}(e:Jk d=P3 (ks,ds))(h:AtT K U M H d x):∃a,x=.ref a/\aW H a:=by
 let#[a,vs,rfl,ha,hs]:=Jj e h;exact#[a,rfl,.inl #[_,ha]]
def Qq{k:Nat}(hr:Room k X.A)(ha:DE X a zU wa)(hb:DE X b zR wb)(m:autoParam (M1 X a "get" apos b cpos) zau9._auto_1):DE X (.Call (.Attribute a "get" apos) [b] [] cpos) .sh^IU wa wb:=by
 let#[t,h1,h2]:=ha;let#[u,g1,g2]:=hb;refine#[_,T8 (F7 hr) h1 g1 m,λC M H n ρ Z P Q R w q=>?_];refine h2 C M H n ρ Z _ _ R w λv H1 d n1 e1 f1 r1 p=>?_;let#[ks,ds,hd,p]:=p;have R1:=R.step e1 f1;let#[ad,rfl,hI]:=Ua hd^r1.tpOf R.dom R.vM;refine#[ad,rfl,hI,?_];refine g2 C M H1 n1 ρ Z _ _ R1 p λy H2 kk n2 e2 f2 r2 p=>?_;let#[key,hkey,p]:=p;have R2:=R1.step e2 f2;have hat:=(r1.tpOf R.dom R.vM).pres (R1.pres e2) e2 R.uV;let#[ad',o,ex,g,hz]:=Sz (key:=key) hd hat (z:=.non) (v:=.non) rfl;cases ex;exact#[o,by rw[Cq hkey^r2.tpOf R1.dom R1.vM];exact g,q _ H2 _ n2 (e1.trans e2) f2 hz p]
def WS{k:Nat}(hr:Room k X.A)(ha:DE X a zU wa)(hb:DE X b zR wb)(hf:DE X f κf wf)(hk:autoParam (κf≠.tp) zau7._auto_1)(m:autoParam (M2 X a "get" apos b f cpos) zau9._auto_1):DE X (.Call (.Attribute a "get" apos) [b,f] [] cpos) .sh^P9 wa wb wf:=by
 let#[t,h1,h2]:=ha;let#[u,g1,g2]:=hb;let#[u2,k1,k2]:=hf;refine#[_,T7 (F7 hr) h1 g1 k1 m,λC M H n ρ Z P Q R w q=>?_];refine h2 C M H n ρ Z _ _ R w λv H1 d n1 e1 f1 r1 p=>?_;let#[ks,ds,hd,p]:=p;have R1:=R.step e1 f1;let#[ad,rfl,hI]:=Ua hd^r1.tpOf R.dom R.vM;refine#[ad,rfl,hI,?_];refine g2 C M H1 n1 ρ Z _ _ R1 p λy H2 kk n2 e2 f2 r2 p=>?_;have R2:=R1.step e2 f2;refine k2 C M H2 n2 ρ Z _ _ R2 p λz H3 dz n3 e3 f3 r3 p=>?_;let#[key,hkey,p]:=p;have R3:=R2.step e3 f3;have hat:=((r1.tpOf R.dom R.vM).pres (R1.pres e2) e2 R.uV).pres (R2.pres e3) e3 R.uV;have hy:=(r2.tpOf R1.dom R1.vM).pres (R2.pres e3) e3 R.uV;let#[ad',o,ex,g,hz]:=Sz (key:=key) hd hat^r3.shOf R2.dom hk;cases ex;exact#[o,by rw[Cq hkey hy];exact g,q _ H3 _ n3 ((e1.trans e2).trans e3) f3 hz p]
end
end Dp
namespace L2
open AutoSeq1 (wpAny_loadPart')
def Rl:typeLookup (.type "list_reverseiterator") "__len__"=pure k_:=by kernel_rfl
def Uc:typeLookup (.type "list_reverseiterator") "__length_hint__"=pure^P3^.builtin "list_reverseiterator.__length_hint__":=by kernel_rfl
def boot_reversed:bootBuiltins "reversed"=P3^.type "reversed":=by decide +kernel
noncomputable def aK(prog:cH)(w:cN)(St:Nat->Go->Prop)(I:Ch):Prop:=∀(A:cW) (E:Db->Go->Prop) (s':Go) (Q:Bool->Go->Prop),St 0 s'->(∀b tk,s'.toks<=tk->Q b {s' with toks:=tk})->wpAny (model prog w) A (h_^.ref I) Q E s'
section
variable {prog:Program}{w:World}{A:Around}{E:Value->Shared->Prop}{s:Shared}{I:Addr}{fp wr:n_ Addr}{G:Array GenState->Array GenState->Prop}{n:Nat}{P:Nat->Value->Prop}{St:Nat->Shared->Prop}{c:String}
def Pm{Q:n_ Db->Go->Prop}(nc:(cx c==cx "list")=m_/\(cx c==cx "tuple")=m_)(hH:aK prog w St I)
  (W:WalksS prog w A.in1 I fp wr G n P St) (hT:∀i s,St i s->s.TypeIs (.ref I) c) (hst:St 0 s) (hfp:∀b∈fp,b<s.heap.objs.size) (hI:I∈fp)
  (hQ:∀s' acc,Moved wr G s s'->ItemsOf P acc n->Q acc.toList s') (hn:n<=sizeLine):wpAny (model prog w) A (collect^.ref I) Q E s:=by
 have hSf:s.heap.objs.size∉fp:=λhm=>dC _^hfp _ hm;have hSI:s.heap.objs.size≠I:=λe=>hSf (e▸hI);unfold collect;refine Cn^wpAny_runValue^dU F.entry_proto_collect ?_;rw[eG F.plain_proto_collect _];show wpAny _ A.in1 (newList [] >>=λl=>again^.builtin "list.__iadd__" #[[l,.ref I],[]]) _ _ s;refine Cn^dI ?_;refine On #[eA F.plain_list_iadd _,dU F.entry_list_iadd ?_];rw[eG F.plain_list_iadd _];have hst₁:=W.frame 0 s (s.heap.push {cls:=.type "list",data:=.seq ([]:n_ Db).toArray}) s.toks hst (Rs _) λb _ o e=>Ev _ e;have hS₁:(s.heap.push {cls:=.type "list",data:=.seq ([]:n_ Db).toArray}).get? s.heap.objs.size=P3 {cls:=.type "list",data:=.seq ([]:n_ Db).toArray}:=Sc _ rfl;have h1:iX (.ref s.heap.objs.size)^.ref I=m_:=by simp[iX,hSI]
 show wpAny _ A.in1 (eZ (.ref s.heap.objs.size) (.ref I)^.ref s.heap.objs.size) _ _ _;unfold eZ;refine Cn^f_ (hT 0 _ hst₁) ?_;rw[if_neg^by rw[h1,nc.1,nc.2];decide];refine Cn^W.self 0 _ _ _ hst₁ ?_;refine Cn^dD ?_;refine hH _ _ _ _ hst₁ λb tk htk=>?_
 have fin:∀(h:cA) (c₁ tk':Nat),s.toks<=tk'->St 0 {s with heap:=h,toks:=tk'}->h.get? s.heap.objs.size=P3 {cls:=.type "list",data:=.seq #[] c₁}->(∀b o,b≠s.heap.objs.size->s.heap.get? b=P3 o->h.get? b=P3 o)->
   ∀R:Result->Go->Prop,(∀s' acc c,s'.heap.get? s.heap.objs.size=P3 {cls:=.type "list",dict:=k_,data:=.seq acc c,slots:=#[]}->Moved wr G s s'->ItemsOf P acc n->R (.ok^.ret^.ref s.heap.objs.size) s')->
   codeAny (model prog w) A (.builtin "list.extend.loop" #[[.ref s.heap.objs.size,.ref I,.ref s.heap.objs.size],[]]) R {s with heap:=h,toks:=tk'}:=by
  intro h c₁ tk' ht st0 hS hk R hR;refine codeAny_extend_loopS W hn _ hSf _ n 0 _ _ _ rfl (cB _) st0 hS (ItemsOf.nil P) λs' acc' c' hm hS' hacc=>hR s' acc' c' hS' #[λb o hb e=>hm.heap b o (λhmem=>?_)^hk b o (b9^Tk e) e,hm.gens,hm.drawn,hm.os,cG ht hm.toks] hacc
  rcases Uf.mp hmem with e'|hmem
  .exact absurd (Tk e)^by rw[e'];exact dC _
  .exact hb hmem
 have last:∀s' acc c,s'.heap.get? s.heap.objs.size=P3 {cls:=.type "list",dict:=k_,data:=.seq acc c,slots:=#[]}->Moved wr G s s'->ItemsOf P acc n->wpAny (model prog w) A (load s.heap.objs.size >>=λo=>match o.data with
   |.seq xs _=>pure xs.toList
   |_=>unsupported "internal:collect") Q E s':=λs' acc c h1 h2 h3=>Cn^wpAny_load h1^On^hQ s' acc h2 h3
 have st2:=W.frame 0 _ (s.heap.push {cls:=.type "list",data:=.seq ([]:n_ Db).toArray}) tk hst₁ htk λb _ o e=>e;refine wpAny_ite_split (λ_=>?_) λ_=>On #[eA F.plain_extend_loop _,fin _ 0 tk htk st2 hS₁ (λb o _ e=>Ev _ e) _ last];refine Cn^gH ?_;refine Cn ?_;show wpAny _ _ (updateSeq s.heap.objs.size (·.push .none) >>=λ_=>updateSeq s.heap.objs.size (·.pop)) _ _ _;refine Cn (fO hS₁ rfl ?_);have hS₂:=dL (cn (·.push cQ)) hS₁ rfl;refine fO (hz:=by seq_fits) hS₂ rfl ?_;have hS₃:=dL (cn (·.pop)) hS₂ rfl;refine On #[eA F.plain_extend_loop _,fin _ _ tk htk ?_ hS₃ (λb o hb e=>?_) _ last]
 .refine W.frame 0 {s with heap:=s.heap.push {cls:=.type "list",data:=.seq ([]:n_ Db).toArray},toks:=tk} _ tk st2 (Rs _) λb hb o e=>?_
  have hbS:b≠s.heap.objs.size:=λh=>hSf (h▸hb);exact(b8 _ _^cY hbS).trans^(b8 _ _^cY hbS).trans e
 .exact(b8 _ _^cY hb).trans^(b8 _ _^cY hb).trans^Ev _ e
def Ka{Q₁:Db->Go->Prop}(nc:(cx c==cx "list")=m_/\(cx c==cx "tuple")=m_)(hH:aK prog w St I)(W:WalksS prog w A.in1.in1 I fp wr G n P St)(hT:∀i s,St i s->s.TypeIs (.ref I) c)(hst:St 0 s)(hfp:∀b∈fp,b<s.heap.objs.size)(hI:I∈fp)
  (h:∀s' acc,Moved wr G s s'->ItemsOf P acc n->Q₁ (.ref s'.heap.objs.size) {s' with heap:=s'.heap.push {cls:=.type "tuple",data:=.seq acc}}) (hsz:n<=sizeLine):
  codeAny (model prog w) A (.call (.builtin "tuple.__new__") #[[.type "tuple",.ref I],[]]) (wants Q₁ E) s:=by
 refine codeAny_of_tree ?_;show wpAny _ A.in1 (do checkBuiltinCall "tuple.__new__" #[[.type "tuple",.ref I],[]];again^.builtin "tuple.__new__" #[[.type "tuple",.ref I],[]]) _ _ s;refine Cn^ip (F.newCall_tuple_1 _)^On #[eA F.plain_tuple_new _,dU F.entry_tuple_new ?_];rw[eG F.plain_tuple_new _];have hsub:=sub_tuple_self;have hinit:=init_tuple_lookup;have hmh:=madeHere_tuple;have hTI:=hT 0 s hst;have nc2:=nc.2
 wp_walk using f_ hTI,Pm (hn:=hsz) nc hH W hT hst hfp hI
 intro s' acc hm hacc;show wpAny _ _ (gA acc.toList.toArray >>=λv=>ret v) _ _ _;unfold gA;refine Cn (dI ?_^by show acc.toList.toArray.size<=sizeLine;simp only[Array.toArray_toList];rw[hacc.1];exact hsz);refine On ?_;have e:acc.toList.toArray=acc:=by simp
 rw[e];exact h s' acc hm hacc
def Kb{Q:Db->Go->Prop}(nc:(cx c==cx "list")=m_/\(cx c==cx "tuple")=m_)(hH:aK prog w St I)(W:WalksS prog w A.in1.in1.in1 I fp wr G n P St)(hT:∀i s,St i s->s.TypeIs (.ref I) c)(hst:St 0 s)(hfp:∀b∈fp,b<s.heap.objs.size)(hI:I∈fp)
  (hQ:∀s' acc,Moved wr G s s'->ItemsOf P acc n->Q (.ref s'.heap.objs.size) {s' with heap:=s'.heap.push {cls:=.type "tuple",data:=.seq acc}}) (hsz:n<=sizeLine):
  wpAny (model prog w) A (call (.type "tuple") [.ref I]) Q E s:=by
 refine callType_codes (Q₁:=λobj s₁=>s₁.TypeIs obj "tuple"/\Q obj s₁) i5 (F.typeCall_tuple_1 _) F.entry_object_init
  (Ka (hsz:=hsz) nc hH W hT hst hfp hI λs' acc hm hacc=>#[#[_,Sc _ rfl,rfl],hQ s' acc hm hacc]) λobj s₁ h₁=>?_
 exact#[h₁.1,F.args_object_init_2 obj _,object_init_meets i5.init.lookup i5.made (by cbv) prog w A.in1 _ s₁ #[h₁.1,rfl,h₁.2]]
def UN(hT:∀i s,St i s->s.TypeIs (.ref I) "list_reverseiterator"):aK prog w St I:=by
 intro A E s Q hst h;have h0:=hT 0 _ hst;unfold h_;refine Cn^ic h0 Rl ?_;show wpAny _ A (specialOf (b_ I)^dY "__length_hint__" >>=_) _ _ _;refine Cn (ic h0 Uc ?_)
 (generalize hid:("list_reverseiterator.__length_hint__":String)=id0;wp_delta;rw[show splitId id0=P3 ("list_reverseiterator","__length_hint__")from by subst hid;decide +kernel];subst hid)
 refine Cn^gY (b:=l_) h0 (by rw[isSubtype_type];kernel_rfl) ?_;exact On^h _ _^Rs _
end
section
variable {X:Cx}{e:Expr}{te:TE}{p1 p2 q1 q2:Pos}
noncomputable def aD(X:Cx)(R:Ch->n_ V->Hp->Prop):Prop:=∀{zG:n_ (Ch×Obj)}{Z:St}{H1:Hp}{s1:Go}{l:Ch}{xs:n_ V},Inv X zG Z H1 s1->R l xs H1->∃its:n_ Db,Vals xs its/\xs.length<=sizeLine/\l<s1.heap.objs.size /\
 ∀{A:cW}{E:Db->Go->Prop}{Q:Db->Go->Prop},(∀(o:Obj) (tk0:Nat) (c:String) (St0:Nat->Go->Prop),o.isFreed=m_->(cx c==cx "list")=m_/\(cx c==cx "tuple")=m_->WalksS X.prog X.w X.A.in1.in1.in1 s1.heap.objs.size [s1.heap.objs.size,l] [s1.heap.objs.size] (λa b=>b=a) its.toArray.size (λi v=>its.toArray[its.toArray.size - 1 - i]?=P3 v) St0->
  (∀i s,St0 i s->s.TypeIs (.ref s1.heap.objs.size) c)->aK X.prog X.w St0 s1.heap.objs.size->St0 0 {s1 with heap:=s1.heap.push o,toks:=tk0}->Q (.ref s1.heap.objs.size) {s1 with heap:=s1.heap.push o,toks:=tk0})->wpAny (model X.prog X.w) A (call (.type "reversed") [.ref l]) Q E s1
noncomputable def Wo(R:Ch->n_ V->Hp->Prop)(te:TE):TE:=λZ H Q=>te Z H λx H1=>∃l xs,x=.ref l/\R l xs H1/\∀r,H1 r=k_->Q (.ref r)^Aq H1 r^.tup xs.reverse
def Vp{R:Ch->n_ V->Hp->Prop}(ok:aD X R)(he:PE X e te)(hg1:Gl X "tuple")(hm1:X.mg "tuple"=k_)(hg2:Gl X "reversed")(hm2:X.mg "reversed"=k_)(h1:starEach [iA (.Name "reversed" p2) [e] [] q2] X.env=[(m_,eval (iA (.Name "reversed" p2) [e] [] q2) X.env)])
  (h2:starEach [e] X.env=[(m_,eval e X.env)]):PE X (.Call (.Name "tuple" p1) [.Call (.Name "reversed" p2) [e] [] q2] [] q1)^Wo R te:=by
 intro zG s Z H Q I h;refine dX^EB I hg1 hm1 fP ?_;refine dn ?_ h1 rfl;rw[h1];refine eW ?_;refine dX^EB I hg2 hm2 boot_reversed ?_;refine dn ?_ h2 rfl;rw[h2];refine eW^BF (he zG s Z H _ I h) λu s1 #[x,H1,I1,r1,l,xs,ex,hq,q]=>fV ?_;subst ex;cases r1;let#[its,r',hz,hlt,go]:=ok I1 hq;have hlen:=r'.length;refine go λo tk0 c St0 fr nc W hT hH h0=>fV ?_;have hn1:H1 s1.heap.objs.size=k_:=I1.fresh;have I2:Inv X zG Z H1 {s1 with heap:=s1.heap.push o,toks:=tk0}:=I1.kept (t':=tk0) λb o e=>Ev _ e;have fpk:GR X zG H1 s1.heap.objs.size:=I1.fpOk (Rs _) hn1;refine Kb nc hH W hT h0 (λb hb=>?_) Re (λs' acc hm hacc=>?_)^by rw[b7,←hlen];exact hz
 .rcases Uf.mp hb with rfl|hb
  .exact Tk^Sc _ fr
  .obtain rfl:=Op.mp hb
   exact cO hlt^by show s1.heap.objs.size<=(s1.heap.push _).objs.size;rw[size_push'];exact c_ _
 .let#[h',g',d',tk',os']:=s'
  have e1:g'=s1.gens:=hm.gens;have e2:d'=s1.drawn:=hm.drawn;have e3:os'=s1.os:=hm.os;subst e1 e2 e3;have I3':=I2.turnedL (h':=h') (t':=tk') (ch:=[s1.heap.objs.size]) (λc hc=>by rw[Op.mp hc];exact fpk) λb o hb e=>hm.heap b o hb e;have I3:Inv X zG Z H1 {s1 with heap:=h',toks:=tk'}:=I3'
  have hv:acc.toList=its.reverse:=by
   refine iL λi=>?_;let#[a1,a2]:=hacc;have e0:acc.toList[i]?=acc[i]?:=by simp
   rw[e0]
   by_cases hi:i<its.length
   .have hi2:i<acc.size:=by rw[a1,b7];exact hi
    have a3:=a2 i acc[i] (fD hi2);rw[List.getElem?_reverse hi,fD hi2,←a3,b7];simp
   .rw[fg^by rw[g0];lk]
    exact iq^by rw[a1,b7];lk
  have hv2:acc=its.reverse.toArray:=by rw[←hv]
  have rr:Vals xs.reverse its.reverse:=r'.reverse;refine#[.ref h'.objs.size,Aq H1 h'.objs.size^.tup xs.reverse,I3.laid (t':=tk') (λb o e=>Ev _ e) (Rs _) (show ObjOk X.prog X.w _ _ _^.tup xs.reverse from#[by rw[g0];exact hz,its.reverse,rr,by rw[hv2];exact IsTupN.new _ _]),rfl,q _^I3.hok.fresh^Rs _]
noncomputable def Va(K:Frag)(te:TE):TE:=Wo (λl xs H=>SqL K H l xs) te
def Ra(hc:X.calm=l_)(he:PE X e te)(hg1:Gl X "tuple")(hm1:X.mg "tuple"=k_)(hg2:Gl X "reversed")(hm2:X.mg "reversed"=k_)(h1:autoParam (starEach [iA (.Name "reversed" p2) [e] [] q2] X.env=[(m_,eval (iA (.Name "reversed" p2) [e] [] q2) X.env)]) zau3._auto_1)
  (h2:autoParam (starEach [e] X.env=[(m_,eval e X.env)]) zau3._auto_1):PE X (.Call (.Name "tuple" p1) [.Call (.Name "reversed" p2) [e] [] q2] [] q1)^Va X.K te:=by
 refine Vp (λ{zG Z H1 s1 l xs} I1 hq=>?_) he hg1 hm1 hg2 hm2 h1 h2;let#[its,r',pl,hz]:=I1.list hq;have hl:s1.heap.IsList l its.toArray:=pl.isList;have hlt:l<s1.heap.objs.size:=by let#[_,e,_]:=id hl;exact Tk e
 refine#[its,r',hz,hlt,λ{A E Q} k=>call_reversed_list hl (k (revObj l ((its.toArray.size:Int) - 1)) s1.toks "list_reverseiterator" _ rfl (by cbv) (Walks.listRev (A:=X.A.in1.in1.in1) (I1.ok.hd hc) s1.heap.objs.size l (b9 hlt) its.toArray).toS (λi s' hs=>hs.2.1.typeIs) (UN λi s' hs=>hs.2.1.typeIs) #[cB _,#[_,Sc _ rfl,rfl,by show Data.fields _=_;simp[revObj]],hl.push _])]
end
end L2
namespace Dp
open L2
noncomputable def P7(wa:DW):DW:=λn ρ P=>wa n ρ λd n1=>∃xs,d=.lst xs/\P (.tup xs.reverse) n1
section
variable {X:Cx}{a:Expr}{zU:Kd}{wa:DW}{p1 p2 q1 q2:Pos}
def SE(hc:X.calm=l_)(ha:DE X a zU wa)(hg1:Gl X "tuple")(hm1:X.mg "tuple"=k_)(hg2:Gl X "reversed")(hm2:X.mg "reversed"=k_)(h1:autoParam (starEach [iA (.Name "reversed" p2) [a] [] q2] X.env=[(m_,eval (iA (.Name "reversed" p2) [a] [] q2) X.env)]) zau3._auto_1)
  (h2:autoParam (starEach [a] X.env=[(m_,eval a X.env)]) zau3._auto_1):DE X (.Call (.Name "tuple" p1) [.Call (.Name "reversed" p2) [a] [] q2] [] q1) .sh^P7 wa:=by
 let#[t,a1,a2]:=ha;refine#[_,Ra hc a1 hg1 hm1 hg2 hm2 h1 h2,λC M H n ρ Z P Q R w q=>?_];refine a2 C M H n ρ Z _ _ R w λv H1 d n1 e1 f1 r1 p=>?_;let#[xs,rfl,p]:=p;have R1:=R.step e1 f1;let#[ad,vs,rfl,nV,hq,hs]:=r1.tpOf R.dom R.vM;refine#[ad,vs,rfl,.inl hq,λr hr=>?_];have g:Grow H1^Aq H1 r^.tup vs.reverse:=Ap hr;exact q _ _ (.tup _) n1 (e1.trans g.ext) (f1.grow g) (DH R1.dom hr^hs.reverse) p
end
end Dp
namespace Nt
open L2 Dp
noncomputable def Ed(N:Net)(x y:Str)(l:Int):Prop:=(y,l)∈C4 N.ts x
inductive Wk (N:Net) (s:Str):Str->Int->Prop
 |nil:Wk N s s 0
 |snoc {x y:Str}{d l:Int}:Wk N s x d->Ed N x y l->Wk N s y (d+l)
noncomputable def Least(N:Net)(s x:Str)(d:Int):Prop:=Wk N s x d/\∀d',Wk N s x d'->d<=d'
def Ed.pos{N:Net}(ok:N.Ok){x y:Str}{l:Int}(h:Ed N x y l):1<=l/\l<=1000000:=by
 let#[_,h1,h2,_]:=MK ok h
 simp_all
def Ed.ins{N:Net}(ok:N.Ok){x y:Str}{l:Int}(h:Ed N x y l):y∈N.ps:=(MK ok h).1
def Wk.pos{N:Net}(ok:N.Ok){s x:Str}{d:Int}(h:Wk N s x d):0<=d:=by
 induction h with
 |nil=>lk
 |snoc _ he ih=>have:=he.pos ok;lk
def Least.unique{N:Net}{s x:Str}{d d':Int}(h:Least N s x d)(h':Least N s x d'):d=d':=by
 have:=h.2 d' h'.1
 have:=h'.2 d h.1
 omega
def GD{N:Net}{s:Str}{F:Str->o_ Int}(h0:∃d,F s=P3 d/\d<=0)(hw:∀x d,F x=P3 d->Wk N s x d)(hc:∀x d y l,F x=P3 d->Ed N x y l->∃d',F y=P3 d'/\d'<=d+l):
  (∀x d,F x=P3 d->Least N s x d)/\∀x d,Wk N s x d->F x≠k_:=by
 have main:∀x d,Wk N s x d->∃d',F x=P3 d'/\d'<=d:=by
  intro x d h
  induction h with
  |nil=>exact h0
  |snoc _ he ih=>
   grind
 refine#[λx d e=>#[hw x d e,λd' h=>?_],λx d h e=>?_]
 .let#[d1,e1,h1]:=main x d' h
  simp_all
 .let#[d1,e1,_]:=main x d h
  grind
def WK{N:Net}{t:A_}(ht:t∈N.ts):Ed N t.a t.b t.len/\Ed N t.b t.a t.len:=by
 constructor
 .exact de.mpr #[t,ht,cu _^by simp_all]
 .exact de.mpr #[t,ht,cC _^by simp_all]
def Ed.tie{N:Net}(ok:N.Ok){x y:Str}{l:Int}(h:Ed N x y l):∃t∈N.ts,t.len=l/\((t.a=x/\t.b=y)\/(t.b=x/\t.a=y)):=by
 let#[_,_,_,t,ht,e,h]:=MK ok h;exact#[t,ht,e,h]
structure Dmap (ks:List Key) (ds:List D) (enc:α->D) (F:Str->Option α):Prop where
 len:ks.length=ds.length
 at_:∀x:Str,BO ks ds^.inr x=(F x).map enc
 dom:∀k∈ks,∃x:Str,k=.inr x
 nd:ks.Nodup
def Dmap.mem{α:Type}{ks:n_ Key}{ds:n_ D}{enc:α->D}{F:Str->o_ α}(h:Dmap ks ds enc F)(x:Str):(.inr x∈ks)↔F x≠k_:=by
 constructor
 .intro hm e
  let#[z,hz]:=Kq h.len hm;rw[h.at_,e]at hz;cases hz
 .intro hn
  by_cases hm:d7 x∈ks
  .exact hm
  .have:=Kr (ds:=ds) hm
   rw[h.at_]at this
   simp_all
def Dmap.one{α:Type}{enc:α->D}{s:Str}{a:α}:Dmap [.inr s] [enc a] enc (λx=>if x=s then P3 a else k_):=by
 refine#[rfl,λx=>?_,λk hk=>#[s,Op.mp hk],cF.mpr #[cb,ci]];show(if d7 s=.inr x then P3 _ else k_)=(if x=s then P3 a else k_).map _
 by_cases e:x=s
 .simp_all
 .rw[if_neg e,if_neg λz=>e (fF z).symm];rfl
noncomputable def Ga{α:Type}(F:Str->o_ α)(x:Str)(a:α):Str->o_ α:=λy=>if y=x then P3 a else F y
def BU{α:Type}{F:Str->o_ α}{x:Str}{a:α}:Ga F x a x=P3 a:=if_pos rfl
def BR{α:Type}{F:Str->o_ α}{x y:Str}{a:α}(h:y≠x):Ga F x a y=F y:=if_neg h
def Dmap.put{α:Type}{ks:n_ Key}{ds:n_ D}{enc:α->D}{F:Str->o_ α}(h:Dmap ks ds enc F)(x:Str)(a:α):Dmap (CW ks^.inr x) (Cj ks ds (.inr x)^enc a) enc^Ga F x a:=by
 refine#[QN h.len,λy=>?_,λk hk=>?_,?_]
 .rw[S0 h.len]
  unfold Ga
  by_cases e:y=x
  .rw[if_pos e,if_pos^by rw[e]];rfl
  .rw[if_neg e,if_neg λz=>e^fF z,h.at_]
 .unfold CW at hk
  split at hk
  .exact h.dom k hk
  .rcases cE.mp hk with hk|hk
   .exact h.dom k hk
   simp_all
 .unfold CW
  split
  .exact h.nd
  .rename_i hn
   rw[dJ];refine#[h.nd,cF.mpr #[cb,ci],λa ha b hb e=>hn^hasK_iff.mpr ?_]
   grind
def Dmap.le{α:Type}{ks:n_ Key}{ds:n_ D}{enc:α->D}{F:Str->o_ α}(h:Dmap ks ds enc F){ps:n_ Str}(hp:∀x,F x≠k_->x∈ps):ks.length<=ps.length:=by
 have:∀(ks:n_ Key) (ps:n_ Str),ks.Nodup->(∀k∈ks,∃x:Str,k=.inr x/\x∈ps)->ks.length<=ps.length:=by
  intro ks
  induction ks with
  |nil=>simp_all
  | cons k ks ih=>
   intro ps hn hm;let#[x,rfl,hx]:=hm k Re;have hn:=cF.mp hn
   have h1:=ih (ps.erase x) hn.2 λj hj=>by
    let#[y,rfl,hy]:=hm j^TW _ hj
    grind
   grind
 refine this ks ps h.nd λk hk=>?_;let#[x,rfl]:=h.dom k hk;exact#[x,rfl,hp x^(h.mem x).mp hk]
noncomputable abbrev Ob:=Str->o_ (Int×o_ Str)
structure Dj (N:Net) (s:Str) (F:Ob) (Wt:List Str):Prop where
 start:F s=P3 (0,k_)
 ins:∀x,F x≠k_->x∈N.ps
 wk:∀x d p,F x=P3 (d,p)->Wk N s x d
 prev:∀x d p,F x=P3 (d,p)->(p=k_/\x=s)\/∃y dy q l,p=P3 y/\F y=P3 (dy,q)/\y∉Wt/\Ed N y x l/\d=dy+l
 wfound:∀x∈Wt,F x≠k_
 nd:Wt.Nodup
 done:∀x d p y l,F x=P3 (d,p)->x∉Wt->Ed N x y l->∃dy q,F y=P3 (dy,q)/\dy<=d+l
 near:∀x d p y dy q,F x=P3 (d,p)->x∉Wt->F y=P3 (dy,q)->y∈Wt->d<=dy
def Dj.init{N:Net}{s:Str}(hs:s∈N.ps):Dj N s (λx=>if x=s then P3 (0,k_)else k_) [s]:=by
 have iff:∀x d p,(if x=s then P3 ((0:Int),(k_:o_ Str))else k_)=P3 (d,p)->x=s/\d=0/\p=k_:=λx d p e=>by
  grind
 refine#[if_pos rfl,λx e=>?_,λx d p e=>?_,λx d p e=>?_,λx hx=>?_,cF.mpr #[cb,ci],λx d p y l e hx=>?_,λx d p y dy q e hx=>?_]
 .grind
 .let#[rfl,rfl,rfl]:=iff x d p e
  exact .nil
 .let#[rfl,rfl,rfl]:=iff x d p e
  exact .inl #[rfl,rfl]
 .simp_all
 .exact absurd (Op.mpr (iff x d p e).1) hx
 .exact absurd (Op.mpr (iff x d p e).1) hx
structure Dm (N:Net) (s:Str) (F:Ob) (Wt:List Str) (v:Str) (dv:Int) (seen:List (Str×Int)):Prop where
 start:F s=P3 (0,k_)
 ins:∀x,F x≠k_->x∈N.ps
 wk:∀x d p,F x=P3 (d,p)->Wk N s x d
 prev:∀x d p,F x=P3 (d,p)->(p=k_/\x=s)\/∃y dy q l,p=P3 y/\F y=P3 (dy,q)/\y∉Wt/\Ed N y x l/\d=dy+l
 wfound:∀x∈Wt,F x≠k_
 nd:Wt.Nodup
 done:∀x d p y l,F x=P3 (d,p)->x∉Wt->x≠v->Ed N x y l->∃dy q,F y=P3 (dy,q)/\dy<=d+l
 near:∀x d p y dy q,F x=P3 (d,p)->x∉Wt->F y=P3 (dy,q)->y∈Wt->d<=dy
 here:∃p,F v=P3 (dv,p)
 out:v∉Wt
 least:∀x d p,F x=P3 (d,p)->x∉Wt->d<=dv
 gone:∀y l,(y,l)∈seen->∃dy q,F y=P3 (dy,q)/\dy<=dv+l
def Dj.take{N:Net}{s:Str}{F:Ob}{Wt:n_ Str}(h:Dj N s F Wt){v:Str}{dv:Int}{p:o_ Str}(hv:v∈Wt)(e:F v=P3 (dv,p))(hmin:∀y∈Wt,∀dy q,F y=P3 (dy,q)->dv<=dy):Dm N s F (Wt.erase v) v dv []:=by
 have sub:∀x,x∈Wt.erase v->x∈Wt:=λx hx=>List.mem_of_mem_erase hx;have out:v∉Wt.erase v:=λz=>(h.nd.mem_erase_iff.mp z).1 rfl
 have back:∀x,x∉Wt.erase v->x=v\/x∉Wt:=λx hx=>by
  grind
 refine#[h.start,h.ins,h.wk,λx d q ex=>?_,λx hx=>h.wfound x^sub x hx,h.nd.erase v,λx d q y l ex hx nx he=>?_,λx d q y dy q2 ex hx ey hy=>?_,#[p,e],out,λx d q ex hx=>?_,λy l hy=>by cases hy]
 .rcases h.prev x d q ex with z|⟨y,dy,q2,l,e1,e2,e3,e4,e5⟩
  .exact .inl z
  .exact .inr #[y,dy,q2,l,e1,e2,λz=>e3^sub y z,e4,e5]
 .rcases back x hx with z|z
  .exact absurd z nx
  .exact h.done x d q y l ex z he
 .rcases back x hx with z|z
  .subst z
   rw[e]at ex;cases ex;exact hmin y (sub y hy) dy q2 ey
  .exact h.near x d q y dy q2 ex z ey^sub y hy
 .rcases back x hx with z|z
  .grind
  .exact h.near x d q v dv p ex z e hv
def Dm.finish{N:Net}{s:Str}{F:Ob}{Wt:n_ Str}{v:Str}{dv:Int}{seen:n_ (Str×Int)}(h:Dm N s F Wt v dv seen)(hs:∀y l,Ed N v y l->(y,l)∈seen):Dj N s F Wt:=by
 refine#[h.start,h.ins,h.wk,h.prev,h.wfound,h.nd,λx d p y l e hx he=>?_,h.near]
 by_cases z:x=v
 .subst z
  let#[p',e']:=h.here;rw[e']at e;cases e;exact h.gone y l^hs y l he
 .exact h.done x d p y l e hx z he
def Dm.find{N:Net}(ok:N.Ok){s:Str}{F:Ob}{Wt:n_ Str}{v:Str}{dv:Int}{seen:n_ (Str×Int)}(h:Dm N s F Wt v dv seen){y:Str}{l:Int}(he:Ed N v y l)(hy:F y=k_):Dm N s (Ga F y (dv+l,P3 v)) (Wt++[y]) v dv (seen++[(y,l)]):=by
 have hpos:=(he.pos ok).1;let#[pv,ev]:=h.here;have ne:∀x d p,F x=P3 (d,p)->x≠y:=λx d p e z=>by rw[z,hy]at e;cases e
 have keep:∀x d p,F x=P3 (d,p)->Ga F y (dv+l,P3 v) x=P3 (d,p):=λx d p e=>by rw[BR^ne x d p e];exact e
 have yW:y∉Wt:=λz=>h.wfound y z hy
 have cases_:∀x d p,Ga F y (dv+l,P3 v) x=P3 (d,p)->(x=y/\d=dv+l/\p=P3 v)\/(x≠y/\F x=P3 (d,p)):=λx d p e=>by
  by_cases z:x=y
  .rw[z,BU]at e;cases e;exact .inl #[z,rfl,rfl]
  .rw[BR z]at e;exact .inr #[z,e]
 have inW:∀x,x∉Wt++[y]->x∉Wt/\x≠y:=λx hx=>#[λz=>hx^cu _ z,λz=>hx^cC _^by rw[z];exact Op.mpr rfl]
 have vW:v∉Wt++[y]:=λz=>by
  rcases cE.mp z with z|z
  .exact h.out z
  .exact ne v dv pv ev^Op.mp z
 refine#[keep _ _ _ h.start,λx hx=>?_,λx d p e=>?_,λx d p e=>?_,λx hx=>?_,?_,λx d p z l2 e hx nx he2=>?_,λx d p z dz q e hx ez hz=>?_,#[pv,keep _ _ _ ev],vW,λx d p e hx=>?_,λz l2 hz=>?_]
 .by_cases z:x=y
  .rw[z];exact he.ins ok
  .rw[BR z]at hx;exact h.ins x hx
 .rcases cases_ x d p e with⟨rfl,rfl,_⟩|⟨_,e⟩
  .exact .snoc (h.wk v dv pv ev) he
  .exact h.wk x d p e
 .rcases cases_ x d p e with⟨rfl,rfl,rfl⟩|⟨_,e⟩
  .exact .inr #[v,dv,pv,l,rfl,keep _ _ _ ev,vW,he,rfl]
  .rcases h.prev x d p e with z|⟨u,du,q,l2,e1,e2,e3,e4,e5⟩
   .exact .inl z
   .refine .inr #[u,du,q,l2,e1,keep _ _ _ e2,λz=>?_,e4,e5]
    rcases cE.mp z with z|z
    .exact e3 z
    .exact ne u du q e2^Op.mp z
 .rcases cE.mp hx with hx|hx
  .have:=h.wfound x hx
   cases e:F x with
   |none=>exact absurd e this
   |some a=>rw[keep x a.1 a.2 e];intro z;cases z
  .rw[Op.mp hx,BU];intro z;cases z
 .rw[dJ]
  exact#[h.nd,cF.mpr #[cb,ci],λa ha b hb e=>yW^by rw[←Op.mp hb,←e];exact ha]
 .let#[w1,w2]:=inW x hx
  rcases cases_ x d p e with⟨z,_⟩|⟨_,e⟩
  .exact absurd z w2
  .let#[d3,q3,e3,h3]:=h.done x d p z l2 e w1 nx he2
   exact#[d3,q3,keep _ _ _ e3,h3]
 .let#[w1,w2]:=inW x hx
  rcases cases_ x d p e with⟨z,_⟩|⟨_,ex⟩
  .exact absurd z w2
  .rcases cases_ z dz q ez with⟨_,e2,_⟩|⟨nz,ez⟩
   .have:=h.least x d p ex w1
    omega
   .rcases cE.mp hz with hz|hz
    .exact h.near x d p z dz q ex w1 ez hz
    .exact absurd (Op.mp hz) nz
 .let#[w1,w2]:=inW x hx
  rcases cases_ x d p e with⟨z,_⟩|⟨_,e⟩
  .exact absurd z w2
  .exact h.least x d p e w1
 .rcases cE.mp hz with hz|hz
  .let#[d3,q3,e3,h3]:=h.gone z l2 hz
   exact#[d3,q3,keep _ _ _ e3,h3]
  .cases Op.mp hz
   exact#[_,_,BU,hZ _]
def Dm.nearer{N:Net}(ok:N.Ok){s:Str}{F:Ob}{Wt:n_ Str}{v:Str}{dv:Int}{seen:n_ (Str×Int)}(h:Dm N s F Wt v dv seen){y:Str}{l dy:Int}{qy:o_ Str}(he:Ed N v y l)(hy:F y=P3 (dy,qy))(hlt:dv+l<dy):Dm N s (Ga F y (dv+l,P3 v)) Wt v dv (seen++[(y,l)]):=by
 have hpos:=(he.pos ok).1;let#[pv,ev]:=h.here
 have yW:y∈Wt:=by
  by_cases z:y∈Wt
  .exact z
  .have:=h.least y dy qy hy z
   omega
 have vy:v≠y:=λz=>h.out (by rw[z];exact yW);have keep:∀x,x∉Wt->Ga F y (dv+l,P3 v) x=F x:=λx hx=>BR λz=>hx^by rw[z];exact yW
 have cases_:∀x d p,Ga F y (dv+l,P3 v) x=P3 (d,p)->(x=y/\d=dv+l/\p=P3 v)\/(x≠y/\F x=P3 (d,p)):=λx d p e=>by
  by_cases z:x=y
  .rw[z,BU]at e;cases e;exact .inl #[z,rfl,rfl]
  .rw[BR z]at e;exact .inr #[z,e]
 have less:∀x d p,F x=P3 (d,p)->∃d' q,Ga F y (dv+l,P3 v) x=P3 (d',q)/\d'<=d:=λx d p e=>by
  by_cases z:x=y
  .subst z
   rw[hy]at e;cases e;exact#[_,_,BU,by lk]
  .exact#[d,p,by rw[BR z];exact e,hZ _]
 have sy:s≠y:=λz=>by
  have:=h.start
  rw[z,hy]at this;cases this
  have:=(h.wk v dv pv ev).pos ok
  omega
 refine#[by rw[BR sy];exact h.start,λx hx=>?_,λx d p e=>?_,λx d p e=>?_,λx hx=>?_,h.nd,λx d p z l2 e hx nx he2=>?_,λx d p z dz q e hx ez hz=>?_,#[pv,by rw[BR vy];exact ev],h.out,λx d p e hx=>?_,λz l2 hz=>?_]
 .by_cases z:x=y
  .rw[z];exact he.ins ok
  .rw[BR z]at hx;exact h.ins x hx
 .rcases cases_ x d p e with⟨rfl,rfl,_⟩|⟨_,e⟩
  .exact .snoc (h.wk v dv pv ev) he
  .exact h.wk x d p e
 .rcases cases_ x d p e with⟨rfl,rfl,rfl⟩|⟨_,e⟩
  .exact .inr #[v,dv,pv,l,rfl,by rw[BR vy];exact ev,h.out,he,rfl]
  .rcases h.prev x d p e with z|⟨u,du,q,l2,e1,e2,e3,e4,e5⟩
   .exact .inl z
   .exact .inr #[u,du,q,l2,e1,by rw[keep u e3];exact e2,e3,e4,e5]
 .by_cases z:x=y
  .rw[z,BU];intro w;cases w
  .rw[BR z];exact h.wfound x hx
 .rw[keep x hx]at e
  let#[d3,q3,e3,h3]:=h.done x d p z l2 e hx nx he2;let#[d4,q4,e4,h4]:=less z d3 q3 e3;exact#[d4,q4,e4,by lk]
 .rw[keep x hx]at e
  rcases cases_ z dz q ez with⟨rfl,rfl,_⟩|⟨nz,ez⟩
  .have:=h.least x d p e hx
   omega
  .exact h.near x d p z dz q e hx ez hz
 .rw[keep x hx]at e
  exact h.least x d p e hx
 .rcases cE.mp hz with hz|hz
  .let#[d3,q3,e3,h3]:=h.gone z l2 hz
   let#[d4,q4,e4,h4]:=less z d3 q3 e3;exact#[d4,q4,e4,by lk]
  .cases Op.mp hz
   exact#[_,_,BU,hZ _]
def Dm.skip{N:Net}{s:Str}{F:Ob}{Wt:n_ Str}{v:Str}{dv:Int}{seen:n_ (Str×Int)}(h:Dm N s F Wt v dv seen){y:Str}{l dy:Int}{qy:o_ Str}(hy:F y=P3 (dy,qy))(hle:dy<=dv+l):Dm N s F Wt v dv (seen++[(y,l)]):=by
 refine#[h.start,h.ins,h.wk,h.prev,h.wfound,h.nd,h.done,h.near,h.here,h.out,h.least,λz l2 hz=>?_]
 rcases cE.mp hz with hz|hz
 .exact h.gone z l2 hz
 simp_all
structure Told (N:Net) (s:Str) (F:Ob):Prop where
 start:F s=P3 (0,k_)
 ins:∀x,F x≠k_->x∈N.ps
 least:∀x d p,F x=P3 (d,p)->Least N s x d
 all:∀x d,Wk N s x d->F x≠k_
 prev:∀x d p,F x=P3 (d,p)->(p=k_/\x=s)\/∃y dy q l,p=P3 y/\F y=P3 (dy,q)/\Ed N y x l/\d=dy+l
def Dj.told{N:Net}{s:Str}{F:Ob}(h:Dj N s F []):Told N s F:=by
 have cl:=GD (N:=N) (s:=s) (F:=λx=>(F x).map (·.1)) #[0,by rw[h.start];rfl,hZ _] (λx d e=>by
  let#[#[d',p],e1,e2]:=cU.mp e;cases e2;exact h.wk x _ p e1) (λx d y l e he=>by
  let#[#[d',p],e1,e2]:=cU.mp e;cases e2;let#[dy,q,e3,h3]:=h.done x _ p y l e1 cb he;exact#[dy,by rw[e3];rfl,h3])
 refine#[h.start,h.ins,λx d p e=>cl.1 x d (by rw[e];rfl),λx d hw e=>cl.2 x d hw (by rw[e];rfl),λx d p e=>?_]
 rcases h.prev x d p e with z|⟨y,dy,q,l,e1,e2,_,e4,e5⟩
 .exact .inl z
 simp_all
noncomputable abbrev Kn:=Str->o_ Int
structure Bf (N:Net) (s:Str) (c:Nat) (K:Kn):Prop where
 start:∃d,K s=P3 d/\d<=0
 ins:∀x,K x≠k_->x∈N.ps
 wk:∀x d,K x=P3 d->Wk N s x d
 top:∀x d,K x=P3 d->d<=1000000*(c:Int)
noncomputable def big:Nat:=27000001
noncomputable def wt(K:Kn)(x:Str):Nat:=match K x with
 |some d=>d.toNat
 |none=>big
noncomputable def Sj(ps:n_ Str)(K:Kn):Nat:=(ps.map^wt K).sum
theorem S_{f g:Str->Nat}:∀{ps:n_ Str},(∀x∈ps,f x<=g x)->(ps.map f).sum<=(ps.map g).sum
 |[],_=>Rs _
 |x::ps,h=>by
  have h2:=S_ λy hy=>h y^TW _ hy
  grind
theorem S9{f g:Str->Nat}:∀{ps:n_ Str},(∀x∈ps,f x<=g x)->(∃x∈ps,f x<g x)->(ps.map f).sum<(ps.map g).sum
 |[],_,#[x,hx,_]=>by cases hx
 | x::ps,h,#[y,hy,hl]=>by
  have h1:=h x Re;rw[cL,cL,List.sum_cons,List.sum_cons]
  rcases Uf.mp hy with rfl|hy
  .have h2:=S_ λy hy=>h y^TW _ hy
   omega
  .have h2:=S9 (λy hy=>h y^TW _ hy) #[y,hy,hl]
   omega
def Bf.put {N:Net} (ok:N.Ok) {s:Str}{c c':Nat}{K:Kn} (h:Bf N s c K) (hc:c' ≤ 26) (hcc:c ≤ c') {x y:Str}{d l:Int} (hx:K x=P3 d) (he:Ed N x y l) (hn:K y=k_ → c'=c + 1) (hl:∀ d',K y=P3 d' → d + l < d'):Bf N s c'^Ga K y (d + l) ∧ Sj N.ps^Ga K y (d + l) < Sj N.ps K:=by
  have hp:=he.pos ok;have hd:=(h.wk x d hx).pos ok;have hw:Wk N s y (d + l):=.snoc (h.wk x d hx) he;have td:=h.top x d hx
  have ht : d + l ≤ 1000000 * (c':Int):=by
    cases e:K y with
    | none => rw[hn e];have:((c + 1:Nat):Int)=(c:Int) + 1:=by lk
              rw[this,Int.mul_add];lk
    | some d'=>
      have h1:=hl d' e;have h2:=h.top y d' e;have:(1000000:Int) * (c:Int) ≤ 1000000 * (c':Int):=gy (by lk) (by lk);lk
  refine#[#[?_,λz hz=>?_,λz dz e=>?_,λz dz e=>?_],S9 (λz _=>?_) #[y,he.ins ok,?_]]
  · let#[d0,e0,h0]:=h.start
    by_cases z:s=y
    · have:=hl d0^by rw[←z];exact e0
      omega
    .exact#[d0,by rw[BR z];exact e0,h0]
  · by_cases e:z=y
    .rw[e];exact he.ins ok
    .rw[BR e]at hz;exact h.ins z hz
  · by_cases w:z=y
    .rw[w,BU]at e;cases e;rw[w];exact hw
    .rw[BR w]at e;exact h.wk z dz e
  · by_cases w:z=y
    .rw[w,BU]at e;cases e;exact ht
    · rw[BR w]at e
      have h2:=h.top z dz e;have:(1000000:Int) * (c:Int) ≤ 1000000 * (c':Int):=gy (by lk) (by lk);lk
  · unfold wt
    by_cases w:z=y
    · rw[w,BU]
      cases e:K y with
      |none=>show(d + l).toNat ≤ big;unfold big;lk
      |some d'=>show(d + l).toNat ≤ d'.toNat;have:=hl d' e;lk
    · rw[BR w]
      exact Rs _
  · unfold wt
    rw[BU];cases e:K y with
    |none=>show(d + l).toNat < big;unfold big;lk
    |some d'=>show(d + l).toNat < d'.toNat;have:=hl d' e;lk
def Bf.init{N:Net}{s:Str}(hs:s∈N.ps):Bf N s 1 (λx=>if x=s then P3 0 else k_):=by
 have iff:∀x d,(if x=s then P3 (0:Int)else k_)=P3 d->x=s/\d=0:=λx d e=>by
  grind
 refine#[#[0,if_pos rfl,hZ _],λx e=>by grind,λx d e=>?_,λx d e=>?_]
 .let#[rfl,rfl]:=iff x d e
  exact .nil
 .let#[rfl,rfl]:=iff x d e
  decide
noncomputable def IZ(K:Kn)(e:Str×Str×Int):Prop:=∀d,K e.1=P3 d->∃d',K e.2.1=P3 d'/\d'<=d+e.2.2
structure LTold (N:Net) (s:Str) (K:Kn):Prop where
 ins:∀x,K x≠k_->x∈N.ps
 least:∀x d,K x=P3 d->Least N s x d
 all:∀x d,Wk N s x d->K x≠k_
 top:∀x d,K x=P3 d->d<=30000000
def Bf.told{N:Net}(ok:N.Ok){s:Str}{c:Nat}{K:Kn}(h:Bf N s c K)(hc:c<=26)(ht:∀t∈N.ts,IZ K (t.a,t.b,t.len)/\IZ K (t.b,t.a,t.len)):LTold N s K:=by
 have cl:=GD h.start h.wk (λx d y l e he=>by
  let#[t,hm,e1,h2]:=he.tie ok;subst e1
  rcases h2 with⟨rfl,rfl⟩|⟨rfl,rfl⟩
  .exact(ht t hm).1 d e
  .exact(ht t hm).2 d e)
 exact#[h.ins,cl.1,cl.2,λx d e=>by have:=h.top x d e;lk]
noncomputable def walk(N:Net):n_ Str->Int->Prop
 |[],_=>False
 |[_],d=>d=0
 |x::y::r,d=>∃l e,Ed N x y l/\walk N (y::r) e/\d=l+e
def Q8{N:Net}{x y:Str}{r:n_ Str}{d l:Int}(he:Ed N x y l)(h:walk N (y::r) d):walk N (x::y::r) (l+d):=#[l,d,he,h,rfl]
noncomputable def Far(N:Net)(a b:Str):o_ Int->Prop
 |some d=>Least N a b d
 |none=>∀d,¬Wk N a b d
def Far.unique{N:Net}{a b:Str}{o o':o_ Int}(h:Far N a b o)(h':Far N a b o'):o=o':=by
 cases o with
 |none=>
  cases o' with
  |none=>rfl
  |some d=>exact absurd (h'.1)^h d
 |some d=>
  cases o' with
  |none=>exact absurd (h.1)^h' d
  |some d'=>rw[Least.unique (h) h']
def Told.far{N:Net}{s:Str}{F:Ob}(h:Told N s F)(x:Str):Far N s x ((F x).map (·.1)):=by
 cases e:F x with
 |none=>exact λd hw=>h.all x d hw e
 |some a=>exact h.least x _ _ e
def LTold.far{N:Net}{s:Str}{K:Kn}(h:LTold N s K)(x:Str):Far N s x^K x:=by
 cases e:K x with
 |none=>exact λd hw=>h.all x d hw e
 |some d=>exact h.least x d e
noncomputable def Way(N:Net)(a b:Str)(o:o_^n_ Str):Prop:=match o with
 |some w=>∃d r,w=a::r/\w.getLast?=P3 b/\walk N w d/\Least N a b d/\w.length<=30/\∀x∈w,x∈N.ps
 |none=>∀d,¬Wk N a b d
noncomputable def Zn:o_ Str->D
 |some y=>.str y
 |none=>.non
noncomputable def Ek:o_ Int->D
 |some y=>.int y
 |none=>.non
noncomputable def Zm:o_^n_ Str->D
 |some w=>.tup^w.map .str
 |none=>.non
noncomputable def Hs(p:Int×o_ Str):D:=.tup [.int p.1,Zn p.2]
noncomputable def okN(N:Net):Prop:=N.Ok/\N.ps.length<=25/\N.ts.length<=60
noncomputable def VJ:W2:=λss n P=>∃(Wt:n_ Str) (ks:n_ Key) (ds:n_ D) (F:Ob),ss=[.br^.lst^Wt.map .str,.br^.dic ks ds]/\Dmap ks ds Hs F/\(∀x∈Wt,F x≠k_)/\Wt≠[]/\Wt.length<=100 /\
 ∀v∈Wt,(∀y∈Wt,∀dv pv dy py,F v=P3 (dv,pv)->F y=P3 (dy,py)->dv<=dy)->P (.str v) n
noncomputable def M5:W2:=λss n P=>∃(N:Net) (s:Str),ss=[.sh^enc N,.sh^.str s]/\okN N/\s∈N.ps/\∀(ks:n_ Key) (ds:n_ D) (F:Ob),Dmap ks ds Hs F->Told N s F->P (.dic ks ds) n
noncomputable def Wf:W2:=λss n P=>∃(N:Net) (a b:Str),ss=[.sh^enc N,.sh^.str a,.sh^.str b]/\okN N/\a∈N.ps/\b∈N.ps/\∀o,Far N a b o->P (Ek o) n
noncomputable def Yv:W2:=λss n P=>∃(N:Net) (a b:Str),ss=[.sh^enc N,.sh^.str a,.sh^.str b]/\okN N/\a∈N.ps/\b∈N.ps/\∀o,Way N a b o->P (Zm o) n
noncomputable def GF:Ac:=(As^AV A1 (Be XH^AD (CV [P3 1,k_] (BS^Ar 0) (Az 1) Q9^A3^AD (AV A1 (AV A2 (Ar 0)^AA 1)^wC^D.int 0)^AD (AA 1) AQ) AQ)^wC^D.int 1)
noncomputable def GH:Ac:=(AW (Au 2^Aa Mw^AE (AK^AA 0) AS)
 (AW (G5 3^Oh (AA 1)^A3^AD (wC^D.int 0)^AD (wC D.non) AQ)
 (AW (G5 4^Dy^AD (AA 1) AQ)
 (AW (IS (Ss^Ar 4) (AW (Au 5^Aa VJ^AE (Bc^Ar 4)^AE (Bc^Ar 3) AS)
 (AW (Sh 4 "list" Yb^AD (AA 5) AQ)
 (IV (wItems^AV A2 (AA 2)^AA 5) (Ke 2^BP (Az 6)^BP (Az 7) E7) (AW (Au 8^AV BZ (AV A1 (AV A2 (Ar 3)^AA 5)^wC^D.int 0)^AA 7)
 (BC (AX^AV (Hr l_) (AA 6)^Ar 3) (AW (Sh 4 "list" F9^AD (AA 6) AQ)
 (Fc 3 (AA 6)^A3^AD (AA 8)^AD (AA 5) AQ))^BC (AX^AV Ho (AA 8)^AV A1 (AV A2 (Ar 3)^AA 6)^wC^D.int 0) (Fc 3 (AA 6)^A3^AD (AA 8)^AD (AA 5) AQ) Ao))))))
 (NA 3)))))
noncomputable def XR:Ac:=(AW (Au 3^Aa M5^AE (AK^AA 0)^AE (AK^AA 1) AS)
 (As^Xh (AX^AV (Hr m_) (AA 2)^AA 3) (AV A1 (AV A2 (AA 3)^AA 2)^wC^D.int 0)^wC D.non))
noncomputable def OG:Ac:=(AW (Au 3^Aa M5^AE (AK^AA 0)^AE (AK^AA 1) AS)
 (AW (BC (AX^AV (Hr l_) (AA 2)^AA 3) (As^wC D.non) Ao)
 (AW (G5 4^Dy AQ)
 (AW (Au 5^AA 2)
 (AW (IS (AX^AV (Jd l_) (AA 5)^wC D.non) (AW (Sh 4 "list" F9^AD (AA 5) AQ)
 (Au 5^AV A1 (AV A2 (AA 3)^AA 5)^wC^D.int 1)))
 (As^P7^Ar 4))))))
def bE{i j:Int}{x y:Str}(h:BY [.inl j,.inr y] [.inl i,.inr x]=m_):i<=j:=by
 have h:(if gc j=.inl i then(if d7 y=.inr x then m_ else decide _)else decide _)=m_:=h
 grind
section
variable {ss:n_ Slot}{n:Sg}{Pd:D->Sg->Prop}
def KH(h:VJ ss n Pd):GF (EE Pd) n (ss++T0 0 .no):=by
 let#[Wt,ks,ds,F,rfl,M,hF,hne,hl,p]:=h;unfold GF;refine#[by show(Wt.map D.str).length<=10000000;rw[FM];lk,?_]
 have dist:∀x∈Wt,∃d q,F x=P3 (d,q):=λx hx=>by
  cases e:F x with
  |none=>exact absurd e^hF x hx
  |some a=>exact#[a.1,a.2,rfl]
 refine DB (λd=>match d with|.str x=>.tup [.int ((F x).getD (0,k_)).1,.str x]|d=>d) (λρ=>∃s,ρ=[.br^.dic ks ds,s]) _ _ _ _ ?_ #[_,rfl] ?_
 .rintro d hd ρ m nx ⟨s,rfl⟩ hnx
  let#[x,hx,rfl]:=TM.mp hd;let#[dx,q,ex]:=dist x hx;refine#[ks,ds,_,Hs (dx,q),rfl,rfl,by rw[M.at_,ex];rfl,_,AH (j:=0) rfl,(by cbv:2<=sizeLine),?_]
  grind
 rw[dB,eg];refine#[_,rfl,?_,#[λx hx=>?_,λx hx y hy ka kb ea eb=>?_],λx hx hmin=>?_]
 .rw[FM]
  cases Wt with
  |nil=>exact absurd rfl hne
  |cons a r=>exact Nat.succ_pos _
 .let#[z,_,rfl]:=TM.mp hx
  exact#[_,rfl,dG _ _]
 .let#[z,_,rfl]:=TM.mp hx
  let#[u,_,rfl]:=TM.mp hy;cases(show P3 [gc _,d7 _]=P3 ka from ea);cases(show P3 [gc _,d7 _]=P3 kb from eb);rfl
 .let#[v,hv,rfl]:=TM.mp hx
  refine#[_,AH (j:=1) rfl,p v hv λy hy dv pv dy py ev ey=>?_]
  have:=bE (hmin _ (TM.mpr #[y,hy,rfl]) _ _ rfl rfl)
  rw[ev,ey]at this;exact this
def A5(x:Str):keyOf^.str x=P3^.inr x:=rfl
def Rp{N:Net}(ok:N.Ok){xs:n_ Str}(h:∀x∈xs,x∈N.ps):DC^.lst^xs.map .str:=Gj λd hd=>by
  let#[x,hx,rfl]:=TM.mp hd;exact DD^ok.names x^h x hx
def Oe{N:Net}{Wt:n_ Str}(hn:Wt.Nodup)(h:∀x∈Wt,x∈N.ps):Wt.length<=N.ps.length:=by
 have:∀(xs ps:n_ Str),xs.Nodup->(∀x∈xs,x∈ps)->xs.length<=ps.length:=by
  intro xs
  induction xs with
  |nil=>grind
  |cons x xs ih=>
   intro ps hn hm;have hx:=hm x Re;have hn:=cF.mp hn;have h1:=ih (ps.erase x) hn.2 λj hj=>(List.mem_erase_of_ne λe=>hn.1^by simp_all).mpr^hm j^TW _ hj
   grind
 simp_all
def JA(ks:n_ Key)(k:Key):(CW ks k).length=if JY ks k=l_ then ks.length else ks.length+1:=by
 unfold CW
 split
 .rfl
 simp_all
def Dmap.has{α:Type}{ks:n_ Key}{ds:n_ D}{enc:α->D}{F:Str->o_ α}(h:Dmap ks ds enc F){x:Str}:(F x=k_->JY ks^.inr x=m_)/\(F x≠k_->JY ks^.inr x=l_):=by
 constructor
 .intro e
  cases c:JY ks _ with
  |false=>rfl
  |true=>exact absurd e^(h.mem x).mp^hasK_iff.mp c
 .intro e
  exact hasK_iff.mpr^(h.mem x).mpr e
def RD{N:Net}{x:Str}(hx:x∈N.ps):BO (N.ps.map .inr) (N.ps.map^VP N.ts)^.inr x=P3^VP N.ts x:=by
 have go:∀ps:n_ _,x∈ps->BO (ps.map .inr) (ps.map^VP N.ts)^.inr x=P3^VP N.ts x:=by
  intro ps
  induction ps with
  |nil=>grind
  | cons q ps ih=>
   intro h;show(if d7 q=.inr x then P3 _ else BO _ _ _)=_
   by_cases e:q=x
   .grind
   .rw[if_neg λz=>e^fF z]
    exact ih^(Uf.mp h).resolve_left λz=>e z.symm
 simp_all
def VS(l:n_ (Str×Int)):He ((l.map λx=>(.inr x.1:Key)).map XO) (l.map λx=>.int x.2)=l.map av:=by
 induction l with
 |nil=>rfl
 |cons p l ih=>
  show D.tup _::He _ _=av p::l.map _;rw[←ih];rfl
def KJ(h:M5 ss n Pd):GH (EF Pd) n (ss++T0 7 .no):=by
 let#[N,s,rfl,#[ok,lp,lt],hs,p]:=h;have szl:=PySem.sizeLine_eq;unfold GH;refine#[N,rfl,ok,by lk,by lk,?_];refine#[(by cbv:2<=sizeLine),_,A5 s,(by cbv:1<=sizeLine),?_];refine GV (λm n' ρ=>n'=n/\∃(Wt:n_ Str) (ks:n_ Key) (ds:n_ D) (F:Ob) (s5 s6 s7 s8:Slot),ρ=[.sh^enc N,.sh^.str s,.sh^D1 N,.ow^.dic ks ds,.ow^.lst^Wt.map .str,s5,s6,s7,s8]/\Dmap ks ds Hs F/\Dj N s F Wt/\m+ks.length=N.ps.length+Wt.length) (N.ps.length) #[rfl,[s],[.inr s],[Hs (0,k_)],_,_,_,_,_,rfl,Dmap.one,Dj.init hs,rfl] ?_ ?_
 .rintro m n' ρ N' ⟨rfl,Wt,ks,ds,F,s5,s6,s7,s8,rfl,M,J,hm⟩ hN
  cases Wt with
  |nil=>
   exact#[m_,rfl,_,rfl,p ks ds F M J.told]
  | cons w0 Wr=>
   refine#[l_,rfl,?_];have insW:∀x∈w0::Wr,x∈N.ps:=λx hx=>J.ins x^J.wfound x hx;have wl:=Oe J.nd insW;refine#[w0::Wr,ks,ds,F,rfl,M,J.wfound,dG _ _,by lk,λv hv hmin=>?_]
   obtain⟨dv,pv,ev⟩:∃d q,F v=P3 (d,q):=by
    cases e:F v with
    |none=>exact absurd e^J.wfound v hv
    |some a=>exact#[a.1,a.2,rfl]
   have D0:=J.take hv ev λy hy dy q ey=>hmin y hy dv pv dy q ev ey;have hvp:=insW v hv;have hidx:(w0::Wr).idxOf v<(w0::Wr).length:=List.idxOf_lt_length_of_mem hv;have hget:(w0::Wr)[(w0::Wr).idxOf v]?=P3 v:=by rw[No hidx,List.getElem_idxOf]
   have ee:((w0::Wr).map D.str).eraseIdx^(w0::Wr).idxOf v=((w0::Wr).erase v).map D.str:=by
    rw[List.erase_eq_eraseIdx_of_idxOf (rfl:(w0::Wr).idxOf v=_),LG]
   refine#[_,rfl,rfl,_,_,(w0::Wr).idxOf v,rfl,rfl,Rp ok insW,CO^ok.names v hvp,#[.str v,by rw[XV,hget];rfl,by show(v==v)=l_;exact beq_self_eq_true v],λk x hk hx=>?_,?_]
   .rw[XV]at hx
    let#[t,ht,rfl]:=cU.mp hx;have hkl:k<(w0::Wr).length:=(UF.mp ht).1;have hh:=List.not_of_lt_findIdx (p:=λy=>y==v) (xs:=w0::Wr) hk;have e2:(w0::Wr)[k]=t:=(UF.mp ht).2;have h3:((w0::Wr)[k]==v)=m_:=hh;rw[e2]at h3;exact h3
   rw[ee];refine#[_,_,_,VP N.ts v,rfl,A5 v,RD hvp,_,_,rfl,λk hk=>?_,?_]
   .let#[q,hq,rfl]:=TM.mp hk
    have:=(ok.names _ (MK ok hq).1).2.1
    show q.1.length<=sizeLine;lk
   rw[VS];have el:=List.length_erase_of_mem hv
   have inner:∀(rest seen:n_ (Str×Int)) (Wt:n_ Str) (ks:n_ Key) (ds:n_ D) (F:Ob) (s6 s7 s8:Slot),seen++rest=C4 N.ts v->Dmap ks ds Hs F->Dm N s F Wt v dv seen->m+ks.length=N.ps.length+Wt.length+1->
     Bh (Ke 2^BP (Az 6)^BP (Az 7) E7) (AW (Au 8^AV BZ (AV A1 (AV A2 (Ar 3)^AA 5)^wC^D.int 0)^AA 7)
 (BC (AX^AV (Hr l_) (AA 6)^Ar 3) (AW (Sh 4 "list" F9^AD (AA 6) AQ)
 (Fc 3 (AA 6)^A3^AD (AA 8)^AD (AA 5) AQ))^BC (AX^AV Ho (AA 8)^AV A1 (AV A2 (Ar 3)^AA 6)^wC^D.int 0) (Fc 3 (AA 6)^A3^AD (AA 8)^AD (AA 5) AQ) Ao)) {EF Pd with nx:=N',ct:=N',bk:=NA 3^EF Pd} (rest.map av) n' [.sh^enc N,.sh^.str s,.sh^D1 N,.ow^.dic ks ds,.ow^.lst^Wt.map .str,.sh^.str v,s6,s7,s8]:=by
    intro rest
    induction rest with
    |nil=>
     intro seen Wt ks ds F s6 s7 s8 e M D0 hm;rw[cX]at e;exact hN (m - 1) n' _ (by have:=M.le D0.ins;lk) #[rfl,Wt,ks,ds,F,_,_,_,_,rfl,M,D0.finish λy l hy=>by rw[e];exact hy,by have:=M.le D0.ins;lk]
    | cons q rest ih=>
     intro seen Wt ks ds F s6 s7 s8 e M D0 hm;let#[y,l]:=q;have he:Ed N v y l:=by show(y,l)∈C4 N.ts v;rw[←e];exact cC _ Re
     have e':(seen++[(y,l)])++rest=C4 N.ts v:=by rw[fB];exact e
     let#[pv,ev]:=D0.here;have kl:=M.le D0.ins;have hyp:=he.ins ok;have insW:∀x∈Wt,x∈N.ps:=λx hx=>D0.ins x^D0.wfound x hx;have wl:=Oe D0.nd insW;refine#[rfl,rfl,?_];refine#[ks,ds,_,Hs (dv,pv),rfl,A5 v,by rw[M.at_,ev];rfl,_,AH (j:=0) rfl,?_];refine#[ks,ds,_,rfl,A5 y,?_];show if(!(BO ks ds^.inr y).isSome)=l_ then _ else _
     cases ey:F y with
     |none=>
      have hno:=(M.has (x:=y)).1 ey;rw[M.at_,ey];refine Dt #[_,rfl,rfl,_,_,rfl,rfl,by rw[FM];lk,?_];refine#[ks,ds,rfl,(by cbv:2<=sizeLine),_,A5 y,by lk,?_]
      have:=ih (seen++[(y,l)]) (Wt++[y]) (CW ks^.inr y) (Cj ks ds (.inr y)^Hs (dv+l,P3 v)) _ (.sh^.str y) (.sh^.int l) (.sh^.int (dv+l)) e' (M.put y (dv+l,P3 v)) (D0.find ok he ey)^by rw[JA,if_neg (by rw[hno];decide),cj,dM];lk
      rw[c0]at this;exact this
     | some a=>
      let#[dy,qy]:=a;have hyes:=(M.has (x:=y)).2 (by rw[ey];intro z;cases z);rw[M.at_,ey];refine Ce #[ks,ds,_,Hs (dy,qy),rfl,A5 y,by rw[M.at_,ey];rfl,_,AH (j:=0) rfl,?_];show if decide (dv+l<dy)=l_ then _ else _
      by_cases c:dv+l<dy
      .rw[decide_eq_true c]
       refine Dt #[ks,ds,rfl,(by cbv:2<=sizeLine),_,A5 y,by lk,?_];exact ih (seen++[(y,l)]) Wt (CW ks^.inr y) (Cj ks ds (.inr y)^Hs (dv+l,P3 v)) _ (.sh^.str y) (.sh^.int l) (.sh^.int (dv+l)) e' (M.put y (dv+l,P3 v)) (D0.nearer ok he ey c)^by rw[JA,if_pos hyes];lk
      .rw[decide_eq_false c]
       exact Ce^ih (seen++[(y,l)]) Wt ks ds F (.sh^.str y) (.sh^.int l) (.sh^.int (dv+l)) e' M (D0.skip ey^by lk) hm
   exact inner (C4 N.ts v) [] ((w0::Wr).erase v) ks ds F _ _ _ rfl M D0 (by have:=List.length_pos_of_mem hv;lk)
 .rintro n' ρ P Q hPQ h
  unfold Ss Ar at h ⊢
  split at h
  all_goals first
   |exact h.elim
   |(let#[c,hc,h]:=h;exact#[c,hc,hPQ _ _ h])
def X1(h:Wf ss n Pd):XR (EE Pd) n (ss++T0 1 .no):=by
 let#[N,a,b,rfl,okn,ha,hb,p]:=h;unfold XR;refine#[N,a,rfl,okn,ha,λks ds F M T=>?_];refine#[ks,ds,_,rfl,A5 b,?_];show if((BO ks ds^.inr b).isSome)=l_ then _ else _
 have hp:=p _^T.far b;cases e:F b with
 |none=>
  rw[M.at_,e];rw[e]at hp;exact Ce hp
 |some x=>
  rw[M.at_,e];rw[e]at hp;exact Dt #[ks,ds,_,Hs x,rfl,A5 b,by rw[M.at_,e];rfl,_,AH (j:=0) rfl,hp]
end
structure WInv (N:Net) (F:Ob) (b:Str) (db:Int) (acc:List Str) (pl:Option Str):Prop where
 st:(acc=[]/\pl=P3 b)\/∃z r dz,acc.reverse=z::r/\F z=P3 (dz,pl)/\walk N acc.reverse (db - dz)/\acc.reverse.getLast?=P3 b
 nd:acc.Nodup
 ins:∀x∈acc,x∈N.ps
 less:∀y dy q,pl=P3 y->F y=P3 (dy,q)->∀x∈acc,∃dx qx,F x=P3 (dx,qx)/\dy<dx
 fnd:∀y,pl=P3 y->F y≠k_
noncomputable def wm(F:Ob):o_ Str->Nat
 |none=>0
 |some y=>((F y).getD (0,k_)).1.toNat+1
def WInv.step{N:Net}(ok:N.Ok){a:Str}{F:Ob}(T:Told N a F){b:Str}{db:Int}{qb:o_ Str}(eb:F b=P3 (db,qb)){acc:n_ Str}{y:Str}{dy:Int}{qy:o_ Str}(h:WInv N F b db acc^P3 y)(ey:F y=P3 (dy,qy)):WInv N F b db (acc++[y]) qy/\wm F qy<wm F^P3 y:=by
 have hy0:=(T.least y dy qy ey).1.pos ok
 have nx:∀w dw q,qy=P3 w->F w=P3 (dw,q)->dw<dy:=λw dw q e ew=>by
  rcases T.prev y dy qy ey with⟨z,_⟩|⟨w',dw',q',l,e1,e2,e3,e4⟩
  .rw[e]at z;cases z
  .rw[e]at e1
   cases e1;rw[ew]at e2;cases e2
   have:=(e3.pos ok).1
   omega
 have hf:∀w,qy=P3 w->F w≠k_:=λw e=>by
  rcases T.prev y dy qy ey with⟨z,_⟩|⟨w',dw',q',l,e1,e2,_⟩
  .rw[e]at z;cases z
  .rw[e]at e1
   cases e1;rw[e2];intro z;cases z
 refine#[#[.inr ?_,?_,λx hx=>?_,λw dw q e ew x hx=>?_,hf],?_]
 .rw [List.reverse_append,List.reverse_singleton,ge]
  rcases h.st with⟨rfl,e⟩|⟨z,r,dz,e1,e2,e3,e4⟩
  .cases e
   rw[eb]at ey;cases ey;exact#[_,_,_,rfl,eb,(by show db - db=0;lk),rfl]
  .refine#[y,acc.reverse,dy,rfl,ey,?_,?_]
   .rw[e1]at e3 ⊢
    rcases T.prev z dz (P3 y) e2 with⟨w,_⟩|⟨w',dw',q',l,k1,k2,k3,k4⟩
    .cases w
    .cases k1
     rw[ey]at k2;cases k2
     have:=Q8 k3 e3
     rw[show l+(db - dz)=db - dy by lk]at this;exact this
   .rw[e1]at e4 ⊢
    exact e4
 .rw[dJ]
  refine#[h.nd,cF.mpr #[cb,ci],λx hx z hz e=>?_];rw[Op.mp hz]at e;let#[dx,qx,ex,hlt]:=h.less y dy qy rfl ey x hx;rw[e,ey]at ex;cases ex;lk
 .rcases cE.mp hx with hx|hx
  .exact h.ins x hx
  .rw[Op.mp hx]
   exact T.ins y^by rw[ey];intro z;cases z
 .have h1:=nx w dw q e ew
  rcases cE.mp hx with hx|hx
  .let#[dx,qx,ex,hlt]:=h.less y dy qy rfl ey x hx
   exact#[dx,qx,ex,by lk]
  .rw[Op.mp hx]
   exact#[dy,qy,ey,h1]
 .cases qy with
  |none=>exact Nat.succ_pos _
  | some w=>
   cases ew:F w with
   |none=>exact absurd ew (hf w rfl)
   |some p=>
    have h1:=nx w p.1 p.2 rfl ew;have h2:=(T.least w p.1 p.2 ew).1.pos ok;show((F w).getD (0,k_)).1.toNat+1<((F y).getD (0,k_)).1.toNat+1;rw[ew,ey];show p.1.toNat+1<dy.toNat+1;lk
section
variable {ss:n_ Slot}{n:Sg}{Pd:D->Sg->Prop}
def RH(h:Yv ss n Pd):OG (EE Pd) n (ss++T0 3 .no):=by
 let#[N,a,b,rfl,okn,ha,hb,p]:=h;have szl:=PySem.sizeLine_eq;have ok:=okn.1;unfold OG;refine#[N,a,rfl,okn,ha,λks ds F M T=>?_];refine#[ks,ds,_,rfl,A5 b,?_];show if(!(BO ks ds^.inr b).isSome)=l_ then _ else _
 have hfar:=T.far b;cases eb:F b with
 |none=>
  rw[M.at_,eb];rw[eb]at hfar;exact Dt^p k_ hfar
 | some x=>
  let#[db,qb]:=x;rw[M.at_,eb];refine Ce #[z0,?_];refine GV (λm n' ρ=>n'=n/\∃(acc:n_ Str) (pl:o_ Str),ρ=[.sh^enc N,.sh^.str a,.sh^.str b,.sh^.dic ks ds,.ow^.lst^acc.map .str,.sh^Zn pl]/\WInv N F b db acc pl/\m=wm F pl) (wm F^P3 b) #[rfl,[],P3 b,rfl,#[.inl #[rfl,rfl],ci,(λx hx=>by cases hx),(λ_ _ _ _ _ x hx=>by cases hx),λy e=>by cases e;rw[eb];intro z;cases z],rfl] ?_ ?_
  .rintro m n' ρ N' ⟨rfl,acc,pl,rfl,J,rfl⟩ hN
   have wl:=Oe J.nd J.ins;have l25:=okn.2.1;cases pl with
   | none=>
    refine#[rfl,_,rfl,?_]
    rcases J.st with⟨_,e⟩|⟨z,r,dz,e1,e2,e3,e4⟩
    .cases e
    .have hz:z=a:=by
      rcases T.prev z dz k_ e2 with⟨_,w⟩|⟨w',dw',q',l,k1,_⟩
      .exact w
      .cases k1
     subst hz;rw[T.start]at e2;cases e2;rw[←List.map_reverse];refine p (P3 acc.reverse) #[db - 0,r,e1,e4,e3,?_,by rw[g0];lk,λx hx=>J.ins x^List.mem_reverse.mp hx];rw[show db - 0=db by lk];exact T.least b db qb eb
   | some y=>
    cases ey:F y with
    |none=>exact absurd ey (J.fnd y rfl)
    |some q=>
     let#[dy,qy]:=q;let#[J2,lt2]:=J.step ok T eb ey;refine#[rfl,?_];refine#[_,rfl,rfl,_,_,rfl,rfl,by rw[FM];lk,?_];refine#[ks,ds,_,Hs (dy,qy),rfl,A5 y,by rw[M.at_,ey];rfl,_,AH (j:=1) rfl,?_];refine hN (wm F qy) _ _ lt2 #[rfl,acc++[y],qy,?_,J2,rfl];rw[c0];rfl
  .rintro n' ρ P Q hPQ h
   unfold AX AV AA wC Jd at h ⊢
   split at h
   .exact#[h.1,hPQ _ _ h.2]
   .exact h.elim
end
section
def Ik{o:o_ Int}(h:∀d,o=P3 d->0<=d/\d<=30000000):Kw^Ek o:=by
 cases o with
 |none=>exact Hx (B:=0) (by cbv) trivial (cB _) (cB _)
 |some d=>exact Hx (B:=30000000) (by cbv) (by show d.natAbs<=_;grind) (cB _)^by show 200<=200000;decide
end
def WA{ks:n_ Key}{ds:n_ D}{K:Kn}(M:Dmap ks ds D.int K)(x:Str):(BO ks ds^.inr x).getD .non=Ek^K x:=by
 rw[M.at_];cases K x <;>rfl
def Xt{N:Net}(okn:okN N):Hl 1000001^enc N/\Si^enc N<=48000/\Sl^enc N<=3:=Xi (V9 okn.1) (ED okn.1) (by rw[FM];have:=okn.2.1;lk)^by rw[FM];have:=okn.2.2;lk
end Nt
namespace Dp
open L2
noncomputable def Wn(i:Nat)(b:BW)(body:Ac):Ac:=λD2 n ρ=>∃d ds,ρ[i]?=P3^.br d/\Im d=P3 ds/\Bh b body D2 ds n ρ
section
variable {X:Cx}{κ:Kd}{tg:Expr}{body:n_ Stmt}{b:BW}{wb:Ac}{pos p:Pos}{x:Str}{i:Nat}
def Rel.lessKp{K:Frag}{C:Fm}{q:Ch×HO}{M:Ch->Prop}{H:Hp}{n:Sg}{ρ:n_ Slot}{Z:L2.St}(R:Rel K {C with kp:=q::C.kp} M H n ρ Z):Rel K C M H n ρ Z:=
 #[R.len,R.sub,R.dom,R.ext,R.fU,R.uV,R.vM,R.feed,R.sl,R.pin,R.br0,R.new,R.two,λp hp=>R.kept p^TW _ hp]
def WM(hp:ia (model X.prog X.w) X.A X.env X.xe)(hc:X.calm=l_)(h:PE X (.Name x p)^Bu i)(hg:DG X tg b)(hb:Se X κ body wb)
  (hs:autoParam (∀y,foldedSetIterable (.Name x p) X.env y=pure y) zau2._auto_1):DS X κ (.For tg (.Name x p) body [] pos)^Wn i b wb:=by
 let#[g,g1,g2]:=hg;let#[tb,b1,b2]:=hb;refine#[_,L3 hp hc (PD h) g1 b1 hs,λC M H n ρ Z D2 E R L w=>?_];let#[d,ds,hi,hd,w]:=w;let#[v,e1,hAt]:=R.sl i _ hi;cases d with
 | tup ds'=>
  cases hd;let#[a,vs,rfl,hn,hat]:=hAt;refine#[.ref a,getD_some e1,.inr^.inl #[a,rfl,#[vs,hn.sq],?_]];obtain⟨kp',ek⟩:∃kp',kp'=C.kp:=#[_,rfl];have R1:Rel X.K {C with kp:=kp'} M H n ρ Z:=by rw[ek];exact R
  have less:∀{M H n ρ Z},Rel X.K {C with kp:=kp'} M H n ρ Z->Rel X.K C M H n ρ Z:=λR=>by rw[ek]at R;exact R
  have st:∀M' H' n' zY zZ,Rel X.K {C with kp:=kp',zG:=(M,H)::C.zG} M' H' n' zY zZ->SqT X.K H' a vs:=λM' H' n' zY zZ R'=>(hn.pres^R'.pin (M,H) Re).sq;refine#[λi m zZ H'=>m=ds.length - i/\i<=ds.length/\∃M' n' zY,Rel X.K {C with kp:=kp',zG:=(M,H)::C.zG} M' H' n' zY zZ/\Bh b wb D2 (ds.drop i) n' zY,#[ds.length,by simp,cB _,M,n,ρ,R1.pinned,w],?_];rintro i m zZ H' ⟨rfl,hil,M',n',zY,R',w'⟩;have pr:Pres M H M' H':=R'.pin (M,H) Re;have hq:=st M' H' n' zY zZ R'
  by_cases hlt:i<ds.length
  .have ed:ds.drop i=ds[i]::ds.drop (i+1):=eF hlt
   rw[ed]at w';let#[v,ev,hv]:=(hat.pres pr).get^No hlt;refine .inr #[#[vs,v,hq,ev],λzO H2=>∃M2 n2 zL,Rel X.K {C with kp:=kp',zG:=(M,H)::C.zG} M2 H2 n2 zL zO/\Bh b wb D2 (ds.drop (i+1)) n2 zL,λzO H2 #[M2,n2,zL,R2',w2]=>#[ds.length - (i+1),by lk,rfl,hlt,M2,n2,zL,R2',w2],λy H2 hy=>?_];let#[e2,hy]:=hy;subst e2
   have:P3 v=P3 y:=ev.symm.trans^hy vs hq
   cases this;refine g2 _ M' H2 n' zY zZ ds[i] v _ _ R' hv w' λzQ zV R3 w3=>?_;refine b2 _ M' H2 n' zQ zV {D2 with nx:=Bh b wb D2^ds.drop (i+1),ct:=Bh b wb D2^ds.drop (i+1),bk:=D2.nx} _ R3 #[λM4 H4 n4 zT zS R4 w4=>#[M4,n4,zT,R4,w4],L.rt,λM4 H4 n4 zT zS R4 w4=>L.nx M4 H4 n4 zT zS (less R4.unpin) w4,λM4 H4 n4 zT zS R4 w4=>#[M4,n4,zT,R4,w4]] w3
  .have e:i=ds.length:=by lk
   subst e;rw[fm]at w';exact .inl #[#[vs,hq,by rw[hat.length];exact Rs _],L.nx M' H' n' zY zZ (less R'.unpin) w']
 | lst ds'=>
  cases hd;let#[a,vs,rfl,nV,hH,hat]:=hAt
  obtain⟨o,ho,hnv,hro⟩:∃o,H a=P3 o/\¬Sm o/\∀H':Hp,H' a=P3 o->SqL X.K H' a vs:=by
   rcases hH with z|⟨u,z⟩
   .exact#[_,z,(by rintro⟨_,z⟩;cases z),λH' e=>.inl^.inl e]
   .exact#[_,z,(by rintro⟨_,z⟩;cases z),λH' e=>.inl^.inr #[u,e]]
  refine#[.ref a,getD_some e1,.inl #[a,rfl,#[vs,hro H ho],?_]]
  obtain⟨kp',R1,less,st⟩:∃kp',Rel X.K {C with kp:=kp'} M H n ρ Z/\(∀{M H n ρ Z},Rel X.K {C with kp:=kp'} M H n ρ Z->Rel X.K C M H n ρ Z)/\(∀M' H' n' zY zZ,Rel X.K {C with kp:=kp',zG:=(M,H)::C.zG} M' H' n' zY zZ->SqL X.K H' a vs):=by
   by_cases hM:M a
   .refine#[(a,o)::C.kp,#[R.len,R.sub,R.dom,R.ext,R.fU,R.uV,R.vM,R.feed,R.sl,R.pin,R.br0,R.new,R.two,λq hq=>?_],λR=>R.lessKp,λM' H' n' zY zZ R'=>hro H' (R'.kept (a,o) Re).1]
    rcases Uf.mp hq with rfl|hq
    .refine#[ho,#[hM,hnv],nV,λj e q z=>?_]
     let#[u,hu]:=R.br0 i _ a hi e1
     have:=(R.new j _ a q rfl z).2
     rw[hu]at this;cases this
    .exact R.kept q hq
   .exact#[C.kp,R,λR=>R,λM' H' n' zY zZ R'=>hro H'^(R'.pin (M,H) Re).1 a o ho hM hnv]
  refine#[λi m zZ H'=>m=ds.length - i/\i<=ds.length/\∃M' n' zY,Rel X.K {C with kp:=kp',zG:=(M,H)::C.zG} M' H' n' zY zZ/\Bh b wb D2 (ds.drop i) n' zY,#[ds.length,by simp,cB _,M,n,ρ,R1.pinned,w],?_];rintro i m zZ H' ⟨rfl,hil,M',n',zY,R',w'⟩;have pr:Pres M H M' H':=R'.pin (M,H) Re;have hq:=st M' H' n' zY zZ R'
  by_cases hlt:i<ds.length
  .have ed:ds.drop i=ds[i]::ds.drop (i+1):=eF hlt
   rw[ed]at w';let#[v,ev,hv]:=(hat.pres pr).get^No hlt;refine .inr #[#[vs,v,hq,ev],λzO H2=>∃M2 n2 zL,Rel X.K {C with kp:=kp',zG:=(M,H)::C.zG} M2 H2 n2 zL zO/\Bh b wb D2 (ds.drop (i+1)) n2 zL,λzO H2 #[M2,n2,zL,R2',w2]=>#[ds.length - (i+1),by lk,rfl,hlt,M2,n2,zL,R2',w2],λy H2 hy=>?_];let#[e2,hy]:=hy;subst e2
   have:P3 v=P3 y:=ev.symm.trans^hy vs hq
   cases this;refine g2 _ M' H2 n' zY zZ ds[i] v _ _ R' hv w' λzQ zV R3 w3=>?_;refine b2 _ M' H2 n' zQ zV {D2 with nx:=Bh b wb D2^ds.drop (i+1),ct:=Bh b wb D2^ds.drop (i+1),bk:=D2.nx} _ R3 #[λM4 H4 n4 zT zS R4 w4=>#[M4,n4,zT,R4,w4],L.rt,λM4 H4 n4 zT zS R4 w4=>L.nx M4 H4 n4 zT zS (less R4.unpin) w4,λM4 H4 n4 zT zS R4 w4=>#[M4,n4,zT,R4,w4]] w3
  .have e:i=ds.length:=by lk
   subst e;rw[fm]at w';exact .inl #[#[vs,hq,by rw[hat.length];exact Rs _],L.nx M' H' n' zY zZ (less R'.unpin) w']
 |_=>cases hd
end
end Dp
namespace Nt
open L2 Dp
noncomputable def sub(N:Net)(kept:n_ A_):Net:=#[N.ps,N.ts.filter λu=>decide (u∈kept)]
noncomputable def XA(N:Net)(t b:Int)(u:A_):Prop:=∃d,Least N u.a u.b d/\d*b<=u.len*t
noncomputable def F3(N:Net)(t b:Int)(u:A_):Bool:=@decide (XA N t b u)^eO _
def nearB_iff{N:Net}{t b:Int}{u:A_}:F3 N t b u=l_↔XA N t b u:=by
 unfold F3
 grind
noncomputable def CZ(N:Net)(t b:Int):n_ A_->n_ A_->n_ A_
 |kept,[]=>kept
 |kept,u::r=>if F3 (sub N kept) t b u=l_ then CZ N t b kept r else CZ N t b (kept++[u]) r
noncomputable def Di:W2:=λss n P=>∃(N:Net) (z:D) (ts:n_ A_),ss=[.sh^enc N,.br z]/\Im z=P3^ts.map An/\ts.length<64/\∀ts':n_ A_,ts'.Perm ts->LN ts'->P (enc #[N.ps,ts']) n
noncomputable def Mx:W2:=λss n P=>∃(N:Net) (u:A_) (t b:Int),ss=[.sh^enc N,.sh^.tup [.int t,.int b],.sh^An u]/\okN N/\u.a∈N.ps/\u.b∈N.ps/\1<=b/\b<=1000000/\1<=t/\t<=1000000/\∀o:o_^n_ Str,(∀w,o=P3 w->Way N u.a u.b^P3 w/\F3 N t b u=l_)->(o=k_->F3 N t b u=m_)->P (Zm o) n
noncomputable def CS:W2:=λss n P=>∃(N:Net) (t b:Int),ss=[.sh^enc N,.sh^.tup [.int t,.int b]]/\okN N/\1<=b/\b<=1000000/\1<=t/\t<=1000000/\∀ord:n_ A_,ord.Perm N.ts->FW ord->P (enc^sub N^CZ N t b [] ord) n
noncomputable def Cs:W2:=λss n P=>∃(N:Net) (s:Str) (z:D) (us:n_ A_),ss=[.br z,.sh^.str s]/\Im z=P3^us.map An/\(∀u,u∈us↔u∈N.ts)/\okN N/\s∈N.ps/\∀(ks:n_ Key) (ds:n_ D) (K:Kn),Dmap ks ds D.int K->LTold N s K->P (.dic ks ds) n
noncomputable def OH:Ac:=(As^A3^AD (AV A1 (AA 0)^wC^D.int 0)^AD (Be Br^AD (Be Gs^AD (Ar 1) AQ) AQ) AQ)
noncomputable def GG:Ac:=(AW (Au 3^Aa Yv^AE (AK^AA 0)^AE (AK^AV A1 (AA 2)^wC^D.int 0)^AE (AK^AV A1 (AA 2)^wC^D.int 1) AS)
 (AW (BC (IT (AX^AV (Jd m_) (AA 3)^wC D.non)^G6^AX^Aa Mt^AE (AK^Aa Yw^AE (AK^AA 0)^AE (AK^AA 3) AS)^AE (AK^AA 1)^AE (AK^AV A1 (AA 2)^wC^D.int 2) AS) (As^wC D.non) Ao)
 (As^AA 3)))
noncomputable def HY:Ac:=(AW (G5 2^Dy AQ)
 (AW (IV (BS^Aa C5^AE (AK^AV A1 (AA 0)^wC^D.int 1) AS) (Az 3)^BC (AX^AV (Jd m_) (Aa Mx^AE (AK^Aa Di^AE (AK^AA 0)^AE (Bc^Ar 2) AS)^AE (AK^AA 1)^AE (AK^AA 3) AS)^wC D.non) (Sh 2 "list" F9^AD (AA 3) AQ) Ao)
 (As^Aa Di^AE (AK^AA 0)^AE (Bc^Ar 2) AS)))
noncomputable def DN:Ac:=(AW (G5 2^Dy AQ)
 (AW (IV (BS^Aa C5^AE (AK^AV A1 (AA 0)^wC^D.int 1) AS) (Az 3) (AW (Au 4^IU (Aa Cs^AE (Bc^Ar 2)^AE (AK^AV A1 (AA 3)^wC^D.int 0) AS)^AV A1 (AA 3)^wC^D.int 1)
 (BC (IT (AX^AV (Jd m_) (AA 4)^wC D.non)^AX^AV (f2 λi j=>D.bl (decide (j<i))) (AV DJ (AA 4)^AV A1 (AA 1)^wC^D.int 1)^AV DJ (AV A1 (AA 3)^wC^D.int 2)^AV A1 (AA 1)^wC^D.int 0) (Sh 2 "list" F9^AD (AA 3) AQ) Ao)))
 (As^A3^AD (AV A1 (AA 0)^wC^D.int 0)^AD (Be Br^AD (Be Gs^AD (Ar 2) AQ) AQ) AQ)))
def sub_mem{N:Net}{kept:n_ A_}{u:A_}:u∈(sub N kept).ts↔u∈N.ts/\u∈kept:=by
 show u∈N.ts.filter _↔_
 simp_all
def Li{N:Net}(okn:okN N)(kept:n_ A_):okN^sub N kept:=#[Xu okn.1 (λt h=>(sub_mem.mp h).1)^okn.1.trise.filter _,okn.2.1,cG (cf _ _) okn.2.2]
def Ov{N:Net}(ok:N.Ok){kept ts:n_ A_}(hk:∀t∈kept,t∈N.ts)(nd:kept.Nodup)(hp:ts.Perm kept)(hb:LN ts):(#[N.ps,ts]:Net)=sub N kept:=by
 congr 1
 refine FH ((iG (hp.nodup_iff.mpr nd)^(Bm ok.trise).filter _).mpr λt=>?_) hb^FV^ok.trise.filter _;rw[hp.mem_iff]
 simp_all
def JT{N:Net}{t b:Int}{kept r:n_ A_}{u:A_}:CZ N t b kept (u::r)=if F3 (sub N kept) t b u=l_ then CZ N t b kept r else CZ N t b (kept++[u]) r:=rfl
theorem JR{α β:Type}:∀{l:n_ (α×β)},(l.map (·.1)).Nodup->∀{p q:α×β},p∈l->q∈l->p.1=q.1->p=q
 |a::l,nd,p,q,hp,hq,e=>by
  rw[cL,cF]at nd
  rcases Uf.mp hp with hp2|hp2 <;>rcases Uf.mp hq with hq2|hq2
  .rw[hp2,hq2]
  .grind
  .exact absurd (TM.mpr #[p,hp2,by rw[e,hq2]]) nd.1
  .exact JR nd.2 hp2 hq2 e
def V5{N:Net}(ok:N.Ok){x y:Str}{l:Int}(h:Ed N x y l):look N.ts x y=P3 l:=by
 unfold look;cases e:(C4 _ x).find? _ with
 |none=>exact absurd (List.find?_eq_none.mp e _ h)^by simp
 |some q=>
  have e1:=of_decide_eq_true^List.find?_some (p:=λz=>decide _) e;rw[JR (Ro ok x) (iO e) h e1];rfl
theorem M_{N:Net}(ok:N.Ok):∀{r:n_ Str}{x:Str}{s d:Int},walk N (x::r) d->MM N.ts x r s=P3 (s+d)
 |[],x,s,d,h=>by
  have:=h
  subst this;show P3 s=P3 _
  grind
 |y::r,x,s,d,h=>by
  let#[l,e,he,hw,rfl]:=h;show(match look _ x y with|some l=>MM _ y r _|none=>k_)=_;rw[V5 ok he];show MM _ y r _=_;rw[M_ ok hw,Int.add_assoc]
def V6{N:Net}(ok:N.Ok){x:Str}{r:n_ Str}{d:Int}(hx:x∈N.ps)(hw:walk N (x::r) d):Zq N^.tup^(x::r).map .str=.int d:=by
 show(if((x::r).map _).all _ then YO N _ else .non)=_;rw[if_pos^all_strs _,Ie];show(if x∈N.ps then FK _ else .non)=_;rw[if_pos hx,M_ ok hw,Int.zero_add];rfl
theorem Km{N:Net}{B:Nat}(ok:N.Ok):∀{w:n_ Str},(∀x∈w,x∈N.ps)->Jb B^w.map .str/\NM^w.map .str<=9*w.length/\M8^w.map .str<=0
 |[],_=>#[trivial,Rs _,Rs _]
 | x::r,h=>by
  let#[a,b,c]:=Km ok λy hy=>h y^TW _ hy;have hx:=ok.names x^h x Re;refine#[#[λch hc=>by have:=hx.2.2 ch hc;lk,a],?_,?_]
  .show x.length+1+NM _<=9*(r.length+1)
   have:=hx.2.1
   omega
  assumption
def Sr{N:Net}(ok:N.Ok){w:n_ Str}(hl:w.length<=30)(h:∀x∈w,x∈N.ps):Z0^.tup^w.map .str:=by
 let#[a,b,c]:=Km ok h;exact#[a,by show NM _<=160000;lk,by show M8 _+1<=50;lk]
section
variable {ss:n_ Slot}{n:Sg}{Pd:D->Sg->Prop}
def RO(h:Di ss n Pd):OH (EE Pd) n (ss++T0 0 .no):=by
 let#[N,z,ts,rfl,hz,h64,p]:=h;unfold OH;refine#[_,AH (j:=0) rfl,z,_,rfl,hz,by simp_all,#[λx hx=>?_,λx hx y hy ka kb ea eb=>?_],λxs' hp ho=>?_]
 .let#[t,_,rfl]:=TM.mp hx
  exact#[FG t,rfl,dG _ _]
 .let#[t,_,rfl]:=TM.mp hx
  let#[u,_,rfl]:=TM.mp hy;cases(show P3^FG t=P3 ka from ea);cases(show P3^FG u=P3 kb from eb);rfl
 .let#[ts',h1,rfl]:=S1 (g:=Ux) (λ_=>rfl) hp
  exact#[z2,p ts' h1^QW ho]
def KI(h:Mx ss n Pd):GG (EE Pd) n (ss++T0 1 .no):=by
 let#[N,u,t,b,rfl,okn,ha,hb,b1,b2,t1,t2,p]:=h;unfold GG;refine#[_,AH (j:=0) rfl,_,AH (j:=1) rfl,N,u.a,u.b,rfl,okn,ha,hb,λo ho=>#[rfl,?_]];cases o with
 |none=>
  refine p k_ (λw e=>by cases e) λ_=>?_;rw[c8];intro z;let#[d,hd,_]:=nearB_iff.mp z;exact ho d hd.1
 | some w=>
  have ho':=ho;let#[d,r,rfl,hl,hw,hd,h30,hin]:=ho'
  have near:F3 N t b u=decide (d*b<=u.len*t):=by
   rw[ce,nearB_iff,decide_eq_true_eq];exact#[fun#[d',hd',h2]=>by rw[Least.unique hd hd'];exact h2,λh2=>#[d,hd,h2]]
  refine#[N,.tup^(u.a::r).map .str,rfl,okn.1,by have:=okn.2.1;lk,okn.2.2,Sr okn.1 h30 hin,?_];rw[V6 okn.1 (hin _ Re) hw];refine#[_,AH (j:=2) rfl,d,t,b,u.len,rfl,b1,b2,t1,t2,?_]
  by_cases c:d*b<=u.len*t
  .rw[decide_eq_true c]
   exact p (P3 _) (λw e=>by cases e;exact#[ho,by rw[near];exact decide_eq_true c]) λe=>by cases e
  .rw[decide_eq_false c]
   exact p k_ (λw e=>by cases e) λ_=>by rw[near];exact decide_eq_false c
def Lx(h:CS ss n Pd):HY (EE Pd) n (ss++T0 2 .no):=by
 let#[N,t,b,rfl,okn,b1,b2,t1,t2,p]:=h;have ok:=okn.1;have l60:=okn.2.2;have szl:=PySem.sizeLine_eq;unfold HY;refine#[z0,_,AH (j:=1) rfl,_,N.ts,rfl,rfl,by lk,λord o1 o2=>?_];have hol:=o1.length_eq;have ndo:ord.Nodup:=o1.nodup_iff.mpr^Bm ok.trise
 have go:∀(rest done kept:n_ A_) (s3:Slot),done++rest=ord->(∀u∈kept,u∈done)->kept.Nodup->CZ N t b kept rest=CZ N t b [] ord->
   Bh (Az 3) (BC (AX^AV (Jd m_) (Aa Mx^AE (AK^Aa Di^AE (AK^AA 0)^AE (Bc^Ar 2) AS)^AE (AK^AA 1)^AE (AK^AA 3) AS)^wC D.non) (Sh 2 "list" F9^AD (AA 3) AQ) Ao) {EE Pd with nx:=As (Aa Di^AE (AK^AA 0)^AE (Bc^Ar 2) AS)^EE Pd} (rest.map An) n [.sh^enc N,.sh^.tup [.int t,.int b],.ow^.lst^kept.map An,s3]:=by
  intro rest
  induction rest with
  |nil=>
   intro done kept s3 e h1 h2 h3;rw[cX]at e;subst e;have hin:∀u∈kept,u∈N.ts:=λu hu=>o1.mem_iff.mp^h1 u hu;have hkl:=sub_len h2 (Bm ok.trise) hin;refine#[N,_,kept,rfl,rfl,by lk,λts' p1 p2=>?_];rw[Ov ok hin h2 p1 p2,show kept=CZ N t b [] done from h3];exact p done o1 o2
  | cons u rest ih=>
   intro done kept s3 e h1 h2 h3;have hin:∀v∈kept,v∈N.ts:=λv hv=>o1.mem_iff.mp (by rw[←e];exact cu _^h1 v hv);have hkl:=sub_len h2 (Bm ok.trise) hin;have hu:u∈N.ts:=o1.mem_iff.mp^by rw[←e];exact cC _ Re
   have hud:u∉done:=by
    rw[←e,dJ]at ndo;exact λz=>ndo.2.2 u z u Re rfl
   have e':(done++[u])++rest=ord:=by rw[fB];exact e
   let#[m1,m2,_]:=ok.tin u hu;refine#[N,_,kept,rfl,rfl,by lk,λts' p1 p2=>?_];rw[Ov ok hin h2 p1 p2];refine#[sub N kept,u,t,b,rfl,Li okn kept,m1,m2,b1,b2,t1,t2,λo hs hn=>#[rfl,?_]];rw[JT]at h3;cases o with
   |some w=>
    rw[(hs w rfl).2,if_pos rfl]at h3;exact ih (done++[u]) kept _ e' (λv hv=>cu _^h1 v hv) h2 h3
   | none=>
    rw[hn rfl,if_neg^by cbv]at h3;refine#[_,rfl,rfl,_,_,rfl,rfl,by rw[FM];lk,?_]
    have:=ih (done++[u]) (kept++[u]) (.sh^An u) e' (λv hv=>by
     rcases cE.mp hv with hv|hv
     .exact cu _^h1 v hv
     .exact cC _ hv) (by
     rw[dJ];exact#[h2,cF.mpr #[cb,ci],λx hx y hy z=>hud^by rw[←Op.mp hy,←z];exact h1 x hx]) h3
    rw[c0]at this;exact this
 exact go ord [] [] _ rfl (λu h=>by cases h) ci rfl
end
section
variable {ss:n_ Slot}{n:Sg}{Pd:D->Sg->Prop}
def Gc(h:CS ss n Pd):DN (EE Pd) n (ss++T0 3 .no):=by
 let#[N,t,b,rfl,okn,b1,b2,t1,t2,p]:=h;have ok:=okn.1;have l60:=okn.2.2;have szl:=PySem.sizeLine_eq;unfold DN;refine#[z0,_,AH (j:=1) rfl,_,N.ts,rfl,rfl,by lk,λord o1 o2=>?_];have ndo:ord.Nodup:=o1.nodup_iff.mpr^Bm ok.trise
 have go:∀(rest done kept:n_ A_) (s3 s4:Slot),done++rest=ord->(∀u∈kept,u∈done)->kept.Nodup->CZ N t b kept rest=CZ N t b [] ord->
   Bh (Az 3) (AW (Au 4^IU (Aa Cs^AE (Bc^Ar 2)^AE (AK^AV A1 (AA 3)^wC^D.int 0) AS)^AV A1 (AA 3)^wC^D.int 1)
 (BC (IT (AX^AV (Jd m_) (AA 4)^wC D.non)^AX^AV (f2 λi j=>D.bl (decide (j<i))) (AV DJ (AA 4)^AV A1 (AA 1)^wC^D.int 1)^AV DJ (AV A1 (AA 3)^wC^D.int 2)^AV A1 (AA 1)^wC^D.int 0) (Sh 2 "list" F9^AD (AA 3) AQ) Ao)) {EE Pd with nx:=As (A3^AD (AV A1 (AA 0)^wC^D.int 0)^AD (Be Br^AD (Be Gs^AD (Ar 2) AQ) AQ) AQ)^EE Pd} (rest.map An) n [.sh^enc N,.sh^.tup [.int t,.int b],.ow^.lst^kept.map An,s3,s4]:=by
  intro rest
  induction rest with
  | nil=>
   intro done kept s3 s4 e h1 h2 h3;rw[cX]at e;subst e;have hin:∀u∈kept,u∈N.ts:=λu hu=>o1.mem_iff.mp^h1 u hu;have hkl:=sub_len h2 (Bm ok.trise) hin;refine#[_,AH (j:=0) rfl,_,_,rfl,rfl,by rw[FM];lk,#[λx hx=>?_,λx hx y hy ka kb ea eb=>?_],λxs' hp ho=>?_]
   .let#[t,_,rfl]:=TM.mp hx
    exact#[FG t,rfl,dG _ _]
   .let#[t,_,rfl]:=TM.mp hx
    let#[u,_,rfl]:=TM.mp hy;cases(show P3^FG t=P3 ka from ea);cases(show P3^FG u=P3 kb from eb);rfl
   .let#[ts',p1,rfl]:=S1 (g:=Ux) (λ_=>rfl) hp
    refine#[z2,?_];have es:=Ov ok hin h2 p1^QW ho
    have:Pd (enc^sub N kept) n:=by rw[show kept=CZ N t b [] done from h3];exact p done o1 o2
    rw[←es]at this;exact this
  | cons u rest ih=>
   intro done kept s3 s4 e h1 h2 h3;have hin:∀v∈kept,v∈N.ts:=λv hv=>o1.mem_iff.mp (by rw[←e];exact cu _^h1 v hv);have hkl:=sub_len h2 (Bm ok.trise) hin;have hu:u∈N.ts:=o1.mem_iff.mp^by rw[←e];exact cC _ Re
   have hud:u∉done:=by
    rw[←e,dJ]at ndo;exact λz=>ndo.2.2 u z u Re rfl
   have e':(done++[u])++rest=ord:=by rw[fB];exact e
   let#[m1,m2,_]:=ok.tin u hu;rw[JT]at h3;have keep:F3 (sub N kept) t b u=m_->∀s4',(Sh 2 "list" F9^AD (AA 3) AQ) {nx:=Bh (Az 3) (AW (Au 4^IU (Aa Cs^AE (Bc^Ar 2)^AE (AK^AV A1 (AA 3)^wC^D.int 0) AS)^AV A1 (AA 3)^wC^D.int 1)
 (BC (IT (AX^AV (Jd m_) (AA 4)^wC D.non)^AX^AV (f2 λi j=>D.bl (decide (j<i))) (AV DJ (AA 4)^AV A1 (AA 1)^wC^D.int 1)^AV DJ (AV A1 (AA 3)^wC^D.int 2)^AV A1 (AA 1)^wC^D.int 0) (Sh 2 "list" F9^AD (AA 3) AQ) Ao)) {EE Pd with nx:=As (A3^AD (AV A1 (AA 0)^wC^D.int 0)^AD (Be Br^AD (Be Gs^AD (Ar 2) AQ) AQ) AQ)^EE Pd}^rest.map An,rt:=Pd} n [.sh^enc N,.sh^.tup [.int t,.int b],.ow^.lst^kept.map An,.sh^An u,s4']:=λc s4'=>by
    rw[c,if_neg^by cbv]at h3;refine#[_,rfl,rfl,_,_,rfl,rfl,by rw[FM];lk,?_]
    have:=ih (done++[u]) (kept++[u]) (.sh^An u) s4' e' (λv hv=>by
     rcases cE.mp hv with hv|hv
     .exact cu _^h1 v hv
     .exact cC _ hv) (by
     rw[dJ];exact#[h2,cF.mpr #[cb,ci],λx hx y hy z=>hud^by rw[←Op.mp hy,←z];exact h1 x hx]) h3
    rw[c0]at this;exact this
   refine#[_,AH (j:=0) rfl,sub N kept,u.a,_,kept,rfl,rfl,λv=>#[λhv=>sub_mem.mpr #[hin v hv,hv],λhv=>(sub_mem.mp hv).2],Li okn kept,m1,λks ds K M T=>?_];refine#[ks,ds,rfl,_,AH (j:=1) rfl,_,A5 u.b,?_];rw[WA M];have hf:=T.far u.b;cases ek:K u.b with
   | none=>
    rw[ek]at hf;refine#[rfl,?_]
    exact keep (by
     rw[c8];intro z;let#[d,hd,_]:=nearB_iff.mp z;exact hf d hd.1) _
   | some d=>
    rw[ek]at hf
    have en:F3 (sub N kept) t b u=decide (d*b<=u.len*t):=by
     rw[ce,nearB_iff,decide_eq_true_eq];constructor
     .rintro⟨d',hd',h2⟩
      rw[Least.unique (show Least (sub N kept) u.a u.b d from hf) hd'];exact h2
     .intro h2
      exact#[d,hf,h2]
    refine#[rfl,?_];refine#[_,AH (j:=1) rfl,.inr #[by lk,by lk],_,AH (j:=2) rfl,_,AH (j:=0) rfl,.inr #[by lk,by lk],?_];show if decide (u.len*t<d*b)=l_ then _ else _
    by_cases c:u.len*t<d*b
    .rw[decide_eq_true c]
     exact Dt^keep (by rw[en];exact decide_eq_false^by lk) _
    .rw[decide_eq_false c]
     rw[en,decide_eq_true^by lk,if_pos rfl]at h3;exact Ce^ih (done++[u]) kept _ _ e' (λv hv=>cu _^h1 v hv) h2 h3
 exact go ord [] [] _ _ rfl (λu h=>by cases h) ci rfl
end
end Nt
namespace Dp
open L2
end Dp
namespace Nt
open L2 Dp
end Nt
namespace L2
open AutoSeq1 (wpAny_loadPart')
structure bO (κ:Bool) (e it a:Ch) (k:Nat) (h:cA):Prop where
 e:∃old,IsEnum h e it (k:Int) old
 i:ItAt κ h it a k
end L2
namespace Dp
open L2
end Dp
namespace L2
end L2
namespace Dp
open L2
end Dp
namespace Nt
open L2 Dp
end Nt
namespace Dp
open L2
section
variable {X:Cx}{pos:Pos}
noncomputable def Oi:DW:=λn _ P=>P (.dic [] []) n
def U4:DE X (.Dict [] [] pos) .fr Oi:=by
 refine#[_,JF,λC M H n ρ Z P Q R w q=>λp hp=>?_];have g:Grow H^Aq H p^.dK []:=Ap hp;exact q _ _ (.dic [] []) n g.ext (R.feed.grow g) #[p,rfl,hp,[],AM,rfl,rfl] w
end
end Dp
namespace L2
end L2
namespace Dp
open L2
section
variable {a:Expr}
mutual
theorem At.frz{K:Frag}{M:Ch->Prop}{H:Hp}{a:Ch}{f:Ch->Obj}{kvs:n_ (Key×V)}(ha:H a=P3^.dK kvs):∀{d:D}{v:V},E3 d=l_->At K M H d v->At K M (FR H [a] f) d v
 |.non,v,_,h=>h
 |.bl b,v,_,h=>h
 |.int i,v,_,h=>h
 |.str x,v,_,h=>h
 |.tup ds,v,hn,h=>by
  let#[b,vs,e,n2,hs]:=h;refine#[b,vs,e,?_,Ats.frz ha hn hs];unfold NdT at n2 ⊢;rw[DF λz=>by rw[Op.mp z,ha]at n2;cases n2];exact n2
 |.lst ds,v,hn,h=>by
  let#[b,vs,e,#[n1,n2],hs]:=h;refine#[b,vs,e,#[n1,?_],Ats.frz ha hn hs];rw[DF λz=>by rw[Op.mp z,ha]at n2;cases n2];exact n2
 |.dic _ _,v,hn,h=>by cases hn
 |.fdi _ _,v,hn,h=>by cases hn
 |.dit _ _,v,hn,h=>by cases hn
 |.ob _,v,hn,h=>by cases hn
theorem Ats.frz{K:Frag}{M:Ch->Prop}{H:Hp}{a:Ch}{f:Ch->Obj}{kvs:n_ (Key×V)}(ha:H a=P3^.dK kvs):∀{ds:n_ D}{vs:n_ V},C3 ds=l_->Ats K M H ds vs->Ats K M (FR H [a] f) ds vs
 |[],vs,_,h=>h
 |d::ds,vs,hn,h=>by
  let#[v,r,e,h1,h2]:=h;have hn:(E3 d&&C3 ds)=l_:=hn;rw[cP]at hn;exact#[v,r,e,At.frz ha hn.1 h1,Ats.frz ha hn.2 h2]
end
end
noncomputable def Dz:n_^n_ Key->n_ D->n_ Key->o_ D
 |k0::ks,d::ds,k=>if k0=k then P3 d else Dz ks ds k
 |_,_,_=>k_
noncomputable def Nx:n_ D->o_^n_ Key
 |[]=>P3 []
 |d::ds=>match keyOf d,Nx ds with
  |some k,P3 ks=>P3 (k::ks)
  |_,_=>k_
noncomputable def keysOf:D->o_^n_ Key
 |.tup ds=>Nx ds
 |_=>k_
section
variable {K:Frag}{X:Cx}
theorem ND{M:Ch->Prop}{H:Hp}{k:n_ Key}:∀{ks:n_^n_ Key}{ds:n_ D}{vs:n_ V},Ats K M H ds vs->
  match Dz ks ds k with
  |some z=>∃v,Cb (ks.zip vs) k=P3 v/\At K M H z v
  |none=>Cb (ks.zip vs) k=k_
 |[],ds,vs,h=>by unfold Dz;exact rfl
 |k0::ks,[],vs,h=>by cases h;exact rfl
 | k0::ks,d::ds,vs,h=>by
  let#[v,r,rfl,h1,h2]:=h;have ih:=ND (k:=k) (ks:=ks) h2;unfold Dz
  by_cases e:k0=k
  .rw[if_pos e]
   refine#[v,?_,h1];show Cb ((k0,v)::ks.zip r) k=P3 v;rw[C7 e]
  .rw[if_neg e]
   have:Cb ((k0,v)::ks.zip r) k=Cb (ks.zip r) k:=C8 e
   rw[show(k0::ks).zip (v::r)=(k0,v)::ks.zip r from rfl,this];exact ih
def US{M:Ch->Prop}{H:Hp}{d:D}{v:V}{k:Key}(e:keyOf d=P3 k)(h:At K M H d v):v=kV k:=by
 cases d with
 |int i=>cases e;exact h
 |str x=>cases e;exact h.1
 |_=>cases e
theorem Nw{M:Ch->Prop}{H:Hp}:∀{ds:n_ D}{vs:n_ V}{ks:n_ Key},Nx ds=P3 ks->Ats K M H ds vs->vs=ks.map kV
 |[],vs,ks,e,h=>by cases e;exact h
 | d::ds,vs,ks,e,h=>by
  let#[v,r,rfl,h1,h2]:=h;unfold Nx at e;cases c1:keyOf d with
  |none=>rw[c1]at e;cases e
  | some k=>
   cases c2:Nx ds with
   |none=>rw[c1,c2]at e;cases e
   |some k2=>
    rw[c1,c2]at e;cases e;rw[Nw c2 h2,US c1 h1];rfl
def Gn{U M:Ch->Prop}{H:Hp}{d:D}{v:V}{k:n_ Key}(e:keysOf d=P3 k)(h:AtT K U M H d v):∃b,v=.ref b/\H b=P3^.tup^k.map kV:=by
 cases d with
 |tup ds=>
  let#[a,vs,rfl,ha,hs]:=h.tup;refine#[a,rfl,?_];rw[←Nw e hs];exact ha
 |_=>cases e
def Ji{U M:Ch->Prop}{H:Hp}{x:V}{ks:n_^n_ Key}{ds:n_ D}(h:AtT K U M H (.dit ks ds) x):∃a vs,x=.ref a/\Rd H a^.dT^ks.zip vs/\Ats K M H ds vs:=by
 let#[a,vs,rfl,_,ha,_,hs]:=h;exact#[a,vs,rfl,.inl ha,hs]
def WO{H:Hp}{a b:Ch}{kvs:n_ (n_ Key×V)}{k:n_ Key}(e:Rd H a^.dT kvs)(eb:H b=P3^.tup^k.map kV):DGet H a (.ref b)^Cb kvs k:=.inr #[kvs,k,b,e,rfl,eb,rfl]
noncomputable def Uj(d e:D)(P:D->Prop):Prop:=∃ks ds k z,d=.dit ks ds/\keysOf e=P3 k/\Dz ks ds k=P3 z/\P z
def Yo:El K .sh Tj Uj:=λU M H d e x y P Q dom vM hx hy w q=>by
 let#[ks,ds,k,z,rfl,he,hz,w]:=w;let#[a,vs,rfl,ha,hs]:=Ji hx;let#[b,rfl,eb]:=Gn he hy;have h:=ND (k:=k) (ks:=ks) hs;rw[hz]at h;let#[v,h1,h2]:=h;exact#[a,v,rfl,by rw[←h1];exact WO ha eb,q v H z .refl h2 w]
variable {a b:Expr}{zU zR:Kd}{wa wb:DW}{pos:Pos}
def WP{k:Nat}(hr:Room k X.A)(ha:DE X a zU wa)(hb:DE X b zR wb)(hs:autoParam (Wg b) zau6._auto_1):DE X (.Subscript a b pos) .sh^AV Uj wa wb:=by
 let#[ta,ha1,ha2]:=ha;let#[tb,hb1,hb2]:=hb;exact#[C6 Tj ta tb,Hz (F7 hr) ha1 hb1 hs,λC M H n ρ Z P Q R w q=>Dg Yo ha2 hb2 C M H n ρ Z P Q R w q]
end
noncomputable def JX(ks:n_^n_ Key)(k:n_ Key):Bool:=ks.any λk0=>decide (k0=k)
def hasK_iffU{ks:n_^n_ Key}{k:n_ Key}:JX ks k=l_↔k∈ks:=by
 unfold JX;rw[fH];exact#[fun#[x,hx,e]=>by rw[←of_decide_eq_true e];exact hx,λh=>#[k,h,decide_eq_true rfl]]
noncomputable def D7(ks:n_^n_ Key)(k:n_ Key):n_^n_ Key:=if JX ks k=l_ then ks else ks++[k]
noncomputable def CD{α:Type}(ks:n_^n_ Key)(ds:n_ α)(k:n_ Key)(d:α):n_ α:=if JX ks k=l_ then d_ (λk0 d0=>if k0=k then d else d0) ks ds else ds++[d]
def VC{ks:n_^n_ Key}{vs:n_ V}(hl:ks.length=vs.length)(k:n_ Key):((ks.zip vs).any λkv=>decide (kv.1=k))=JX ks k:=by
 rw[ce,fH,hasK_iffU];constructor
 .rintro⟨⟨a,b⟩,hm,e⟩
  have e:a=k:=of_decide_eq_true e;rw[←e];exact(fu hm).1
 .intro h
  let#[i,hi,e]:=fq.mp h;refine#[(ks[i],vs[i]'(by lk)),?_,by rw[e];exact decide_eq_true rfl];exact fq.mpr #[i,by rw[d6];lk,by rw[List.getElem_zip]]
def RX{ks:n_^n_ Key}{vs:n_ V}(hl:ks.length=vs.length)(k:n_ Key)(v:V):putK (ks.zip vs) k v=(D7 ks k).zip^CD ks vs k v:=by
 unfold putK D7 CD;rw[VC hl]
 by_cases h:JX ks k=l_
 .rw [if_pos h,if_pos h,if_pos h]
  have go:∀(ks:n_^n_ Key) (vs:n_ V),((ks.zip vs).map λkv=>if kv.1=k then(kv.1,v)else kv)=ks.zip^d_ (λk0 d0=>if k0=k then v else d0) ks vs:=by
   intro ks
   induction ks with
   |nil=>intro vs;rfl
   | cons a ks ih=>
    intro vs;cases vs with
    |nil=>rfl
    |cons b vs=>
     show(if a=k then(a,v)else(a,b))::_=(a,if a=k then v else b)::_;exact List.cons_eq_cons.mpr #[by split <;>rfl,ih vs]
  exact go ks vs
 .rw[if_neg h,if_neg h,if_neg h,List.zip_append hl]
  rfl
theorem Ats.putU{K:Frag}{M:Ch->Prop}{H:Hp}{k:n_ Key}{d:D}{v:V}(hd:At K M H d v):∀{ks:n_^n_ Key}{ds:n_ D}{vs:n_ V},Ats K M H ds vs->Ats K M H (d_ (λk0 d0=>if k0=k then d else d0) ks ds)^d_ (λk0 d0=>if k0=k then v else d0) ks vs
 |[],ds,vs,h=>rfl
 |a::ks,[],vs,h=>by cases(show vs=[]from h);rfl
 |a::ks,e::ds,vs,h=>by
  let#[u,r,rfl,h1,h2]:=h;refine#[_,_,rfl,?_,Ats.putU hd h2];show At K M H (if a=k then d else e) (if a=k then v else u)
  by_cases e1:a=k
  .rw[if_pos e1,if_pos e1];exact hd
  .rw[if_neg e1,if_neg e1];exact h1
def Ats.putXU{K:Frag}{M:Ch->Prop}{H:Hp}{k:n_ Key}{d:D}{v:V}{ks:n_^n_ Key}{ds:n_ D}{vs:n_ V}(hd:At K M H d v)(h:Ats K M H ds vs):Ats K M H (CD ks ds k d)^CD ks vs k v:=by
 unfold CD
 split
 .exact Ats.putU hd h
 .exact h.append^Ats.one hd
def Ts{α:Type}{ks:n_^n_ Key}{ds:n_ α}{k:n_ Key}{d:α}(hl:ks.length=ds.length):(D7 ks k).length=(CD ks ds k d).length:=by
 unfold D7 CD
 split
 .rw[List.length_zipWith];lk
 .rw[cj,cj];show ks.length+1=ds.length+1;lk
section
variable {X:Cx}{pos:Pos}
noncomputable def Sv:DW:=λn _ P=>P (.dit [] []) n
def U2:DE X (.Dict [] [] pos) .fr Sv:=by
 refine#[_,T6,λC M H n ρ Z P Q R w q=>λp hp=>?_];have g:Grow H^Aq H p^.dT []:=Ap hp;exact q _ _ (.dit [] []) n g.ext (R.feed.grow g) #[p,rfl,hp,[],AM,rfl,rfl] w
end
end Dp
namespace L2
noncomputable def DRaw(h:cA)(a:Ch)(es:Array fK)(ep:Nat):Prop:=∃o,h.get? a=P3 o/\o.ExactDict/\o.data=.dict es ep
section
variable {P:Program}{w:World}{A:Around}{E:Value->Shared->Prop}{s:Shared}{d t:Addr}{es:Array DictEntry}{ep i:Nat}
def DRaw.ty(x:DRaw s.heap d es ep):s.TypeIs (.ref d) "dict":=let #[o,h1,h2,_]:=x;#[o,h1,h2.1]
def DRaw.lt{h:cA}(x:DRaw h d es ep):d<h.objs.size:=let #[_,h1,_]:=x;Tk h1
def DRaw.to{h h':cA}(x:DRaw h d es ep)(k:∀o,h.get? d=P3 o->h'.get? d=P3 o):DRaw h' d es ep:=let #[o,h1,h2]:=x;#[o,k o h1,h2]
def Tb{Q:Db->Go->Prop}(lo:(d==sysModules)=m_)(x:DRaw s.heap d es ep)
  (q:Q (.ref s.heap.objs.size) {s with heap:=s.heap.push {cls:=.type "dict_keyiterator",data:=.fields #[ .ref d,.int 0 0,.int es.size 0,.int ep 0]}}):wpAny (model P w) A (pyIter^.ref d) Q E s:=by
 have T:=x.ty;let#[o,h1,h2,h3]:=x;refine wpAny_pyIter_slot T F.slot_dict_iter^dP F.slot_dict_iter T F.entry_dict_iter ?_^F.args_dict_iter_1 _;unfold ej.«dict.__iter__»;refine Cn ?_
 unfold Builtin.Dict.dictSlotNone;refine Cn^gf T ?_
 show wpAny (model P w) _ (pure^b_ d) _ _ s;refine On ?_
 show wpAny (model P w) _ (gg d >>=_) _ _ s;unfold gg
 rw[if_neg^by rw[lo];decide];refine Cn^On^Cn^dk h1 h3^Cn^gw h1 h3 ?_
 refine Cn^dI^On #[_,rfl,"dict_keyiterator",_,#[_,Sc _ rfl,rfl],dh.lookup,?_];simpa [rawInt]using q
def Tc{Q:o_ Db->Go->Prop}(x:s.heap.IsKeyIter t d i es.size ep)(y:DRaw s.heap d es ep)(hi:i<es.size)
  (q:∀h',h'.IsKeyIter t d (i+1) es.size ep->eV t s.heap h'->Q (P3 es[i].key) {s with heap:=h'}):wpAny (model P w) A (pyNext^.ref t) Q E s:=by
 have T:=x.typeIs;let#[o,g1,g2,g3]:=x;let#[od,h1,h2,h3]:=y;unfold pyNext;refine Cn^gU^c6 (name:=dY "__next__") T dh^dP dh T gz ?_^gx _
 refine Cn^On^Cn^Cn ?_
 first|refine Cn^eN T^On ?_|refine Cn^fI T^On ?_
 refine Cn^wpAny_fieldsOf g1 g3 ?_;have ow:hU "dict_keyiterator"=m_:=by cbv
 simp only[ow,cm,if_false];show wpAny (model P w) _ (if(b_ d==cQ)=l_ then _ else _) _ _ s;rw[if_neg (show ¬(b_ d==cQ)=l_ by intro z;cases z)];refine Cn^On^Cn^dk h1 h3 ?_
 rw[if_neg^by simp];refine Cn^On^Cn^gw h1 h3 ?_
 rw[if_neg^by simp];refine On ?_
 simp only[show ¬(i:Int)<0 by lk,if_false,e8,fD hi];refine Cn ?_
 first|refine Cn^eN T^On ?_|refine Cn^fI T^On ?_
 refine Cn^wpAny_isOneOf_keyiter T ?_;show wpAny (model P w) _ (setField (.ref t) 1^rawInt ((i:Int)+1) >>=_) _ _ s
 refine Cn^g_ g1 g3 (by simp) ?_;have g':(s.heap.update t (Obj.mapFields (·.setIfInBounds 1^rawInt ((i:Int)+1)))).IsKeyIter t d (i+1) es.size ep:=#[_,dL _ g1^Obj.isFreed_of_fields^gC g3 _,(Obj.cls_mapFields ..).trans g2,by rw[gC g3];simp[rawInt]];refine Cn (dD (Cn (wpAny_isOneOf_keyiter (s:={s with heap:=s.heap.update t (Obj.mapFields (·.setIfInBounds 1^rawInt ((i:Int)+1)))}) g'.typeIs ?_)));show wpAny (model P w) _ (pure es[i].key) _ _ _;exact On^On #[_,rfl,On^q _ g' (eP ..)]
def Vj{Q:o_ Db->Go->Prop}(hh:A.handled=k_)(x:s.heap.IsKeyIter t d i es.size ep)(y:DRaw s.heap d es ep)(hi:es.size<=i)
  (q:∀h',io t s.heap h'->Q k_ {s with heap:=h'}):wpAny (model P w) A (pyNext^.ref t) Q E s:=by
 have T:=x.typeIs;let#[o,g1,g2,g3]:=x;let#[od,h1,h2,h3]:=y;unfold pyNext;refine Cn^gU^c6 (name:=dY "__next__") T dh^dP dh T gz ?_^gx _
 refine Cn^On^Cn^Cn ?_
 first|refine Cn^eN T^On ?_|refine Cn^fI T^On ?_
 refine Cn^wpAny_fieldsOf g1 g3 ?_;have ow:hU "dict_keyiterator"=m_:=by cbv
 simp only[ow,cm,if_false];show wpAny (model P w) _ (if(b_ d==cQ)=l_ then _ else _) _ _ s;rw[if_neg (show ¬(b_ d==cQ)=l_ by intro z;cases z)];refine Cn^On^Cn^dk h1 h3 ?_
 rw[if_neg^by simp];refine Cn^On^Cn^gw h1 h3 ?_
 rw[if_neg^by simp];refine On ?_
 simp only[show ¬(i:Int)<0 by lk,if_false,e8,iq hi];refine Cn ?_
 first|refine Cn^eN T^On ?_|refine Cn^fI T^On ?_
 show wpAny (model P w) _ (setField (.ref t) 0 .none >>=_) _ _ s;refine Cn^g_ g1 g3 (by simp) ?_
 show wpAny (model P w) _ (newExc (.type "StopIteration") [] >>=_) _ _ _;refine Cn ?_
 simp only[newExc,newTuple];refine Cn^dI ?_^by size_fits
 refine Cn (m:=firstArgMember _ _) (ip (a:=cQ) (by first|rfl|(simp only[firstArgMember];rfl))^dI ?_^by size_fits);simp only[raiseNew];refine Cn^wpAny_handled ?_
 rw[show A.in1.handled=k_ from hh];refine Cn^On^wpAny_throw ?_;refine Cn^gY (T:="StopIteration") (b:=l_) #[_,Sc _ rfl,rfl] isSubtype_stop ?_
 exact On^q _^((eP ..).extBut.push _).push _
def RW(hh:A.handled=k_)(I d:Ch)(hne:d≠I)(es:Array fK)(ep:Nat):Walks P w A I [I,d] [I] es.size (λi v=>∃e,es[i]?=P3 e/\v=e.key) (λi h=>h.IsKeyIter I d i es.size ep/\DRaw h d es ep) where
 sub:=λb hb=>by rw[Op.mp hb];exact Re
 frame:=λ_ _ _ st hk=>#[st.1.at λo e=>hk I (by simp) o e,st.2.to λo e=>hk d (by simp) o e]
 item:=λi s Q E hi st hQ=>Tc st.1 st.2 hi λh' it' sb=>hQ _ h' s.toks #[_,fD hi,rfl] #[it',st.2.to λo e=>sb.extBut d o hne e] λb o hb e=>sb.extBut b o (λh=>hb^by simp[h]) e
 done:=λs Q E st hQ=>Vj hh st.1 st.2 (Rs _) λh' he=>hQ h' s.toks λb o hb e=>he b o (λh=>hb^by simp[h]) e
 self:=λ_ _ _ _ st hQ=>wpAny_pyIter_keyiter st.1 hQ
def QJ(lo:(d==sysModules)=m_):PySem.W.KdlSrc P w "dict" d d es.size (λi v=>∃e,es[i]?=P3 e/\v=e.key) (λh=>DRaw h d es ep) where
 type:=λ_ x=>x.ty
 there:=λ_ x=>#[x.lt,x.lt]
 keep:=λ_ _ x k=>x.to λo e=>k d (.inl rfl) o e
 notList:=by cbv
 notTuple:=by cbv
 hint:=λ_ _ _ _ x q=>PySem.W.kdl_hint_dict x.ty q
 iter:=λ_ _ hh x=>#[_,_,(λ_ _ q=>Tb lo x q),RW hh _ d (b9 x.lt) es ep,#[#[_,Sc _ rfl,rfl,rfl],x.to λo e=>Ev _ e]]
end
open PySem.W
def Qd(k:Key):kOf k=kV k:=by cases k <;>rfl
def V8(ks:n_ Key):ks.map kOf=ks.map kV:=d8 λk _=>Qd k
section
variable {X:Cx}
def ID{P:cH}{w:cN}{H:Hp}{h:cA}{d:Ch}{kvs:n_ (n_ Key×V)}(ok:HOk P w H h)(hd:Rd H d^.dT kvs):
  ∃(o:Obj) (es:Array fK) (ep:Nat) (as:n_ Ch),h.get? d=P3 o/\o.ExactDict/\o.data=.dict es ep/\as.length=kvs.length/\es.size=kvs.length /\
   (∀(i:Nat) (e:fK),es[i]?=P3 e->∃a,as[i]?=P3 a/\e.key=.ref a)/\∀(i:Nat) (a:Ch) (p:n_ Key×V),as[i]?=P3 a->kvs[i]?=P3 p->H a=P3^.tup^p.1.map kV:=by
 let#[_,_,xs,r,o,es,ep,h1,h2,h3,h4,h5,h6]:=DL ok hd
 have hl:kvs.length=xs.length:=by
  have:∀{l:n_ (n_ Key×V)}{m:n_ (n_ Key×Ch×Db)},KT H l m->l.length=m.length:=λq=>q.length
  exact this r
 have hes:es.size=xs.length:=by rw[←cq,h4,FM]
 refine#[o,es,ep,xs.map λx=>x.2.1,h1,h2,h3,by rw[FM,hl],by rw[hes,hl],λi e he=>?_,λi a p ha hp=>?_]
 .rw[←fc,h4,XV]at he
  let#[x,hx,rfl]:=cU.mp he;exact#[x.2.1,by rw[XV,hx];rfl,rfl]
 .rw[XV]at ha
  let#[x,hx,rfl]:=cU.mp ha
  have:=JH r hp hx
  exact this.2.1
noncomputable def Tf:n_ V->Hp->VK->Prop:=λxs H Q=>∃(d:Ch) (kvs:n_ (n_ Key×V)),xs=[.ref d]/\Rd H d^.dT kvs/\kvs.length<64/\(∀x∈kvs.map (·.1),∀y∈kvs.map (·.1),Bk x y=l_)/\(∀x∈kvs.map (·.1),x≠[]) /\
 ∀(as:n_ Ch) (ix:n_ Nat) (l:Ch),as.length=kvs.length->(∀(i:Nat) (a:Ch) (p:n_ Key×V),as[i]?=P3 a->kvs[i]?=P3 p->H a=P3^.tup^p.1.map kV)->Hb (kvs.map (·.1)) ix->H l=k_->
  Q (.ref l) (Aq H l^.lst^ix.map λi=>(as.map V.ref).getD i .non)
def Jt(hc:X.calm=l_):CallR X (.builtin "sorted") Tf:=by
 intro zG s Z H xs us Q I r h;let#[d,kvs,rfl,hd,h64,hsm,hne,q]:=h;let#[u,rfl,rx]:=vals1 r;cases rx;let#[o,es,ep,as,g1,g2,g3,g4,g5,g6,g7]:=ID I.hok hd;have lo:=(DL I.hok hd).2.1;refine Cc (kw:=[]) (args_sorted1 _) (λx=>args_list_sort _)^PySem.W.kdu_collect (QJ (P:=X.prog) (w:=X.w) (es:=es) (ep:=ep) lo) (show X.A.in1.handled=k_ from by simp[I.ok.hd hc]) #[o,g1,g2,g3] (by rw[cZ];lk) λh' tk acc hkp hacc=>#[by rw[cq,hacc.1,cZ];lk,?_];have I1:Inv X zG Z H {s with heap:=h',toks:=tk}:=I.kept (t':=tk) hkp
 have hv:acc.toList=as.map b_:=by
  refine iL λi=>?_;cases hx:acc.toList[i]? with
  |some v=>
   let#[e,he,rfl]:=hacc.2 i v (by rw[←fc];exact hx);let#[a,ha,hk]:=g6 i e he;rw[XV,ha,hk];rfl
  |none=>
   have:acc.toList.length<=i:=iP.mp hx
   rw[cq,hacc.1]at this;rw[fg^by rw[FM];lk]
 rw[hv];refine Kv I1 (GW as) (by rw[FM];lk) (keys:=kvs.map (·.1)) #[by rw[FM,FM];exact g4,λi ns e=>?_,hsm,hne] λix l ho hl=>q as ix l g4 g7 ho hl;rw[XV]at e;let#[p,hp,rfl]:=cU.mp e;have hil:i<as.length:=by rw[g4];exact(UF.mp hp).1
 refine#[as[i],by rw[XV,No hil];rfl,?_];rw[V8];exact SqT.of^g7 i _ p (No hil) hp
end
end L2
namespace Dp
open L2
noncomputable def tupK(k:n_ Key):D:=.tup^k.map XO
theorem Nv{K:Frag}{M:Ch->Prop}{H:Hp}:∀{k:n_ Key},(∀x∈k,DZ x)->Ats K M H (k.map XO)^k.map kV
 |[],_=>rfl
 |x::k,h=>#[kV x,k.map kV,rfl,by rw[←Qd];exact U6^h x Re,Nv λy hy=>h y^TW _ hy]
theorem IY{K:Frag}{M:Ch->Prop}{H:Hp}:∀{ks:n_^n_ Key}{as:n_ Ch},as.length=ks.length->(∀k∈ks,∀x∈k,DZ x)->(∀(i:Nat) (a:Ch) (k:n_ Key),as[i]?=P3 a->ks[i]?=P3 k->H a=P3^.tup^k.map kV)->Ats K M H (ks.map tupK)^as.map V.ref
 |[],[],_,_,_=>rfl
 |k::ks,a::as,hl,hf,h=>#[.ref a,as.map V.ref,rfl,#[a,k.map kV,rfl,h 0 a k rfl rfl,Nv^hf k Re],IY (by simpa using hl) (λk hk=>hf k^TW _ hk) λi a' k' e1 e2=>h (i+1) a' k' (by simpa using e1)^by simpa using e2]
section
variable {X:Cx}
noncomputable def MS(ds:n_ D)(P:D->Prop):Prop:=∃(ks:n_^n_ Key) (es:n_ D),ds=[.dit ks es]/\ks.length=es.length/\ks.length<64/\(∀x∈ks,∀y∈ks,Bk x y=l_)/\(∀x∈ks,x≠[])/\(∀k∈ks,∀x∈k,DZ x) /\
 ∀ks':n_^n_ Key,ks'.Perm ks->ks'.Pairwise (λa b=>BY b a=m_)->P^.lst^ks'.map tupK
def UB{ks:n_^n_ Key}{ix:n_ Nat}(h:Hb ks ix):(ix.map λi=>ks.getD i []).Perm ks/\(ix.map λi=>ks.getD i []).Pairwise (λa b=>BY b a=m_):=by
 let#[h1,h2]:=h;have il:ix.length=ks.length:=by rw[h1.length_eq,gP]
 constructor
 .have:=h1.map λi=>ks.getD i []
  have e:(cV ks.length).map (λi=>ks.getD i [])=ks:=by
   apply iV
   .simp
   .intro i h1 h2
    simp[h2]
  rw[e]at this;exact this
 .rw[iN]
  intro i j hi hj hij;rw[FM]at hi hj
  have:=h2 i j (gi hij)^by lk
  rw[iW,iW];rw[cI (l:=ix),No hj,cI (l:=ix),No hi]at this;exact this
def Q0:B_ X.K .fr Tf MS:=by
 intro U M H ds vs P Q dom vM hp w q;let#[ks,es,rfl,hl,h64,hsm,hne,hf,w]:=w;let#[v,rfl,hx]:=Dl hp;let#[a,us,rfl,ha,hs]:=Ji hx;have hul:=hs.length;have ez:(ks.zip us).map (·.1)=ks:=List.map_fst_zip (by lk);have ezl:(ks.zip us).length=ks.length:=by rw[d6];lk
 refine#[a,_,rfl,ha,by lk,by rw[ez];exact hsm,by rw[ez];exact hne,λas ix l has hat ho hlf=>?_];rw[ez]at ho;let#[o1,o2]:=UB ho
 have hA:Ats X.K M H (ks.map tupK)^as.map V.ref:=IY (by lk) hf λi b k e1 e2=>by
  have hi:i<(ks.zip us).length:=by rw[ezl];exact(UF.mp e2).1
  have:=hat i b _ e1^No hi
  rw[List.getElem_zip]at this;let#[_,e3]:=UF.mp e2;rw[e3]at this;exact this
 have e4:(ix.map λi=>(ks.map tupK).getD i .non)=(ix.map λi=>ks.getD i []).map tupK:=by
  rw[eg];refine d8 λi hi=>?_;have hil:i<ks.length:=eB.mp^ho.1.mem_iff.mp hi;show(ks.map tupK).getD i .non=tupK^ks.getD i [];rw[cI,cI,XV,No hil];rfl
 have:=w _ o1 o2
 rw[←e4]at this;exact q _ _ (.lst _) (Ap hlf) (CP hlf^hA.pick ix) this
end
end Dp
namespace L2
section
variable {prog:Program}{w:World}{A:Around}{E:Value->Shared->Prop}{s:Shared}{x y:Str}{t u:Tok}
noncomputable def S3(x y:Str)(i:Nat):Str:=if i=0 then x else y
def P_{i:Nat}{v:Db}(h:(#[ fE x t,fE y u]:Array Db)[i]?=P3 v):∃k,v=.str (S3 x y i) k:=by
 match i with
 |0=>exact#[t,(bz h).symm]
 |1=>exact#[u,(bz h).symm]
 |i+2=>simp at h
def SI:CmpOf prog w A .Lt (λi v=>(#[ fE x t,fE y u]:Array Db)[i]?=P3 v) (λi j=>decide ((S3 x y i).cps.toList<(S3 x y j).cps.toList)):=λi j vi vj s Q E hi hj h=>by
 let#[a,rfl]:=P_ hi;let#[b,rfl]:=P_ hj;exact richCompare_gives (op:=.Lt) (gF s _ a) (gF s _ b) PySem.F.slot_str_lt PySem.F.entry_str_lt (PySem.F.args_str_lt_2 _ _) (gives_str_lt _ _ a b) (λe=>nomatch e) h
def SJ:CmpOf prog w A .Gt (λi v=>(#[ fE x t,fE y u]:Array Db)[i]?=P3 v) (λi j=>decide ((S3 x y j).cps.toList<(S3 x y i).cps.toList)):=λi j vi vj s Q E hi hj h=>by
 let#[a,rfl]:=P_ hi;let#[b,rfl]:=P_ hj;exact richCompare_gives (op:=.Gt) (gF s _ a) (gF s _ b) PySem.F.slot_str_gt PySem.F.entry_str_gt (PySem.F.args_str_gt_2 _ _) (gives_str_gt _ _ a b) (λe=>nomatch e) h
def S4{n c:Nat}(h:c∈[n+1,n]):c<n+1+1:=by
 simp only[Uf,cb,or_false]at h;lk
def NF{bt:Nat->Nat->Bool}{v:Db}(h:(#[ fE x t,fE y u]:Array Db)[argBest bt 1]?=P3 v):v=if bt 1 0=l_ then .str y u else .str x t:=by
 have e:argBest bt 1=if bt 1 0=l_ then 1 else 0:=rfl
 rw[e]at h;cases c:bt 1 0 with
 |true=>rw[c]at h;exact(bz h).symm
 |false=>rw[c]at h;exact(bz h).symm
def Rq{Q:Db->Go->Prop}(hh:A.handled=k_)(h:∀h' tk,(∀c o,s.heap.get? c=P3 o->h'.get? c=P3 o)->Q (if decide (y.cps.toList<x.cps.toList)=l_ then .str y u else .str x t) {s with heap:=h',toks:=tk}):
  wpAny (model prog w) A (call (.builtin "min") [.str x t,.str y u]) Q E s:=by
 have hT:(s.heap.push {cls:=.type "tuple",data:=.seq #[ .str x t,.str y u]}).IsTuple s.heap.objs.size #[ .str x t,.str y u]:=#[_,Sc _ rfl,rfl,0,rfl];refine call_min_two^dW hT ?_;have z1:(s.heap.push {cls:=.type "tuple",data:=.seq #[ .str x t,.str y u]}).objs.size=s.heap.objs.size+1:=dA ..;refine#[_,[_,s.heap.objs.size],[_],_,_,_,_,rfl,Walks.tuple (A:=A.in1) hh _ s.heap.objs.size (by rw[z1];exact b9^eQ _) #[ .str x t,.str y u],#[#[_,Sc _ rfl,rfl,rfl],hT.push _],λc hc=>?_,by simp,SI,λv h' tk hP k=>?_]
 .rw[dA,z1];rw[z1]at hc;exact S4 hc
 .rw[NF hP]
  refine h h' tk λc o e=>k c o (λm=>?_)^Ev _^Ev _ e;have l:=Tk e;rw[Op.mp m,z1]at l;exact absurd l^gG.mpr^c_ _
def Ru{Q:Db->Go->Prop}(hh:A.handled=k_)(h:∀h' tk,(∀c o,s.heap.get? c=P3 o->h'.get? c=P3 o)->Q (if decide (x.cps.toList<y.cps.toList)=l_ then .str y u else .str x t) {s with heap:=h',toks:=tk}):
  wpAny (model prog w) A (call (.builtin "max") [.str x t,.str y u]) Q E s:=by
 have hT:(s.heap.push {cls:=.type "tuple",data:=.seq #[ .str x t,.str y u]}).IsTuple s.heap.objs.size #[ .str x t,.str y u]:=#[_,Sc _ rfl,rfl,0,rfl];refine call_max_two^dW hT ?_;have z1:(s.heap.push {cls:=.type "tuple",data:=.seq #[ .str x t,.str y u]}).objs.size=s.heap.objs.size+1:=dA ..;refine#[_,[_,s.heap.objs.size],[_],_,_,_,_,rfl,Walks.tuple (A:=A.in1) hh _ s.heap.objs.size (by rw[z1];exact b9^eQ _) #[ .str x t,.str y u],#[#[_,Sc _ rfl,rfl,rfl],hT.push _],λc hc=>?_,by simp,SJ,λv h' tk hP k=>?_]
 .rw[dA,z1];rw[z1]at hc;exact S4 hc
 .rw[NF hP]
  refine h h' tk λc o e=>k c o (λm=>?_)^Ev _^Ev _ e;have l:=Tk e;rw[Op.mp m,z1]at l;exact absurd l^gG.mpr^c_ _
end
section
variable {X:Cx}
noncomputable def W5:n_ V->Hp->VK->Prop:=λxs H Q=>∃x y:Str,xs=[.str x,.str y]/\Q (.str (if decide (y.cps.toList<x.cps.toList)=l_ then y else x)) H
noncomputable def W7:n_ V->Hp->VK->Prop:=λxs H Q=>∃x y:Str,xs=[.str x,.str y]/\Q (.str (if decide (x.cps.toList<y.cps.toList)=l_ then y else x)) H
def Gy(hc:X.calm=l_):CallR X (.builtin "min") W5:=by
 intro zG s Z H xs us Q I r h;let#[x,y,rfl,q]:=h;let#[u,w',rfl,#[t,rfl],#[t',rfl]]:=vals2 r;refine Rq (I.ok.hd hc) λh' tk k=>#[_,H,I.kept k,?_,q];cases decide (y.cps.toList<x.cps.toList) <;>exact#[_,rfl]
def Gz(hc:X.calm=l_):CallR X (.builtin "max") W7:=by
 intro zG s Z H xs us Q I r h;let#[x,y,rfl,q]:=h;let#[u,w',rfl,#[t,rfl],#[t',rfl]]:=vals2 r;refine Ru (I.ok.hd hc) λh' tk k=>#[_,H,I.kept k,?_,q];cases decide (x.cps.toList<y.cps.toList) <;>exact#[_,rfl]
end
end L2
namespace Dp
open L2
section
variable {K:Frag}
noncomputable def N3(ds:n_ D)(P:D->Prop):Prop:=∃x y:Str,ds=[.str x,.str y]/\P^.str (if decide (y.cps.toList<x.cps.toList)=l_ then y else x)
noncomputable def N4(ds:n_ D)(P:D->Prop):Prop:=∃x y:Str,ds=[.str x,.str y]/\P^.str (if decide (x.cps.toList<y.cps.toList)=l_ then y else x)
def NE{U M:Ch->Prop}{H:Hp}{x y:Str}{vs:n_ V}(hp:Paired (λv d=>AtT K U M H d v) vs [.str x,.str y]):vs=[.str x,.str y]/\x.length<=sizeLine/\y.length<=sizeLine:=by
 cases hp with
 | cons r1 r2=>cases r2 with
  |cons r3 r4=>
   cases r4;let#[rfl,l1]:=r1.str;let#[rfl,l2]:=r3.str;exact#[rfl,l1,l2]
def Pu:B_ K .sh W5 N3:=by
 intro U M H ds vs P Q dom vM hp w q;let#[x,y,rfl,w]:=w;let#[e,l1,l2]:=NE hp;exact#[x,y,e,q _ H (.str _) .refl #[rfl,by split <;>assumption] w]
def Pw:B_ K .sh W7 N4:=by
 intro U M H ds vs P Q dom vM hp w q;let#[x,y,rfl,w]:=w;let#[e,l1,l2]:=NE hp;exact#[x,y,e,q _ H (.str _) .refl #[rfl,by split <;>assumption] w]
end
end Dp
namespace L2
open PySem.W
end L2
namespace Dp
open L2
end Dp
namespace L2
open PySem.W
end L2
namespace Dp
open L2
end Dp
namespace Nt
open L2 Dp
noncomputable def words26:n_ Str:=["a","aa","ab","abc","b","ba","bb","c","come","d","far","in","lay","m","n","near","out","place","q","r","tie","tree","x","xy","y","zzzzzzzz"]
noncomputable def Mz:W2:=λss n P=>ss=[]/\P (.lst^words26.map .str) n
noncomputable def J7:W2:=λss n P=>∃m:Nat,ss=[.fd,.sh^.int m]/\m<=26/\2<=n.n/\∀xs:n_ Str,xs.length=m->(∀x∈xs,JU x)->rising xs->P (.tup^xs.map .str) (n - 2)
noncomputable def La:W2:=λss n P=>∃s:Int,ss=[.fd,.sh^.int s]/\0<=s/\s<=3/\1<=n.n/\∀r:Int,1<=r->r<=1000000->P (.int r) (n - 1)
noncomputable def E_:Ac:=(AW (Au 0^Dy^AD (wC^D.str "a")^AD (wC^D.str "aa")^AD (wC^D.str "ab")^AD (wC^D.str "abc")^AD (wC^D.str "b")^AD (wC^D.str "ba")^AD (wC^D.str "bb")^AD (wC^D.str "c")^AD (wC^D.str "come")^AD (wC^D.str "d")^AD (wC^D.str "far")^AD (wC^D.str "in")^AD (wC^D.str "lay")^AD (wC^D.str "m")^AD (wC^D.str "n")^AD (wC^D.str "near")^AD (wC^D.str "out") AQ)
 (As^AV BZ (AA 0)^Dy^AD (wC^D.str "place")^AD (wC^D.str "q")^AD (wC^D.str "r")^AD (wC^D.str "tie")^AD (wC^D.str "tree")^AD (wC^D.str "x")^AD (wC^D.str "xy")^AD (wC^D.str "y")^AD (wC^D.str "zzzzzzzz") AQ))
noncomputable def EO:Ac:=(AW (Au 2^Aa Mz AS)
 (AW (Au 3^Aa BN^AE (A7 0)^AE (AK^wC^D.int 26) AS)
 (AW (Au 4^AV A1 (Dy^AD (wC^D.int 1)^AD (wC^D.int 3)^AD (wC^D.int 5)^AD (wC^D.int 7) AQ)^Aa BN^AE (A7 0)^AE (AK^wC^D.int 4) AS)
 (As^Be Br^AD (Be Pg^AD (CV [P3 2,P3 3,P3 4,k_] (Su^AD (AA 1) AQ) (Az 3) Q9^AV A1 (AA 0)^AV (VQ (λ_ j=>0<j) λi j=>D.int (i % j)) (AV BZ (AA 1)^AV DJ (AA 2)^AA 3)^wC^D.int 26) AQ) AQ))))
noncomputable def EQ:Ac:=(AW (BC (AX^AV (Ee m_) (AA 1)^wC^D.int 3) (As^AV HS (AV (VQ Oc λi j=>D.int (i ^ j.toNat)) (wC^D.int 10)^wC^D.int 6)^Aa BN^AE (A7 0)^AE (AK^wC^D.int 3) AS) Ao)
 (As^AV BZ (wC^D.int 1)^Aa BN^AE (A7 0)^AE (AK^AV A1 (Dy^AD (wC^D.int 3)^AD (wC^D.int 9)^AD (wC^D.int 60) AQ)^AA 1) AS))
noncomputable def Cg(i:Nat):Str:=words26.getD i "a"
def Of:∀i,i<26->JU^Cg i:=by
 have h:∀i∈cV 26,1<=(Cg i).length/\(Cg i).length<=8/\∀c∈cs^Cg i,97<=c/\c<=122:=by decide +kernel
 exact λi hi=>h i^eB.mpr hi
def Q7:∀i j,i<26->j<26->Cg i=Cg j->i=j:=by
 have h:∀i∈cV 26,∀j∈cV 26,cs^Cg i=cs^Cg j->i=j:=by decide +kernel
 exact λi j hi hj e=>h i (eB.mpr hi) j (eB.mpr hj)^congrArg cs e
def Sq(i:Nat)(h:i<26):(words26.map D.str)[i]?=P3^.str^Cg i:=by
 have hl:i<words26.length:=h;unfold Cg;rw[XV,cI,No hl];rfl
section
variable {ss:n_ Slot}{n:Sg}{Pd:D->Sg->Prop}
def KL(h:Mz ss n Pd):E_ (EE Pd) n (ss++T0 1 .no):=by
 let#[rfl,p]:=h;unfold E_;exact#[(by cbv:17<=sizeLine),(by cbv:9<=sizeLine),(by cbv:26<=sizeLine),p]
noncomputable def PC(f s:Nat):D->D
 |.int k=>.str^Cg ((f+s*k.toNat) % 26)
 |_=>.non
def Na(f s k:Nat):PC f s^.int (0+(k:Int))=.str^Cg ((f+s*k) % 26):=by
 show D.str^Cg ((f+s*(0+(k:Int)).toNat) % 26)=_;rw[show(0+(k:Int)).toNat=k by lk]
def I0(h:J7 ss n Pd):EO (EE Pd) n (ss++T0 3 .no):=by
 let#[m,rfl,hm,hn,p]:=h;unfold EO;refine#[rfl,26,rfl,by cbv,by cbv,by lk,λfirst f0 f1=>?_];obtain⟨f,rfl⟩:∃f:Nat,first=(f:Int):=#[first.toNat,by lk]
 refine#[(by cbv:4<=sizeLine),4,rfl,by cbv,by cbv,(by show 1<=n.n - 1;lk),λw w0 w1=>?_]
 obtain⟨s,hs,es⟩:∃s:Nat,(s=1\/s=3\/s=5\/s=7)/\atI [D.int 1,D.int 3,D.int 5,D.int 7] w=P3^.int (s:Int):=by
  rcases(show w=0\/w=1\/w=2\/w=3 by lk)with rfl|rfl|rfl|rfl
  .exact#[1,.inl rfl,rfl]
  .exact#[3,.inr (.inl rfl),rfl]
  .exact#[5,.inr^.inr (.inl rfl),rfl]
  .exact#[7,.inr^.inr (.inr rfl),rfl]
 refine#[_,es,(m:Int),rfl,#[by lk,by lk],by rw[Fp];lk,?_];refine DB (PC f s) (λρ=>∃s',ρ=[.sh^.lst^words26.map .str,.sh^.int f,.sh^.int s,s']) _ _ _ _ ?_ #[_,rfl] ?_
 .rintro d hd ρ n' nx ⟨s',rfl⟩ hnx
  let#[k,hk,rfl]:=TQ hd;have hlt:(f+s*k) % 26<26:=i7 _ (by cbv);have hsk:(s:Int)*(0+(k:Int))=((s*k:Nat):Int):=by rw[Int.zero_add];exact(Int.natCast_mul s k).symm
  refine#[bF (by lk)^by lk,by show(0:Int)<26;decide,.str^Cg ((f+s*k) % 26),?_,?_]
  .rw[hsk,show((f:Int)+((s*k:Nat):Int)) % 26=(((f+s*k) % 26:Nat):Int) by lk]
   exact AH^Sq _ hlt
  .have:=hnx [.sh^.lst^words26.map .str,.sh^.int f,.sh^.int s,.sh^.int (0+(k:Int))] #[_,rfl]
   rw[Na]at this;exact this
 .have e:[]++(Ls 0 ((m:Int)).toNat).map^PC f s=((cV m).map λk:Nat=>Cg ((f+s*k) % 26)).map .str:=by
   unfold Ls;rw[dB,eg,eg,e8];refine d8 λk _=>?_;exact Na f s k
  rw[e];refine#[_,_,rfl,J0 _,by rw[FM,gP];lk,λss' hp hs'=>p ss' ?_ ?_ ?_]
  .rw[hp.length_eq,FM,gP]
  .intro y hy
   let#[k,_,rfl]:=TM.mp^hp.mem_iff.mp hy;exact Of _^i7 _^by cbv
  .refine C2 hs'^hp.nodup_iff.mpr^K6 List.nodup_range λj hj k hk e=>?_
   have e:=Q7 _ _ (i7 _^by cbv) (i7 _^by cbv) e;have hj:=eB.mp hj;have hk:=eB.mp hk
   rcases hs with rfl|rfl|rfl|rfl <;>lk
def I_(h:La ss n Pd):EQ (EE Pd) n (ss++T0 0 .no):=by
 let#[s,rfl,s0,s3,hn,p]:=h;unfold EQ;show if(s==3)=l_ then _ else _
 refine Du (λc=>?_) λc=>?_
 .refine#[bV,_,rfl,by cbv,by cbv,hn,λr r0 r1=>?_]
  have e6:(10:Int) ^ (6:Int).toNat=1000000:=by cbv
  show Pd (.int (10 ^ (6:Int).toNat - r)) (n - 1);rw[e6];exact p _ (by lk)^by lk
 .have c:s≠3:=by simpa using c
  obtain⟨k,hk,ek⟩:∃k:Int,(1<=k/\k<=60)/\atI [D.int 3,D.int 9,D.int 60] s=P3^.int k:=by
   rcases(show s=0\/s=1\/s=2 by lk)with rfl|rfl|rfl
   .exact#[3,by cbv,rfl]
   .exact#[9,by cbv,rfl]
   .exact#[60,by cbv,rfl]
  refine#[(by cbv:3<=sizeLine),_,ek,k,rfl,by lk,by lk,hn,λr r0 r1=>?_];exact p _ (by lk)^by lk
structure bv (xs:List Str) (ks:List^List Key) (ds:List D):Prop where
 len:ks.length=ds.length
 nd:ks.Nodup
 key:∀k∈ks,∃a b:Str,k=[.inr a,.inr b]/\a∈xs/\b∈xs/\cs a<cs b
 val:∀d∈ds,∃l:Int,d=.int l/\1<=l/\l<=1000000
end
end Nt
namespace Dp
open L2
noncomputable def FD:Ac:=λ_ _ _=>False
section
variable {X:Cx}{κ:Kd}{st:Stmt}
def DM:DS X κ st FD:=#[_,λ_ _ _ _ _ _ h=>h.elim,λ_ _ _ _ _ _ _ _ _ _ w=>w]
end
end Dp
namespace Nt
open Dp
end Nt
namespace L2
noncomputable def GS:HO->Prop
 |.lst _=>True
 |.dT _=>True
 |.dK _=>True
 |_=>False
noncomputable def View(H H':Hp):Prop:=∀b,H' b=H b\/∃u,GS u/\(H b=P3^.vol u/\H' b=P3 u\/H b=P3 u/\H' b=P3^.vol u)
section
variable {P:Program}{w:World}{H H' H1:Hp}{h h':Heap}
def View.to(v:View H H'){b:Ch}{o:HO}(e:H b=P3 o)(k:¬GS o)(n:∀u,o≠.vol u):H' b=P3 o:=by
 rcases v b with q|⟨u,c,⟨q,_⟩|⟨q,_⟩⟩
 .rw[q];exact e
 .rw[e]at q;exact absurd (bz q)^n u
 .rw[e]at q;rw[bz q]at k;exact absurd c k
def View.none(v:View H H'){b:Ch}:H' b=k_↔H b=k_:=by
 rcases v b with q|⟨u,c,⟨q,r⟩|⟨q,r⟩⟩
 .rw[q]
 .rw[q,r];exact#[(λz=>by cases z),λz=>by cases z]
 .rw[q,r];exact#[(λz=>by cases z),λz=>by cases z]
def View.tup(v:View H H')(b:Ch)(xs:n_ V)(e:H b=P3^.tup xs):H' b=P3^.tup xs:=v.to e (λz=>z) λu z=>by cases z
def View.own(v:View H H')(b x:Ch)(e:H b=P3^.own x):H' b=P3^.own x:=v.to e (λz=>z) λu z=>by cases z
def View.hok(v:View H H')(x:HOk P w H h):HOk P w H' h:=λa o e=>by
 have st:∀o,ObjOk P w H h a o->ObjOk P w H' h a o:=λo z=>z.stay (λ_ _ _ q=>q) (λb q=>v.own b a q) λb xs q=>v.tup b xs q
 rcases v a with q|⟨u,c,⟨q,r⟩|⟨q,r⟩⟩
 .exact st o^x a o^by rw[←q];exact e
 .have z:=bz^r.symm.trans e
  subst z;exact st u (show ObjOk P w H h a^.vol u from x a _ q)
 .have z:=bz^r.symm.trans e
  subst z;exact(show ObjOk P w H' h a u from st u^x a u q)
def View.unR{fs ex:n_ Ch}(v:View H H')(u:Un fs ex H1 H h h'):Un fs ex H1 H' h h' where
 keep:=u.keep
 slot:=u.slot
 free:=λb o q n hx=>v.none.mpr (u.free b o q n hx)
 there:=u.there
 tups:=λb xs q=>v.tup b xs (u.tups b xs q)
 frzs:=λb o x q=>v.to (u.frzs b o x q) (λz=>z) λu z=>by cases z
 tbls:=λb ps q=>let #[m,z]:=u.tbls b ps q;#[m,v.to z (λz=>z) λu z=>by cases z]
def View.unL{fs ex:n_ Ch}(v:View H H')(u:Un fs ex H' H1 h h'):Un fs ex H H1 h h' where
 keep:=λb o q n=>u.keep b o q (v.none.mpr n)
 slot:=λb o q n=>u.slot b o q (v.none.mpr n)
 free:=λb o q n hx=>u.free b o q (v.none.mpr n) hx
 there:=u.there
 tups:=λb xs q=>u.tups b xs (v.tup b xs q)
 frzs:=λb o x q=>u.frzs b o x (v.to q (λz=>z) λu z=>by cases z)
 tbls:=λb ps q=>u.tbls b ps^v.to q (λz=>z) λu z=>by cases z
def Inv.view{X:Cx}{zG:n_ (Ch×Obj)}{Z:St}{s:Go}(I:Inv X zG Z H s)(v:View H H'):Inv X zG Z H' s:=
 #[I.ok,I.os,I.bare,v.unR I.base,I.loc,I.cell,v.none.mpr I.free,λx c q=>v.none.mpr^I.freeC x c q,λp hp=>let #[a,b,c]:=I.pin p hp;#[a,v.none.mpr b,c],v.hok I.hok,I.len]
def EP.view{X:Cx}{zG:n_ (Ch×Obj)}{Z:St}{Q:VK}{u:Db}{s:Go}(h:EP X zG Z (λv H=>∃H',View H H'/\Q v H') u s):EP X zG Z Q u s:=
 let #[v,_,I,r,H',w,q]:=h;#[v,H',I.view w,r,q]
noncomputable def vR(r:n_ V->Hp->VK->Prop):n_ V->Hp->VK->Prop:=λvs H Q=>∃H1,View H H1/\r vs H1 λv H2=>∃H3,View H2 H3/\Q v H3
noncomputable def be(sp:Sp):Sp:=λvs H Q E=>∃H1,View H H1/\sp vs H1 (λv H2=>∃H3,View H2 H3/\Q v H3) E
def CallR.view{X:Cx}{f:Db}{r:n_ V->Hp->VK->Prop}(c:CallR X f r):CallR X f^vR r:=by
 intro zG s Z H xs us Q I rs q;let#[H1,v,q]:=q;exact BF (c zG s Z H1 xs us _ (I.view v) rs q) λu s1 h=>h.view
def Rb{X:Cx}{e:cJ}{t:TE}(h:PE X e t):PE X e (λZ H Q=>t Z H λv H1=>∃H2,View H1 H2/\Q v H2):=λzG s Z H Q I q=>BF (h zG s Z H _ I q) λu s1 h=>h.view
def FnOk.view{K:Frag}{mg:Str->o_ Db}{base:cA}{k:Nat}{f:Ch}{fd:cv}{ps:n_ Str}{sp:Sp}(F:FnOk P w K mg base Fb k f fd ps sp):FnOk P w K mg base Fb k f fd ps^be sp:=by
 refine#[λvs H Q E #[H1,_,q]=>F.len _ _ _ _ q,λA outer s H args us vs Q E hr e hb hv #[H1,v,q]=>?_];have e1:Env0 P w K mg base A outer s H1:=#[e.frames,e.mod,λb o z=>#[(e.bs b o z).1,v.none.mpr (e.bs b o z).2],e.bsz,e.funs,λb z=>v.none.mpr^e.frf b z,v.hok e.hok,e.bare];refine f9 (F.run A outer s H1 args us vs _ E hr e1 hb hv q) λr s' hq=>?_;cases r with
 |error x=>exact cz hq
 | ok fl=>
  cases fl with
  |ret u=>
   let#[v',H',a1,a2,a3,a4,a5,H3,v3,a6]:=hq;exact#[v',H3,a1,a2,v3.unR^v.unL a3,v3.hok a4,a5,a6]
  |next=>exact cz hq
  |brk=>exact cz hq
  |cont=>exact cz hq
noncomputable def aj(K:Frag)(T:String)(r:V->n_ V->Hp->VK->Prop)(to:TE)(t:TA):TE:=λZ H Q=>to Z H λx H1=>(∃H2,View H1 H2/\Y7 K T x H2)/\t Z H1 λxs H2=>∃H3,View H2 H3/\r x xs H3 λv H4=>∃H5,View H4 H5/\Q v H5
noncomputable def ZO(K:Frag)(T:String)(r:V->n_ V->Hp->VK->Prop)(to:TE):TE:=λZ H Q=>to Z H λx H1=>∃H2,View H1 H2/\Y7 K T x H2/\r x [] H2 λv H4=>∃H5,View H4 H5/\Q v H5
variable {X:Cx}{o e:Expr}{es:n_ Expr}{to:TE}{t:TA}{name:Str}{apos cpos:Pos}{T id:String}{r:V->n_ V->Hp->VK->Prop}
def Vv(pa:gn T)(slot:Slot T name id)(hty:typeOf^.builtin id=pure^.type "method_descriptor")(hm:XY X id r)(ho:PE X o to)
  (hbase:autoParam (attributeBase o name X.env^eval o X.env=eval o X.env) zau3._auto_1) (hline:autoParam ((apos.endLine==cpos.line)=l_) zau3._auto_1):PE X (.Call (.Attribute o name apos) [] [] cpos)^ZO X.K T r to:=by
 intro zG s Z H Q I h;refine wpAny_Call_method0_late hbase hline^BF (ho _ s Z H _ I h) λv s1 #[x,H1,I1,r1,H2,vw,ty,q1]=>?_;let#[h1,h2]:=Ol (I1.view vw) r1 ty;exact#[T,id,pa,slot,hty,h1,h2,d9 rfl (PySem.evalArgs_none^BF (hm _ s1 Z H2 x [] v [] _ (I1.view vw) r1 .nil q1) λu s1 h=>h.view)]
def YE(pa:gn T)(slot:Slot T name id)(hty:typeOf^.builtin id=pure^.type "method_descriptor")(hm:XY X id r)(ho:PE X o to)(ha:PA X (e::es) t)
  (hbase:autoParam (attributeBase o name X.env^eval o X.env=eval o X.env) zau3._auto_1)
  (hfew:autoParam (((backTo cpos^starEach (e::es) X.env).all (λx=>!x.1)&&(backToKw cpos^keywordEach [] X.env).all (λx=>x.1.isSome)
   && decide ((e::es).length+([]:n_ fX).length+(if([]:n_ fX).isEmpty then 0 else 1)<30))=l_) zau3._auto_1)
  (hline:autoParam ((apos.endLine==cpos.line)=l_) zau3._auto_1) (hs:autoParam (starEach (e::es) X.env=(m_,eval e X.env)::starEach es X.env) zau3._auto_1) (hplain:autoParam ((backTo cpos^starEach es X.env).any (·.1)=m_) zau3._auto_1):
  PE X (.Call (.Attribute o name apos) (e::es) [] cpos) (aj X.K T r to t):=by
 intro zG s Z H Q I h;refine wpAny_Call_method_late hbase hfew hline rfl (BF (ho _ s Z H _ I h) λv s1 #[x,H1,I1,r1,#[H2,vw,ty],q1]=>?_);let#[h1,h2]:=Ol (I1.view vw) r1 ty;refine#[T,id,pa,slot,hty,h1,h2,?_];have hA:=ha cpos _ s1 Z H1 _ I1 q1;rw[hs]at hA ⊢;refine d9 (by simp_all)^fj ?_;exact BF hA λus s2 #[vs,H3,I3,r3,H4,v4,q4]=>BF (hm _ s2 Z H4 x vs v us _ (I3.view v4) r1 r3 q4) λu s1 h=>h.view
end
end L2
namespace Dp
open L2
noncomputable def Sg.put(s:Sg)(a:Ch)(c:Wc):Sg:=#[s.n,λb=>if b=a then P3 c else s.w b]
noncomputable def Sg.drop(s:Sg)(L:n_ Ch):Sg:=#[s.n,λb=>if b∈L then k_ else s.w b]
noncomputable def Sg.back(s2 s:Sg)(L:n_ Ch):Sg:=#[s2.n,λb=>if b∈L then s.w b else s2.w b]
def Sg.back_drop(s:Sg)(L:n_ Ch)(m:Nat):Sg.back #[m,(s.drop L).w] s L=#[m,s.w]:=by
 show(#[m,λb=>if b∈L then s.w b else if b∈L then k_ else s.w b]:Sg)=_
 congr 1
 funext b
 by_cases h:b∈L
 .rw[if_pos h]
 .rw[if_neg h,if_neg h]
noncomputable def FL(w:Ch->o_ Wc):D->D
 |.ob a=>match w a with
  |some (.pl d)=>d
  |_=>.ob a
 |d=>d
noncomputable def FK(w:Ch->o_ Wc):D->D
 |.dic ks xs=>.dic ks^xs.map^FL w
 |.tup xs=>.tup^xs.map^FL w
 |d=>FL w d
noncomputable def Ge(w:Ch->o_ Wc):D->n_ Ch
 |.ob a=>match w a with
  |some (.pl _)=>[a]
  |_=>[]
 |_=>[]
noncomputable def F1(w:Ch->o_ Wc):D->n_ Ch
 |.dic _ xs=>xs.flatMap^Ge w
 |.tup xs=>xs.flatMap^Ge w
 |d=>Ge w d
noncomputable def ZS(w:Ch->o_ Wc):Slot->Slot
 |.sh d=>.sh^FK w d
 |s=>s
noncomputable def YM(w:Ch->o_ Wc):Slot->n_ Ch
 |.sh d=>F1 w d
 |_=>[]
noncomputable def GY(H:Hp)(L:n_ Ch):Hp:=λb=>if b∈L then(match H b with|some (.vol u)=>P3 u|o=>o)else H b
noncomputable def Sf(H:Hp)(L:n_ Ch):Hp:=λb=>if b∈L then(match H b with|some u=>P3^.vol u|none=>k_)else H b
section
variable {K:Frag}{M:Addr->Prop}{H:Hp}{L:n_ Addr}{w:Addr->o_ Wc}
def CellOk.pl{a:Ch}{d:D}(h:CellOk K M H a^.pl d):¬M a/\∃u,GS u/\H a=P3^.vol u/\GY H [a] a=P3 u:=by
 cases d with
 |lst ds=>let#[h0,vs,h1,_]:=h;refine#[h0,_,?_,h1,by unfold GY;rw[if_pos Re,h1]];exact trivial
 |dit ks ds=>let#[h0,vs,h1,_]:=h;refine#[h0,_,?_,h1,by unfold GY;rw[if_pos Re,h1]];exact trivial
 |_=>exact h.elim
def FU{u:HO}(h:GS u):¬Sm u:=by rintro⟨x,rfl⟩;exact h
noncomputable def Cells(M:Ch->Prop)(H:Hp)(L:n_ Ch):Prop:=∀b∈L,¬M b/\∃u,GS u/\H b=P3^.vol u
def Cells.un(c:Cells M H L){b:Ch}(hb:b∈L){u:HO}(h:H b=P3^.vol u):GY H L b=P3 u:=by unfold GY;rw[if_pos hb,h]
def FF{b:Ch}(hb:b∉L):GY H L b=H b:=if_neg hb
def Dx{b:Ch}(hb:b∉L):Sf H L b=H b:=if_neg hb
def Cells.out(c:Cells M H L){b:Ch}{o:HO}(h:H b=P3 o)(n:¬Sm o):b∉L:=λhb=>by
 let#[_,u,_,e]:=c b hb;rw[h]at e;exact n #[u,bz e]
def Cells.keep(c:Cells M H L){b:Ch}{o:HO}(h:H b=P3 o)(n:¬Sm o):GY H L b=P3 o:=by rw[FF^c.out h n];exact h
def Cells.view(c:Cells M H L):View H^GY H L:=λb=>by
 by_cases hb:b∈L
 .let#[_,u,k,e]:=c b hb
  exact .inr #[u,k,.inl #[e,c.un hb e]]
 .exact .inl^FF hb
def Cells.ex(c:Cells M H L)(b:Ch)(o:HO)(h:H b=P3 o):∃o',GY H L b=P3 o':=by
 by_cases hb:b∈L
 .let#[_,u,k,e]:=c b hb
  exact#[u,c.un hb e]
 .exact#[o,by rw[FF hb];exact h]
def Cells.pres(c:Cells M H L):Pres M H M^GY H L:=#[λb o h _ n=>c.keep h n,λ_ z=>.inl z,λb vs h=>c.keep h (by rintro⟨_,z⟩;cases z),c.ex]
def Cells.ext{U:Ch->Prop}(c:Cells M H L):Ext U H^GY H L:=λb o h=>by
 let#[o',e]:=c.ex b o h;refine#[o',e,λ_ n=>?_,λvs z=>?_]
 .rw[c.keep h n]at e;exact(bz e).symm
 .subst z;rw[c.keep h^by rintro⟨_,z⟩;cases z]at e;exact(bz e).symm
def EY{a:Ch}{d:D}(q:w a=P3^.pl d):FL w^.ob a=d:=by
 show(match w a with|some (.pl d)=>d|_=>D.ob a)=d;rw[q]
def F2{a:Ch}{d:D}(q:w a=P3^.pl d):Ge w^.ob a=[a]:=by
 show(match w a with|some (.pl _)=>[a]|_=>[])=_;rw[q]
def QH{a:Ch}(q:∀d,w a≠P3^.pl d):FL w^.ob a=.ob a/\Ge w^.ob a=[]:=by
 show(match w a with|some (.pl d)=>d|_=>D.ob a)=_/\(match w a with|some (.pl _)=>[a]|_=>[])=_;cases e:w a with
 |none=>exact#[rfl,rfl]
 |some x=>cases x with
  |ins C ks ds=>exact#[rfl,rfl]
  |pl d=>exact absurd e^q d
def QI(hw:∀a c,w a=P3 c->CellOk K M H a c)(c:Cells M H L){d:D}{v:V}(h:At K M H d v)(hL:∀a∈Ge w d,a∈L):At K M (GY H L) (FL w d) v:=by
 cases d with
 | ob a=>
  by_cases q:∃d,w a=P3^.pl d
  .let#[d,q]:=q
   rw[EY q];rw[F2 q]at hL;have ha:a∈L:=hL a Re;have k:=hw a _ q;let#[rfl,_]:=h;cases d with
   |lst ds=>let#[h0,vs,h1,_,h3]:=k;exact#[a,vs,rfl,#[h0,c.un ha h1],h3.pres c.pres]
   |dit ks ds=>let#[h0,vs,h1,h2,_,h3]:=k;exact#[a,vs,rfl,#[h0,c.un ha h1],h2,h3.pres c.pres]
   |_=>exact k.elim
  .rw[(QH λd z=>q #[d,z]).1];exact h.pres c.pres
 |_=>exact At.pres c.pres h
theorem Fs(hw:∀a c,w a=P3 c->CellOk K M H a c)(c:Cells M H L):∀{ds:n_ D}{vs:n_ V},Ats K M H ds vs->(∀a∈ds.flatMap^Ge w,a∈L)->Ats K M (GY H L) (ds.map^FL w) vs
 |[],_,h,_=>h
 |d::ds,_,#[v,r,e,h1,h2],hL=>#[v,r,e,QI hw c h1 λa ha=>hL a (by simp[ha]),Fs hw c h2 λa ha=>hL a^by simp only[eK,cE];exact .inr ha]
def Lv(hw:∀a c,w a=P3 c->CellOk K M H a c)(c:Cells M H L){d:D}{v:V}(h:At K M H d v)(hL:∀a∈F1 w d,a∈L):At K M (GY H L) (FK w d) v:=by
 cases d with
 |dic ks xs=>let#[a,vs,e,n,l,hs]:=h;exact#[a,vs,e,n.pres c.pres,by rw[FM];exact l,Fs hw c hs hL]
 |tup xs=>let#[a,vs,e,n,hs]:=h;exact#[a,vs,e,n.pres c.pres,Fs hw c hs hL]
 |ob a=>exact QI hw c h hL
 |_=>exact At.pres c.pres h
def MH{d:D}{a:Ch}(h:a∈Ge w d):∃x,w a=P3^.pl x:=by
 cases d with
 | ob b=>
  by_cases q:∃d,w b=P3^.pl d
  .let#[d,q]:=q
   rw[F2 q]at h;rw[Op.mp h];exact#[d,q]
  .rw[(QH λd z=>q #[d,z]).2]at h;cases h
 |_=>cases h
def QY{d:D}{a:Ch}(h:a∈F1 w d):∃x,w a=P3^.pl x:=by
 cases d with
 |dic ks xs=>let#[x,_,hx]:=de.mp h;exact MH hx
 |tup xs=>let#[x,_,hx]:=de.mp h;exact MH hx
 |ob b=>exact MH (d:=.ob b) h
 |_=>cases h
end
noncomputable def FE(W:W2)(was:Sd):DW:=λn ρ P=>was n ρ λss n1=>∃L ss',ss.map^ZS n1.w=ss'/\ss.flatMap^YM n1.w=L/\W ss' (n1.drop L) λd n2=>flat d=l_/\P d^n2.back n1 L
section
variable {X:Cx}{e:Expr}{es:n_ Expr}{pos p:Pos}{was:Sd}
theorem ON{K:Frag}{F:o_ (Ch×Ch)}{U V' M:Ch->Prop}{H:Hp}{L:n_ Ch}{w:Ch->o_ Wc}(hw:∀a c,w a=P3 c->CellOk K M H a c)(c:Cells M H L)(uV:∀a,U a->V' a):∀{vs:n_ V}{ss:n_ Slot},Paired (EW K F V' M H) vs ss->(∀a∈ss.flatMap^YM w,a∈L)->Paired (EW K F V' M^GY H L) vs^ss.map^ZS w
 |_,_,.nil,_=>.nil
 |_,s::ss,.cons #[h,o] t,hL=>by
  refine .cons ?_ (ON hw c uV t λa ha=>hL a^by simp only[eK,cE];exact .inr ha);cases s with
  |sh d=>let#[v,e1,h1]:=h;exact#[#[v,e1,Lv hw c h1 λa ha=>hL a^by simp only[eK,cE];exact .inl ha],rfl]
  |_=>exact#[h.pres c.pres (λ_ z=>z) (c.ext (U:=U)) uV,o]
def JS{K:Frag}{F:o_ (Ch×Ch)}{M:Ch->Prop}{H:Hp}{n:Sg}{α:Type}{g:α->n_ Ch}{ss:n_ α}(f:FeedC K F M H n)(hg:∀s b,b∈g s->∃d,n.w b=P3^.pl d):Cells M H^ss.flatMap g:=λb hb=>by
 let#[s,_,hs]:=de.mp hb;let#[d,hd]:=hg s b hs;let#[h0,u,k,h1,_]:=(f.2 b _ hd).pl;exact#[h0,u,k,h1]
def V3{w:Ch->o_ Wc}(s:Slot)(b:Ch)(h:b∈YM w s):∃d,w b=P3^.pl d:=by
 cases s with
 |sh d=>exact QY h
 |_=>cases h
def FeedC.lend{K:Frag}{F:o_ (Ch×Ch)}{M:Ch->Prop}{H:Hp}{n:Sg}{L:n_ Ch}(f:FeedC K F M H n)(c:Cells M H L):FeedC K F M (GY H L)^n.drop L:=by
 refine#[λg hg=>(f.1 g hg).pres c.pres λo ho=>?_,λa x hx=>?_]
 .let#[_,_,_,z,_]:=f.1 g hg
  rw[z]at ho;cases ho
  exact c.keep z^by rintro⟨_,z⟩;cases z
 .have hx:(if a∈L then k_ else n.w a)=P3 x:=hx
  by_cases ha:a∈L
  .rw[if_pos ha]at hx;cases hx
  .rw[if_neg ha]at hx
   exact(f.2 a x hx).to (λ_ _ z=>z) c.pres.2.2.1 c.ex λu hu=>by rw[FF ha];exact hu
def J1{K:Frag}{C:Fm}{M:Ch->Prop}{H1 H3:Hp}{n1 n2:Sg}{ρ:n_ Slot}{Z:L2.St}{L:n_ Ch}(R1:Rel K C M H1 n1 ρ Z)(c:Cells M H1 L)(e3:Ext C.U (GY H1 L) H3)(f3:FeedC K C.F M H3 n2):
  View H3 (Sf H3 L)/\Ext C.U H1^Sf H3 L/\FeedC K C.F M (Sf H3 L)^n2.back n1 L/\∀b o,H3 b=P3 o->∃o',Sf H3 L b=P3 o':=by
 have f1:=R1.feed;have in3:∀b∈L,∀u,H1 b=P3^.vol u->GS u->H3 b=P3 u:=λb hb u hu k=>e3.keep (c.un hb hu) (λz=>(c b hb).1 (R1.vM b^R1.uV b z))^FU k;have wr:∀b∈L,∀u,H1 b=P3^.vol u->GS u->Sf H3 L b=P3^.vol u:=λb hb u hu k=>by unfold Sf;rw[if_pos hb,in3 b hb u hu k]
 have v3:View H3^Sf H3 L:=λb=>by
  by_cases hb:b∈L
  .let#[_,u,k,hu]:=c b hb
   exact .inr #[u,k,.inr #[in3 b hb u hu k,wr b hb u hu k]]
  .exact .inl^Dx hb
 have ex3:∀b o,H3 b=P3 o->∃o',Sf H3 L b=P3 o':=λb o h=>by
  by_cases hb:b∈L
  .let#[_,u,k,hu]:=c b hb
   exact#[_,wr b hb u hu k]
  .exact#[o,by rw[Dx hb];exact h]
 have e4:Ext C.U H1^Sf H3 L:=λb o h=>by
  by_cases hb:b∈L
  .let#[_,u,k,hu]:=c b hb
   rw[h]at hu;cases hu
   exact#[_,wr b hb u h k,λ_ n=>absurd #[u,rfl] n,λvs z=>by cases z]
  .let#[o',h',z1,z2]:=e3 b o^by rw[FF hb];exact h
   exact#[o',by rw[Dx hb];exact h',z1,z2]
 refine#[v3,e4,#[λf hf=>?_,λa x hx=>?_],ex3]
 .let#[x,r,cs,g1,g2,g3,g4]:=f3.1 f hf
  let#[_,_,_,o1,_,o3,_]:=f1.1 f hf;have n1:f.1∉L:=c.out o1 (by rintro⟨_,z⟩;cases z);have n2:f.2∉L:=c.out o3.2 (by rintro⟨_,z⟩;cases z);exact#[x,r,cs,by rw[Dx n1];exact g1,g2,#[g3.1,by rw[Dx n2];exact g3.2],g4]
 .have hx:(if a∈L then n1.w a else n2.w a)=P3 x:=hx
  by_cases ha:a∈L
  .rw[if_pos ha]at hx
   refine(f1.2 a x hx).to (λ_ _ z=>z) (λb vs h=>e4.tup h) (λb o h=>let #[o',h',_]:=e4 b o h;#[o',h']) λu hu=>?_;let#[_,u',k,hu']:=c a ha;rw[hu]at hu';cases hu'
   exact wr a ha u hu k
  .rw[if_neg ha]at hx
   exact(f3.2 a x hx).to (λ_ _ z=>z) (λb vs h=>v3.tup b vs h) ex3 λu hu=>by rw[Dx ha];exact hu
def Jn{k:Nat}{ps:n_ Str}{W:W2}{x:Str}(G:Got X.prog X.w X.K X.mg X.base x k ps .sh W)(hr:Room k X.A)(hg:Gl X x)(ha:Wi X (e::es) was)
  (hdb:autoParam ((x==("__debug__":Str))=m_) zau1._auto_1) (he:autoParam (starEach (e::es) X.env=(m_,eval e X.env)::starEach es X.env) zau3._auto_1) (hpl:autoParam ((backTo pos^starEach es X.env).any (·.1)=m_) zau3._auto_1):
  DE X (.Call (.Name x p) (e::es) [] pos) .sh (FE W was):=by
 let#[f,fd,G,hm,hk,hb,hW]:=G;let#[t,h1,h2]:=ha;refine#[_,L5 G.view hr hg hm hk hb .nil JG h1 hdb he hpl,λC M H n ρ Z P Q R w q=>?_];refine h2 C M H n ρ Z _ _ R w λvs H1 ss n1 e1 f1 r1 #[L,ss',es,eL,p]=>?_;have R1:=R.step e1 f1;have c:Cells M H1 L:=eL▸JS f1 V3;rw[cX];refine#[GY H1 L,c.view,?_];refine#[(Paired.length r1).trans (by have:=hW _ _ _ p;rw[←es,FM]at this;exact this),C.F,C.U,C.V,M,n1.drop L,ss',_,#[λa z=>let #[o,h]:=R1.dom a z;c.ex a o h,R1.fU,R1.uV,R1.vM,f1.lend c,es▸ON f1.2 c R1.uV r1 λa ha=>eL▸ha],p,λv H3 d n2 e3 f3 r3 #[fl,p3]=>?_];let#[v3,e4,f4,ex3]:=J1 R1 c e3 f3;exact#[Sf H3 L,v3,q v _ d _ (e1.trans e4) f4 (IA (λb vs h=>v3.tup b vs h) ex3 d fl r3) p3]
noncomputable def LM:D->Prop
 |.lst ds=>A8 ds=l_
 |.dit _ ds=>A8 ds=l_
 |_=>False
noncomputable def bp:Kd->D->Prop
 |.sh,z=>flat z=l_
 |.fr,z=>LM z
 |.tp,_=>False
noncomputable def Q_(κ:Kd)(f:n_ D->(D->Prop)->Prop)(ws:Dw):DW:=λn ρ P=>ws n ρ λds n1=>∃ds',ds.map^FK n1.w=ds'/\f ds' λz=>bp κ z/\P z n1
def WZ{K:Frag}{U V' M:Ch->Prop}{H:Hp}{L:n_ Ch}{w:Ch->o_ Wc}(hw:∀a c,w a=P3 c->CellOk K M H a c)(c:Cells M H L)(uV:∀a,U a->V' a){d:D}{v:V}(h:AtT K V' M H d v)(hL:∀a∈F1 w d,a∈L)(vM:∀a,V' a->M a):AtT K V' M (GY H L) (FK w d) v:=by
 cases d with
 |dic ks xs=>let#[a,vs,e,n,hq,l,hs]:=h;exact#[a,vs,e,n,c.keep hq (by rintro⟨_,z⟩;cases z),by rw[FM];exact l,Fs hw c hs hL]
 |tup xs=>exact At.tp vM^Lv hw c (d:=.tup xs) h hL
 |ob a=>exact At.tp vM^Lv hw c (d:=.ob a) h hL
 |_=>exact AtT.pres h c.pres (c.ext (U:=U)) uV
theorem OM{K:Frag}{U V' M:Ch->Prop}{H:Hp}{L:n_ Ch}{w:Ch->o_ Wc}(hw:∀a c,w a=P3 c->CellOk K M H a c)(c:Cells M H L)(uV:∀a,U a->V' a)(vM:∀a,V' a->M a):∀{vs:n_ V}{ds:n_ D},Paired (λv d=>AtT K V' M H d v) vs ds->(∀a∈ds.flatMap^F1 w,a∈L)->Paired (λv d=>AtT K V' M (GY H L) d v) vs^ds.map^FK w
 |_,_,.nil,_=>.nil
 |_,d::ds,.cons h t,hL=>.cons (WZ hw c uV h (λa ha=>hL a^by simp only[eK,cE];exact .inl ha) vM)^OM hw c uV vM t λa ha=>hL a^by simp only[eK,cE];exact .inr ha
def U_{κ:Kd}{r:n_ V->Hp->VK->Prop}{f:n_ D->(D->Prop)->Prop}{t:TA}{ws:Dw}(hA:B_ X.K κ r f)(h2:∀(C:Fm) (M:Ch->Prop) (H:Hp) (n:Sg) (ρ:n_ Slot) (Z:L2.St) (P:n_ D->Sg->Prop) (Q:n_ V->Hp->Prop),Rel X.K C M H n ρ Z->ws n ρ P->
   (∀vs H' ds n',Ext C.U H H'->FeedC X.K C.F M H' n'->Paired (λv d=>AtT X.K C.V M H' d v) vs ds->P ds n'->Q vs H')->t Z H Q)
  (C:Fm) (M:Ch->Prop) (H:Hp) (n:Sg) (ρ:n_ Slot) (Z:L2.St) (P:D->Sg->Prop) (Q:VK) (R:Rel X.K C M H n ρ Z) (w:Q_ κ f ws n ρ P)
  (q:∀v H' d n',Ext C.U H H'->FeedC X.K C.F M H' n'->VR X.K C.V M H H' κ v d->P d n'->Q v H'):ZN (vR r) t Z H Q:=by
 refine h2 C M H n ρ Z _ _ R w λvs H1 ds n1 e1 f1 r1 #[ds',ed,p]=>?_;have R1:=R.step e1 f1;have c:Cells M H1^ds.flatMap^F1 n1.w:=JS f1 λd b=>QY;refine#[_,c.view,hA C.V M _ ds' vs _ _ (λa z=>let #[o,h]:=R1.dom a z;c.ex a o h) R1.vM (ed▸OM f1.2 c R1.uV R1.vM r1 λa ha=>ha) p λv H3 z g vr #[fz,pz]=>?_];let#[v3,e4,f4,ex3]:=J1 R1 c g.ext^(f1.lend c).grow g;rw[show n1.drop^ds.flatMap^F1 n1.w=#[n1.n,(n1.drop^ds.flatMap^F1 n1.w).w]from rfl,Sg.back_drop]at f4;have tu:∀b vs,H3 b=P3^.tup vs->Sf H3 (ds.flatMap^F1 n1.w) b=P3^.tup vs:=λb vs h=>v3.tup b vs h;refine#[_,v3,q v _ z n1 (e1.trans e4) f4 (VR.back e1 ?_) pz];cases κ with
 |tp=>exact fz.elim
 |sh=>exact IA tu ex3 z fz vr
 | fr=>
  let#[a,e,ha,tp]:=vr
  have hn:H1 a=k_:=by
   cases h:H1 a with
   |none=>rfl
   |some o=>let#[o',h']:=c.ex a o h;rw[ha]at h';cases h'
  have hL:a∉ds.flatMap^F1 n1.w:=λhb=>by let#[_,u,_,h]:=c a hb;rw[hn]at h;cases h
  refine#[a,e,hn,?_];cases z with
  |lst es=>let#[us,g1,g2]:=tp;exact#[us,by rw[Dx hL];exact g1,BD tu ex3 es fz g2]
  |dit ks es=>let#[us,g1,g2,g3]:=tp;exact#[us,by rw[Dx hL];exact g1,g2,BD tu ex3 es fz g3]
  |dic ks es=>exact(show False from fz).elim
  |_=>exact(show False from tp).elim
def SG{κ:Kd}{x:Str}{id:String}{r:n_ V->Hp->VK->Prop}{f:n_ D->(D->Prop)->Prop}{ws:Dw}(hc:CallR X (.builtin id) r)(hA:B_ X.K κ r f)(hg:Gl X x)(hm:X.mg x=k_)(hv:bootBuiltins x=P3^.builtin id)(ha:Xa X (e::es) ws)
  (hn:autoParam (x ≠ "__name__") zau1._auto_1) (hdb:autoParam ((x==("__debug__":Str))=m_) zau1._auto_1)
  (he:autoParam (starEach (e::es) X.env=(m_,eval e X.env)::starEach es X.env) zau3._auto_1) (hpl:autoParam ((backTo pos^starEach es X.env).any (·.1)=m_) zau3._auto_1):DE X (.Call (.Name x p) (e::es) [] pos) κ^Q_ κ f ws:=by
 let#[t,h1,h2]:=ha;exact#[_,D9 hc.view hg hm hv h1 hn hdb he hpl,λC M H n ρ Z P Q R w q=>U_ hA h2 C M H n ρ Z P Q R w q]
def Pl{κ:Kd}{x:Str}{T:String}{r:n_ V->Hp->VK->Prop}{f:n_ D->(D->Prop)->Prop}{ws:Dw}(hc:CallR X (.type T) r)(hA:B_ X.K κ r f)(hg:Gl X x)(hm:X.mg x=k_)(hv:bootBuiltins x=P3^.type T)(ha:Xa X (e::es) ws)
  (hn:autoParam (x ≠ "__name__") zau1._auto_1) (hdb:autoParam ((x==("__debug__":Str))=m_) zau1._auto_1)
  (he:autoParam (starEach (e::es) X.env=(m_,eval e X.env)::starEach es X.env) zau3._auto_1) (hpl:autoParam ((backTo pos^starEach es X.env).any (·.1)=m_) zau3._auto_1):DE X (.Call (.Name x p) (e::es) [] pos) κ^Q_ κ f ws:=by
 let#[t,h1,h2]:=ha;exact#[_,Gd hc.view hg hm hv h1 hn hdb he hpl,λC M H n ρ Z P Q R w q=>U_ hA h2 C M H n ρ Z P Q R w q]
end
end Dp
namespace L2
theorem Gu{α β:Type}(f:α->β):∀(l:n_ α) (j:Nat),(l.map f).eraseIdx j=(l.eraseIdx j).map f
 |[],_=>rfl
 |_::_,0=>rfl
 |a::l,j+1=>by show f a::(l.map f).eraseIdx j=f a::(l.eraseIdx j).map f;rw[Gu f l j]
section
variable {prog:Program}{w:World}{K:Type}[DecidableEq K]{knd:HeapKind prog w K}{A:Around}{E:Value->Shared->Prop}{s:Shared}{d a:Addr}{k:K}{xs:n_ (K×Addr×Value)}{j:Nat}{p:Addr×Value}
def Lh{Q:o_ fK->Go->Prop}(hu:knd.room A)(hkey:knd.is s.heap k a)(hm:s.heap.DictOfH knd d xs)(hj:xs[j]?=P3 (k,p))(hsz:xs.length<=sizeLine)
  (hQ:∀h',h'.DictOfH knd d^xs.eraseIdx j->eV d s.heap h'->Q (P3^entryOfKey knd (k,p)) {s with heap:=h',toks:=s.toks+knd.draws k}):
  wpAny (model prog w) A (i8 d^.ref a) Q E s:=by
 let#[o,es,ep,ho,hc,hd,he,his,hn]:=hm;unfold i8
 try with_reducible refine dD ?_
 refine Cn^knd.pyHash hu hkey ?_;refine Cn^wpAny_dictFind_heap (s:={s with toks:=s.toks+knd.draws k}) hu hkey ho hd he his hn (λhno=>absurd hj^hno j p) λi q hi=>?_;obtain rfl:=idxH_unique hn hj hi;rw[hj]at hi;cases hi;refine Cn^dk (s:={s with toks:=s.toks+knd.draws k}) ho hd ?_;rw[entry_at he j,hj]
 refine Cn (wpAny_updateDictKeys (hz:=by have e:=size_of_entries he;lk) (s:={s with toks:=s.toks+knd.draws k}) ho hd (On (hQ _ #[_,_,ep+1,dL _ ho^Obj.isFreed_of_dict^Obj.data_mapDictKeys hd _,
   hc.mapDictKeys _,Obj.data_mapDictKeys hd _,?_,?_,?_] (eP ..))))
 .let#[l]:=es
  have he:l=xs.map^entryOfKey knd:=he;subst he;simp[Gu]
 .intro x hx
  exact knd.keeps (his x^List.mem_of_mem_eraseIdx hx) ho hd (eP ..)
 .rw[←Gu]
  exact hn.sublist (List.eraseIdx_sublist ..)
def Hj:MeetsIn prog w (ej.«dict.pop» #[[.ref d,.ref a],[]]) (λA R s=>knd.room A.in1/\∃k xs j p,knd.is s.heap k a/\s.heap.DictOfH knd d xs/\xs.length<=sizeLine/\xs[j]?=P3 (k,p) /\
   ∀h',h'.DictOfH knd d^xs.eraseIdx j->eV d s.heap h'->R (.ok^.ret p.2) {s with heap:=h',toks:=s.toks+knd.draws k}):=
 .of_wp λA R s #[hu,k,xs,j,p,hkey,hm,hsz,hj,h]=>by
  let#[o,es,ep,ho,hc,hd,he,his,hn]:=id hm;unfold ej.«dict.pop»;refine Cn ?_;unfold Builtin.Dict.keyAndDefault;refine Cn^gf hm.typeIs ?_;show wpAny _ _ (pure (d,b_ a,k_)) _ _ s;refine On ?_;have hk:(keyPart^b_ a).isSome=m_:=rfl;simp only[hk,cm,if_false];refine Cn^dk ho hd^Cn^On ?_
  have hne:es.isEmpty=m_:=by
   have h1:=size_of_entries he;have h2:j<xs.length:=(UF.mp hj).1;simp only[Array.isEmpty,decide_eq_false_iff_not];lk
  rw[hne];simp only[cm,if_false];refine Cn^Lh hu hkey hm hj hsz λh' hm' hs'=>?_;simp only[Option.isNone_some,cm,if_false];exact Cn^eU^On #[_,rfl,h h' hm' hs']
end
noncomputable def W3:V->n_ V->Hp->VK->Prop:=λx vs H Q=>∃d b kvs k j v,x=.ref d/\vs=[.ref b]/\H d=P3^.dT kvs/\H b=P3^.tup^k.map kV/\kvs[j]?=P3 (k,v)/\Q v^Aq H d^.dT^kvs.eraseIdx j
theorem K5{α β:Type}{R:α->β->Prop}:∀{xs:n_ α}{ys:n_ β}{j:Nat}{x:α},Paired R xs ys->xs[j]?=P3 x->∃y,ys[j]?=P3 y/\R x y
 |_::_,_::_,0,_,.cons r _,e=>#[_,rfl,by cases e;exact r]
 |_::_,_::_,j+1,_,.cons _ t,e=>K5 (j:=j) t^by rw[gL]at e;exact e
theorem Fx{α β:Type}{R:α->β->Prop}:∀{xs:n_ α}{ys:n_ β} (j:Nat),Paired R xs ys->Paired R (xs.eraseIdx j)^ys.eraseIdx j
 |_,_,_,.nil=>.nil
 |_::_,_::_,0,.cons _ t=>t
 |_::_,_::_,j+1,.cons r t=>.cons r^Fx j t
def Qa{X:Cx}{k:Nat}(hr:Room k X.A):XY X "dict.pop" W3:=by
 rintro zG s Z H x xs v us Q I rx rs ⟨d,b,kvs,k,j,u,rfl,rfl,hd,hb,hj,q⟩;cases(show v=b_ d from rx);cases rs with
 |cons r t=>
 cases t
 rename_i ub
 cases(show ub=b_ b from r);let#[z,hsys,ys,rel,dd]:=XM I.hok hd;let#[#[k',p],hp,e1,e2,e3]:=K5 rel hj;have e1:k=k':=e1;subst e1;refine fY PySem.F.slot_dict_pop dd.typeIs PySem.F.entry_dict_pop (PySem.F.args_dict_pop_2 _ _) (Hj (knd:=tupleKind^A9 X.prog X.w)) #[eE (by have:=hr.units;lk),k,ys,j,p,EC I.hok hb,dd,by rw[←Paired.length rel];exact z,hp,λh' dd' hs=>#[u,_,?_,e3,q]];let#[o,es,ep,hq,h2,h3,h4,_,h5]:=dd';refine IK I (by rw[hd];exact df) hs #[o,hq] #[cG (List.length_eraseIdx_le ..) z,hsys,_,Paired.imp' (λx y r=>#[r.1,by rw[AL^XB r.2.1 hd λz=>nomatch z];exact r.2.1,r.2.2])^Fx j rel,o,es,ep,hq,h2,h3,h4,h5]
end L2
namespace Dp
open L2
section
variable {K:Frag}{F:o_ (Addr×Addr)}{M:Addr->Prop}{H:Hp}{n:Sg}{a:Addr}{u u':HO}{c:Wc}
def IB{U:Ch->Prop}(h:H a=P3^.vol u):Ext U H^Aq H a^.vol u':=λb o e=>by
 by_cases z:b=a
 .subst z
  rw[h]at e;cases e
  exact#[_,AM,λ_ v=>absurd #[u,rfl] v,λvs z=>by cases z]
 .exact#[o,by rw[AL z];exact e,λ_ _=>rfl,λ_ _=>rfl]
def FeedC.put(f:FeedC K F M H n)(h:H a=P3^.vol u)(hc:CellOk K M (Aq H a^.vol u') a c):FeedC K F M (Aq H a^.vol u')^n.put a c:=by
 have ne:∀{b o},H b=P3 o->¬Sm o->b≠a:=λe v z=>v #[u,by rw[z,h]at e;exact(bz e).symm];have x:=IB (U:=λ_=>False) (u':=u') h;refine#[λg hg=>?_,λb k hk=>?_]
 .let#[p,r,cs,h1,h2,h3,h4]:=f.1 g hg
  exact#[p,r,cs,by rw[AL^ne h1^by rintro⟨_,z⟩;cases z];exact h1,h2,#[h3.1,by rw[AL^ne h3.2^by rintro⟨_,z⟩;cases z];exact h3.2],h4]
 .have hk:(if b=a then P3 c else n.w b)=P3 k:=hk
  by_cases z:b=a
  .rw[if_pos z]at hk;cases hk;rw[z];exact hc
  .rw[if_neg z]at hk
   exact(f.2 b k hk).to (λ_ _ z=>z) (λb vs e=>x.tup e) (λb o e=>let #[o',e',_]:=x b o e;#[o',e']) λv e=>by rw[AL z];exact e
noncomputable def putN(f:Str):n_ Str->n_ Str
 |[]=>[f]
 |g::r=>if g=f then g::r else g::putN f r
noncomputable def putX{α:Type}(f:Str)(y:α):n_ Str->n_ α->n_ α
 |[],_=>[y]
 |_::_,[]=>[y]
 |g::r,x::xs=>if g=f then y::xs else x::putX f y r xs
theorem NZ(f:Str)(y:V):∀{ks:n_ Str}{vs:n_ V},ks.length=vs.length->DU f y^ks.zip vs=(putN f ks).zip^putX f y ks vs
 |[],[],_=>rfl
 |k::ks,v::vs,h=>by
  have ih:=NZ f y (ks:=ks) (vs:=vs) (by simpa using h);show(if k=f then(k,y)::ks.zip vs else(k,v)::DU f y^ks.zip vs)=(if k=f then k::ks else k::putN f ks).zip (if k=f then y::vs else v::putX f y ks vs)
  by_cases e:k=f
  .rw[if_pos e,if_pos e,if_pos e];rfl
  .rw[if_neg e,if_neg e,if_neg e,ih];rfl
theorem NX{α:Type}(f:Str)(y:α):∀{ks:n_ Str}{vs:n_ α},ks.length=vs.length->(putN f ks).length=(putX f y ks vs).length
 |[],[],_=>rfl
 |k::ks,v::vs,h=>by
  have ih:=NX f y (ks:=ks) (vs:=vs) (by simpa using h);show(if k=f then k::ks else k::putN f ks).length=(if k=f then y::vs else v::putX f y ks vs).length
  by_cases e:k=f
  .rw[if_pos e,if_pos e];simpa using h
  .rw[if_neg e,if_neg e];simpa using ih
theorem NY(f:Str){d:D}{v:V}(hd:At K M H d v):∀{ks:n_ Str}{ds:n_ D}{vs:n_ V},ks.length=ds.length->Ats K M H ds vs->Ats K M H (putX f d ks ds)^putX f v ks vs
 |[],[],_,_,h=>by cases h;exact#[_,_,rfl,hd,rfl]
 |k::ks,d0::ds,_,l,#[v0,r,e,h1,h2]=>by
  subst e;show Ats K M H (if k=f then d::ds else d0::putX f d ks ds) (if k=f then v::r else v0::putX f v ks r)
  by_cases e:k=f
  .rw[if_pos e,if_pos e];exact#[_,_,rfl,hd,h2]
  .rw[if_neg e,if_neg e];exact#[_,_,rfl,h1,NY f hd (by simpa using l) h2]
theorem K4(f:Str){d:D}(hd:flat d=l_):∀{ks:n_ Str}{ds:n_ D},ks.length=ds.length->A8 ds=l_->A8^putX f d ks ds=l_
 |[],[],_,_=>by show(flat d&&l_)=l_;rw[hd];rfl
 |k::ks,d0::ds,l,h=>by
  have h:(flat d0&&A8 ds)=l_:=h;rw[cP]at h;show A8 (if k=f then d::ds else d0::putX f d ks ds)=l_
  by_cases e:k=f
  .rw[if_pos e];show(flat d&&A8 ds)=l_;rw[hd,h.2];rfl
  .rw[if_neg e];show(flat d0&&A8^putX f d ks ds)=l_;rw[h.1,K4 f hd (by simpa using l) h.2];rfl
theorem Nn{f:Str}{x:D}:∀{ks:n_ Str}{ds:n_ D}{vs:n_ V},Ats K M H ds vs->(ks.zip ds).lookup f=P3 x->∃v,(ks.zip vs).lookup f=P3 v/\At K M H x v
 |[],_,_,_,e=>by cases e
 |_::_,[],_,_,e=>by cases e
 | k::ks,d::ds,_,#[v,r,e1,h1,h2],e=>by
  subst e1
  by_cases z:f=k
  .subst z
   simp only[eX,fQ,BEq.rfl]at e ⊢;cases e;exact#[v,rfl,h1]
  .have hb:(f==k)=m_:=beq_eq_false_iff_ne.mpr z
   simp only[eX,fQ,hb]at e ⊢;exact Nn h2 e
theorem Gg{α:Type}{f:Str}:∀{ks:n_ Str}{vs:n_ α},f∉ks->(ks.zip vs).lookup f=k_
 |[],_,_=>rfl
 |_::_,[],_=>rfl
 |k::ks,v::vs,h=>by
  have hb:(f==k)=m_:=beq_eq_false_iff_ne.mpr λz=>h (by rw[z];exact Re);simp only[eX,fQ,hb];exact Gg λz=>h^TW _ z
end
noncomputable def Ct(C:Ch)(f:Str)(w:DW):DW:=λn ρ P=>w n ρ λd n1=>∃a ks ds x,d=.ob a/\n1.w a=P3^.ins C ks ds/\(ks.zip ds).lookup f=P3 x/\P x n1
noncomputable def Ko(C:Ch)(f:Str)(wo wv:DW):Ac:=λD2 n ρ=>wv n ρ λy n1=>flat y=l_/\wo n1 ρ λd n2=>∃a ks ds,d=.ob a/\n2.w a=P3^.ins C ks ds/\ks.length<1000/\D2.nx (n2.put a^.ins C (putN f ks)^putX f y ks ds) ρ
section
variable {X:Cx}{C:Addr}{f m:Str}{o e value:Expr}{es:n_ Expr}{pos pos' apos p:Pos}{κ zK κv:Kd}{wo wv:DW}{was:Sd}
def FP{K:Frag}{U M:Ch->Prop}{H:Hp}{a:Ch}{v:V}(h:AtT K U M H (.ob a) v):v=.ref a:=h.1
def BX(c:Cls X.K C)(hn:NoAttr X.K C f)(h:DE X e κ wo)(hb:autoParam (attributeBase e f X.env^eval e X.env=eval e X.env) zau3._auto_1):DE X (.Attribute e f pos) .sh^Ct C f wo:=by
 let#[t,h1,h2]:=h;refine#[_,YD h1 hb,λC0 M H n ρ Z P Q R w q=>?_];refine h2 C0 M H n ρ Z _ _ R w λv H1 d n1 e1 f1 r1 #[a,ks,ds,x,ed,hw,hl,p]=>?_;subst ed;let#[dx,vs,g1,g2,g3,g4]:=f1.2 a _ hw;let#[u,hu,hx]:=Nn g4 hl;exact#[a,C,dx,_,u,FP^r1.tpOf R.dom R.vM,g1,c,hn,hu,q u H1 x n1 e1 f1 hx p]
def Jh(c:Cls X.K C)(hn:NoAttr X.K C f)(ho:DE X o zK wo)(hv:DE X value κv wv)(hk:autoParam (κv≠.tp) zau7._auto_1)(hs:autoParam (swapsWith value (P3^.Attribute o f pos') pos.line X.env=pure m_) zau3._auto_1):DS X κ (.Assign [.Attribute o f pos'] value pos)^Ko C f wo wv:=by
 let#[to,o1,o2]:=ho;let#[tv,v1,v2]:=hv;refine#[_,X8 o1 v1 hs,λC0 M H n ρ Z D2 E R L w=>?_];refine v2 C0 M H n ρ Z _ _ R w λy H1 d n1 e1 f1 r1 #[fl,w1]=>?_;have R1:=R.step e1 f1;refine o2 C0 M H1 n1 ρ Z _ _ R1 w1 λx H2 d2 n2 e2 f2 r2 #[a,ks,ds,ed,hw,hl,p]=>?_;subst ed;have R2:=R1.step e2 f2;let#[dx,vs,g1,g2,g3,g4]:=f2.2 a _ hw;have lv:ks.length=vs.length:=g2.trans g4.length.symm;have x3:=IB (U:=C0.U) (u':=.ins C dx^DU f y^ks.zip vs) g1;have hy:At X.K M H2 d y:=(r1.shOf R.dom hk).pres^R1.pres e2;refine#[a,C,dx,_,FP^r2.tpOf R1.dom R1.vM,g1,c,hn,by rw[d6,lv,Nat.min_self,←lv];exact hl,?_];refine L.nx M _ _ ρ Z (R2.step x3^f2.put (c:=.ins C (putN f ks)^putX f d ks ds) g1 #[dx,putX f y ks vs,?_,NX f d g2,K4 f fl g2 g3,?_]) p
 .rw[AM,NZ f y lv]
 .exact(NY f hy g2 g4).pres^R2.pres x3
noncomputable def GQ(P:cH)(w:cN)(K:Frag)(mg:Str->o_ Db)(base:cA)(C:Ch)(m:Str)(k:Nat)(ps:n_ Str)(κ:Kd)(W:W2):Prop:=
 ∃f fd,FnOk P w K mg base Fb k f fd ps^RE K κ W ps.length/\Wh K C m f/\Binds K fd ps []/\∀ss n P,W ss n P->ss.length=ps.length
noncomputable def BQ(C:Ch)(m:Str)(W:W2)(wo:DW)(was:Sd):DW:=λn ρ P=>wo n ρ λd n1=>∃a ks ds,d=.ob a/\n1.w a=P3^.ins C ks ds/\m∉ks/\was n1 ρ λss n2=>W (.sh^.ob a::ss) n2 P
def BJ{k:Nat}{ps:n_ Str}{W:W2}{pl:Sem Bool}(c:Cls X.K C)(G:GQ X.prog X.w X.K X.mg X.base C m k ps κ W)(hr:Room k X.A)(ho:DE X o zK wo)(ha:Wi X (e::es) was)
  (hst:autoParam (starEach (e::es) X.env=(m_,eval e X.env)::starEach es X.env) zau3._auto_1) (hpl:autoParam ((backTo pos^starEach es X.env).any (·.1)=m_) zau3._auto_1)
  (ht:autoParam (eval (.Call (.Attribute o m apos) (e::es) [] pos) X.env=(do
   let ov ←eval o X.env
   standAt apos.atName
   let (f,first) ←holding [ov] (getMethod ov m pl)
   callWith pos f first (backTo pos^starEach (e::es) X.env) (backToKw pos^keywordEach [] X.env))) zau3._auto_1):DE X (.Call (.Attribute o m apos) (e::es) [] pos) κ^BQ C m W wo was:=by
 let#[f,fd,G,hm,hb,hW]:=G;let#[to,o1,o2]:=ho;let#[t,a1,a2]:=ha;refine#[_,Vq o1 c hm G hr hb .nil JG a1 hst hpl ht,λC0 M H n ρ Z P Q R w q=>?_];refine o2 C0 M H n ρ Z _ _ R w λv H1 d n1 e1 f1 r1 #[a,ks,ds,ed,hw,hl,w1]=>?_;subst ed;have R1:=R.step e1 f1;let#[dx,vs,g1,g2,g3,g4]:=f1.2 a _ hw;have ev:=FP^r1.tpOf R.dom R.vM;subst ev;refine#[a,dx,_,rfl,g1,Gg hl,?_];refine a2 C0 M H1 n1 ρ Z _ _ R1 w1 λvs2 H2 ss n2 e2 f2 r2 p=>?_;have R2:=R1.step e2 f2;rw[cX];have hex:∃o,H2 a=P3 o:=let #[o',h,_]:=e2 a _ g1;#[o',h]
 have hself:EW X.K C0.F C0.V M H2 (.ref a)^.sh^.ob a:=#[#[_,rfl,rfl,hex],rfl];exact#[(Paired.length^Paired.cons hself r2).trans^hW _ _ _ p,_,_,_,M,n2,_,P,#[R2.dom,R2.fU,R2.uV,R2.vM,f2,Paired.cons hself r2],p,λv H3 d n3 e3 f3 r3 p3=>q v H3 d n3 ((e1.trans e2).trans e3) f3 (VR.back (e1.trans e2) r3) p3]
def GC{k:Nat}{ps:n_ Str}{W:W2}{pl:Sem Bool}(c:Cls X.K C)(G:GQ X.prog X.w X.K X.mg X.base C m k ps κ W)(hr:Room k X.A)(ho:DE X o zK wo)
  (ht:autoParam (eval (.Call (.Attribute o m apos) [] [] pos) X.env=(do
   let ov ←eval o X.env
   standAt apos.atName
   let (f,first) ←holding [ov] (getMethod ov m pl)
   callWith pos f first (backTo pos^starEach [] X.env) (backToKw pos^keywordEach [] X.env))) zau3._auto_1):DE X (.Call (.Attribute o m apos) [] [] pos) κ^BQ C m W wo AS:=by
 let#[f,fd,G,hm,hb,hW]:=G;let#[to,o1,o2]:=ho;refine#[_,T5 o1 c hm G hr hb .nil JG ht,λC0 M H n ρ Z P Q R w q=>?_];refine o2 C0 M H n ρ Z _ _ R w λv H1 d n1 e1 f1 r1 #[a,ks,ds,ed,hw,hl,p]=>?_;subst ed;have R1:=R.step e1 f1;let#[dx,vs,g1,g2,g3,g4]:=f1.2 a _ hw;have ev:=FP^r1.tpOf R.dom R.vM;subst ev;refine#[a,dx,_,rfl,g1,Gg hl,?_];have hself:EW X.K C0.F C0.V M H1 (.ref a)^.sh^.ob a:=#[#[_,rfl,rfl,_,g1],rfl];exact#[hW _ _ _ p,_,_,_,M,n1,_,P,#[R1.dom,R1.fU,R1.uV,R1.vM,f1,Paired.cons hself .nil],p,λv H3 d n3 e3 f3 r3 p3=>q v H3 d n3 (e1.trans e3) f3 (VR.back e1 r3) p3]
noncomputable def Y6(P:cH)(w:cN)(K:Frag)(mg:Str->o_ Db)(base:cA)(x:Str)(C:Ch)(k:Nat)(ps:n_ Str)(W:W2):Prop:=
 ∃f fd,FnOk P w K mg base Fb k f fd ps^RE K .sh W ps.length/\Mk K C f/\mg x=P3^.ref C/\Binds K fd ps []/\∀ss n P,W ss n P->ss.length=ps.length
noncomputable def Wm(C:Ch)(W:W2)(was:Sd):DW:=λn ρ P=>was n ρ λss n1=>∀x,n1.w x=k_->W (.sh^.ob x::ss) (n1.put x^.ins C [] []) λd n2=>d=.non/\P (.ob x) n2
def WR{k:Nat}{ps:n_ Str}{W:W2}{x:Str}(G:Y6 X.prog X.w X.K X.mg X.base x C k ps W)(hr:Room (k+1) X.A)(hg:Gl X x)(ha:Wi X (e::es) was)
  (hdb:autoParam ((x==("__debug__":Str))=m_) zau1._auto_1) (he:autoParam (starEach (e::es) X.env=(m_,eval e X.env)::starEach es X.env) zau3._auto_1) (hpl:autoParam ((backTo pos^starEach es X.env).any (·.1)=m_) zau3._auto_1):
  DE X (.Call (.Name x p) (e::es) [] pos) .sh (Wm C W was):=by
 let#[f,fd,G,hm,hx,hb,hW]:=G;let#[t,a1,a2]:=ha;refine#[_,Vr hm G hr hg hx hb .nil JG a1 hdb he hpl,λC0 M H n ρ Z P Q R w q=>?_];refine a2 C0 M H n ρ Z _ _ R w λvs H1 ss n1 e1 f1 r1 p=>λa dx ha hdx ne=>?_;have R1:=R.step e1 f1;have g1:Grow H1^Aq H1 dx^.own a:=Ap hdx;have ha1:Aq H1 dx (.own a) a=k_:=by rw[AL^cY ne];exact ha
 have g2:Grow (Aq H1 dx^.own a)^Aq (Aq H1 dx^.own a) a^.vol^.ins C dx []:=Ap ha1;have e2:Ext C0.U H1^Aq (Aq H1 dx^.own a) a^.vol^.ins C dx []:=g1.ext.trans g2.ext
 have nw:n1.w a=k_:=by
  cases z:n1.w a with
  |none=>rfl
  |some c=>
   have k:=f1.2 a c z;cases c with
   |ins C ks ds=>let#[_,_,h,_]:=k;rw[ha]at h;cases h
   |pl d=>let#[_,u,_,h,_]:=k.pl;rw[ha]at h;cases h
 have p:=p a nw
 have f2:FeedC X.K C0.F M (Aq (Aq H1 dx^.own a) a^.vol^.ins C dx [])^n1.put a^.ins C [] []:=by
  have f:=(f1.grow g1).grow g2;refine#[λg hg=>f.1 g hg,λb k hk=>?_];have hk:(if b=a then P3 _ else n1.w b)=P3 k:=hk
  by_cases z:b=a
  .rw[if_pos z]at hk;cases hk;rw[z];exact#[dx,[],AM,rfl,rfl,rfl]
  .rw[if_neg z]at hk;exact f.2 b k hk
 have R2:=R1.step e2 f2;rw[cX];have r2:Paired (EW X.K C0.F C0.V M^Aq (Aq H1 dx^.own a) a^.vol^.ins C dx []) (V.ref a::vs) (.sh^.ob a::ss):=Paired.cons #[#[_,rfl,rfl,_,AM],rfl]^Paired.imp' (λv s h=>#[h.1.pres (R1.pres e2) (λ_ z=>z) e2 R.uV,h.2]) r1;refine#[(Paired.length r2).trans^hW _ _ _ p,_,_,_,M,_,_,_,#[R2.dom,R2.fU,R2.uV,R2.vM,f2,r2],p,λv H3 d n3 e3 f3 r3 #[ed,p3]=>?_];subst ed;refine#[r3,q (.ref a) H3 (.ob a) n3 ((e1.trans e2).trans e3) f3 #[rfl,?_] p3];let#[o',h,_]:=e3 a _ AM;exact#[o',h]
noncomputable def NB(w:DW):DW:=λn ρ P=>w n ρ λd n1=>LM d/\∀a,n1.w a=k_->P (.ob a)^n1.put a^.pl d
def IJ(h:DE X e .fr wo):DE X e .sh^NB wo:=by
 let#[t,h1,h2]:=h;refine#[_,Rb h1,λC0 M H n ρ Z P Q R w q=>?_];refine h2 C0 M H n ρ Z _ _ R w λv H1 d n1 e1 f1 #[a,ev,ha,tp] #[hd,p]=>?_;subst ev;have R1:=R.step e1 f1;have nM:¬M a:=λz=>by let#[o,h]:=R.dom a z;rw[ha]at h;cases h
 obtain⟨u,ck,hu,cell⟩:∃u,GS u/\H1 a=P3 u/\∀H2:Hp,H2 a=P3^.vol u->(∀b vs,H1 b=P3^.tup vs->H2 b=P3^.tup vs)->(∀b o,H1 b=P3 o->∃o',H2 b=P3 o')->CellOk X.K M H2 a^.pl d:=by
  cases d with
  |lst ds=>let#[vs,h1,h2]:=tp;exact#[.lst vs,trivial,h1,λH2 g t o=>#[nM,vs,g,hd,BD t o ds hd h2]]
  |dit ks ds=>let#[vs,h1,h2,h3]:=tp;exact#[.dT^ks.zip vs,trivial,h1,λH2 g t o=>#[nM,vs,g,h2,hd,BD t o ds hd h3]]
  |_=>exact(show False from hd).elim
 have vw:View H1^Aq H1 a^.vol u:=λb=>by
  by_cases z:b=a
  .rw[z];exact .inr #[u,ck,.inr #[hu,AM]]
  .exact .inl^AL z
 have ex:∀b o,H1 b=P3 o->∃o',Aq H1 a (.vol u) b=P3 o':=λb o h=>(fZ (b=a)).elim (λz=>by rw[z];exact#[_,AM]) λz=>#[o,by rw[AL z];exact h]
 have e2:Ext C0.U H^Aq H1 a^.vol u:=λb o h=>by
  let#[o',h',z]:=e1 b o h;exact#[o',by rw[AL^Ah h ha];exact h',z]
 have nv:∀b c,n1.w b=P3 c->b≠a:=λb c k z=>by
  subst z;have k:=f1.2 b c k;cases c with
  |ins C ks ds=>let#[_,_,h,_]:=k;rw[hu]at h;exact FU ck #[_,bz h]
  |pl d=>let#[_,_,_,h,_]:=k.pl;rw[hu]at h;exact FU ck #[_,bz h]
 have nw:n1.w a=k_:=by
  cases z:n1.w a with
  |none=>rfl
  |some c=>exact absurd rfl (nv a c z)
 refine#[_,vw,q (.ref a) _ (.ob a) _ e2 #[λg hg=>?_,λb k hk=>?_] #[rfl,_,AM]^p a nw]
 .let#[x,r,cs,g1,g2,g3,g4]:=f1.1 g hg
  let#[_,_,_,o1,_,o3,_]:=R.feed.1 g hg;exact#[x,r,cs,by rw[AL^Ah o1 ha];exact g1,g2,#[g3.1,by rw[AL^Ah o3.2 ha];exact g3.2],g4]
 .have hk:(if b=a then P3^Wc.pl d else n1.w b)=P3 k:=hk
  by_cases z:b=a
  .rw[if_pos z]at hk;cases hk;rw[z];exact cell _ AM (λb vs h=>vw.tup b vs h) ex
  .rw[if_neg z]at hk
   exact(f1.2 b k hk).to (λ_ _ z=>z) (λb vs h=>vw.tup b vs h) ex λu h=>by rw[AL z];exact h
noncomputable def Zu(T:String):D->Prop
 |.lst _=>T="list"
 |.dit _ _=>T="dict"
 |_=>False
noncomputable def Sx(T:String)(f:D->n_ D->(D->D->Prop)->Prop)(wo:DW)(ws:Dw):DW:=λn ρ P=>wo n ρ λx n1=>∃a,x=.ob a/\(∃d,n1.w a=P3^.pl d/\Zu T d)/\ws n1 ρ λds n2=>A8 ds=l_/\∃d,n2.w a=P3^.pl d/\f d ds λy z=>LM y/\flat z=l_/\P z^n2.put a^.pl y
def Eh{K:Frag}{M:Ch->Prop}{H:Hp}{a:Ch}{d:D}(h:CellOk K M H a^.pl d):Cells M H [a]/\Tops K (λb=>M b\/b=a) (GY H [a]) a d:=by
 have c:Cells M H [a]:=λb hb=>by
  rw[Op.mp hb];let#[h0,u,k,h1,_]:=h.pl;exact#[h0,u,k,h1]
 refine#[c,?_];cases d with
 |lst ds=>let#[h0,vs,h1,h2,h3]:=h;exact#[vs,c.un Re h1,BD c.pres.2.2.1 c.ex ds h2 h3]
 |dit ks ds=>let#[h0,vs,h1,h2,h3,h4]:=h;exact#[vs,c.un Re h1,h2,BD c.pres.2.2.1 c.ex ds h3 h4]
 |_=>exact h.elim
def S2{K:Frag}{M:Ch->Prop}{H:Hp}{a:Ch}{d:D}{T:String}(h:Tops K M H a d)(t:Zu T d):Y7 K T (.ref a) H:=by
 cases d with
 |lst ds=>let#[vs,h1,_]:=h;exact .inl #[t,vs,SqL.of h1]
 |dit ks ds=>let#[vs,h1,_]:=h;exact .inr^.inr^.inl #[t,.inr #[_,h1]]
 |_=>exact(show False from t).elim
def Ni{r:V->n_ V->Hp->VK->Prop}{f:D->n_ D->(D->D->Prop)->Prop}{C0:Fm}{M:Ch->Prop}{H:Hp}{n:Sg}{ρ:n_ Slot}{Z:L2.St}{a:Ch}{d:D}{ds:n_ D}{vs:n_ V}{P:D->Sg->Prop}{Q:VK}(R:Rel X.K C0 M H n ρ Z)(hA:Oa X.K r f)(hw:n.w a=P3^.pl d)(fl:A8 ds=l_)(hs:Ats X.K M H ds vs)
  (p:f d ds λy z=>LM y/\flat z=l_/\P z^n.put a^.pl y) (q:∀v H' z n',Ext C0.U H H'->FeedC X.K C0.F M H' n'->At X.K M H' z v->P z n'->Q v H'):View H^GY H [a]/\r (.ref a) vs (GY H [a]) λv H4=>∃H5,View H4 H5/\Q v H5:=by
 have k:=R.feed.2 a _ hw;let#[c,tp]:=Eh k;let#[nM,u,ck,hu,_]:=k.pl;refine#[c.view,hA (λb=>M b\/b=a) _ a d ds vs _ _ (.inr rfl) tp (BD c.pres.2.2.1 c.ex ds fl hs) p λo y z v t2 hz #[cy,fz,pp]=>?_];have out:∀b,b≠a->Aq (GY H [a]) a o b=H b:=λb z=>by rw[AL z,FF λh=>z^Op.mp h]
 have tu:∀b vs,Aq (GY H [a]) a o b=P3^.tup vs->Aq H a (.vol o) b=P3^.tup vs:=λb vs h=>by
  by_cases z:b=a
  .rw[z]at h;exact absurd h^t2.notT
  .rw[AL z,←out b z];exact h
 have ex:∀b x,Aq (GY H [a]) a o b=P3 x->∃o',Aq H a (.vol o) b=P3 o':=λb x h=>(fZ (b=a)).elim (λz=>by rw[z];exact#[_,AM]) λz=>#[x,by rw[AL z,←out b z];exact h]
 obtain⟨ck2,cell⟩:GS o/\CellOk X.K M (Aq H a^.vol o) a^.pl y:=by
  cases y with
  |lst es=>let#[us,g1,g2]:=t2;rw[AM]at g1;cases g1;exact#[trivial,nM,us,AM,cy,BD tu ex es cy g2]
  |dit ks es=>let#[us,g1,g2,g3]:=t2;rw[AM]at g1;cases g1;exact#[trivial,nM,us,AM,g2,cy,BD tu ex es cy g3]
  |_=>exact(show False from cy).elim
 refine#[Aq H a^.vol o,λb=>?_,q v _ z _ (IB hu) (R.feed.put hu cell) (IA tu ex z fz hz) pp]
 by_cases z:b=a
 .rw[z];exact .inr #[o,ck2,.inr #[AM,AM]]
 .rw[out b z];exact .inl^AL z
def OA{name:Str}{cpos:Pos}{T id:String}{r:V->n_ V->Hp->VK->Prop}{f:D->n_ D->(D->D->Prop)->Prop}{ws:Dw}(pa:gn T)(slot:PySem.Slot T name id)(hty:typeOf^.builtin id=pure^.type "method_descriptor")
  (hm:XY X id r) (hA:Oa X.K r f) (ho:DE X o zK wo) (ha:XZ X (e::es) ws)
  (hbase:autoParam (attributeBase o name X.env^eval o X.env=eval o X.env) zau3._auto_1)
  (hfew:autoParam (((backTo cpos^starEach (e::es) X.env).all (λx=>!x.1)&&(backToKw cpos^keywordEach [] X.env).all (λx=>x.1.isSome)
   && decide ((e::es).length+([]:n_ fX).length+(if([]:n_ fX).isEmpty then 0 else 1)<30))=l_) zau3._auto_1)
  (hline:autoParam ((apos.endLine==cpos.line)=l_) zau3._auto_1) (hs:autoParam (starEach (e::es) X.env=(m_,eval e X.env)::starEach es X.env) zau3._auto_1) (hplain:autoParam ((backTo cpos^starEach es X.env).any (·.1)=m_) zau3._auto_1):
  DE X (.Call (.Attribute o name apos) (e::es) [] cpos) .sh (Sx T f wo ws):=by
 let#[to,o1,o2]:=ho;let#[t,a1,a2]:=ha;refine#[_,YE pa slot hty hm o1 a1 hbase hfew hline hs hplain,λC0 M H n ρ Z P Q R w q=>?_];refine o2 C0 M H n ρ Z _ _ R w λv H1 d n1 e1 f1 r1 #[a,ed,#[d1,hw1,hT],w1]=>?_;subst ed;have ev:=FP^r1.tpOf R.dom R.vM;subst ev;have R1:=R.step e1 f1;let#[c1,tp1]:=Eh^f1.2 a _ hw1;refine#[#[_,c1.view,S2 tp1 hT],?_];refine a2 C0 M H1 n1 ρ Z _ _ R1 w1 λvs H2 ds n2 e2 f2 r2 #[fl,d2,hw2,p]=>?_;exact#[_,Ni (R1.step e2 f2) hA hw2 fl r2 p λv H3 z n3 e3 f3 r3 p3=>q v H3 z n3 ((e1.trans e2).trans e3) f3 r3 p3]
def Yi{name:Str}{cpos:Pos}{T id:String}{r:V->n_ V->Hp->VK->Prop}{f:D->n_ D->(D->D->Prop)->Prop}(pa:gn T)(slot:PySem.Slot T name id)(hty:typeOf^.builtin id=pure^.type "method_descriptor")
  (hm:XY X id r) (hA:Oa X.K r f) (ho:DE X o zK wo) (hbase:autoParam (attributeBase o name X.env^eval o X.env=eval o X.env) zau3._auto_1) (hline:autoParam ((apos.endLine==cpos.line)=l_) zau3._auto_1):
  DE X (.Call (.Attribute o name apos) [] [] cpos) .sh (Sx T f wo AQ):=by
 let#[to,o1,o2]:=ho;refine#[_,Vv pa slot hty hm o1 hbase hline,λC0 M H n ρ Z P Q R w q=>?_];refine o2 C0 M H n ρ Z _ _ R w λv H1 d n1 e1 f1 r1 #[a,ed,#[d1,hw1,hT],fl,d2,hw2,p]=>?_;subst ed;have ev:=FP^r1.tpOf R.dom R.vM;subst ev;have R1:=R.step e1 f1;rw[hw1]at hw2;cases hw2
 let#[c1,tp1]:=Eh^f1.2 a _ hw1;let#[v3,g]:=Ni (vs:=[]) (Q:=Q) R1 hA hw1 fl rfl p λv H3 z n3 e3 f3 r3 p3=>q v H3 z n3 (e1.trans e3) f3 r3 p3;exact#[_,v3,S2 tp1 hT,g]
end
end Dp
namespace L2
section
variable {X:Cx}{o i value:Expr}{pos pos':Pos}{td ty tv:TE}
noncomputable def Xy(td ty tv:TE):TS:=λD Z H=>tv Z H λv H1=>td Z H1 λx H2=>ty Z H2 λy H3=>∃a H4 H5 H6,x=.ref a/\View H3 H4/\DPut H4 a y v H5/\View H5 H6/\D.nx Z H6
def Tx(hu:X.A.units+1<cLine)(ho:PE X o td)(hi:PE X i ty)(hv:PE X value tv)(hs:swapsWith value (P3^.Subscript o i pos') pos.line X.env=pure m_):
  PS X (.Assign [.Subscript o i pos'] value pos) (Xy td ty tv):=by
 intro zG s Z H D I h;refine wpAny_Assign_Subscript (BF (hv _ s Z H _ I h) λr s1 #[v,H1,I1,rv,q1]=>BF (ho _ s1 Z H1 _ I1 q1) λu s2 #[x,H2,I2,rx,q2]=>BF (hi _ s2 Z H2 _ I2 q2) λiv s3 #[y,H3,I3,ry,a,H4,H5,H6,ex,v4,g,v6,q3]=>?_) hs;subst ex;obtain rfl:u=b_ a:=rx;exact LK hu (I3.view v4) g ry rv λs4 I4=>#[Z,H6,I4.view v6,q3]
noncomputable def Ti:n_ V->Hp->VK->Prop:=λxs H Q=>∃(d:Ch) (kvs:n_ (n_ Key×V)),xs=[.ref d]/\Rd H d^.dT kvs/\kvs.length<64 /\
 ∀(as:n_ Ch) (l:Ch),as.length=kvs.length->(∀(i:Nat) (a:Ch) (p:n_ Key×V),as[i]?=P3 a->kvs[i]?=P3 p->H a=P3^.tup^p.1.map kV)->H l=k_->Q (.ref l)^Aq H l^.lst^as.map V.ref
def Pp(hc:X.calm=l_):CallR X (.type "list") Ti:=by
 intro zG s Z H xs us Q I r h;let#[d,kvs,rfl,hd,h64,q]:=h;let#[u,rfl,rx]:=vals1 r;cases rx;let#[o,es,ep,as,g1,g2,g3,g4,g5,g6,g7]:=ID I.hok hd;have lo:=(DL I.hok hd).2.1;refine PySem.W.kdl_call (QJ (P:=X.prog) (w:=X.w) (es:=es) (ep:=ep) lo) (I.ok.hd hc) #[o,g1,g2,g3] (by rw[cZ];lk) λh' tk acc c' hk hl hacc=>?_
 have hv:acc=(as.map b_).toArray:=by
  refine Array.ext' ?_;refine iL λi=>?_;cases hx:acc.toList[i]? with
  |some v=>
   let#[e,he,rfl]:=hacc.2 i v (by rw[←fc];exact hx);let#[a,ha,hk]:=g6 i e he;show _=(as.map b_)[i]?;rw[XV,ha,hk];rfl
  |none=>
   have:acc.toList.length<=i:=iP.mp hx
   rw[cq,hacc.1]at this;show _=(as.map b_)[i]?;rw[fg^by rw[FM];lk]
 have hf:=I.hok.fresh^Rs s.heap.objs.size;refine#[.ref s.heap.objs.size,_,I.laid (t':=tk) (o:=.lst^as.map V.ref) hk (Rs _) #[by rw[FM,cZ];lk,as.map b_,c',GW as,by rw[←hv];exact hl],rfl,q as _ g4 g7 hf]
end
end L2
namespace Dp
open L2
noncomputable def Um(ds:n_ D)(P:D->Prop):Prop:=∃(ks:n_^n_ Key) (es:n_ D),ds=[.dit ks es]/\ks.length=es.length/\ks.length<64/\(∀k∈ks,∀x∈k,DZ x)/\P^.lst^ks.map tupK
def We{K:Frag}:B_ K .fr Ti Um:=by
 intro U M H ds vs P Q dom vM hp w q;let#[ks,es,rfl,hl,h64,hf,w]:=w;let#[v,rfl,hx]:=Dl hp;let#[a,us,rfl,ha,hs]:=Ji hx;have lu:=hs.length;have hz:(ks.zip us).length=ks.length:=by rw[d6];lk
 refine#[a,_,rfl,ha,by lk,λas l h1 h2 hn=>q _ _ _ (Ap hn) (CP hn^IY (by lk) hf λi b k eb ek=>?_) w];have hi:i<us.length:=by have:=(UF.mp ek).1;lk
 exact h2 i b (k,us[i]) eb^by rw[f7];exact#[ek,No hi]
noncomputable def Ql(d:D)(ds:n_ D)(P:D->D->Prop):Prop:=∃ks xs k key j x,d=.dit ks xs/\ds=[k]/\keysOf k=P3 key/\ks[j]?=P3 key/\xs[j]?=P3 x/\P (.dit (ks.eraseIdx j)^xs.eraseIdx j) x
noncomputable def Up(d:D)(ds:n_ D)(P:D->D->Prop):Prop:=∃xs,d=.lst xs/\ds=[]/\P (.lst []) .non
def Yt{K:Frag}:Oa K Tl Up:=by
 intro M H a d ds vs P Q m t hv w q;let#[xs,rfl,rfl,w]:=w;let#[us,h1,h2]:=t;cases(show vs=[]from hv);exact#[a,us,rfl,rfl,h1,q _ (.lst []) .non _ #[[],AM,rfl] rfl w]
theorem Uq{α β:Type}:∀(xs:n_ α) (ys:n_ β) (j:Nat),xs.length=ys.length->(xs.zip ys).eraseIdx j=(xs.eraseIdx j).zip^ys.eraseIdx j
 |[],[],_,_=>rfl
 |_::_,_::_,0,_=>rfl
 |x::xs,y::ys,j+1,h=>by show(x,y)::(xs.zip ys).eraseIdx j=(x,y)::(xs.eraseIdx j).zip^ys.eraseIdx j;rw[Uq xs ys j^by simpa using h]
def VF{K:Frag}:Oa K W3 Ql:=by
 intro M H a d ds vs P Q m t hv w q;let#[ks,xs,k,key,j,x,rfl,rfl,hk,hj,hx,w]:=w;let#[us,h1,h2,h3]:=t;let#[u,r,rfl,hu,hr]:=hv;cases(show r=[]from hr);let#[b,rfl,hb]:=Gn hk^At.tp (U:=λ_=>False) (λ_ z=>z.elim) hu;let#[v,ev,hv]:=h3.get hx;have pr:Pres M H M^Aq H a^.dT^(ks.zip us).eraseIdx j:=Cd m h1;refine#[a,b,_,key,j,v,rfl,rfl,h1,hb,by rw[f7];exact#[hj,ev],q _ (.dit (ks.eraseIdx j)^xs.eraseIdx j) x v #[us.eraseIdx j,?_,?_,(h3.eraseIdx j).pres pr] (hv.pres pr) w]
 .rw[AM,Uq _ _ _^h2.trans h3.length.symm]
 .rw[List.length_eraseIdx,List.length_eraseIdx,h2]
section
variable {X:Cx}{a b c o:Expr}{κ zU zR zK:Kd}{wa wb wo:DW}{pos pos':Pos}
noncomputable def Wl(wo wk wv:DW):Ac:=λD2 n ρ=>wv n ρ λd n1=>flat d=l_/\wo n1 ρ λx n2=>wk n2 ρ λk n3=>∃l key ks ds,x=.ob l/\keysOf k=P3 key/\n3.w l=P3^.pl^.dit ks ds/\ks.length<sizeLine/\D2.nx (n3.put l^.pl^.dit (D7 ks key)^CD ks ds key d) ρ
theorem JB{k:n_ Key}{d:D}(hd:flat d=l_):∀{ks:n_^n_ Key}{ds:n_ D},A8 ds=l_->A8^d_ (λk0 d0=>if k0=k then d else d0) ks ds=l_
 |[],_,_=>rfl
 |_::_,[],_=>rfl
 |k0::ks,d0::ds,h=>by
  have h:(flat d0&&A8 ds)=l_:=h;rw[cP]at h;show(flat (if k0=k then d else d0)&&A8 _)=l_;rw[JB hd h.2,Bool.and_true]
  split
  .exact hd
  .exact h.1
theorem De:∀{xs ys:n_ D},A8 xs=l_->A8 ys=l_->A8 (xs++ys)=l_
 |[],_,_,h=>h
 |x::xs,ys,h,g=>by
  have h:(flat x&&A8 xs)=l_:=h;rw[cP]at h;show(flat x&&A8 (xs++ys))=l_;rw[h.1,De h.2 g];rfl
def WL{k:Nat}(hr:Room k X.A)(ho:DE X o zK wo)(ha:DE X a zU wa)(hb:DE X b zR wb)(hk:autoParam (zR≠.tp) zau7._auto_1)
  (hs:autoParam (swapsWith b (P3^.Subscript o a pos') pos.line X.env=pure m_) zau3._auto_1):DS X κ (.Assign [.Subscript o a pos'] b pos)^Wl wo wa wb:=by
 let#[t,h1,h2]:=ha;let#[u,g1,g2]:=hb;let#[to,o1,o2]:=ho;refine#[_,Tx (F7 hr) o1 h1 g1 hs,λC M H n ρ Z D2 E R L w=>?_];refine g2 C M H n ρ Z _ _ R w λv H1 d n1 e1 f1 r1 #[fl,w1]=>?_;have R1:=R.step e1 f1;refine o2 C M H1 n1 ρ Z _ _ R1 w1 λx H2 d2 n2 e2 f2 r2 w2=>?_;have R2:=R1.step e2 f2;refine h2 C M H2 n2 ρ Z _ _ R2 w2 λy H3 d3 n3 e3 f3 r3 #[l,key,ks,ds,ed,hkey,hw,hl,p]=>?_;have R3:=R2.step e3 f3;subst ed;have hx:=FP^r2.tpOf R1.dom R1.vM;subst hx;let#[c,us,t1,t2,t3]:=Eh^f3.2 l _ hw;let#[nM,us',q1,q2,q3,q4]:=f3.2 l _ hw;have t1':=c.un Re q1;have hu:=bz^t1'.symm.trans t1;let#[b',rfl,hb']:=Gn hkey^r3.tpOf R2.dom R2.vM;have lu:ks.length=us'.length:=q2.trans q4.length.symm;refine#[l,GY H3 [l],_,Aq H3 l^.vol^.dT^putK (ks.zip us') key v,rfl,c.view,DPut.t t1' (c.keep hb'^by rintro⟨_,z⟩;cases z) (by rw[d6];lk),λb0=>?_,?_]
 .by_cases z:b0=l
  .rw[z];exact .inr #[.dT _,trivial,.inr #[AM,AM]]
  .rw[AL z,AL z];exact .inl (FF λh=>z^Op.mp h).symm
 .have x3:=IB (U:=C.U) (u':=.dT^putK (ks.zip us') key v) q1
  have hd:At X.K M H3 d v:=((r1.shOf R.dom hk).pres^R1.pres e2).pres^R2.pres e3;refine L.nx M _ _ ρ Z (R3.step x3^f3.put (c:=.pl^.dit (D7 ks key)^CD ks ds key d) q1 #[nM,CD ks us' key v,?_,Ts q2,?_,(Ats.putXU hd q4).pres^R3.pres x3]) p
  .rw[AM,RX lu]
  .unfold CD
   split
   .exact JB fl q3
   .exact De q3^by show(flat d&&l_)=l_;rw[fl];rfl
noncomputable def Sw(k1 k2:Str)(w1 w2:DW):DW:=λn ρ P=>w1 n ρ λd1 n1=>w2 n1 ρ λd2 n2=>P (.dic [.inr k1,.inr k2] [d1,d2]) n2
def U3{k1 k2:Str}{j1 j2:Nat}{p1 p2:Pos}(ha:DE X a zU wa)(hb:DE X b zR wb)(hne:autoParam (k1≠k2) zau1._auto_1)(h1k:autoParam (decide (k1.length<=1000)=l_) zau3._auto_1)(h2k:autoParam (decide (k2.length<=1000)=l_) zau3._auto_1)(hka:autoParam (zU≠.tp) zau7._auto_1)(hkb:autoParam (zR≠.tp) zau7._auto_1):DE X (.Dict [P3^.Constant (.str k1) j1 p1,P3^.Constant (.str k2) j2 p2] [a,b] pos) .fr^Sw k1 k2 wa wb:=by
 let#[t,h1,h2]:=ha;let#[u,g1,g2]:=hb;refine#[_,QU (JC PH h1^JC PH g1 QQ) rfl rfl (dG _ _) (by show 2<=15;decide),λC M H n ρ Z P Q R w q=>λp hp=>?_];have R1:=R.hold (o:=.dK []) hp
 have np:¬C.U p:=λz=>by
  let#[o,w]:=R.dom p^R.vM p^R.uV p z;rw[hp]at w;cases w
 refine h2 C _ _ n ρ Z _ _ R1 w λx H2 d1 n1 e1 f1 r1 p1=>?_;have R2:=R1.step e1 f1;refine g2 C _ _ n1 ρ Z _ _ R2 p1 λy H3 d n2 e2 f2 r2 p2=>?_;have R3:=R2.step e2 f2;have hat1:At X.K (λb=>M b\/b=p) H3 d1 x:=(r1.shOf R1.dom hka).pres^R2.pres e2;have hat2:At X.K (λb=>M b\/b=p) H3 d y:=r2.shOf R2.dom hkb;have hp3:H3 p=P3^.dK []:=e2.keep (e1.keep AM np) np;refine#[hp3,[(.inr k1,x),(.inr k2,y)],?_,by show 2<=15;decide,?_]
 .rfl
 rw[show FQ [] [((.inr k1:Key),x),(.inr k2,y)]=[(.inr k1,x),(.inr k2,y)] by simp[FQ,putK,hne]];refine q _ _ (.dic [.inr k1,.inr k2] [d1,d]) n2 (λb o eb=>?_) ?_ #[p,rfl,hp,[x,y],AM,rfl,?_] p2
 .have nb:b≠p:=Ah eb hp
  let#[o1,z1,k1,t1]:=e1 b o (by rw[AL nb];exact eb);let#[o2,z2,k2,t2]:=e2 b o1 z1;exact#[o2,by rw[AL nb];exact z2,λnu nv=>(k2 nu^by rw[k1 nu nv];exact nv).trans^k1 nu nv,λvs z=>(t2 vs^(t1 vs z).trans z).trans^t1 vs z]
 .refine f2.pres #[λb o eb nb _=>by rw[AL λz=>nb^.inr z];exact eb,λb z=>.inl^.inl z,λb vs eb=>by rw[AL λz=>by rw[z,hp3]at eb;cases eb];exact eb,λb o eb=>(fZ (b=p)).elim (λz=>by rw[z];exact#[_,AM]) λz=>#[o,by rw[AL z];exact eb]] (λf o hf eb=>?_) λb u eb=>by rw[AL λz=>by rw[z,hp3]at eb;cases eb];exact eb
  rw[AL λz=>np^by rw[←z];exact R.fU f hf];exact eb
 .exact#[x,[y],rfl,hat1.pres^Cd (.inr rfl) hp3,y,[],rfl,hat2.pres^Cd (.inr rfl) hp3,rfl]
end
end Dp
namespace L2
section
variable {X:Cx}
def TK{P:cH}{w:cN}{A:cW}{E:Db->Go->Prop}{s:Go}{nm:String}{a b:Ch}{es es2:Array fK}{ep ep2:Nat}{Q:Bool->Go->Prop}(ha:(a==sysModules)=m_)(hb:(b==sysModules)=m_)(da:DRaw s.heap a es ep)(db:DRaw s.heap b es2 ep2)(h0:es2.size=0)
  (h:Q (decide (es.size=0)) s):wpAny (model P w) A (ir nm a b) Q E s:=by
 let#[oa,a1,a2,a3]:=da;let#[ob,b1,b2,b3]:=db;unfold ir gg;rw[if_neg (show ¬(a==sysModules)=l_ by rw[ha];exact cD),if_neg (show ¬(b==sysModules)=l_ by rw[hb];exact cD)];refine Cn^On^Cn^On ?_;refine Cn^dk a1 a3 ?_
 dsimp only
 refine Cn^dk b1 b3 ?_
 by_cases hsz:es.size=0
 .rw[if_neg^by rw[hsz,h0];simp]
  refine Cn^gw a1 a3 ?_;refine Cn ?_;rw[Std.Legacy.Range.forIn_eq_forIn_range'];simp only[Std.Legacy.Range.size,Nat.sub_zero,Nat.add_sub_cancel,Nat.div_one,hsz,List.range'_zero,iw];rw[decide_eq_true hsz]at h;exact On^On h
 .rw[if_pos^by rw[h0];simpa using hsz]
  rw[decide_eq_false hsz]at h;exact Cn^gH^On h
noncomputable def ZY:R2:=λx y H Q=>∃a b kvs,x=.ref a/\y=.ref b/\Rd H a^.dT kvs/\Rd H b^.dK []/\Q (.bl (!decide (kvs.length=0))) H
def YG{k:Nat}(hr:Room k X.A):OpR X (compareOp .NotEq) ZY:=by
 intro zG s Z H x y v u Q I rx ry h;let#[a,b,kvs,rfl,rfl,h1,h2,q]:=h;cases rx;cases ry;let#[o,es,ep,as,g1,g2,g3,g4,g5,g6,g7]:=ID I.hok h1;have la:=(DL I.hok h1).2.1;let#[_,lb,w2,k2,D2]:=E5 I.hok h2;let#[ob,es2,ep2,hob,hcb,hdb,hkb,hpb,_]:=id D2;have da:DRaw s.heap a es ep:=#[o,g1,g2,g3]
 have h0:es2.size=0:=by
  have e1:=hpb.length;have e2:=k2.length;have e3:es2.toList.length=es2.size:=cq;rw[dR]at e2;lk
 refine wpAny_richCompare_same_room (op:=.NotEq) da.ty D2.typeIs PySem.F.slot_dict_ne (dP PySem.F.slot_dict_ne da.ty PySem.F.entry_dict_ne ?_^PySem.F.args_dict_ne_2 _ _) hr.units0;show wpAny _ _ (iQ "__ne__" #[[.ref a,.ref b],[]] >>=_) _ _ s;refine Cn ?_;unfold iQ;refine Cn^gf da.ty ?_;show wpAny _ _ (pure (b_ a,b_ b)) _ _ s;refine On ?_;refine Cn^gY (T:="dict") D2.typeIs PySem.F.sub_dict_dict ?_;simp only[Bool.not_true,cm,if_false];refine Cn^On^Cn^On ?_;refine Cn^TK la lb da #[ob,hob,hcb,hdb] h0 ?_;refine On #[_,rfl,(λx=>nomatch x),?_];have e:es.size=kvs.length:=by first|exact g5|omega
 rw[e];refine#[.bl _,H,I,?_,q];show fh _=fh _;simp
def KY{P:cH}{w:cN}{d:Ch}{es:Array fK}{ep:Nat}(lo:(d==sysModules)=m_):
  MeetsIn P w (ej.«dict.__len__» #[[.ref d],[]]) (λ_ R s=>DRaw s.heap d es ep/\R (.ok^.ret^.int es.size s.toks) {s with toks:=s.toks+1}):=
 .of_wp λA R s #[hm,h]=>by
  let#[o,ho,hc,hdat]:=hm;show wpAny _ _ (dictSize d >>=_) _ _ s;unfold dictSize;refine Cn^Cn^dk ho hdat^On ?_;show wpAny _ _ (Builtin.Dict.pendingCount d >>=_) _ _ s;refine Cn^wpAny_pendingCount_other lo ?_;refine wpAny_ret_mkInt ?_;rw[Nat.add_zero];exact h
def SM:CallR X (.builtin "len") (λxs H Q=>∃a kvs,xs=[V.ref a]/\Rd H a^.dT kvs/\Q (.int kvs.length) H):=by
 intro zG s Z H xs us Q I r h;let#[a,kvs,rfl,ha,q]:=h;let#[u,rfl,ru]:=vals1 r;cases ru;let#[z,lo,_]:=DL I.hok ha;let#[o,es,ep,as,h1,h2,h3,h4,h5,_]:=ID I.hok ha;have dr:DRaw s.heap a es ep:=#[o,h1,h2,h3];have szl:=PySem.sizeLine_eq;refine Calls.call_function_entry kind_len plain_len entry_len (args_len1 _) ?_;unfold ej.«len»;refine Cn (m:=oneArg "len" _)^On ?_
 refine Cn (m:=callSpecial? (.ref a)^dY "__len__") (c6 (name:=dY "__len__") dr.ty F.slot_dict_len
  (fY F.slot_dict_len dr.ty F.entry_dict_len (F.args_dict_len_1 _) (KY lo) #[dr,?_]))
 show wpAny _ _ _ _ _ {s with toks:=s.toks+1};refine Cn^dD^On ?_;refine Cn^eU ?_;show wpAny _ _ (if((es.size:Nat):Int)<0 then _ else _) _ _ _;rw[if_neg^by lk];show wpAny _ _ (if((es.size:Nat):Int)≥2 ^ 63 then _ else _) _ _ _;rw[if_neg^by lk];rw[h5];exact Cn^wpAny_mkInt^On #[_,rfl,.int kvs.length,H,I.tok _,#[_,rfl],q]
end
end L2
namespace Dp
open L2
noncomputable def Yc(d e:D)(P:D->Prop):Prop:=∃ks ds,d=.dit ks ds/\ks.length=ds.length/\e=.dic [] []/\P^.bl (!decide (ks.length=0))
def Z8{K:Frag}:El K .sh ZY Yc:=λU M H d e x y P Q dom vM hx hy w q=>by
 let#[ks,ds,rfl,hl,rfl,w]:=w;let#[a,vs,rfl,ha,hs]:=Ji hx;let#[b,us,rfl,_,hb,_,hs2]:=hy;have e:(ks.zip vs).length=ks.length:=by rw[d6,hs.length];lk
 refine#[a,b,_,rfl,rfl,ha,.inl hb,?_];rw[e];exact q _ H (.bl _) .refl rfl w
noncomputable def Uo(ds:n_ D)(P:D->Prop):Prop:=∃ks es,ds=[.dit ks es]/\ks.length=es.length/\P^.int (ks.length:Int)
def Yr{K:Frag}:B_ K .sh (λxs H Q=>∃a kvs,xs=[V.ref a]/\Rd H a^.dT kvs/\Q (.int kvs.length) H) Uo:=by
 intro U M H ds vs P Q dom vM hp w q;let#[ks,es,rfl,hl,w]:=w;let#[v,rfl,hx]:=Dl hp;let#[a,us,rfl,ha,hs]:=Ji hx;have e:(ks.zip us).length=ks.length:=by rw[d6,hs.length];lk
 refine#[a,_,rfl,ha,?_];rw[e];exact q _ H (.int _) .refl rfl w
end Dp
namespace L2
section
variable {X:Cx}{zG:n_ (Addr×Obj)}{Z:St}{H:Hp}{s:Shared}
def Ow{A':cW}{E':Db->Go->Prop}{ss:n_ Str}{us:n_ Db}{Q:VK}(I:Inv X zG Z H s)(hS:StrsAre us ss)(h64:us.length<64)
  (q:∀(ss':n_ Str) (l:Ch),ss'.Perm ss->sortedS ss'=l_->H l=k_->Q (.ref l)^Aq H l^.lst^ss'.map V.str):
  wpAny (model X.prog X.w) A' (ej.«list.sort» #[[.ref s.heap.objs.size],[]]) (λfin s'=>fin=.done^.ret .none/\EP X zG Z Q (.ref s.heap.objs.size) s') E' {s with heap:=s.heap.push^seqObj "list" us.toArray 0}:=by
 have ho:(s.heap.push^seqObj "list" us.toArray 0).get? s.heap.objs.size=P3^seqObj "list" us.toArray 0:=Sc _ rfl;refine list_sort_treeK strKind_oneLt ho hS.keysOf (λv₁ v₂ rest e=>keyKind_strs^by rw[←e];exact hS) h64 λst' hp hs=>#[rfl,?_];let#[ss',h1,h2,h3]:=sorted_out_str hS hp hs;let#[e,he]:=sortedHeap_at (out:=(arrOf st').map (·.2)) ho;have hf:H s.heap.objs.size=k_:=I.fresh;have l1:=(B0 h1).length;have l2:=(B0 hS).length;have l3:=h2.length_eq;rw[FM]at l1 l2;refine#[.ref s.heap.objs.size,Aq H s.heap.objs.size^.lst^ss'.map V.str,I.laid (t':=s.toks) (λb o z=>?_) (Rs _) #[by rw[FM,cZ];lk,_,e,B0 h1,he],rfl,q ss' _ h2 h3 hf];rw[sortedHeap_old (b9^Tk z)^by rw[size_push'];exact di^Tk z];exact Ev _ z
end
end L2
namespace Dp
open L2
end Dp
namespace L2
section
variable {X:Cx}
noncomputable def Te(K:Frag):n_ V->Hp->VK->Prop:=λxs H Q=>∃(p:Ch) (ss:n_ Str),xs=[.ref p]/\SqT K H p^ss.map V.str/\ss.length<64/\∀(ss':n_ Str) (l:Ch),ss'.Perm ss->sortedS ss'=l_->H l=k_->Q (.ref l)^Aq H l^.lst^ss'.map V.str
def Po:CallR X (.builtin "sorted")^Te X.K:=by
 intro zG s Z H xs us Q I r h;let#[p,ss,rfl,hq,h64,q]:=h;let#[u,rfl,rx]:=vals1 r;cases rx;exact Cc (args_sorted1 _) (λx=>args_list_sort _)^Jp (κ:=m_) I hq λus s1 r1 hz I1=>#[by rw[←r1.length];exact hz,Ow I1 (Ig r1) (by have:=r1.length;rw[FM]at this;lk) q]
end
end L2
namespace Dp
open L2
noncomputable def Uk(ds:n_ D)(P:D->Prop):Prop:=∃ss:n_ Str,ds=[.tup^ss.map .str]/\ss.length<64/\∀ss':n_ Str,ss'.Perm ss->sortedS ss'=l_->P^.lst^ss'.map .str
def Wd{K:Frag}:B_ K .fr (Te K) Uk:=by
 intro U M H ds vs P Q dom vM hp w q;let#[ss,rfl,h64,w]:=w;let#[v,rfl,hx]:=Dl hp;let#[a,us,rfl,ha,hs]:=hx.tup
 have h2:∀{ss:n_ Str}{us:n_ V},Ats K M H (ss.map D.str) us->us=ss.map V.str:=by
  intro ss
  induction ss with
  |nil=>intro us h;exact h
  |cons x ss ih=>
   rintro us ⟨v,r,e,h1,h2⟩;rw[e,h1.1,ih h2];rfl
 have e:=h2 hs;subst e;exact#[a,ss,rfl,ha.sq,h64,λss' l h1 h2 hl=>q _ _ _ (Ap hl) (CP hl^Ats.strs λx hx=>hs.strs_le x^h1.mem_iff.mp hx)^w _ h1 h2]
end Dp
namespace Nt
open L2 Dp
noncomputable def tD(t b:Int):D:=.tup [.int t,.int b]
noncomputable def VY(t b:Int):Prop:=1<=b/\b<=1000000/\1<=t/\t<=1000000
noncomputable def kc(C:Ch)(t b:Int)(N M:Net):Wc:=.ins C ["times","whole","kept"] [tD t b,enc N,enc M]
noncomputable def IsT(N:Net)(t b:Int)(M:Net):Prop:=∃ord:n_ A_,ord.Perm N.ts/\FW ord/\M=sub N^CZ N t b [] ord
noncomputable def OutT(A B l:n_ A_):Prop:=l.Perm (A.filter λt=>decide (t∉B))/\FW l
noncomputable def U9(n:Sg)(l1 l2:Ch)(x y:n_ A_):Sg:=(n.put l1^.pl^.lst^x.map An).put l2^.pl^.lst^y.map An
noncomputable def Lb(C:Ch)(n:Sg)(a:Ch)(t b:Int)(M N:Net)(P:D->Sg->Prop):Prop:=∀(T:Net) (came went:n_ A_) (l1 l2:Ch),IsT N t b T->OutT T.ts M.ts came->OutT M.ts T.ts went->n.w l1=k_->n.w l2=k_->l1≠l2->P (.tup [.ob l1,.ob l2])^U9 (n.put a^kc C t b N T) l1 l2 came went
noncomputable def SN(x y:Str)(u:A_):Prop:=(u.a=x/\u.b=y)\/(u.a=y/\u.b=x)
noncomputable def BE(x y:Str)(u:A_):Bool:=@decide (SN x y u)^eO _
noncomputable def SR(x:Str)(u:A_):Bool:=@decide (u.a=x\/u.b=x)^eO _
noncomputable def IN:W2:=λss n P=>∃N M:Net,ss=[.sh^enc N,.sh^enc M]/\okN N/\okN M/\∀l,OutT N.ts M.ts l->P (.lst^l.map An) n
noncomputable def GN:W2:=λss n P=>∃(N:Net) (us:n_ A_),ss=[.sh^enc N,.br^.lst^us.map An]/\okN N/\(∀u∈us,u∈N.ts)/\P (enc #[N.ps,N.ts.filter λt=>decide (t∉us)]) n
noncomputable def J5:W2:=λss n P=>ss=[.fd]/\1<=n.n/\∀t b:Int,1<=b->b<=t->t<=1000000->P (tD t b) (n - 1)
noncomputable def M6(C:Ch):W2:=λss n P=>∃(a:Ch) (t b:Int),ss=[.sh^.ob a,.sh^tD t b]/\n.w a=P3^.ins C [] []/\P .non^n.put a^kc C t b #[[],[]] #[[],[]]
noncomputable def Dh(C:Ch):W2:=λss n P=>∃(a:Ch) (t b:Int) (N0 M N:Net),ss=[.sh^.ob a,.sh^enc N]/\n.w a=P3^kc C t b N0 M/\okN N/\okN M/\VY t b/\Lb C n a t b M N P
noncomputable def VN(C:Ch)(n:Sg)(a:Ch)(t b:Int)(N M:Net):Prop:=n.w a=P3^kc C t b N M/\okN N/\okN M/\VY t b
noncomputable def FZ(C:Ch):W2:=λss n P=>∃(a:Ch) (t b:Int) (N M:Net) (x:Str),ss=[.sh^.ob a,.sh^.str x]/\VN C n a t b N M/\x∈N.ps/\P .non n
noncomputable def GO(C:Ch):W2:=λss n P=>∃(a:Ch) (t b:Int) (N M:Net) (x y:Str),ss=[.sh^.ob a,.sh^.str x,.sh^.str y]/\VN C n a t b N M/\x∈N.ps/\y∈N.ps/\x≠y/\P (.lst^(N.ts.filter^BE x y).map An) n
noncomputable def Mu(C:Ch):W2:=λss n P=>∃(a:Ch) (t b:Int) (N M:Net) (x y:Str) (u:A_),ss=[.sh^.ob a,.sh^.str x,.sh^.str y]/\VN C n a t b N M/\x∈N.ps/\y∈N.ps/\x≠y/\N.ts.filter^BE x y=[u]/\P (An u) n
inductive Dd where
 |come (x:Str)|go (x:Str)|lay (x y:Str) (l:Int)|take (x y:Str)
noncomputable def LH:Dd->D
 |.come x=>.tup [.str "come",.str x]
 |.go x=>.tup [.str "go",.str x]
 |.lay x y l=>.tup [.str "lay",.str x,.str y,.int l]
 |.take x y=>.tup [.str "take",.str x,.str y]
noncomputable def lo(x y:Str):Str:=if cs x<cs y then x else y
noncomputable def hi(x y:Str):Str:=if cs x<cs y then y else x
noncomputable def P5(N:Net):Dd->Net->Prop
 |.come x,N'=>JU x/\x∉N.ps/\N'.ps.Perm (x::N.ps)/\N'.ts=N.ts
 |.go x,N'=>x∈N.ps/\N'=#[N.ps.filter λy=>decide (y≠x),N.ts.filter λu=>!SR x u]
 |.lay x y l,N'=>x∈N.ps/\y∈N.ps/\x≠y/\1<=l/\l<=1000000/\N'.ps=N.ps/\N'.ts.Perm (#[lo x y,hi x y,l]::N.ts.filter λu=>!BE x y u)
 |.take x y,N'=>(∃u,N.ts.filter^BE x y=[u])/\x∈N.ps/\y∈N.ps/\x≠y/\N'=#[N.ps,N.ts.filter λu=>!BE x y u]
noncomputable def N2(N:Net):Prop:=N.ps.length<=20/\N.ts.length<=50
noncomputable def M7(C:Ch):W2:=λss n P=>∃(a:Ch) (t b:Int) (N M N':Net) (x:Str),ss=[.sh^.ob a,.sh^.str x]/\VN C n a t b N M/\N2 N/\P5 N (.come x) N'/\okN N'/\Lb C n a t b M N' P
noncomputable def VL(C:Ch):W2:=λss n P=>∃(a:Ch) (t b:Int) (N M N':Net) (x:Str),ss=[.sh^.ob a,.sh^.str x]/\VN C n a t b N M/\N2 N/\P5 N (.go x) N'/\okN N'/\Lb C n a t b M N' P
noncomputable def P2(C:Ch):W2:=λss n P=>∃(a:Ch) (t b:Int) (N M N':Net) (x y:Str) (l:Int),ss=[.sh^.ob a,.sh^.str x,.sh^.str y,.sh^.int l]/\VN C n a t b N M/\N2 N/\P5 N (.lay x y l) N'/\okN N'/\Lb C n a t b M N' P
noncomputable def Mv(C:Ch):W2:=λss n P=>∃(a:Ch) (t b:Int) (N M N':Net) (x y:Str),ss=[.sh^.ob a,.sh^.str x,.sh^.str y]/\VN C n a t b N M/\N2 N/\P5 N (.take x y) N'/\okN N'/\Lb C n a t b M N' P
noncomputable def J8(C:Ch):W2:=λss n P=>∃(a:Ch) (t b:Int) (N M:Net),ss=[.sh^.ob a]/\n.w a=P3^kc C t b N M/\P (enc N) n
noncomputable def J6(C:Ch):W2:=λss n P=>∃(a:Ch) (t b:Int) (N M:Net),ss=[.sh^.ob a]/\n.w a=P3^kc C t b N M/\P (enc M) n
noncomputable def GP(C:Ch):W2:=λss n P=>∃(a:Ch) (t b:Int) (N M:Net) (x y:Str),ss=[.sh^.ob a,.sh^.str x,.sh^.str y]/\VN C n a t b N M/\N.ps=M.ps/\x∈N.ps/\y∈N.ps/\∀o,Far M x y o->P (Ek o) n
noncomputable def tk(u:A_):n_ Key:=[.inr u.a,.inr u.b]
noncomputable def J9(ps:n_ Str):D:=.lst^ps.map .str
noncomputable def G8(us:n_ A_):D:=.dit (us.map tk)^us.map λu=>.int u.len
noncomputable def P4(N:Net)(ps:n_ Str)(us:n_ A_):Prop:=N.ps.Perm ps/\N.ts.Perm us/\okN N
noncomputable def Hw(x y:D):D:=.dic [.inr "places",.inr "ties"] [x,y]
noncomputable def DQ:W2:=λss n P=>∃(N:Net) (ps:n_ Str) (us:n_ A_),ss=[.sh^Hw (J9 ps)^G8 us]/\P4 N ps us/\P (enc N) n
noncomputable def IM:W2:=λss n P=>∃x y:Str,ss=[.sh^.str x,.sh^.str y]/\JU x/\JU y/\x≠y/\P (.tup [.str^lo x y,.str^hi x y]) n
noncomputable def Q4:W2:=λss n P=>∃(l t:Ch) (N N':Net) (ps:n_ Str) (us:n_ A_) (d:Dd),ss=[.sh^Hw (.ob l)^.ob t,.sh^LH d]/\l≠t/\n.w l=P3^.pl^J9 ps/\n.w t=P3^.pl^G8 us/\P4 N ps us/\P5 N d N'/\okN N' /\
 ∀(n':Sg) (ps':n_ Str) (us':n_ A_),n'.n=n.n->n'.w l=P3^.pl^J9 ps'->n'.w t=P3^.pl^G8 us'->P4 N' ps' us'->(∀b,b≠l->b≠t->n'.w b=n.w b)->P .non n'
noncomputable def IL(C:Ch):W2:=λss n P=>∃(a:Ch) (t b:Int) (N M N':Net) (d:Dd),ss=[.sh^.ob a,.sh^LH d]/\VN C n a t b N M/\N2 N/\P5 N d N'/\okN N'/\Lb C n a t b M N' P
noncomputable def Ei:W2:=λss n P=>∃M T:Net,ss=[.sh^enc M,.sh^enc T]/\okN M/\okN T/\∀came went,OutT T.ts M.ts came->OutT M.ts T.ts went->P (.tup [.lst^came.map An,.lst^went.map An]) n
noncomputable def IQ:W2:=λss n P=>∃(N:Net) (ps:n_ Str) (us:n_ A_) (pool:n_ Str) (k:Int),ss=[.fd,.sh^Hw (J9 ps)^G8 us,.sh^.tup^pool.map .str,.sh^.int k]/\P4 N ps us/\pool.Nodup/\(∀x∈pool,JU x)/\2<=pool.length/\pool.length<=20/\(∀x∈ps,x∈pool)/\us.length<=50/\0<=k/\k<=4/\5<=n.n /\
 ∀(d:Dd) (m:Nat),(match d with|.come x=>x∈pool/\x∉ps|.go x=>x∈ps|.lay x y l=>x∈ps/\y∈ps/\x≠y/\1<=l/\l<=1000000|.take x y=>∃u∈us,SN x y u)->n.n<=m+5->P (LH d) #[m,n.w]
noncomputable def IP(C:Ch):W2:=λss n P=>∃(a:Ch) (t b:Int) (N M:Net),ss=[.fd,.sh^.ob a,.sh^enc M]/\VN C n a t b N M/\N.ps=M.ps/\2<=n.n/\∀m:Nat,n.n<=m+2->P (.bl l_) #[m,n.w]
noncomputable def HX:Ac:=(As^Aa Di^AE (AK^AA 0)^AE (Bc^CV [P3 1,k_] (BS^AV A1 (AA 0)^wC^D.int 1) (Az 1) (AX^AV (Hq l_) (AA 1)^Ar 0)^AA 1) AS)
noncomputable def FC(C_Keeper:Ch):Ac:=(AW (Ko C_Keeper "times" (AA 0)^AA 1)
 (AW (Ko C_Keeper "whole" (AA 0)^A3^AD (A3 AQ)^AD (A3 AQ) AQ)
 (Ko C_Keeper "kept" (AA 0)^A3^AD (A3 AQ)^AD (A3 AQ) AQ)))
noncomputable def GI(C_Keeper:Ch):Ac:=(AW (Au 2^Ct C_Keeper "kept"^AA 0)
 (AW (Ko C_Keeper "whole" (AA 0)^AA 1)
 (AW (Ko C_Keeper "kept" (AA 0)^Aa CS^AE (AK^AA 1)^AE (AK^Ct C_Keeper "times"^AA 0) AS)
 (As^A3^AD (NB^Aa IN^AE (AK^Ct C_Keeper "kept"^AA 0)^AE (AK^AA 2) AS)^AD (NB^Aa IN^AE (AK^AA 2)^AE (AK^Ct C_Keeper "kept"^AA 0) AS) AQ))))
noncomputable def ER(C_Keeper:Ch):Ac:=(BC (AX^AV (Hq l_) (AA 1)^AV A1 (Ct C_Keeper "whole"^AA 0)^wC^D.int 0) FD Ao)
noncomputable def C1(C_Keeper:Ch):Ac:=(AW (CL^BQ C_Keeper "ask_place" (FZ C_Keeper) (AA 0)^AE (AK^AA 1) AS)
 (AW (CL^BQ C_Keeper "ask_place" (FZ C_Keeper) (AA 0)^AE (AK^AA 2) AS)
 (As^CV [P3 1,P3 2,k_] (BS^AV A1 (Ct C_Keeper "whole"^AA 0)^wC^D.int 1) (Az 2) (AX^AV Ye (aM Ul (AA 2) Hu^P8^wC^D.int 2)^A3^AD (Be N3^AD (AA 0)^AD (AA 1) AQ)^AD (Be N4^AD (AA 0)^AD (AA 1) AQ) AQ)^AA 2)))
noncomputable def DP(C_Keeper:Ch):Ac:=(AW (Au 3^BQ C_Keeper "ties_between" (GO C_Keeper) (AA 0)^AE (AK^AA 1)^AE (AK^AA 2) AS)
 (AW (BC (G6^Ss^Ar 3) FD Ao)
 (As^AV A1 (Ar 3)^wC^D.int 0)))
noncomputable def LV(C_Keeper:Ch):Ac:=(AW (BC (AX^AV (Hq m_) (AA 1)^AV A1 (Ct C_Keeper "whole"^AA 0)^wC^D.int 0) FD Ao)
 (AW (BC (AX^AV (Ee m_) (Be DK^AD (AV A1 (Ct C_Keeper "whole"^AA 0)^wC^D.int 0) AQ)^wC^D.int 24) FD Ao)
 (As^BQ C_Keeper "turn_to" (Dh C_Keeper) (AA 0)^AE (AK^A3^AD (Be Br^AD (Be Uk^AD (AV BZ (AV A1 (Ct C_Keeper "whole"^AA 0)^wC^D.int 0)^A3^AD (AA 1) AQ) AQ) AQ)^AD (AV A1 (Ct C_Keeper "whole"^AA 0)^wC^D.int 1) AQ) AS)))
noncomputable def Qv(C_Keeper:Ch):Ac:=(AW (CL^BQ C_Keeper "ask_place" (FZ C_Keeper) (AA 0)^AE (AK^AA 1) AS)
 (AW (Au 2^CV [P3 1,k_] (BS^AV A1 (Ct C_Keeper "whole"^AA 0)^wC^D.int 0) (Az 1) (AX^AV (Ee l_) (AA 1)^AA 0)^AA 1)
 (AW (Au 3^CV [P3 1,k_] (BS^AV A1 (Ct C_Keeper "whole"^AA 0)^wC^D.int 1) (Az 1) (AX^AV (Hq l_) (AA 0)^aM Ul (AA 1) Hu^P8^wC^D.int 2)^AA 1)
 (As^BQ C_Keeper "turn_to" (Dh C_Keeper) (AA 0)^AE (AK^A3^AD (Be Br^AD (AA 2) AQ)^AD (Be Br^AD (AA 3) AQ) AQ) AS))))
noncomputable def OK(C_Keeper:Ch):Ac:=(AW (Au 4^BQ C_Keeper "ties_between" (GO C_Keeper) (AA 0)^AE (AK^AA 1)^AE (AK^AA 2) AS)
 (AW (BC (AX^AV (Ee m_) (AA 1)^AA 2) FD Ao)
 (AW (BC (G7 (G6^Ss^Ar 4)^AX^AV (Ee m_) (Be DK^AD (AV A1 (Ct C_Keeper "whole"^AA 0)^wC^D.int 1) AQ)^wC^D.int 60) FD Ao)
 (AW (Au 5^AV A1 (Aa GN^AE (AK^Ct C_Keeper "whole"^AA 0)^AE (Bc^Ar 4) AS)^wC^D.int 1)
 (As^BQ C_Keeper "turn_to" (Dh C_Keeper) (AA 0)^AE (AK^Aa Di^AE (AK^Ct C_Keeper "whole"^AA 0)^AE (Bc^AV BZ (AA 5)^A3^AD (A3^AD (Be N3^AD (AA 1)^AD (AA 2) AQ)^AD (Be N4^AD (AA 1)^AD (AA 2) AQ)^AD (AA 3) AQ) AQ) AS) AS)))))
noncomputable def LU(C_Keeper:Ch):Ac:=(As^BQ C_Keeper "turn_to" (Dh C_Keeper) (AA 0)^AE (AK^Aa GN^AE (AK^Ct C_Keeper "whole"^AA 0)^AE (Bc^Dy^AD (BQ C_Keeper "tie_between" (Mu C_Keeper) (AA 0)^AE (AK^AA 1)^AE (AK^AA 2) AS) AQ) AS) AS)
noncomputable def VB(C_Keeper:Ch):Ac:=(As^Ct C_Keeper "whole"^AA 0)
noncomputable def SQ(C_Keeper:Ch):Ac:=(As^Ct C_Keeper "kept"^AA 0)
noncomputable def OL(C_Keeper:Ch):Ac:=(AW (CL^BQ C_Keeper "ask_place" (FZ C_Keeper) (AA 0)^AE (AK^AA 1) AS)
 (AW (CL^BQ C_Keeper "ask_place" (FZ C_Keeper) (AA 0)^AE (AK^AA 2) AS)
 (As^Aa Wf^AE (AK^Ct C_Keeper "kept"^AA 0)^AE (AK^AA 1)^AE (AK^AA 2) AS)))
noncomputable def EM:Ac:=(AW (Au 1^Dy^AD (A3^AD (wC^D.int 1)^AD (wC^D.int 1) AQ)^AD (A3^AD (wC^D.int 3)^AD (wC^D.int 2) AQ)^AD (A3^AD (wC^D.int 2)^AD (wC^D.int 1) AQ)^AD (A3^AD (wC^D.int 3)^AD (wC^D.int 1) AQ)^AD (A3^AD (wC^D.int 5)^AD (wC^D.int 2) AQ)^AD (A3^AD (wC^D.int 1000)^AD (wC^D.int 999) AQ)^AD (A3^AD (AV (VQ Oc λi j=>D.int (i ^ j.toNat)) (wC^D.int 10)^wC^D.int 6)^AD (wC^D.int 1) AQ)^AD (A3^AD (wC^D.int 2)^AD (wC^D.int 2) AQ) AQ)
 (As^AV A1 (AA 1)^Aa BN^AE (A7 0)^AE (AK^wC^D.int 8) AS))
noncomputable def Kc:Ac:=(As^A3^AD (AV A1 (AA 0)^wC^D.int 2)^AD (AV A1 (AA 0)^wC^D.int 0)^AD (AV A1 (AA 0)^wC^D.int 1) AQ)
noncomputable def Jy:Ac:=(As^Og LZ^AA 0)
noncomputable def EN:Ac:=(AW (G5 2^Oh (AA 1)^wC^D.int 0)
 (AW (Au 3^wC^D.bl l_)
 (AW (IS (AX^AA 3) (AW (Au 3^wC^D.bl m_)
 (Wn 0 (Ke 3^BP (Az 4)^BP (Az 5)^BP (Az 6) E7) (IV (BS^Dy^AD (A3^AD (AA 4)^AD (AA 5) AQ)^AD (A3^AD (AA 5)^AD (AA 4) AQ) AQ) (Ke 2^BP (Az 7)^BP (Az 8) E7) (BC (G7 (AX^AV (Hr m_) (AA 7)^Ar 2)^AX^AV Ho (AV BZ (AV A2 (Ar 2)^AA 7)^AA 6)^P9 (Ar 2) (AA 8)^AV (VQ Oc λi j=>D.int (i ^ j.toNat)) (wC^D.int 10)^wC^D.int 9) (AW (Fc 2 (AA 8)^AV BZ (AV A2 (Ar 2)^AA 7)^AA 6)
 (Au 3^wC^D.bl l_)) Ao)))))
 (NA 2))))
noncomputable def G0:Ac:=(AW (G5 2^Dy AQ)
 (AW (IV (BS^Aa C5^AE (AK^AV A1 (AA 0)^wC^D.int 1) AS) (Az 3) (AW (Au 4^IU (Aa Cs^AE (Bc^Ar 2)^AE (AK^AV A1 (AA 3)^wC^D.int 0) AS)^AV A1 (AA 3)^wC^D.int 1)
 (BC (IT (AX^AV (Jd m_) (AA 4)^wC D.non)^AX^AV (f2 λi j=>D.bl (decide (j<i))) (AV DJ (AA 4)^AV A1 (AA 1)^wC^D.int 1)^AV DJ (AV A1 (AA 3)^wC^D.int 2)^AV A1 (AA 1)^wC^D.int 0) (Sh 2 "list" F9^AD (AA 3) AQ) Ao)))
 (As^A3^AD (AV A1 (AA 0)^wC^D.int 0)^AD (Be Br^AD (Be Gs^AD (Ar 2) AQ) AQ) AQ)))
noncomputable def Dq:Ac:=(AW (Au 1^AV A2 (AA 0)^wC^D.str "ties")
 (As^A3^AD (Be Br^AD (Be Pg^AD (AV A2 (AA 0)^wC^D.str "places") AQ) AQ)^AD (Be Br^AD (CV [P3 1,k_] (BS^Be MS^AD (AA 1) AQ) (Az 1) Q9^AV BZ (AA 1)^A3^AD (AV Uj (AA 0)^AA 1) AQ) AQ) AQ))
noncomputable def E9:Ac:=(As^A3^AD (Be N3^AD (AA 0)^AD (AA 1) AQ)^AD (Be N4^AD (AA 0)^AD (AA 1) AQ) AQ)
noncomputable def HZ:Ac:=(AW (BC (AX^AV (Ee m_) (AV A1 (AA 1)^wC^D.int 0)^wC^D.str "come") (CL^Sx "list" F9 (AV A2 (AA 0)^wC^D.str "places")^AD (AV A1 (AA 1)^wC^D.int 1) AQ) Ao)
 (AW (BC (AX^AV (Ee m_) (AV A1 (AA 1)^wC^D.int 0)^wC^D.str "go") (AW (CL^Sx "list" Yb (AV A2 (AA 0)^wC^D.str "places")^AD (AV A1 (AA 1)^wC^D.int 1) AQ)
 (IV (BS^Q_ .fr Um^AD (AV A2 (AA 0)^wC^D.str "ties") AQ) (Az 2)^BC (AX^AV (Hq m_) (AV A1 (AA 1)^wC^D.int 1)^AA 2) (CL^Sx "dict" Ql (AV A2 (AA 0)^wC^D.str "ties")^AD (AA 2) AQ) Ao)) Ao)
 (AW (BC (AX^AV (Ee m_) (AV A1 (AA 1)^wC^D.int 0)^wC^D.str "lay") (Wl (AV A2 (AA 0)^wC^D.str "ties") (Aa IM^AE (AK^AV A1 (AA 1)^wC^D.int 1)^AE (AK^AV A1 (AA 1)^wC^D.int 2) AS)^AV A1 (AA 1)^wC^D.int 3) Ao)
 (BC (AX^AV (Ee m_) (AV A1 (AA 1)^wC^D.int 0)^wC^D.str "take") (CL^Sx "dict" Ql (AV A2 (AA 0)^wC^D.str "ties")^AD (Aa IM^AE (AK^AV A1 (AA 1)^wC^D.int 1)^AE (AK^AV A1 (AA 1)^wC^D.int 2) AS) AQ) Ao))))
noncomputable def E8(C_Keeper:Ch):Ac:=(AW (BC (AX^AV (Ee m_) (AV A1 (AA 1)^wC^D.int 0)^wC^D.str "come") (As^BQ C_Keeper "come" (M7 C_Keeper) (AA 0)^AE (AK^AV A1 (AA 1)^wC^D.int 1) AS) Ao)
 (AW (BC (AX^AV (Ee m_) (AV A1 (AA 1)^wC^D.int 0)^wC^D.str "go") (As^BQ C_Keeper "go" (VL C_Keeper) (AA 0)^AE (AK^AV A1 (AA 1)^wC^D.int 1) AS) Ao)
 (AW (BC (AX^AV (Ee m_) (AV A1 (AA 1)^wC^D.int 0)^wC^D.str "lay") (As^BQ C_Keeper "lay" (P2 C_Keeper) (AA 0)^AE (AK^AV A1 (AA 1)^wC^D.int 1)^AE (AK^AV A1 (AA 1)^wC^D.int 2)^AE (AK^AV A1 (AA 1)^wC^D.int 3) AS) Ao)
 (AW (BC (AX^AV (Ee m_) (AV A1 (AA 1)^wC^D.int 0)^wC^D.str "take") (As^BQ C_Keeper "take" (Mv C_Keeper) (AA 0)^AE (AK^AV A1 (AA 1)^wC^D.int 1)^AE (AK^AV A1 (AA 1)^wC^D.int 2) AS) Ao)
 (As^BQ C_Keeper "far" (GP C_Keeper) (AA 0)^AE (AK^AV A1 (AA 1)^wC^D.int 1)^AE (AK^AV A1 (AA 1)^wC^D.int 2) AS)))))
noncomputable def Do:Ac:=(AW (Au 2^Aa C5^AE (AK^CV [P3 0,k_] (BS^AV A1 (AA 1)^wC^D.int 1) (Az 1) (AX^AV (Hq l_) (AA 1)^AV A1 (AA 0)^wC^D.int 1)^AA 1) AS)
 (As^A3^AD (AA 2)^AD (Aa C5^AE (AK^CV [P3 1,k_] (BS^AV A1 (AA 0)^wC^D.int 1) (Az 1) (AX^AV (Hq l_) (AA 1)^AV A1 (AA 0)^wC^D.int 1)^AA 1) AS) AQ))
noncomputable def FA:Ac:=(AW (Au 4^AV A2 (AA 1)^wC^D.str "places")
 (AW (Au 5^CV [P3 4,k_] (BS^AA 2) (Az 1) (AX^AV (Hq l_) (AA 1)^AA 0)^AA 1)
 (AW (Au 6^Aa BN^AE (A7 0)^AE (AK^wC^D.int 9) AS)
 (AW (BC (G7 (AX^AV Z1 (AA 5)^Dy AQ)^IT (AX^AV Ho (AA 6)^wC^D.int 2)^AX^AV Ho (Be DK^AD (AA 4) AQ)^wC^D.int 2) (As^A3^AD (wC^D.str "come")^AD (AV A1 (AA 5)^Aa BN^AE (A7 0)^AE (AK^Be DK^AD (AA 5) AQ) AS) AQ) Ao)
 (AW (BC (AX^AV (Ee m_) (AA 6)^wC^D.int 2) (As^A3^AD (wC^D.str "go")^AD (AV A1 (AA 4)^Aa BN^AE (A7 0)^AE (AK^Be DK^AD (AA 4) AQ) AS) AQ) Ao)
 (AW (BC (G7 (AX^AV (Ee m_) (AA 6)^wC^D.int 3)^AX^AV Yc (AV A2 (AA 1)^wC^D.str "ties") Oi) (AW (Au 7^AV A1 (Be MS^AD (AV A2 (AA 1)^wC^D.str "ties") AQ)^Aa BN^AE (A7 0)^AE (AK^Be Uo^AD (AV A2 (AA 1)^wC^D.str "ties") AQ) AS)
 (AW (Au 8^Aa BN^AE (A7 0)^AE (AK^wC^D.int 2) AS)
 (As^A3^AD (wC^D.str "take")^AD (AV A1 (AA 7)^AA 8)^AD (AV A1 (AA 7)^AV HS (wC^D.int 1)^AA 8) AQ))) Ao)
 (AW (Au 9^Aa BN^AE (A7 0)^AE (AK^Be DK^AD (AA 4) AQ) AS)
 (AW (Au 10^AV (VQ (λ_ j=>0<j) λi j=>D.int (i % j)) (AV BZ (AV BZ (AA 9)^wC^D.int 1)^Aa BN^AE (A7 0)^AE (AK^AV HS (Be DK^AD (AA 4) AQ)^wC^D.int 1) AS)^Be DK^AD (AA 4) AQ)
 (As^A3^AD (wC^D.str "lay")^AD (AV A1 (AA 4)^AA 9)^AD (AV A1 (AA 4)^AA 10)^AD (Aa La^AE (A7 0)^AE (AK^Xh (AX^AV Ho (AA 3)^wC^D.int 4) (AA 3)^Aa BN^AE (A7 0)^AE (AK^wC^D.int 4) AS) AS) AQ)))))))))
noncomputable def Cr(C_Keeper:Ch):Ac:=(AW (Au 3^AV A1 (AA 2)^wC^D.int 0)
 (AW (BC (AX^AV Ye (AA 3)^A3 AQ) (As^wC^D.bl l_) Ao)
 (AW (Au 4^AV A1 (AA 3)^Aa BN^AE (A7 0)^AE (AK^Be DK^AD (AA 3) AQ) AS)
 (AW (Au 5^AV A1 (AA 3)^Aa BN^AE (A7 0)^AE (AK^Be DK^AD (AA 3) AQ) AS)
 (AW (Au 6^Aa Cs^AE (Bc^AV A1 (AA 2)^wC^D.int 1)^AE (AK^AA 4) AS)
 (AW (IV (BS^Dy^AD (A3^AD (AA 4)^AD (AA 5) AQ)^AD (A3^AD (AA 5)^AD (AA 4) AQ)^AD (A3^AD (AA 4)^AD (AA 4) AQ) AQ) (Ke 2^BP (Az 7)^BP (Az 8) E7) (AW (Au 9^BQ C_Keeper "far" (GP C_Keeper) (AA 1)^AE (AK^AA 7)^AE (AK^AA 8) AS)
 (BC (AX^AV (Ee l_) (Be Bv^AD (AA 9) AQ)^Be Bv^AD (Xh (AX^AV (Ee l_) (AA 7)^AA 8) (IU (AA 6)^AA 5)^wC^D.int 0) AQ) (As^wC^D.bl m_) Ao)))
 (As^wC^D.bl l_)))))))
noncomputable def Qu(C_Keeper:Ch):Ac:=(AW (Au 2^Aa J5^AE (A7 1) AS)
 (AW (Au 3^Aa J7^AE (A7 1)^AE (AK^wC^D.int 9) AS)
 (AW (Au 4^Aa BN^AE (A7 1)^AE (AK^wC^D.int 5) AS)
 (AW (Au 5^Wm C_Keeper (M6 C_Keeper)^AE (AK^AA 2) AS)
 (AW (Au 6^Sw "places" "ties" (NB^Dy AQ)^NB Sv)
 (AW (Au 7^A3^AD (A3 AQ)^AD (A3 AQ) AQ)
 (AW (BC (IT (AX^AV (Ee l_) (Be Bv^AD (BQ C_Keeper "net" (J8 C_Keeper) (AA 5) AS) AQ)^Be Bv^AD (AA 7) AQ)^AX^AV (Ee l_) (Be Bv^AD (BQ C_Keeper "thin" (J6 C_Keeper) (AA 5) AS) AQ)^Be Bv^AD (AA 7) AQ) (As^wC^D.bl m_) Ao)
 (AW (IV (Su^AD (AV BZ (wC^D.int 3)^Aa BN^AE (A7 1)^AE (AK^wC^D.int 16) AS) AQ) (Az 8) (AW (Au 9^FE IQ^AE (A7 1)^AE (AK^AA 6)^AE (AK^AA 3)^AE (AK^AA 4) AS)
 (AW (Au 10^Aa (IL C_Keeper)^AE (AK^AA 5)^AE (AK^AA 9) AS)
 (AW (CL^Aa Q4^AE (AK^AA 6)^AE (AK^AA 9) AS)
 (AW (Au 11^Aa CS^AE (AK^FE DQ^AE (AK^AA 6) AS)^AE (AK^AA 2) AS)
 (AW (BC (AX^AV (Ee l_) (Q_ .sh Bv^AD (AA 10) AQ)^Be Bv^AD (Aa Ei^AE (AK^AA 7)^AE (AK^AA 11) AS) AQ) (As^wC^D.bl m_) Ao)
 (AW (CL^Sx "list" F9 (AV A1 (AA 10)^wC^D.int 0)^AD (wC D.non) AQ)
 (AW (CL^Sx "list" Up (AV A1 (AA 10)^wC^D.int 1) AQ)
 (AW (BC (IT (AX^AV (Ee l_) (Be Bv^AD (BQ C_Keeper "thin" (J6 C_Keeper) (AA 5) AS) AQ)^Be Bv^AD (AA 11) AQ)^AX^AV (Ee l_) (Be Bv^AD (BQ C_Keeper "net" (J8 C_Keeper) (AA 5) AS) AQ)^Be Bv^AD (FE DQ^AE (AK^AA 6) AS) AQ) (As^wC^D.bl m_) Ao)
 (AW (BC (G6^AX^Aa (IP C_Keeper)^AE (A7 1)^AE (AK^AA 5)^AE (AK^AA 11) AS) (As^wC^D.bl m_) Ao)
 (Au 7^AA 11)))))))))))
 (As^wC^D.bl l_)))))))))
def L0(n:Sg)(a:Ch)(c d:Wc):(n.put a c).put a d=n.put a d:=by
 unfold Sg.put
 congr 1
 funext b
 by_cases h:b=a
 .simp only[h,if_pos]
 .simp only[if_neg h]
def B4(n:Sg)(a:Ch)(c:Wc):(n.put a c).w a=P3 c:=if_pos rfl
def CC{n:Sg}{a b:Ch}{c:Wc}(h:b≠a):(n.put a c).w b=n.w b:=if_neg h
def NI(xs:n_ Str):flat^.tup^xs.map .str=l_:=by
 show A8 _=l_
 induction xs with
 |nil=>rfl
 |cons x xs ih=>show(l_&&A8^xs.map D.str)=l_;rw[ih];rfl
def Df(us:n_ A_):A8^us.map An=l_:=by
 induction us with
 |nil=>rfl
 |cons u us ih=>show(flat^An u&&A8^us.map An)=l_;rw[ih];rfl
def GA(N:Net):flat^enc N=l_:=by
 show(flat^.tup^N.ps.map .str&&(flat^.tup^N.ts.map An&&l_))=l_;rw[NI,show flat^.tup^N.ts.map An=l_ from Df N.ts];rfl
theorem IsT.okN{N T:Net}{t b:Int}(h:IsT N t b T)(ok:okN N):okN T:=by
 let#[ord,_,_,rfl]:=h;exact Li ok _
def IsT.ps{N T:Net}{t b:Int}(h:IsT N t b T):T.ps=N.ps:=by
 let#[ord,_,_,rfl]:=h;rfl
def IsT.uniq{N T T':Net}{t b:Int}(h:IsT N t b T)(h':IsT N t b T'):T=T':=by
 let#[o1,p1,r1,rfl]:=h;let#[o2,p2,r2,rfl]:=h';rw[HH (p1.trans p2.symm) r1 r2]
def OutT.uniq{A B l l':n_ A_}(h:OutT A B l)(h':OutT A B l'):l=l':=HH (h.1.trans h'.1.symm) h.2 h'.2
section
variable {ss:n_ Slot}{n:Sg}{Pd:D->Sg->Prop}
def Jc(A B:n_ A_):(A.map An).filter (λd=>!((B.map An).any λy=>FT y d))=(A.filter λt=>decide (t∉B)).map An:=by
 rw[f8]
 congr 1
 refine eM λt _=>?_;show(!((B.map An).any λy=>FT y^An t))=decide (t∉B);rw[Wb,decide_not]
def Qc{N:Net}(ok:N.Ok):DC^.tup^N.ts.map An:=(Nq ok λ_ h=>h).1
def RP(h:IN ss n Pd):Jx (EF Pd) n (ss++T0 0 .no):=by
 let#[N,M,rfl,ok,ok2,p]:=h;have h60:=ok.2.2;unfold Jx;refine#[_,AH (j:=1) rfl,by show(N.ts.map An).length<=10000000;rw[FM];lk,?_];refine B7 (λd=>!((M.ts.map An).any λy=>FT y d)) id (λρ=>∃s,ρ=[.sh^enc M,s]) _ _ _ _ ?_ #[_,rfl] ?_
 .rintro d hd ρ m nx sk ⟨s,rfl⟩ h1 h2
  let#[t,ht,rfl]:=TM.mp hd;refine#[_,AH (j:=1) rfl,MN ok.1 ht,Qc ok2.1,_,rfl,?_];exact Du (λc=>h1 _ #[_,rfl] c) λc=>h2 _ #[_,rfl]^c8.mpr c
 .rw[dB,fS,Jc]
  exact#[_,_,rfl,rfl,eC (cf _ _)^by lk,λl h1 h2=>p l #[h1,h2]]
def Lw(h:GN ss n Pd):HX (EE Pd) n (ss++T0 0 .no):=by
 let#[N,us,rfl,ok,hu,p]:=h;have h60:=ok.2.2;unfold HX;refine#[_,AH (j:=1) rfl,by show(N.ts.map An).length<=10000000;rw[FM];lk,?_];refine B7 (λd=>!((us.map An).any λy=>FT y d)) id (λρ=>∃s,ρ=[.br^.lst^us.map An,s]) _ _ _ _ ?_ #[_,rfl] ?_
 .rintro d hd ρ m nx sk ⟨s,rfl⟩ h1 h2
  let#[t,ht,rfl]:=TM.mp hd;refine#[MN ok.1 ht,(Nq ok.1 hu).2,_,rfl,?_];exact Du (λc=>h1 _ #[_,rfl] c) λc=>h2 _ #[_,rfl]^c8.mpr c
 .rw[dB,fS,Jc]
  refine#[N,_,N.ts.filter λt=>decide (t∉us),rfl,rfl,eC (cf _ _)^by lk,λl h1 h2=>?_];rw[show l=N.ts.filter λt=>decide (t∉us)from FH h1 h2^FV^ok.1.trise.filter _];exact p
def O2(h:J5 ss n Pd):EM (EE Pd) n (ss++T0 1 .no):=by
 let#[rfl,hn,p]:=h;unfold EM;refine#[z2,z2,z2,z2,z2,z2,bV,z2,z2,(by cbv:8<=sizeLine),8,rfl,by cbv,by cbv,hn,λr r0 r1=>?_]
 rcases(show r=0\/r=1\/r=2\/r=3\/r=4\/r=5\/r=6\/r=7 by lk)with rfl|rfl|rfl|rfl|rfl|rfl|rfl|rfl
 .exact#[_,rfl,p 1 1 (by cbv) (by cbv)^by cbv]
 .exact#[_,rfl,p 3 2 (by cbv) (by cbv)^by cbv]
 .exact#[_,rfl,p 2 1 (by cbv) (by cbv)^by cbv]
 .exact#[_,rfl,p 3 1 (by cbv) (by cbv)^by cbv]
 .exact#[_,rfl,p 5 2 (by cbv) (by cbv)^by cbv]
 .exact#[_,rfl,p 1000 999 (by cbv) (by cbv)^by cbv]
 .exact#[_,rfl,p (10 ^ (6:Int).toNat) 1 (by cbv) (by cbv)^by cbv]
 .exact#[_,rfl,p 2 2 (by cbv) (by cbv)^by cbv]
def NV(h:Ei ss n Pd):Do (EE Pd) n (ss++T0 1 .no):=by
 let#[M,T,rfl,ok,ok2,p]:=h;have h60:=ok.2.2;have h61:=ok2.2.2
 have key:∀(A B:Net) (Q:n_ D->Sg->Prop),okN A->okN B->Q ((A.ts.filter λt=>decide (t∉B.ts)).map An) n->HM (Az 1) (AX^AV (Hq l_) (AA 1)^AV A1 (AA 0)^wC^D.int 1) (AA 1) Q (A.ts.map An) [] n [.sh^enc B,.no]:=by
  intro A B Q oA oB q;refine B7 (λd=>!((B.ts.map An).any λy=>FT y d)) id (λρ=>∃s,ρ=[.sh^enc B,s]) _ _ _ _ ?_ #[_,rfl] ?_
  .rintro d hd ρ m nx sk ⟨s,rfl⟩ h1 h2
   let#[t,ht,rfl]:=TM.mp hd;refine#[_,AH (j:=1) rfl,MN oA.1 ht,Qc oB.1,_,rfl,?_];exact Du (λc=>h1 _ #[_,rfl] c) λc=>h2 _ #[_,rfl]^c8.mpr c
  .rw[dB,fS,Jc];exact q
 unfold Do;refine#[_,AH (j:=1) rfl,by show(T.ts.map An).length<=10000000;rw[FM];lk,key T M _ ok2 ok ?_];refine#[_,_,rfl,rfl,eC (cf _ _)^by lk,λcame c1 c2=>?_];refine#[_,AH (j:=1) rfl,by show(M.ts.map An).length<=10000000;rw[FM];lk,key M T _ ok ok2 ?_];exact#[_,_,rfl,rfl,eC (cf _ _)^by lk,λwent w1 w2=>#[z2,p came went #[c1,c2] #[w1,w2]]]
variable {C:Addr}
def RR(h:M6 C ss n Pd):FC C (EE Pd) n (ss++T0 0 .no):=by
 let#[a,t,b,rfl,hw,p]:=h;unfold FC;refine#[rfl,a,[],[],rfl,hw,by cbv,?_];refine#[z0,z0,z2,rfl,a,["times"],[tD t b],rfl,B4 _ _ _,by cbv,?_];refine#[z0,z0,z2,rfl,a,["times","whole"],[tD t b,enc #[[],[]]],rfl,B4 _ _ _,by cbv,?_];rw[L0,L0];exact#[rfl,p]
def TX(h:J8 C ss n Pd):VB C (EE Pd) n (ss++T0 0 .no):=by
 let#[a,t,b,N,M,rfl,hw,p]:=h;exact#[a,_,_,_,rfl,hw,rfl,p]
def RL(h:J6 C ss n Pd):SQ C (EE Pd) n (ss++T0 0 .no):=by
 let#[a,t,b,N,M,rfl,hw,p]:=h;exact#[a,_,_,_,rfl,hw,rfl,p]
def D_{N:Net}(ok:N.Ok):DC^.tup^N.ps.map .str:=Gk ok.names
def Ef(x y:Str):FT (.str x)^.str y=(x==y):=rfl
def Mh{xs:n_ Str}{x:Str}:((xs.map D.str).any λy=>FT y^.str x)=decide (x∈xs):=by
 rw[ce,fH,decide_eq_true_eq];constructor
 .rintro⟨d,hd,e⟩
  let#[y,hy,rfl]:=TM.mp hd;rw[Ef,beq_iff_eq]at e;rw[←e];exact hy
 .exact λh=>#[.str x,TM.mpr #[x,h,rfl],by rw[Ef,beq_self_eq_true]]
def TZ(h:FZ C ss n Pd):ER C (EE Pd) n (ss++T0 0 .no):=by
 let#[a,t,b,N,M,x,rfl,#[hw,ok,ok2,tm],hx,p]:=h;unfold ER;refine#[a,_,_,_,rfl,hw,rfl,_,AH (j:=0) rfl,CO^ok.1.names x hx,D_ ok.1,_,rfl,?_];show if(!((N.ps.map D.str).any λy=>FT y^.str x))=l_ then _ else _
 rw[Mh,decide_eq_true hx];exact Ce #[rfl,p]
def RI(h:Dh C ss n Pd):GI C (EE Pd) n (ss++T0 1 .no):=by
 let#[a,t,b,N0,M,N,rfl,hw,ok,ok2,tm,p]:=h;unfold GI;refine#[a,_,_,_,rfl,hw,rfl,?_];refine#[GA N,a,_,_,rfl,hw,by cbv,?_];refine#[a,_,_,tD t b,rfl,B4 _ _ _,rfl,N,t,b,rfl,ok,tm.1,tm.2.1,tm.2.2.1,tm.2.2.2,λord o1 o2=>?_];have hT:IsT N t b^sub N^CZ N t b [] ord:=#[ord,o1,o2,rfl];generalize sub N^CZ N t b [] ord=T at hT;have okT:=hT.okN ok;refine#[GA T,a,_,_,rfl,B4 _ _ _,by cbv,?_];rw[L0];refine#[a,_,_,enc T,rfl,B4 _ _ _,rfl,T,M,rfl,okT,ok2,λcame hc=>#[Df came,λl1 h1=>?_]];have n1:l1≠a:=λz=>by rw[z,B4]at h1;cases h1
 refine#[a,_,_,enc T,rfl,(CC^cY n1).trans^B4 _ _ _,rfl,M,T,rfl,ok2,okT,λwent hwt=>#[Df went,λl2 h2=>#[z2,?_]]];have n2:l2≠l1:=λz=>by rw[z,B4]at h2;cases h2
 rw[CC n2]at h2;have n3:l2≠a:=λz=>by rw[z,B4]at h2;cases h2
 exact p T came went l1 l2 hT hc hwt (by rw[CC n1]at h1;exact h1) (by rw[CC n3]at h2;exact h2)^cY n2
def RQ(h:GP C ss n Pd):OL C (EE Pd) n (ss++T0 0 .no):=by
 let#[a,t,b,N,M,x,y,rfl,k,e,hx,hy,p]:=h;unfold OL;refine#[a,_,_,rfl,k.1,by cbv,a,t,b,N,M,x,rfl,k,hx,?_];refine#[a,_,_,rfl,k.1,by cbv,a,t,b,N,M,y,rfl,k,hy,?_];exact#[a,_,_,_,rfl,k.1,rfl,M,x,y,rfl,k.2.2.1,e▸hx,e▸hy,p]
end
def aL:1<=sizeLine:=by cbv
def Fq{xs:n_ Str}(h:rising xs):xs.Nodup:=h.imp λ{a b} z e=>by rw[e]at z;exact BK _ z
def Kt(x y:Str):cs x<cs y\/x=y\/cs y<cs x:=by
 by_cases h1:cs x<cs y
 .exact .inl h1
 .by_cases h2:cs y<cs x
  .exact .inr^.inr h2
  .refine .inr^.inl ?_
   have:=K8 (.inr x) (.inr y) (decide_eq_false h1)^decide_eq_false h2
   exact fF this
def Dr{x y:Str}(h:cs x<cs y):¬cs y<cs x:=λg=>BK _^ft h g
def UJ{x y:Str}(h:x≠y):(if decide (cs y<cs x)=l_ then y else x)=lo x y:=by
 unfold lo
 rcases Kt x y with g|g|g
 .rw[if_pos g,if_neg^by rw[decide_eq_true_eq];exact Dr g]
 .exact absurd g h
 .rw[if_neg^Dr g,if_pos^decide_eq_true g]
def UK{x y:Str}(h:x≠y):(if decide (cs x<cs y)=l_ then y else x)=hi x y:=by
 unfold hi
 rcases Kt x y with g|g|g
 .rw[if_pos g,if_pos^decide_eq_true g]
 .exact absurd g h
 .rw[if_neg^Dr g,if_neg^by rw[decide_eq_true_eq];exact Dr g]
def XD{x y:Str}(h:x≠y):cs^lo x y<cs^hi x y/\(lo x y=x/\hi x y=y\/lo x y=y/\hi x y=x):=by
 unfold lo hi
 rcases Kt x y with g|g|g
 .rw[if_pos g,if_pos g];exact#[g,.inl #[rfl,rfl]]
 .exact absurd g h
 .rw[if_neg^Dr g,if_neg^Dr g];exact#[g,.inr #[rfl,rfl]]
def EL{x y:Str}(h:x≠y){u:A_}(hu:cs u.a<cs u.b):SN x y u↔u.a=lo x y/\u.b=hi x y:=by
 let#[l,c]:=XD h;unfold SN;constructor
 .rintro(⟨e1,e2⟩|⟨e1,e2⟩)
  .rcases c with⟨c1,c2⟩|⟨c1,c2⟩
   .rw[c1,c2];exact#[e1,e2]
   .rw[c1,c2]at l;rw[e1,e2]at hu;exact absurd l^Dr hu
  .rcases c with⟨c1,c2⟩|⟨c1,c2⟩
   .rw[c1,c2]at l;rw[e1,e2]at hu;exact absurd l^Dr hu
   .rw[c1,c2];exact#[e1,e2]
 .rintro⟨e1,e2⟩
  rcases c with⟨c1,c2⟩|⟨c1,c2⟩
  .exact .inl #[e1.trans c1,e2.trans c2]
  .exact .inr #[e1.trans c1,e2.trans c2]
def betwB_iff{x y:Str}{u:A_}:BE x y u=l_↔SN x y u:=by
 unfold BE;exact @decide_eq_true_iff _^eO _
def atB_iff{x:Str}{u:A_}:SR x u=l_↔u.a=x\/u.b=x:=by
 unfold SR;exact @decide_eq_true_iff _^eO _
def WG(a b c d:Str):FT (.tup [.str a,.str b])^.tup [.str c,.str d]=l_↔a=c/\b=d:=by
 show((a==c)&&((b==d)&&l_))=l_↔_;simp
def Eb{x y:Str}(hx:JU x)(hy:JU y):DC^.tup [.str x,.str y]:=Gk (ps:=[x,y]) λp hp=>by
 rcases Uf.mp hp with rfl|hp
 .exact hx
 .rw[Op.mp hp];exact hy
def Rz{x y:Str}(hx:JU x)(hy:JU y):JU^lo x y/\JU^hi x y:=by
 unfold lo hi
 split <;>exact#[by assumption,by assumption]
section
variable {ss:n_ Slot}{n:Sg}{Pd:D->Sg->Prop}{C:Addr}
def RN(h:IM ss n Pd):E9 (EE Pd) n (ss++T0 0 .no):=by
 let#[x,y,rfl,hx,hy,hne,p]:=h;unfold E9;refine#[x,y,rfl,x,y,rfl,z2,?_];have e1:=UJ hne;have e2:=UK hne;rw[←e1,←e2]at p;exact p
def O3(h:GO C ss n Pd):C1 C (EF Pd) n (ss++T0 0 .no):=by
 let#[a,t,b,N,M,x,y,rfl,k,hx,hy,hne,p]:=h;have ok:=k.2.1;have l60:=ok.2.2;unfold C1;refine#[a,_,_,rfl,k.1,by cbv,a,t,b,N,M,x,rfl,k,hx,?_];refine#[a,_,_,rfl,k.1,by cbv,a,t,b,N,M,y,rfl,k,hy,?_];refine#[a,_,_,_,rfl,k.1,rfl,_,AH (j:=1) rfl,by show(N.ts.map An).length<=10000000;rw[FM];lk,?_];refine B7 (λd=>BE x y^Ux d) id (λρ=>∃s,ρ=[.sh^.str x,.sh^.str y,s]) _ _ _ _ ?_ #[_,rfl] ?_
 .rintro d hd ρ m nx sk ⟨s,rfl⟩ h1 h2
  let#[u,hu,rfl]:=TM.mp hd;let#[m1,m2,m3,_]:=ok.1.tin u hu;refine#[x,y,rfl,x,y,rfl,z2,?_];rw[show(if decide (y.cps.toList<x.cps.toList)=l_ then y else x)=lo x y from UJ hne,show(if decide (x.cps.toList<y.cps.toList)=l_ then y else x)=hi x y from UK hne];have nn:=Rz (ok.1.names x hx)^ok.1.names y hy;refine#[Eb (ok.1.names _ m1)^ok.1.names _ m2,Eb nn.1 nn.2,?_]
  have e:FT (.tup [.str u.a,.str u.b])^.tup [.str^lo x y,.str^hi x y]=BE x y u:=by
   rw[ce,WG,betwB_iff,EL hne m3]
  show if FT (.tup [.str u.a,.str u.b]) (.tup [.str^lo x y,.str^hi x y])=l_ then _ else _
  rw[e];exact Du (λc=>h1 _ #[_,rfl] c) λc=>h2 _ #[_,rfl]^c8.mpr c
 .rw[dB,fS,f8]
  exact p
def RK(h:Mu C ss n Pd):DP C (EE Pd) n (ss++T0 1 .no):=by
 let#[a,t,b,N,M,x,y,u,rfl,k,hx,hy,hne,hu,p]:=h;unfold DP;refine#[a,_,_,rfl,k.1,by cbv,a,t,b,N,M,x,y,rfl,k,hx,hy,hne,?_];rw[hu];exact#[l_,rfl,_,AH (j:=0) rfl,p]
end
def Uh(x:Str)(xs:n_ Str):(xs.map D.str).filter (λd=>match d with|.str y=>!(y==x)|_=>m_)=(xs.filter λy=>decide (y≠x)).map .str:=by
 rw[f8]
 congr 1
 refine eM λy _=>?_;show(!(y==x))=decide (y≠x);rw[decide_not,gh]
def QA{a b x:Str}:([D.str a,D.str b].any λy=>FT y^.str x)=(decide (a=x)||decide (b=x)):=by
 show((a==x)||((b==x)||false))=_;rw[Bool.or_false,gh,gh]
section
variable {ss:n_ Slot}{n:Sg}{Pd:D->Sg->Prop}{C:Addr}
def RU(h:M7 C ss n Pd):LV C (EE Pd) n (ss++T0 0 .no):=by
 let#[a,t,b,N,M,N',x,rfl,k,#[l20,l50],#[hx,hn,hp,ht],ok',p]:=h;have ok:=k.2.1;have szl:=PySem.sizeLine_eq;unfold LV;refine#[a,_,_,_,rfl,k.1,rfl,_,AH (j:=0) rfl,CO hx,D_ ok.1,_,rfl,?_];show if((N.ps.map D.str).any λy=>FT y^.str x)=l_ then _ else _
 rw[Mh,decide_eq_false hn];refine Ce ?_;refine#[a,_,_,_,rfl,k.1,rfl,_,AH (j:=0) rfl,_,_,rfl,rfl,?_];show if(((N.ps.map D.str).length:Int)==24)=l_ then _ else _
 rw[FM,show(((N.ps.length:Nat):Int)==24)=m_ from beq_eq_false_iff_ne.mpr^by lk];refine Ce ?_;refine#[a,_,_,rfl,k.1,by cbv,?_];refine#[a,_,_,_,rfl,k.1,rfl,_,AH (j:=0) rfl,aL,by show(N.ps.map D.str).length+1<=sizeLine;rw[FM];lk,N.ps++[x],by rw[c0];rfl,by rw[cj,dM];lk,λss' h1 h2=>?_];refine#[a,_,_,_,rfl,k.1,rfl,_,AH (j:=1) rfl,z2,?_]
 have e:ss'=N'.ps:=by
  have pe:ss'.Perm N'.ps:=h1.trans^(e7 x N.ps).trans hp.symm;have nd:ss'.Nodup:=pe.nodup_iff.mpr^Fq ok'.1.rise;exact EZ (λa b x y=>absurd y^Dr x) pe (C2 h2 nd) ok'.1.rise
 subst e;refine#[a,t,b,N,M,N',?_,k.1,ok',k.2.2.1,k.2.2.2,p];show [Slot.sh^.ob a,.sh^.tup [.tup^N'.ps.map .str,.tup^N.ts.map An]]=_;rw[←ht];rfl
def Vh(h:VL C ss n Pd):Qv C (EE Pd) n (ss++T0 2 .no):=by
 let#[a,t,b,N,M,N',x,rfl,k,#[l20,l50],#[hx,rfl],ok',p]:=h;have ok:=k.2.1;have nx:=ok.1.names x hx;unfold Qv;refine#[a,_,_,rfl,k.1,by cbv,a,t,b,N,M,x,rfl,k,hx,?_];refine#[a,_,_,_,rfl,k.1,rfl,_,AH (j:=0) rfl,by show(N.ps.map D.str).length<=10000000;rw[FM];lk,?_];refine B7 (λd=>match d with|.str y=>!(y==x)|_=>m_) id (λρ=>∃s,ρ=[.sh^.str x,s]) _ _ _ _ ?_ #[_,rfl] ?_
 .rintro d hd ρ m nx sk ⟨s,rfl⟩ h1 h2
  let#[y,hy,rfl]:=TM.mp hd;show if(!(y==x))=l_ then _ else _
  exact Du (λc=>h1 _ #[_,rfl] c) λc=>h2 _ #[_,rfl]^c8.mpr c
 rw[dB,fS,Uh];refine#[a,_,_,_,rfl,k.1,rfl,_,AH (j:=1) rfl,by show(N.ts.map An).length<=10000000;rw[FM];lk,?_];refine B7 (λd=>!SR x (Ux d)) id (λρ=>∃s,ρ=[.sh^.str x,s]) _ _ _ _ ?_ #[_,rfl] ?_
 .rintro d hd ρ m nx' sk ⟨s,rfl⟩ h1 h2
  let#[u,hu,rfl]:=TM.mp hd;let#[m1,m2,m3,_]:=ok.1.tin u hu;refine#[CO nx,Eb (ok.1.names _ m1)^ok.1.names _ m2,_,rfl,?_]
  have e:([D.str u.a,D.str u.b].any λy=>FT y^.str x)=SR x u:=by
   rw[QA,ce,atB_iff,Bool.or_eq_true,decide_eq_true_eq,decide_eq_true_eq]
  show if(!([D.str u.a,D.str u.b].any λy=>FT y^.str x))=l_ then _ else _
  rw[e];exact Du (λc=>h1 _ #[_,rfl] c) λc=>h2 _ #[_,rfl]^c8.mpr c
 rw[dB,fS,f8];refine#[a,_,_,rfl,k.1,by cbv,z2,?_];exact#[a,t,b,N,M,_,rfl,k.1,ok',k.2.2.1,k.2.2.2,p]
def TY(h:P2 C ss n Pd):OK C (EE Pd) n (ss++T0 2 .no):=by
 let#[a,t,b,N,M,N',x,y,l,rfl,k,#[l20,l50],#[hx,hy,hne,l1,l2,hps,hts],ok',p]:=h;have ok:=k.2.1;have szl:=PySem.sizeLine_eq;unfold OK;refine#[a,_,_,rfl,k.1,by cbv,a,t,b,N,M,x,y,rfl,k,hx,hy,hne,?_];show if(x==y)=l_ then _ else _
 rw[show(x==y)=m_ from beq_eq_false_iff_ne.mpr hne];refine Ce ?_
 have next:AW (Au 5^AV A1 (Aa GN^AE (AK^Ct C "whole"^AA 0)^AE (Bc^Ar 4) AS)^wC^D.int 1) (As^BQ C "turn_to" (Dh C) (AA 0)^AE (AK^Aa Di^AE (AK^Ct C "whole"^AA 0)^AE (Bc^AV BZ (AA 5)^A3^AD (A3^AD (Be N3^AD (AA 1)^AD (AA 2) AQ)^AD (Be N4^AD (AA 1)^AD (AA 2) AQ)^AD (AA 3) AQ) AQ) AS) AS) (EE Pd) n [.sh^.ob a,.sh^.str x,.sh^.str y,.sh^.int l,.sh^.lst^(N.ts.filter^BE x y).map An,.no]:=by
  refine#[a,_,_,_,rfl,k.1,rfl,N,N.ts.filter^BE x y,rfl,ok,λu hu=>(cR.mp hu).1,_,AH (j:=1) rfl,?_]
  have ef:(N.ts.filter λu=>decide (u∉N.ts.filter^BE x y))=N.ts.filter λu=>!BE x y u:=eM λu hu=>by
   rw[decide_not,Bool.not_inj_iff,ce,decide_eq_true_eq,cR];exact#[λz=>z.2,λz=>#[hu,z]]
  rw[ef];refine#[a,_,_,rfl,k.1,by cbv,a,_,_,_,rfl,k.1,rfl,x,y,rfl,x,y,rfl,z3,aL,?_];have lf:=cf (λu=>!BE x y u) N.ts;refine#[by rw[FM];show(N.ts.filter λu=>!BE x y u).length+1<=sizeLine;lk,N,_,(N.ts.filter λu=>!BE x y u)++[#[lo x y,hi x y,l]],rfl,?_,by rw[cj,dM];lk,λts' h1 h2=>?_]
  .rw[show(if decide (y.cps.toList<x.cps.toList)=l_ then y else x)=lo x y from UJ hne,show(if decide (x.cps.toList<y.cps.toList)=l_ then y else x)=hi x y from UK hne,c0]
   rfl
  .have e:ts'=N'.ts:=FH (h1.trans^(e7 _ _).trans hts.symm) h2^FV ok'.1.trise
   subst e;rw[←hps];exact#[a,t,b,N,M,N',rfl,k.1,ok',k.2.2.1,k.2.2.2,p]
 cases hl:(N.ts.filter^BE x y).map An with
 |nil=>
  rw[hl]at next;refine#[m_,rfl,a,_,_,_,rfl,k.1,rfl,_,AH (j:=1) rfl,_,_,rfl,rfl,?_];show if(((N.ts.map An).length:Int)==60)=l_ then _ else _
  rw[FM,show(((N.ts.length:Nat):Int)==60)=m_ from beq_eq_false_iff_ne.mpr^by lk];exact Ce next
 |cons d r=>
  rw[hl]at next;exact#[l_,rfl,next]
def RM(h:Mv C ss n Pd):LU C (EE Pd) n (ss++T0 0 .no):=by
 let#[a,t,b,N,M,N',x,y,rfl,k,#[l20,l50],#[#[u,hu],hx,hy,hne,rfl],ok',p]:=h;have ok:=k.2.1;unfold LU;refine#[a,_,_,rfl,k.1,by cbv,a,_,_,_,rfl,k.1,rfl,a,_,_,rfl,k.1,by cbv,a,t,b,N,M,x,y,u,rfl,k,hx,hy,hne,hu,aL,?_];have mu:u∈N.ts:=(cR.mp (by rw[hu];exact Op.mpr rfl:u∈N.ts.filter^BE x y)).1;refine#[N,[u],rfl,ok,λv hv=>by rw[Op.mp hv];exact mu,?_]
 have ef:(N.ts.filter λv=>decide (v∉[u]))=N.ts.filter λu=>!BE x y u:=eM λv hv=>by
  rw[decide_not,Bool.not_inj_iff,ce,decide_eq_true_eq,←hu,cR];exact#[λz=>z.2,λz=>#[hv,z]]
 rw[ef];exact#[a,t,b,N,M,_,rfl,k.1,ok',k.2.2.1,k.2.2.2,p]
def RJ(h:IL C ss n Pd):E8 C (EE Pd) n (ss++T0 0 .no):=by
 let#[a,t,b,N,M,N',d,rfl,k,f,hd,ok',p]:=h;unfold E8;cases d with
 |come x=>
  refine#[_,AH (j:=0) rfl,?_];exact#[a,_,_,rfl,k.1,by cbv,_,AH (j:=1) rfl,a,t,b,N,M,N',x,rfl,k,f,hd,ok',p]
 |go x=>
  refine#[_,AH (j:=0) rfl,?_];refine#[_,AH (j:=0) rfl,?_];exact#[a,_,_,rfl,k.1,by cbv,_,AH (j:=1) rfl,a,t,b,N,M,N',x,rfl,k,f,hd,ok',p]
 |lay x y l=>
  refine#[_,AH (j:=0) rfl,?_];refine#[_,AH (j:=0) rfl,?_];refine#[_,AH (j:=0) rfl,?_];exact#[a,_,_,rfl,k.1,by cbv,_,AH (j:=1) rfl,_,AH (j:=2) rfl,_,AH (j:=3) rfl,a,t,b,N,M,N',x,y,l,rfl,k,f,hd,ok',p]
 |take x y=>
  refine#[_,AH (j:=0) rfl,?_];refine#[_,AH (j:=0) rfl,?_];refine#[_,AH (j:=0) rfl,?_];refine#[_,AH (j:=0) rfl,?_];exact#[a,_,_,rfl,k.1,by cbv,_,AH (j:=1) rfl,_,AH (j:=2) rfl,a,t,b,N,M,N',x,y,rfl,k,f,hd,ok',p]
end
section
variable {ss:n_ Slot}{n:Sg}{Pd:D->Sg->Prop}
def O4 (h : Cs ss n Pd):EN (EF Pd) n (ss ++ T0 7 .no):=by
  let#[N,s,zz,us,rfl,hzz,hus,okn,hs,p]:=h;have szl:=PySem.sizeLine_eq;have ok:=okn.1;have l25:=okn.2.1;unfold EN;refine#[_,A5 s,?_]
  have step:∀ (D3:E2) (x y:Str) (l:Int),Ed N x y l → ∀ (ks:n_ Key) (ds:n_ D) (K:Kn) (g:Bool) (s4 s5 s7 s8:Slot),Dmap ks ds D.int K → Bf N s ks.length K →
      (∀ (ks':n_ Key) (ds':n_ D) (K':Kn) (g':Bool) (t7 t8:Slot),Dmap ks' ds' D.int K' → Bf N s ks'.length K' → ((g'=g ∧ K'=K ∧ IZ K (x,y,l)) ∨ (g'=l_ ∧ Sj N.ps K' < Sj N.ps K)) →
        D3.nx n [.br zz,.sh^.str s,.ow^.dic ks' ds',.sh^.bl g',s4,s5,.sh^.int l,t7,t8]) →
      (BC (G7 (AX^AV (Hr m_) (AA 7)^Ar 2)^AX^AV Ho (AV BZ (AV A2 (Ar 2)^AA 7)^AA 6)^P9 (Ar 2) (AA 8)^AV (VQ Oc λi j=>D.int (i ^ j.toNat)) (wC^D.int 10)^wC^D.int 9) (AW (Fc 2 (AA 8)^AV BZ (AV A2 (Ar 2)^AA 7)^AA 6)
  (Au 3^wC^D.bl l_)) Ao) D3 n [.br zz,.sh^.str s,.ow^.dic ks ds,.sh^.bl g,s4,s5,.sh^.int l,.sh^.str x,.sh^.str y]:=by
    intro D3 x y l he ks ds K g s4 s5 s7 s8 M B hD;have kl:=M.le B.ins;refine#[ks,ds,_,rfl,A5 x,?_];show if((BO ks ds^.inr x).isSome)=l_ then _ else _
    cases ex:K x with
    | none=>
      rw[M.at_,ex];exact Ce^Ce^hD ks ds K g _ _ M B^.inl #[rfl,rfl,λd e=>by rw[show K x=P3 d from e]at ex;cases ex]
    | some d=>
      rw[M.at_,ex];refine Dt #[ks,ds,_,_,rfl,A5 x,by rw[M.at_,ex];rfl,?_];refine#[ks,ds,rfl,#[by cbv,by cbv,by cbv],_,A5 y,?_]
      have put:(K y=k_ ∨ ∃ d',K y=P3 d' ∧ d + l < d') → (AW (Fc 2 (AA 8)^AV BZ (AV A2 (Ar 2)^AA 7)^AA 6)^Au 3^wC^D.bl l_) D3 n [.br zz,.sh^.str s,.ow^.dic ks ds,.sh^.bl g,s4,s5,.sh^.int l,.sh^.str x,.sh^.str y]:=λhy=>by
        refine#[ks,ds,rfl,ks,ds,_,.int d,rfl,A5 x,by rw[M.at_,ex];rfl,_,A5 y,by lk,?_];have hlen:=JA ks^.inr y
        have key:=B.put ok (c':=(CW ks^.inr y).length) (by rw[hlen];split <;>lk) (by rw[hlen];split <;>lk) ex he (λe=>by rw[hlen,if_neg^by rw[(M.has (x:=y)).1 e];decide]) (λd' e=>by
          rcases hy with hy|⟨d2,hy,hlt⟩
          .rw[e]at hy;cases hy
          .rw[e]at hy;cases hy;exact hlt)
        exact hD _ _ _ l_ _ _ (M.put y (d + l)) key.1^.inr #[rfl,key.2]
      rw[M.at_];cases ey:K y with
      | none=>
        show if decide (d + l < 10 ^ (9:Int).toNat)=l_ then _ else _
        rw [decide_eq_true (by have h1:=B.top x d ex;have h2:=(he.pos ok).2;have e9:(10:Int) ^ (9:Int).toNat=1000000000:=by cbv
                               rw[e9];lk)]
        exact Dt^put^.inl ey
      | some d'=>
        show if decide (d + l < d')=l_ then _ else _
        by_cases c:d + l < d'
        · rw[decide_eq_true c]
          exact Dt^put^.inr #[d',ey,c]
        · rw[decide_eq_false c]
          refine Ce^hD ks ds K g _ _ M B^.inl #[rfl,rfl,λd2 e=>?_];rw[show K x=P3 d2 from e]at ex;cases ex;exact#[d',ey,by show d' ≤ d + l;lk]
  refine GV (λm n' ρ=>n'=n ∧ ∃ (ks:n_ Key) (ds:n_ D) (K:Kn) (g:Bool) (s4 s5 s6 s7 s8:Slot),ρ=[.br zz,.sh^.str s,.ow^.dic ks ds,.sh^.bl g,s4,s5,s6,s7,s8] ∧ Dmap ks ds D.int K ∧ Bf N s ks.length K ∧ ((g=l_ ∧ m=Sj N.ps K + 1) ∨ (g=m_ ∧ m=0 ∧ ∀ t ∈ N.ts,IZ K (t.a,t.b,t.len) ∧ IZ K (t.b,t.a,t.len)))) _ #[rfl,_,_,_,l_,_,_,_,_,_,rfl,Dmap.one (enc:=D.int) (a:=(0:Int)),Bf.init hs,.inl #[rfl,rfl]] ?_ ?_
  · rintro m n' ρ N' ⟨rfl,ks,ds,K,g,s4,s5,s6,s7,s8,rfl,M,B,hg⟩ hN
    rcases hg with⟨rfl,hm⟩|⟨rfl,_,ht⟩
    · have outer:∀ (rest done:n_ A_) (ks:n_ Key) (ds:n_ D) (K':Kn) (g:Bool) (s4 s5 s6 s7 s8:Slot),done ++ rest=us → Dmap ks ds D.int K' → Bf N s ks.length K' → ((g=l_ ∧ Sj N.ps K' < Sj N.ps K) ∨ (g=m_ ∧ Sj N.ps K' ≤ Sj N.ps K ∧ ∀ t ∈ done,IZ K' (t.a,t.b,t.len) ∧ IZ K' (t.b,t.a,t.len))) →
          Bh (Ke 3^BP (Az 4)^BP (Az 5)^BP (Az 6) E7) (IV (BS^Dy^AD (A3^AD (AA 4)^AD (AA 5) AQ)^AD (A3^AD (AA 5)^AD (AA 4) AQ) AQ) (Ke 2^BP (Az 7)^BP (Az 8) E7) (BC (G7 (AX^AV (Hr m_) (AA 7)^Ar 2)^AX^AV Ho (AV BZ (AV A2 (Ar 2)^AA 7)^AA 6)^P9 (Ar 2) (AA 8)^AV (VQ Oc λi j=>D.int (i ^ j.toNat)) (wC^D.int 10)^wC^D.int 9) (AW (Fc 2 (AA 8)^AV BZ (AV A2 (Ar 2)^AA 7)^AA 6)
  (Au 3^wC^D.bl l_)) Ao)) {EF Pd with nx:=N',ct:=N',bk:=NA 2^EF Pd} (rest.map An) n' [.br zz,.sh^.str s,.ow^.dic ks ds,.sh^.bl g,s4,s5,s6,s7,s8]:=by
        intro rest
        induction rest with
        | nil=>
          intro done ks ds K' g s4 s5 s6 s7 s8 e M B hg;rw[cX]at e;subst e
          rcases hg with⟨rfl,hlt⟩|⟨rfl,_,ht⟩
          .exact hN (Sj N.ps K' + 1) _ _ (by lk) #[rfl,ks,ds,K',l_,_,_,_,_,_,rfl,M,B,.inl #[rfl,rfl]]
          .exact hN 0 _ _ (by lk) #[rfl,ks,ds,K',m_,_,_,_,_,_,rfl,M,B,.inr #[rfl,rfl,λt h=>ht t^(hus t).mpr h]]
        | cons t rest ih=>
          intro done ks ds K' g s4 s5 s6 s7 s8 e M B hg;have hmem:t ∈ N.ts:=(hus t).mp (by rw[←e];exact cC _ Re);have e':(done ++ [t]) ++ rest=us:=by rw[fB];exact e
          have ed:=WK hmem;refine#[rfl,rfl,z2,z2,z2,?_];refine#[rfl,rfl,?_];refine step _ t.a t.b t.len ed.1 ks ds K' g _ _ s7 s8 M B λks1 ds1 K1 g1 t7 t8 M1 B1 h1=>?_;refine#[rfl,rfl,?_];refine step _ t.b t.a t.len ed.2 ks1 ds1 K1 g1 _ _ t7 t8 M1 B1 λks2 ds2 K2 g2 u7 u8 M2 B2 h2=>?_;refine ih (done ++ [t]) ks2 ds2 K2 g2 _ _ _ _ _ e' M2 B2 ?_
          rcases h1 with⟨rfl,rfl,t1⟩|⟨rfl,lt1⟩
          · rcases h2 with⟨rfl,rfl,t2⟩|⟨rfl,lt2⟩
            · rcases hg with z|⟨z1,z2,z3⟩
              .exact .inl z
              · refine .inr #[z1,z2,λu hu=>?_]
                rcases cE.mp hu with hu|hu
                .exact z3 u hu
                .rw[Op.mp hu];exact#[t1,t2]
            · refine .inl #[rfl,?_]
              rcases hg with⟨_,z⟩|⟨_,z,_⟩ <;>lk
          · have base:Sj N.ps K1 < Sj N.ps K:=by rcases hg with⟨_,z⟩|⟨_,z,_⟩ <;>lk
            rcases h2 with⟨rfl,rfl,t2⟩|⟨rfl,lt2⟩
            .exact .inl #[rfl,base]
            .exact .inl #[rfl,by lk]
      exact#[zz,_,rfl,hzz,outer us [] ks ds K m_ _ _ _ _ _ rfl M B (.inr #[rfl,Rs _,λt h=>by cases h])]
    .exact#[_,rfl,p ks ds K M^B.told ok (by have:=M.le B.ins;lk) ht]
  · rintro n' ρ P Q hPQ h
    unfold AX AA at h ⊢
    split at h
    · rename_i d hd
      cases d with
      |bl b=>exact hPQ _ _ h
      |_=>exact h.elim
    .exact h.elim
def O6(h:CS ss n Pd):G0 (EE Pd) n (ss++T0 3 .no):=Gc h
def O7(h:LZ ss n Pd):Kc (EE Pd) n (ss++T0 0 .no):=Iz h
def NW(h:C5 ss n Pd):Jy (EF Pd) n (ss++T0 0 .no):=HG h
end
def tk_eq{s t:A_}:tk s=tk t↔s.a=t.a/\s.b=t.b:=by
 unfold tk;simp
def Ot{N:Net}(ok:N.Ok):(N.ts.map tk).Nodup:=gR.mpr (ok.trise.imp λ{s t} h e=>by
 let#[e1,e2]:=tk_eq.mp e
 rcases h with h|⟨_,h⟩
 .rw[e1]at h;exact BK _ h
 .rw[e2]at h;exact BK _ h)
def Xm{s t:A_}(h:Bn s t):BY (tk t)^tk s=m_:=by
 show(if(d7 t.a:Key)=.inr s.a then(if(d7 t.b:Key)=.inr s.b then m_ else decide (t.b.cps.toList<s.b.cps.toList))else decide (t.a.cps.toList<s.a.cps.toList))=m_
 rcases h with h|⟨e,h⟩
 .rw[if_neg λz=>by rw[fF z]at h;exact BK _ h]
  exact decide_eq_false^Dr h
 .rw[if_pos (by rw[e]),if_neg λz=>by rw[fF z]at h;exact BK _ h]
  exact decide_eq_false^Dr h
def NJ{N:Net}(ok:N.Ok){us:n_ A_}(hp:N.ts.Perm us){ks:n_^n_ Key}(h1:ks.Perm^us.map tk)(h2:ks.Pairwise λa b=>BY b a=m_):ks=N.ts.map tk:=
 EZ (λa b x y=>CI _ _ y x) (h1.trans (hp.map tk).symm) h2 (gR.mpr^ok.trise.imp λ{s t} h=>Xm h)
theorem Oj:∀{us:n_ A_}{t:A_},(us.map tk).Nodup->t∈us->Dz (us.map tk) (us.map λu=>.int u.len)^tk t=P3^.int t.len
 |[],_,_,h=>by cases h
 |u::us,t,nd,h=>by
  rw[cL,cF]at nd;show(if tk u=tk t then P3^D.int u.len else Dz (us.map tk) (us.map λu=>D.int u.len)^tk t)=_
  rcases Uf.mp h with rfl|h
  .rw[if_pos rfl]
  .rw[if_neg (λz=>nd.1^by rw[z];exact TM.mpr #[t,h,rfl]),Oj nd.2 h]
def QG{x y:D}{P:D->Prop}(h:P x):A2 (Hw x y) (.str "places") P:=#[_,_,.inr "places",x,rfl,rfl,rfl,h]
def G9{x y:D}{P:D->Prop}(h:P y):A2 (Hw x y) (.str "ties") P:=#[_,_,.inr "ties",y,rfl,rfl,by
 show(if(d7 "places":Key)=.inr "ties" then P3 x else if(d7 "ties":Key)=.inr "ties" then P3 y else k_)=P3 y;rw[if_neg^by cbv,if_pos rfl],h]
def Ug{N:Net}(ok:N.Ok){us:n_ A_}(hp:N.ts.Perm us):∀k∈us.map tk,∀x∈k,DZ x:=λk hk x hx=>by
 let#[u,hu,rfl]:=TM.mp hk;let#[m1,m2,_]:=ok.tin u^hp.mem_iff.mpr hu;have szl:=PySem.sizeLine_eq;have h1:=(ok.names _ m1).2.1;have h2:=(ok.names _ m2).2.1
 rcases Uf.mp hx with rfl|hx
 .show u.a.length<=sizeLine;lk
 .rw[Op.mp hx];show u.b.length<=sizeLine;lk
section
variable {ss:n_ Slot}{n:Sg}{Pd:D->Sg->Prop}
def TB{N:Net}{us:n_ A_}(okn:okN N)(hp:N.ts.Perm us):(us.map tk).length=(us.map λu=>D.int u.len).length/\(us.map tk).length<64/\(∀x∈us.map tk,∀y∈us.map tk,Bk x y=l_)/\(∀x∈us.map tk,x≠[]):=by
 have l60:=okn.2.2;have lu:=hp.length_eq;refine#[by rw[FM,FM],by rw[FM];lk,λx hx y hy=>?_,λx hx=>?_]
 .let#[u,_,rfl]:=TM.mp hx
  let#[v,_,rfl]:=TM.mp hy;rfl
 .let#[u,_,rfl]:=TM.mp hx
  exact dG _ _
def O5(h:DQ ss n Pd):Dq (EE Pd) n (ss++T0 1 .no):=by
 let#[N,ps,us,rfl,#[hp,hu,okn],p]:=h;have l25:=okn.2.1;have l60:=okn.2.2;have lp:=hp.length_eq;have lu:=hu.length_eq;have nd:(us.map tk).Nodup:=(hu.map tk).nodup_iff.mp^Ot okn.1;unfold Dq;refine G9 ?_;refine QG ?_;refine#[_,ps,rfl,J0 _,by lk,λps' h1 h2=>?_];have e:ps'=N.ps:=EZ (λa b x y=>absurd y^Dr x) (h1.trans hp.symm) (C2 h2^(h1.trans hp.symm).nodup_iff.mpr^Fq okn.1.rise) okn.1.rise;subst e;let#[s1,s2,s3,s4]:=TB okn hu;refine#[_,_,rfl,s1,s2,s3,s4,Ug okn.1 hu,λks' h3 h4=>?_];have ek:=NJ okn.1 hu h3 h4;subst ek;refine#[by show((N.ts.map tk).map tupK).length<=10000000;rw[FM,FM];lk,?_];refine DB (λd=>match d with|.tup [.str a,.str b]=>.tup [.str a,.str b,(Dz (us.map tk) (us.map λu=>.int u.len) [.inr a,.inr b]).getD .non]|d=>d) (λρ=>∃s,ρ=[.sh^G8 us,s]) _ _ _ _ ?_ #[_,rfl] ?_
 .rintro d hd ρ m nx ⟨s,rfl⟩ hnx
  let#[k,hk,rfl]:=TM.mp hd;let#[t,ht,rfl]:=TM.mp hk;have hv:=Oj nd^hu.mem_iff.mp ht
  have:=hnx [.sh^G8 us,.sh^.tup [.str t.a,.str t.b]] #[_,rfl]
  refine#[_,_,tk t,_,rfl,rfl,hv,aL,z3,?_];have e:Dz (us.map tk) (us.map λu=>D.int u.len) [.inr t.a,.inr t.b]=P3^.int t.len:=hv;rw[show(tupK^tk t)=.tup [.str t.a,.str t.b]from rfl]at this;simp only[e]at this;exact this
 .rw[dB]
  refine#[z2,?_];rw[eg,eg];refine(congrArg (λX=>Pd (.tup [.tup^N.ps.map .str,.tup X]) n)^d8 (g:=An) λt ht=>?_).mpr p;have hv:Dz (us.map tk) (us.map λu=>D.int u.len) [.inr t.a,.inr t.b]=P3^.int t.len:=Oj nd^hu.mem_iff.mp ht;show D.tup [.str t.a,.str t.b,(Dz (us.map tk) (us.map λu=>D.int u.len) [.inr t.a,.inr t.b]).getD .non]=An t;rw[hv];rfl
end
def Ic(xs:n_ Str):A8^xs.map .str=l_:=NI xs
def Pc(us:n_ A_):A8 (us.map λu=>D.int u.len)=l_:=by
 induction us with
 |nil=>rfl
 |cons u us ih=>show(l_&&A8^us.map λu=>D.int u.len)=l_;rw[ih];rfl
def Oq(us:n_ A_):A8^(us.map tk).map tupK=l_:=by
 induction us with
 |nil=>rfl
 |cons u us ih=>show(flat^tupK^tk u&&A8^(us.map tk).map tupK)=l_;rw[ih];rfl
def Vm(ps:n_ Str):LM^J9 ps:=Ic ps
def QB(us:n_ A_):LM^G8 us:=Pc us
def XJ(us:n_ A_)(j:Nat):D.dit ((us.map tk).eraseIdx j)^(us.map λu=>D.int u.len).eraseIdx j=G8^us.eraseIdx j:=by
 rw[Gu,Gu];rfl
theorem Qw{α:Type}[DecidableEq α]:∀{xs:n_ α}{x:α},x∈xs->∃j:Nat,xs[j]?=P3 x/\(∀m y,m<j->xs[m]?=P3 y->y≠x)/\(x::xs.eraseIdx j).Perm xs
 |[],_,h=>by cases h
 | y::xs,x,h=>by
  by_cases e:y=x
  .subst e
   exact#[0,rfl,λm _ hm=>absurd hm^Nat.not_lt_zero _,List.Perm.refl _]
  .let#[j,h1,h2,h3]:=Qw^(Uf.mp h).resolve_left λz=>e z.symm
   refine#[j+1,h1,λm z hm hz=>?_,?_]
   .cases m with
    |zero=>cases hz;exact e
    |succ m=>exact h2 m z (by lk) hz
   .show(x::y::xs.eraseIdx j).Perm (y::xs)
    exact(i6 ..).trans^h3.cons y
def F_{α:Type}[DecidableEq α]{xs:n_ α}{x:α}{j:Nat}(nd:xs.Nodup)(h:(x::xs.eraseIdx j).Perm xs):(xs.eraseIdx j).Perm (xs.filter λy=>decide (y≠x)):=by
 have nd2:=h.nodup_iff.mpr nd;rw[cF]at nd2;have f:=h.filter λy=>decide (y≠x);rw[gM^by simp]at f;have e:((xs.eraseIdx j).filter λy=>decide (y≠x))=xs.eraseIdx j:=g8.mpr λy hy=>decide_eq_true fun(z:y=x)=>nd2.1 (by rw[←z];exact hy);rw[e]at f;exact f
def ZE{x:Str}{u:A_}:([D.str u.a,D.str u.b].any λy=>FT y^.str x)=SR x u:=by
 rw[QA,ce,atB_iff,Bool.or_eq_true,decide_eq_true_eq,decide_eq_true_eq]
section
variable {n:Sg}
theorem Gr{N:Net}(ok:N.Ok){x:Str}(hx:JU x){l t:Ch}{d1:D}(hd1:atI [D.str "go",D.str x] 1=P3^.str x){D2:E2}:∀(post pre:n_ A_) (m:Sg) (s2:Slot),(∀u∈pre++post,u∈N.ts)->(pre++post).length<=60->((pre++post).map tk).Nodup->m.w t=P3^.pl^G8 ((pre.filter λu=>!SR x u)++post)->
  (∀(m':Sg) (s:Slot),m'.n=m.n->m'.w t=P3 (.pl^G8^(pre++post).filter λu=>!SR x u)->(∀b,b≠t->m'.w b=m.w b)->D2.nx m' [.sh^Hw (.ob l)^.ob t,.sh^LH^.go x,s])->
  Bh (Az 2) (BC (AX^AV (Hq m_) (AV A1 (AA 1)^wC^D.int 1)^AA 2) (CL^Sx "dict" Ql (AV A2 (AA 0)^wC^D.str "ties")^AD (AA 2) AQ) Ao) D2 ((post.map tk).map tupK) m [.sh^Hw (.ob l)^.ob t,.sh^LH^.go x,s2]
 |[],pre,m,s2,_,_,_,hm,q=>q m s2 rfl (by rw[cX]at hm ⊢;exact hm) λ_ _=>rfl
 | u::post,pre,m,s2,hin,hl,nd,hm,q=>by
  have hu:u∈N.ts:=hin u^cC _ Re;let#[m1,m2,m3,_]:=ok.tin u hu;have e1:pre++u::post=(pre++[u])++post:=by rw[fB];rfl
  refine#[_,hd1,CO hx,Eb (ok.names _ m1)^ok.names _ m2,_,rfl,?_];show if([D.str u.a,D.str u.b].any λy=>FT y^.str x)=l_ then _ else _
  rw[ZE];rw[e1]at hin hl nd q;cases c:SR x u with
  |false=>
   refine Ce ?_;refine Gr ok hx (d1:=d1) hd1 post (pre++[u]) m _ hin hl nd ?_ q;rw[hm,List.filter_append,iZ (by rw[c];rfl),ii,fB];rfl
  | true=>
   refine Dt ?_;refine G9 ?_;refine#[t,rfl,#[_,hm,rfl],rfl,_,hm,?_]
   have hj:((pre.filter λu=>!SR x u)++u::post)[(pre.filter λu=>!SR x u).length]?=P3 u:=by
    rw[eo^Rs _,Nat.sub_self];rfl
   refine#[_,_,_,tk u,(pre.filter λu=>!SR x u).length,.int u.len,rfl,rfl,rfl,by rw[XV,hj];rfl,by rw[XV,hj];rfl,?_];rw[XJ];refine#[QB _,rfl,?_];refine Gr ok hx (d1:=d1) hd1 post (pre++[u]) _ _ hin hl nd ?_ λm' s a b c'=>q m' s a b λz hz=>(c' z hz).trans^CC hz;rw[B4,List.filter_append,gM (by rw[c];simp),ii,cX,List.eraseIdx_append_of_length_le^Rs _,Nat.sub_self];rfl
end
def Cy{ps:n_ Str}(h:∀x∈ps,JU x):DC^.lst^ps.map .str:=Gj λd hd=>by
 let#[x,hx,rfl]:=TM.mp hd;exact DD^h x hx
section
variable {ss:n_ Slot}{n:Sg}{Pd:D->Sg->Prop}
def Vk{us:n_ A_}{v:A_}(nd:(us.map tk).Nodup):∃us':n_ A_,D.dit (D7 (us.map tk)^tk v)^CD (us.map tk) (us.map λu=>D.int u.len) (tk v)^.int v.len=G8 us'/\us'.Perm (v::us.filter λu=>decide (tk u≠tk v)):=by
 unfold D7 CD
 by_cases h:JX (us.map tk)^tk v=l_
 .rw [if_pos h,if_pos h]
  refine#[us.map λu=>if tk u=tk v then v else u,?_,?_]
  .unfold G8
   congr 1
   .rw[eg]
    refine d8 λu _=>?_;show tk u=tk (if tk u=tk v then v else u)
    split
    .assumption
    .rfl
   .clear nd h
    induction us with
    |nil=>rfl
    |cons u us ih=>
     rw[cL,cL,cL,cL,←ih];show(if tk u=tk v then D.int v.len else D.int u.len)::_=D.int (if tk u=tk v then v else u).len::_
     split <;>rfl
  .have hm:=hasK_iffU.mp h
   clear h
   induction us with
   |nil=>cases hm
   | cons u us ih=>
    rw[cL,cF]at nd;rw[cL]
    by_cases e:tk u=tk v
    .rw[if_pos e,gM^by simp[e]]
     have e2:∀w∈us,tk w≠tk v:=λw hw z=>nd.1^by rw[e,←z];exact TM.mpr #[w,hw,rfl]
     rw[g8.mpr λw hw=>decide_eq_true^e2 w hw,show(us.map λu=>if tk u=tk v then v else u)=us from by
      refine(d8 λw hw=>if_neg^e2 w hw).trans^List.map_id' us]
    .rw[if_neg e,iZ^by simp[e]]
     rw[cL]at hm;exact((ih nd.2^(Uf.mp hm).resolve_left λz=>e z.symm).cons u).trans (i6 ..)
 .rw[if_neg h,if_neg h]
  refine#[us++[v],by unfold G8;rw[c0,c0];rfl,?_];have e2:∀w∈us,tk w≠tk v:=λw hw z=>h (hasK_iffU.mpr^by rw[←z];exact TM.mpr #[w,hw,rfl]);rw[g8.mpr λw hw=>decide_eq_true^e2 w hw];exact e7 _ _
def Vi(h:Q4 ss n Pd):HZ (EE Pd) n (ss++T0 1 .no):=by
 let#[l,t,N,N',ps,us,d,rfl,hlt,hl,ht,#[hp,hu,okn],hd,ok',p]:=h;have szl:=PySem.sizeLine_eq;have l25:=okn.2.1;have l60:=okn.2.2;have lp:=hp.length_eq;have lu:=hu.length_eq;have nd:(us.map tk).Nodup:=(hu.map tk).nodup_iff.mp^Ot okn.1;have ndp:ps.Nodup:=hp.nodup_iff.mp^Fq okn.1.rise;have nps:∀x∈ps,JU x:=λx hx=>okn.1.names x^hp.mem_iff.mpr hx;unfold HZ;cases d with
 |come x=>
  let#[hx,hn,hpp,htt]:=hd;refine#[_,AH (j:=0) rfl,?_];refine QG ?_;refine#[l,rfl,#[_,hl,rfl],_,AH (j:=1) rfl,rfl,_,hl,_,_,rfl,rfl,by rw[FM];lk,?_];refine#[De (Ic ps) rfl,rfl,?_];refine#[_,AH (j:=0) rfl,#[_,AH (j:=0) rfl,#[_,AH (j:=0) rfl,rfl,?_]]];refine p _ (ps++[x]) us rfl (by rw[B4];unfold J9;rw[c0];rfl) (by rw[CC^cY hlt];exact ht) #[?_,by rw[htt];exact hu,ok'] λb hb _=>CC hb;exact hpp.trans^(hp.cons x).trans (e7 x ps).symm
 | go x=>
  let#[hx,rfl]:=hd;have nx:=okn.1.names x hx;let#[j,j1,j2,j3]:=Qw^hp.mem_iff.mp hx;refine#[_,AH (j:=0) rfl,?_];refine#[_,AH (j:=0) rfl,?_];refine QG ?_;refine#[l,rfl,#[_,hl,rfl],_,AH (j:=1) rfl,rfl,_,hl,_,_,j,rfl,rfl,Cy nps,CO nx,#[.str x,by rw[XV,j1];rfl,by rw[Ef,beq_self_eq_true]],λm y hm hy=>?_,?_]
  .rw[XV]at hy
   let#[z,hz,rfl]:=cU.mp hy;rw[Ef];exact beq_eq_false_iff_ne.mpr^j2 m z hm hz
  rw[Gu];refine#[Vm _,rfl,?_];have htp:((n.put l^.pl^.lst^(ps.eraseIdx j).map .str).w t)=P3^.pl^G8 us:=by rw[CC^cY hlt];exact ht
  refine G9 ?_;refine#[[G8 us],by show [FL _^.ob t]=_;rw[EY htp],_,_,rfl,by rw[FM,FM],by rw[FM];lk,Ug okn.1 hu,Oq us,?_];refine Gr okn.1 nx (d1:=.non) rfl us [] _ _ (λu h=>hu.mem_iff.mpr h) (by show us.length<=60;lk) nd htp λm' s e1 e2 e3=>?_;refine#[_,AH (j:=0) rfl,#[_,AH (j:=0) rfl,rfl,?_]];refine p m' (ps.eraseIdx j) (us.filter λu=>!SR x u) e1 ((e3 l hlt).trans^B4 _ _ _) e2 #[?_,hu.filter _,ok'] λb h1 h2=>(e3 b h2).trans^CC h1;exact(hp.filter _).trans (F_ ndp j3).symm
 |lay x y v=>
  let#[hx,hy,hne,v1,v2,hps,hts]:=hd;let#[us',e1,e2]:=Vk (v:=#[lo x y,hi x y,v]) nd;refine#[_,AH (j:=0) rfl,?_];refine#[_,AH (j:=0) rfl,?_];refine#[_,AH (j:=0) rfl,?_];refine#[_,AH (j:=3) rfl,rfl,?_];refine G9 ?_;refine#[_,AH (j:=1) rfl,_,AH (j:=2) rfl,x,y,rfl,okn.1.names x hx,okn.1.names y hy,hne,?_];refine#[t,tk #[lo x y,hi x y,v],_,_,rfl,rfl,ht,by rw[FM];lk,?_];refine#[_,AH (j:=0) rfl,rfl,?_];refine p _ ps us' rfl (by rw[CC hlt];exact hl) (by rw[B4];exact congrArg _^congrArg _ e1) #[by rw[hps];exact hp,?_,ok'] λb _ hb=>CC hb;refine hts.trans^ij ?_ e2.symm;refine List.Perm.cons _ ?_;refine ij (hu.filter _)^List.Perm.of_eq^eM λu h=>?_;rw[ce,iK,decide_eq_true_eq,c8,Ne,betwB_iff,EL hne (okn.1.tin u^hu.mem_iff.mpr h).2.2.1,Ne,tk_eq]
 | take x y=>
  let#[#[u,hf],hx,hy,hne,rfl]:=hd;have mu:=cR.mp (show u∈N.ts.filter (BE x y) by rw[hf];exact Op.mpr rfl);have eu:=(EL hne (okn.1.tin u mu.1).2.2.1).mp^betwB_iff.mp mu.2;let#[j,j1,_,j3]:=Qw^hu.mem_iff.mp mu.1;refine#[_,AH (j:=0) rfl,?_];refine#[_,AH (j:=0) rfl,?_];refine#[_,AH (j:=0) rfl,?_];refine#[_,AH (j:=0) rfl,?_];refine G9 ?_;refine#[t,rfl,#[_,ht,rfl],_,AH (j:=1) rfl,_,AH (j:=2) rfl,x,y,rfl,okn.1.names x hx,okn.1.names y hy,hne,rfl,_,ht,?_];refine#[_,_,_,tk u,j,.int u.len,rfl,rfl,by rw[show tk u=[.inr^lo x y,.inr^hi x y] by unfold tk;rw[eu.1,eu.2]];rfl,by rw[XV,j1];rfl,by rw[XV,j1];rfl,?_];rw[XJ];refine#[QB _,rfl,rfl,?_];refine p _ ps (us.eraseIdx j) rfl (by rw[CC hlt];exact hl) (B4 _ _ _) #[hp,?_,ok'] λb _ hb=>CC hb;have ndu:us.Nodup:=hu.nodup_iff.mp^Bm okn.1.trise;refine(hu.filter _).trans^ij (List.Perm.of_eq ?_) (F_ ndu j3).symm;refine eM λw hw=>?_;have h1:w∈N.ts:=hu.mem_iff.mpr hw
  have h2:BE x y w=l_↔w=u:=by
   rw[show(BE x y w=l_)=(BE x y w=l_)from rfl];constructor
   .intro z
    have:=cR.mpr #[h1,z]
    rw[hf]at this;exact Op.mp this
   .rintro rfl;exact mu.2
  rw[ce,iK,decide_eq_true_eq,c8,Ne,h2]
end
theorem LA{α:Type}[DecidableEq α]:∀{xs ys:n_ α},xs.Nodup->(∀x∈xs,x∈ys)->xs.length<=ys.length
 |[],_,_,_=>cB _
 |x::xs,ys,nd,h=>by
  rw[cF]at nd;let#[j,_,_,hp]:=Qw^h x Re
  have:=LA (ys:=ys.eraseIdx j) nd.2 λz hz=>(Uf.mp^hp.mem_iff.mpr^h z^TW _ hz).resolve_left λe=>nd.1^by rw[←e];exact hz
  have e:=hp.length_eq;rw[cT]at e ⊢;lk
def Cf{xs:n_ Str}{r:Int}(h0:0<=r)(h1:r<xs.length):∃x∈xs,atI (xs.map D.str) r=P3^.str x/\xs[r.toNat]?=P3 x:=by
 have h:r.toNat<xs.length:=by lk
 refine#[xs[r.toNat],dE _,?_,No h]
 have:=AH (xs:=xs.map D.str) (j:=r.toNat) (v:=.str xs[r.toNat])^by rw[XV,No h];rfl
 rwa[show((r.toNat:Nat):Int)=r by lk]at this
section
variable {ss:n_ Slot}{n:Sg}{Pd:D->Sg->Prop}
def RT(h:IQ ss n Pd):FA (EE Pd) n (ss++T0 7 .no):=by
 let#[N,ps,us,pool,k,rfl,#[hp,hu,okn],ndq,hq,q2,q20,hpq,lu,k0,k4,hn,p]:=h;have l25:=okn.2.1;have l60:=okn.2.2;have lp:=hp.length_eq;have szl:=PySem.sizeLine_eq;have nd:(us.map tk).Nodup:=(hu.map tk).nodup_iff.mp^Ot okn.1;have ndp:ps.Nodup:=hp.nodup_iff.mp^Fq okn.1.rise;have nps:∀x∈ps,JU x:=λx hx=>hq x^hpq x hx;unfold FA;refine QG ?_;refine#[by show(pool.map D.str).length<=10000000;rw[FM];lk,?_];refine B7 (λd=>!((ps.map D.str).any λy=>FT y d)) id (λρ=>∃s,ρ=[.sh^J9 ps,s]) _ _ _ _ ?_ #[_,rfl] ?_
 .rintro d hd ρ m nx sk ⟨s,rfl⟩ h1 h2
  let#[x,hx,rfl]:=TM.mp hd;refine#[CO^hq x hx,Cy nps,_,rfl,?_];exact Du (λc=>h1 _ #[_,rfl] c) λc=>h2 _ #[_,rfl]^c8.mpr c
 have ef:(pool.map D.str).filter (λd=>!((ps.map D.str).any λy=>FT y d))=(pool.filter λx=>decide (x∉ps)).map D.str:=by
  rw[f8]
  congr 1
  refine eM λx _=>?_;show(!((ps.map D.str).any λy=>FT y^.str x))=decide (x∉ps);rw[Mh,decide_not]
 rw[dB,fS,ef];generalize hnew:(pool.filter λx=>decide (x∉ps))=new
 have mnew:∀x∈new,x∈pool/\x∉ps:=λx hx=>by
  rw[←hnew]at hx;let#[a,b]:=cR.mp hx;exact#[a,of_decide_eq_true b]
 have lnew:new.length<=20:=by rw[←hnew];exact cG (cf _ _) q20
 have full:new=[]->2<=ps.length:=λe=>by
  rw[e]at hnew
  have:∀x∈pool,x∈ps:=λx hx=>by
   rcases fZ (x∈ps)with z|z
   .exact z
   .have h1:x∈pool.filter λx=>decide (x∉ps):=cR.mpr #[hx,decide_eq_true z]
    rw[hnew]at h1;cases h1
  have:=LA ndq this
  omega
 refine#[9,rfl,by cbv,by cbv,by lk,λway w0 w9=>?_];refine#[z0,Cy λx hx=>hq x (mnew x hx).1,Cy (ps:=[]) (λx hx=>by cases hx),?_]
 have come:new≠[]->(As^A3^AD (wC^D.str "come")^AD (AV A1 (AA 5)^Aa BN^AE (A7 0)^AE (AK^Be DK^AD (AA 5) AQ) AS) AQ) (EE Pd) (n - 1) [.fd,.sh^Hw (J9 ps)^G8 us,.sh^.tup^pool.map .str,.sh^.int k,.sh^J9 ps,.sh^.lst^new.map .str,.sh^.int way,.no,.no,.no,.no]:=λhne=>by
  have l1:1<=new.length:=List.length_pos_iff.mpr hne;refine#[_,_,rfl,rfl,((new.map D.str).length:Int),rfl,by rw[FM];lk,by rw[FM];lk,(by show 1<=n.n - 1;lk),λr r0 r1=>?_];rw[FM]at r1;let#[x,hx,ex,_]:=Cf r0 r1;exact#[_,ex,z2,p (.come x) (n.n - 1 - 1) (mnew x hx)^by lk]
 have rst:∀D5:D,2<=ps.length->(AW (BC (AX^AV (Ee m_) (AA 6)^wC^D.int 2) (As^A3^AD (wC^D.str "go")^AD (AV A1 (AA 4)^Aa BN^AE (A7 0)^AE (AK^Be DK^AD (AA 4) AQ) AS) AQ) Ao)
 (AW (BC (G7 (AX^AV (Ee m_) (AA 6)^wC^D.int 3)^AX^AV Yc (AV A2 (AA 1)^wC^D.str "ties") Oi) (AW (Au 7^AV A1 (Be MS^AD (AV A2 (AA 1)^wC^D.str "ties") AQ)^Aa BN^AE (A7 0)^AE (AK^Be Uo^AD (AV A2 (AA 1)^wC^D.str "ties") AQ) AS)
 (AW (Au 8^Aa BN^AE (A7 0)^AE (AK^wC^D.int 2) AS)
 (As^A3^AD (wC^D.str "take")^AD (AV A1 (AA 7)^AA 8)^AD (AV A1 (AA 7)^AV HS (wC^D.int 1)^AA 8) AQ))) Ao)
 (AW (Au 9^Aa BN^AE (A7 0)^AE (AK^Be DK^AD (AA 4) AQ) AS)
 (AW (Au 10^AV (VQ (λ_ j=>0<j) λi j=>D.int (i % j)) (AV BZ (AV BZ (AA 9)^wC^D.int 1)^Aa BN^AE (A7 0)^AE (AK^AV HS (Be DK^AD (AA 4) AQ)^wC^D.int 1) AS)^Be DK^AD (AA 4) AQ)
 (As^A3^AD (wC^D.str "lay")^AD (AV A1 (AA 4)^AA 9)^AD (AV A1 (AA 4)^AA 10)^AD (Aa La^AE (A7 0)^AE (AK^Xh (AX^AV Ho (AA 3)^wC^D.int 4) (AA 3)^Aa BN^AE (A7 0)^AE (AK^wC^D.int 4) AS) AS) AQ)))))
   (EE Pd) (n - 1) [.fd,.sh^Hw (J9 ps)^G8 us,.sh^.tup^pool.map .str,.sh^.int k,.sh^J9 ps,.sh D5,.sh^.int way,.no,.no,.no,.no]:=λD5 p2=>by
  have lpl:(ps.map D.str).length=ps.length:=FM ..;show if(way==2)=l_ then _ else _
  refine Du (λc=>?_) λc=>?_
  .refine#[_,_,rfl,rfl,((ps.map D.str).length:Int),rfl,by lk,by lk,(by show 1<=n.n - 1;lk),λr r0 r1=>?_]
   rw[lpl]at r1;let#[x,hx,ex,_]:=Cf r0 r1;exact#[_,ex,z2,p (.go x) (n.n - 1 - 1) hx^by lk]
  have lay:(AW (Au 9^Aa BN^AE (A7 0)^AE (AK^Be DK^AD (AA 4) AQ) AS)
 (AW (Au 10^AV (VQ (λ_ j=>0<j) λi j=>D.int (i % j)) (AV BZ (AV BZ (AA 9)^wC^D.int 1)^Aa BN^AE (A7 0)^AE (AK^AV HS (Be DK^AD (AA 4) AQ)^wC^D.int 1) AS)^Be DK^AD (AA 4) AQ)
 (As^A3^AD (wC^D.str "lay")^AD (AV A1 (AA 4)^AA 9)^AD (AV A1 (AA 4)^AA 10)^AD (Aa La^AE (A7 0)^AE (AK^Xh (AX^AV Ho (AA 3)^wC^D.int 4) (AA 3)^Aa BN^AE (A7 0)^AE (AK^wC^D.int 4) AS) AS) AQ))) (EE Pd) (n - 1) [.fd,.sh^Hw (J9 ps)^G8 us,.sh^.tup^pool.map .str,.sh^.int k,.sh^J9 ps,.sh D5,.sh^.int way,.no,.no,.no,.no]:=by
   refine#[_,_,rfl,rfl,((ps.map D.str).length:Int),rfl,by lk,by lk,(by show 1<=n.n - 1;lk),λa a0 a1=>?_];refine#[_,_,rfl,rfl,((ps.map D.str).length:Int) - 1,rfl,by lk,by lk,(by show 1<=n.n - 1 - 1;lk),λq q0 q1=>?_];refine#[_,_,rfl,rfl,(by show(0:Int)<((ps.map D.str).length:Int);lk),?_];rw[lpl]at a1 q1 ⊢;have hb0:0<=(a+1+q) % (ps.length:Int)/\(a+1+q) % (ps.length:Int)<ps.length:=#[ie _^by lk,h8 _^by lk]
   have hab:(a+1+q) % (ps.length:Int)≠a:=by
    intro e
    rcases(show a+1+q<ps.length\/ps.length<=a+1+q by lk)with z|z
    .rw[Int.emod_eq_of_lt (by lk) z]at e;lk
    .have:(a+1+q) % (ps.length:Int)=a+1+q - ps.length:=by
      rw[←Int.sub_emod_right,Int.emod_eq_of_lt (by lk)^by lk]
     omega
   obtain⟨b,eb⟩:∃b,(a+1+q) % (ps.length:Int)=b:=#[_,rfl];rw[eb]at hb0 hab;let#[x,hx,ex,ix]:=Cf a0 a1;let#[y,hy,ey,iy]:=Cf hb0.1 hb0.2
   have hne:x≠y:=λe=>hab (by
    subst e;have h1:a.toNat<ps.length:=by lk
    have:=(List.getElem?_inj h1 ndp).mp^ix.trans iy.symm
    omega)
   subst eb;refine#[_,ex,_,ey,?_];have fin:∀(s:Int) (m:Nat),0<=s->s<=3->n.n<=m+4->1<=m->La [.fd,.sh^.int s] #[m,n.w] λd n'=>AQ n' [.fd,.sh^Hw (J9 ps)^G8 us,.sh^.tup^pool.map .str,.sh^.int k,.sh^J9 ps,.sh D5,.sh^.int way,.no,.no,.sh^.int a,.sh^.int ((a+1+q) % (ps.length:Int))] λds n2=>[D.str "lay",.str x,.str y,d].length<=sizeLine/\Pd (.tup ([D.str "lay",.str x,.str y]++d::ds)) n2:=λs m s0 s3 hm m1=>#[s,rfl,s0,s3,m1,λr r1 r2=>#[(by cbv:4<=sizeLine),p (.lay x y r) (m - 1) #[hx,hy,hne,r1,r2]^by lk]];show if decide (k<4)=l_ then _ else _
   refine Du (λc=>?_) λc=>?_
   .exact fin k (n.n - 1 - 1 - 1) k0 (by have:=of_decide_eq_true c;lk) (by lk)^by lk
   .exact#[4,rfl,by cbv,by cbv,(by show 1<=n.n - 1 - 1 - 1;lk),λr r0 r1=>fin r (n.n - 1 - 1 - 1 - 1) r0 (by lk) (by lk)^by lk]
  show if(way==3)=l_ then _ else _
  refine Du (λc3=>?_) λc3=>Ce lay;refine G9 ?_;refine#[_,_,rfl,by rw[FM,FM],rfl,?_];show if(!decide ((us.map tk).length=0))=l_ then _ else _
  rw[FM]
  by_cases e0:us.length=0
  .rw[decide_eq_true e0];exact Ce lay
  rw[decide_eq_false e0];refine Dt ?_;let#[s1,s2,s3,s4]:=TB okn hu;have lN:=hu.length_eq;refine G9 ?_;refine#[_,_,rfl,s1,s2,s3,s4,Ug okn.1 hu,λks' h3 h4=>?_];have ek:=NJ okn.1 hu h3 h4;subst ek;refine G9 ?_;refine#[_,_,rfl,by rw[FM,FM],((us.map tk).length:Int),rfl,by rw[FM];lk,by rw[FM];lk,(by show 1<=n.n - 1;lk),λr r0 r1=>?_];rw[FM]at r1;have hr:r.toNat<N.ts.length:=by lk
  refine#[tupK (tk N.ts[r.toNat]),?_,?_]
  .have:=AH (xs:=(N.ts.map tk).map tupK) (j:=r.toNat) (v:=tupK (tk N.ts[r.toNat]))^by rw[XV,XV,No hr];rfl
   rwa[show((r.toNat:Nat):Int)=r by lk]at this
  have hm:N.ts[r.toNat]∈us:=hu.mem_iff.mp^dE _;generalize N.ts[r.toNat]=u at hm;refine#[2,rfl,by cbv,by cbv,(by show 1<=n.n - 1 - 1;lk),λv v0 v1=>?_]
  rcases(show v=0\/v=1 by lk)with rfl|rfl
  .exact#[_,AH (j:=0) rfl,_,AH (j:=1) rfl,z3,p (.take u.a u.b) (n.n - 1 - 1 - 1) #[u,hm,.inl #[rfl,rfl]]^by lk]
  .exact#[_,AH (j:=1) rfl,_,AH (j:=0) rfl,z3,p (.take u.b u.a) (n.n - 1 - 1 - 1) #[u,hm,.inr #[rfl,rfl]]^by lk]
 cases hc:new with
 |nil=>
  rw[hc]at full;exact Ce^Ce^rst _ (full rfl)
 |cons x0 r0=>
  rw[hc]at come;refine Dt ?_;show if decide (way<2)=l_ then _ else _
  refine Du (λ_=>Dt^come^dG _ _) λ_=>?_;refine#[_,_,rfl,rfl,?_];show if decide (((ps.map D.str).length:Int)<2)=l_ then _ else _
  rw[FM];refine Du (λ_=>come^dG _ _) λc=>rst _^by have:=of_decide_eq_false^c8.mpr c;lk
end
section
variable {ss:n_ Slot}{n:Sg}{Pd:D->Sg->Prop}{C:Addr}
def Ut{N:Net}(ok:N.Ok){x y:Str}{l:Int}(e:Ed N x y l):Ed N y x l:=by
 let#[t,ht,rfl,h]:=e.tie ok;show(x,t.len)∈C4 N.ts y;unfold C4;refine de.mpr #[t,ht,?_]
 rcases h with⟨h1,h2⟩|⟨h1,h2⟩
 .rw[if_pos h2,h1];exact cE.mpr^.inr (Op.mpr rfl)
 .rw[if_pos h2,h1];exact cE.mpr^.inl (Op.mpr rfl)
def VU{N:Net}{x y z:Str}{d1 d2:Int}(h1:Wk N x y d1)(h2:Wk N y z d2):Wk N x z (d1+d2):=by
 induction h2 with
 |nil=>rw[Int.add_zero];exact h1
 |snoc _ e ih=>rw[←Int.add_assoc];exact .snoc ih e
def Le{N:Net}(ok:N.Ok){x y:Str}{d:Int}(h:Wk N x y d):Wk N y x d:=by
 induction h with
 |nil=>exact .nil
 |snoc h e ih=>
  rename_i y z d l
  have:=VU (Wk.snoc .nil^Ut ok e) ih
  rw[show d+l=0+l+d by lk];exact this
def Ui{N:Net}(ok:N.Ok){x y:Str}{o:o_ Int}(h:Far N x y o):Far N y x o:=by
 cases o with
 |none=>exact λd w=>h d^Le ok w
 |some d=>exact#[Le ok h.1,λd' w=>h.2 d'^Le ok w]
def WH{xs:n_ Str}:FT (.tup^xs.map .str)^.tup []=decide (xs=[]):=by
 cases xs <;>rfl
def RS(h:IP C ss n Pd):Cr C (EE Pd) n (ss++T0 7 .no):=by
 let#[a,t,b,N,M,rfl,k,e,hn,p]:=h;have ok:=k.2.2.1;have l25:=ok.2.1;have lpl:(M.ps.map D.str).length=M.ps.length:=FM ..;unfold Cr;refine#[_,AH (j:=0) rfl,z0,D_ ok.1,Gk (ps:=[]) (λx hx=>by cases hx),?_];show if FT (.tup^M.ps.map .str) (.tup [])=l_ then _ else _
 rw[WH];refine Du (λ_=>p n.n^by lk) λc=>?_;have c:M.ps≠[]:=λz=>c^decide_eq_true z;have l1:=List.length_pos_iff.mpr c;refine#[_,_,rfl,rfl,((M.ps.map D.str).length:Int),rfl,by lk,by lk,(by lk),λr r0 r1=>?_];rw[lpl]at r1;let#[x,hx,ex,_]:=Cf r0 r1;refine#[_,ex,?_];refine#[_,_,rfl,rfl,((M.ps.map D.str).length:Int),rfl,by lk,by lk,(by show 1<=n.n - 1;lk),λq q0 q1=>?_];rw[lpl]at q1;let#[y,hy,ey,_]:=Cf q0 q1;refine#[_,ey,?_];refine#[_,AH (j:=1) rfl,M,x,_,M.ts,rfl,rfl,λ_=>Iff.rfl,ok,hx,λks ds Kn M1 L=>?_];refine#[z2,z2,z2,(by cbv:3<=sizeLine),?_];have kn:VN C (n - 1 - 1) a t b N M:=k;have hx':x∈N.ps:=by rw[e];exact hx
 have hy':y∈N.ps:=by rw[e];exact hy
 have fr:∀{u v:Str},Far M u v^Kn v->True:=λ_=>trivial
 have farK:∀v,Far M x v^Kn v:=λv=>by
  cases ev:Kn v with
  |none=>exact λd hw=>L.all v d hw ev
  |some d=>exact L.least v d ev
 have zero:Far M x x^P3 0:=#[.nil,λd w=>w.pos ok.1];have bd:∀v d,Kn v=P3 d->0<=d/\d<=30000000:=λv d ev=>#[(L.least v d ev).1.pos ok.1,L.top v d ev]
 have one:∀(u v:Str) (o:o_ Int) (D2:E2) (s9:Slot),u∈N.ps->v∈N.ps->(∀o',Far M u v o'->o'=o)->(∀d,o=P3 d->0<=d/\d<=30000000)->(o=if u=v then P3 0 else Kn y)->(∀s,D2.nx (n - 1 - 1) [.fd,.sh^.ob a,.sh^enc M,.sh^.tup^M.ps.map .str,.sh^.str x,.sh^.str y,.sh^.dic ks ds,.sh^.str u,.sh^.str v,s])->
   (AW (Au 9^BQ C "far" (GP C) (AA 1)^AE (AK^AA 7)^AE (AK^AA 8) AS)
 (BC (AX^AV (Ee l_) (Be Bv^AD (AA 9) AQ)^Be Bv^AD (Xh (AX^AV (Ee l_) (AA 7)^AA 8) (IU (AA 6)^AA 5)^wC^D.int 0) AQ) (As^wC^D.bl m_) Ao)) D2 (n - 1 - 1) [.fd,.sh^.ob a,.sh^enc M,.sh^.tup^M.ps.map .str,.sh^.str x,.sh^.str y,.sh^.dic ks ds,.sh^.str u,.sh^.str v,s9]:=by
  intro u v o D2 s9 hu hv hf hb ho q;refine#[a,_,_,rfl,k.1,by cbv,a,t,b,N,M,u,v,rfl,kn,e,hu,hv,λo' h'=>?_];rw[hf o' h'];refine#[_,rfl,Ik hb,?_];show if(!(u==v))=l_ then _ else _
  by_cases euv:u=v
  .subst euv
   rw[if_pos rfl]at ho;subst ho;rw[beq_self_eq_true];refine Ce ?_;refine#[_,rfl,Ik (o:=P3 0) hb,?_];have z:(if l_=l_ then !(CB^Ek^P3 0==CB^.int 0)else CB^Ek^P3 0==CB^.int 0)=m_:=by rw[if_pos rfl,show Ek^P3 0=D.int 0 from rfl,beq_self_eq_true];rfl
   exact q _
  .rw[if_neg euv]at ho
   rw[show(u==v)=m_ from beq_eq_false_iff_ne.mpr euv];refine Dt ?_;refine#[ks,ds,rfl,_,A5 y,?_]
   have ev:(BO ks ds^.inr y).getD .non=Ek^Kn y:=by
    rw[M1.at_];cases Kn y <;>rfl
   rw[ev,←ho];refine#[_,rfl,Ik hb,?_];have z:(if l_=l_ then !(CB^Ek o==CB^Ek o)else CB^Ek o==CB^Ek o)=m_:=by rw[if_pos rfl,beq_self_eq_true];rfl
   refine(if_neg (c:=(if l_=l_ then !(CB^Ek o==CB^Ek o)else CB^Ek o==CB^Ek o)=l_)^by rw[z];decide).mpr ?_;exact q _
 have xy:∀o',Far M x y o'->o'=if x=y then P3 0 else Kn y:=λo' h'=>by
  by_cases z:x=y
  .subst z;rw[if_pos rfl];exact h'.unique zero
  .rw[if_neg z];exact h'.unique^farK y
 have bxy:∀d,(if x=y then P3 0 else Kn y)=P3 d->0<=d/\d<=30000000:=λd h=>by
  by_cases z:x=y
  .rw[if_pos z]at h;cases h;lk
  .rw[if_neg z]at h;exact bd y d h
 have yx:(if x=y then P3 0 else Kn y)=if y=x then P3 0 else Kn y:=by
  by_cases z:x=y
  .rw[if_pos z,if_pos z.symm]
  .rw[if_neg z,if_neg^cY z]
 refine#[rfl,rfl,?_];refine one x y _ _ _ hx' hy' xy bxy rfl λs=>?_;refine#[rfl,rfl,?_];refine one y x _ _ _ hy' hx' (λo' h'=>xy o'^Ui ok.1 h') bxy yx λs=>?_;refine#[rfl,rfl,?_];refine one x x (P3 0) _ _ hx' hx' (λo' h'=>h'.unique zero) (λd h=>by cases h;lk) (if_pos rfl).symm λs=>?_;exact p _^by show n.n<=n.n - 1 - 1+2;lk
end
theorem Pe{α:Type}{r:α->α->Prop}(tr:∀a b c,r a b->r b c->r a c)(x:α):∀{xs:n_ α},xs.Pairwise r->(∀y∈xs,r x y\/r y x)->∃l:n_ α,l.Perm (x::xs)/\l.Pairwise r
 |[],_,_=>#[[x],.refl _,iY _ _]
 | y::xs,h,t=>by
  let#[h1,h2]:=cw.mp h
  rcases t y Re with z|z
  .refine#[x::y::xs,.refl _,cw.mpr #[λw hw=>?_,h]]
   rcases Uf.mp hw with rfl|hw
   .exact z
   .exact tr _ _ _ z^h1 w hw
  .let#[l,p,q]:=Pe tr x h2 λw hw=>t w^TW _ hw
   refine#[y::l,(p.cons y).trans^i6 x y xs,cw.mpr #[λw hw=>?_,q]]
   rcases Uf.mp^p.mem_iff.mp hw with rfl|hw
   .exact z
   .exact h1 w hw
def WI{a b c:A_}(h:Bn a b)(g:Bn b c):Bn a c:=by
 rcases h with h|⟨h,h'⟩ <;>rcases g with g|⟨g,g'⟩
 .exact .inl^ft h g
 .exact .inl (g▸h)
 .exact .inl (h▸g)
 .exact .inr #[h.trans g,ft h' g']
def Pj{N:Net}{ps:n_ Str}{us:n_ A_}{pool:n_ Str}(S:P4 N ps us)(hq:∀x∈pool,JU x)(hp:∀x∈ps,x∈pool)(l1:N.ps.length<=18)(l2:N.ts.length<=18){d:Dd}
  (hd:match d with|.come x=>x∈pool/\x∉ps|.go x=>x∈ps|.lay x y l=>x∈ps/\y∈ps/\x≠y/\1<=l/\l<=1000000|.take x y=>∃u∈us,SN x y u):
  ∃N':Net,P5 N d N'/\okN N'/\(∀x∈N'.ps,x∈pool)/\N'.ps.length<=N.ps.length+1/\N'.ts.length<=N.ts.length+1:=by
 let#[s1,s2,okn]:=S;have ok:=okn.1;have hN:∀x∈N.ps,x∈pool:=λx hx=>hp x^s1.mem_iff.mp hx;have lf:∀p:A_->Bool,(N.ts.filter p).length<=N.ts.length:=λp=>cf _ _;cases d with
 | come x=>
  have hx:x∉N.ps:=λz=>hd.2^s1.mem_iff.mp z;let#[qs,h1,h2]:=Pe (r:=λx y=>cs x<cs y) (λa b c h g=>ft h g) x ok.rise λy hy=>(Kt x y).elim .inl λz=>z.elim (λe=>absurd (e▸hy) hx) .inr;have lq:qs.length=N.ps.length+1:=h1.length_eq;refine#[#[qs,N.ts],#[hq x hd.1,hx,h1,rfl],#[#[λy hy=>?_,h2,λt ht=>?_,ok.trise],by show qs.length<=25;lk,okn.2.2],λy hy=>?_,by show qs.length<=_;lk,c_ _]
  .rcases Uf.mp^h1.mem_iff.mp hy with rfl|z
   .exact hq y hd.1
   .exact ok.names y z
  .let#[a1,a2,a3]:=ok.tin t ht
   exact#[h1.mem_iff.mpr^TW _ a1,h1.mem_iff.mpr^TW _ a2,a3]
  .rcases Uf.mp^h1.mem_iff.mp hy with rfl|z
   .exact hd.1
   .exact hN y z
 |go x=>
  refine#[_,#[s1.mem_iff.mpr hd,rfl],#[#[λy hy=>ok.names y (cR.mp hy).1,ok.rise.filter _,λt ht=>?_,ok.trise.filter _],cG (cf _ _) okn.2.1,cG (lf _) okn.2.2],λy hy=>hN y (cR.mp hy).1,gQ^cf _ _,gQ^lf _];let#[h1,h2]:=cR.mp ht;let#[a1,a2,a3]:=ok.tin t h1;have h3:¬(t.a=x\/t.b=x):=λz=>by rw[atB_iff.mpr z]at h2;cases h2
  exact#[cR.mpr #[a1,decide_eq_true λz=>h3^.inl z],cR.mpr #[a2,decide_eq_true λz=>h3^.inr z],a3]
 | lay x y l=>
  let#[hx,hy,hne,h1,h2]:=hd;have hx:=s1.mem_iff.mpr hx;have hy:=s1.mem_iff.mpr hy;let#[lh,lc]:=XD hne
  have hin:∀t∈N.ts.filter λu=>!BE x y u,t∈N.ts/\¬(t.a=lo x y/\t.b=hi x y):=λt ht=>by
   let#[g1,g2]:=cR.mp ht;refine#[g1,λz=>?_];rw[betwB_iff.mpr^(EL hne (ok.tin t g1).2.2.1).mpr z]at g2;cases g2
  let#[ts,g1,g2]:=Pe (r:=Bn) (λ_ _ _=>WI) (#[lo x y,hi x y,l]:A_) (ok.trise.filter λu=>!BE x y u) λt ht=>by
   let#[_,k]:=hin t ht
   rcases Kt (lo x y) t.a with z|z|z
   .exact .inl^.inl z
   .rcases Kt (hi x y) t.b with w|w|w
    .exact .inl^.inr #[z,w]
    .exact absurd #[z.symm,w.symm] k
    .exact .inr^.inr #[z.symm,w]
   .exact .inr^.inl z
  have lt:ts.length<=N.ts.length+1:=by
   have:=g1.length_eq
   have:=lf λu=>!BE x y u
   rw[cT]at *;lk
  refine#[#[N.ps,ts],#[hx,hy,hne,h1,h2,rfl,g1],#[#[ok.names,ok.rise,λt ht=>?_,g2],okn.2.1,by show ts.length<=60;lk],hN,c_ _,lt]
  rcases Uf.mp^g1.mem_iff.mp ht with rfl|z
  .have:lo x y∈N.ps/\hi x y∈N.ps:=by
    rcases lc with⟨e1,e2⟩|⟨e1,e2⟩ <;>rw[e1,e2] <;>exact#[by assumption,by assumption]
   exact#[this.1,this.2,lh,h1,h2]
  .exact ok.tin t (hin t z).1
 | take x y=>
  let#[u,hu,hb]:=hd;have hu:=s2.mem_iff.mpr hu;let#[u1,u2,u3,_]:=ok.tin u hu
  have hne:x≠y:=by
   rintro rfl
   rcases hb with⟨e1,e2⟩|⟨e1,e2⟩ <;>rw[e1,e2]at u3 <;>exact BK _ u3
  have hxy:x∈N.ps/\y∈N.ps:=by
   rcases hb with⟨e1,e2⟩|⟨e1,e2⟩ <;>rw[←e1,←e2] <;>exact#[by assumption,by assumption]
  have huf:u∈N.ts.filter^BE x y:=cR.mpr #[hu,betwB_iff.mpr hb]
  have one:N.ts.filter^BE x y=[u]:=by
   have pw:=ok.trise.filter^BE x y
   have eqs:∀v∈N.ts.filter^BE x y,v.a=lo x y/\v.b=hi x y:=λv hv=>by
    let#[g1,g2]:=cR.mp hv;exact(EL hne (ok.tin v g1).2.2.1).mp^betwB_iff.mp g2
   have no:∀v∈N.ts.filter^BE x y,∀w∈N.ts.filter^BE x y,¬Bn v w:=λv hv w hw h=>by
    let#[e1,e2]:=eqs v hv;let#[f1,f2]:=eqs w hw
    rcases h with h|⟨_,h⟩
    .rw[e1,f1]at h;exact BK _ h
    .rw[e2,f2]at h;exact BK _ h
   cases e:N.ts.filter^BE x y with
   |nil=>rw[e]at huf;cases huf
   | cons v r=>
    cases r with
    |nil=>rw[e]at huf;rw[Op.mp huf]
    |cons w r=>
     rw[e]at pw no;exact absurd ((cw.mp pw).1 w Re)^no v Re w^TW _ Re
  exact#[_,#[#[u,one],hxy.1,hxy.2,hne,rfl],#[#[ok.names,ok.rise,λt ht=>ok.tin t (cR.mp ht).1,ok.trise.filter _],okn.2.1,cG (lf _) okn.2.2],hN,c_ _,gQ^lf _]
def Pk{N N':Net}{ps:n_ Str}{us:n_ A_}(S:P4 N ps us):ps.length=N.ps.length/\us.length=N.ts.length:=#[S.1.length_eq.symm,S.2.1.length_eq.symm]
def NU(w:Ch->o_ Wc)(xs:n_ Str):(xs.map D.str).map^FL w=xs.map .str/\(xs.map D.str).flatMap^Ge w=[]:=by
 induction xs with
 |nil=>exact#[rfl,rfl]
 | cons x xs ih=>
  refine#[?_,?_]
  .show D.str x::(xs.map D.str).map^FL w=_
   rw[ih.1];rfl
  .show([]:n_ Ch)++(xs.map D.str).flatMap^Ge w=_
   rw[ih.2];rfl
def LS(s:Sg)(L:n_ Ch):Sg.back (s.drop L) s L=s:=Sg.back_drop s L s.n
def Gb{w:Ch->o_ Wc}{l t:Ch}{x y:D}(h1:w l=P3^.pl x)(h2:w t=P3^.pl y):Dp.FK w^Hw (.ob l)^.ob t=Hw x y/\F1 w^Hw (.ob l)^.ob t=[l,t]:=by
 refine#[?_,?_]
 .show D.dic _ [FL w^.ob l,FL w^.ob t]=_
  rw[EY h1,EY h2];rfl
 .show Ge w^.ob l++(Ge w^.ob t++[])=_
  rw[F2 h1,F2 h2];rfl
def X0{w:Ch->o_ Wc}{l t:Ch}{x y:D}(h1:w l=P3^.pl x)(h2:w t=P3^.pl y):Dp.FK w^.tup [.ob l,.ob t]=.tup [x,y]:=by
 show D.tup [FL w^.ob l,FL w^.ob t]=_;rw[EY h1,EY h2]
def B5(s:Sg)(a:Ch)(c:Wc):(s.put a c).w a=P3 c:=if_pos rfl
def BB{s:Sg}{a b:Ch}{c:Wc}(h:b≠a):(s.put a c).w b=s.w b:=if_neg h
def T_{A B l:n_ A_}(h:OutT A B l):∀u∈l,u∈A:=λu hu=>(cR.mp^h.1.mem_iff.mp hu).1
def QV{A B l:n_ A_}(h:OutT A B l):l.length<=A.length:=by rw[h.1.length_eq];exact cf _ _
def Ox{xs ys:n_ D}(hx:∀d∈xs,item d)(hy:∀d∈ys,item d)(lx:xs.length<=60)(ly:ys.length<=60):Kw^.tup [.lst xs,.lst ys]:=by
 have s1:=Ib λd hd=>fk (hx d hd).2.1;have s2:=Ib λd hd=>fk (hy d hd).2.1;have d1:=dps_le.mpr λd hd=>(hx d hd).2.2;have d2:=dps_le.mpr λd hd=>(hy d hd).2.2;refine Hx (B:=1000001) (by cbv) #[fines_iff.mpr λd hd=>(hx d hd).1,fines_iff.mpr λd hd=>(hy d hd).1,trivial] ?_ ?_
 .show max (M8 xs+1)^max (M8 ys+1) 0+1<=100
  omega
 .show NM xs+1+(NM ys+1+0)<=200000
  omega
def Bj{N:Net}(ok:okN N):Kw^enc N:=by
 let#[h1,h2,h3]:=Xt ok;exact Hx (by cbv) h1 (by lk)^by lk
def C9{x:Str}{t e:Prop}(h:e):if(if l_=l_ then !(x==x)else x==x)=l_ then t else e:=by
 rw[if_pos rfl,beq_self_eq_true];exact h
theorem LX:∀{xs:n_ D}{y:D},A8 xs=l_->flat y=l_->A8 (xs++[y])=l_
 |[],y,_,h=>by show(flat y&&l_)=l_;rw[h];rfl
 |x::xs,y,g,h=>by
  have g:(flat x&&A8 xs)=l_:=g;let#[g1,g2]:=Bool.and_eq_true_iff.mp g;show(flat x&&A8 (xs++[y]))=l_;rw[g1,LX g2 h];rfl
def WV(d:Dd):flat^LH d=l_:=by cases d <;>rfl
noncomputable def Zr(C:Ch):Ac:=(AW (Au 9^FE IQ^AE (A7 1)^AE (AK^AA 6)^AE (AK^AA 3)^AE (AK^AA 4) AS)
 (AW (Au 10^Aa (IL C)^AE (AK^AA 5)^AE (AK^AA 9) AS)
 (AW (CL^Aa Q4^AE (AK^AA 6)^AE (AK^AA 9) AS)
 (AW (Au 11^Aa CS^AE (AK^FE DQ^AE (AK^AA 6) AS)^AE (AK^AA 2) AS)
 (AW (BC (AX^AV (Ee l_) (Q_ .sh Bv^AD (AA 10) AQ)^Be Bv^AD (Aa Ei^AE (AK^AA 7)^AE (AK^AA 11) AS) AQ) (As^wC^D.bl m_) Ao)
 (AW (CL^Sx "list" F9 (AV A1 (AA 10)^wC^D.int 0)^AD (wC D.non) AQ)
 (AW (CL^Sx "list" Up (AV A1 (AA 10)^wC^D.int 1) AQ)
 (AW (BC (IT (AX^AV (Ee l_) (Be Bv^AD (BQ C "thin" (J6 C) (AA 5) AS) AQ)^Be Bv^AD (AA 11) AQ)^AX^AV (Ee l_) (Be Bv^AD (BQ C "net" (J8 C) (AA 5) AS) AQ)^Be Bv^AD (FE DQ^AE (AK^AA 6) AS) AQ) (As^wC^D.bl m_) Ao)
 (AW (BC (G6^AX^Aa (IP C)^AE (A7 1)^AE (AK^AA 5)^AE (AK^AA 11) AS) (As^wC^D.bl m_) Ao)
 (Au 7^AA 11))))))))))
noncomputable def bJ(t b:Int)(pool:n_ Str)(k:Int)(a l tt:Ch)(M:Net)(r:n_ Slot):n_ Slot:=[.no,.fd,.sh^tD t b,.sh^.tup^pool.map .str,.sh^.int k,.sh^.ob a,.sh^Hw (.ob l)^.ob tt,.sh^enc M]++r
structure Y5 (C:Ch) (t b:Int) (pool:List Str) (k:Nat) (n:Sg) (a l tt:Ch) (N M:Net) (ps:List Str) (us:List A_):Prop where
 nn:7*k<=n.n
 wa:n.w a=P3 (kc C t b N M)
 wl:n.w l=P3 (.pl^J9 ps)
 wt:n.w tt=P3 (.pl^G8 us)
 al:a≠l
 at':a≠tt
 lt:l≠tt
 st:P4 N ps us
 ok:okN M
 inp:∀x∈ps,x∈pool
 l1:N.ps.length+k<=18
 l2:N.ts.length+k<=18
def Xj{C:Ch}{t b:Int}{pool:n_ Str}{kk:Int}(tm:VY t b)(nd:pool.Nodup)(hq:∀x∈pool,JU x)(p2:2<=pool.length)(p20:pool.length<=20)(k0:0<=kk)(k4:kk<=4){a l tt:Ch}{N M:Net}{ps:n_ Str}{us:n_ A_}{k:Nat}{n:Sg}{D2:E2}{s8 s9 s10 s11:Slot}
  (I:Y5 C t b pool (k+1) n a l tt N M ps us) (q:∀(n':Sg) (N' T:Net) (ps':n_ Str) (us':n_ A_) (s9 s10 s11:Slot),Y5 C t b pool k n' a l tt N' T ps' us'->D2.nx n'^bJ t b pool kk a l tt T [s8,s9,s10,s11]):
  Zr C D2 n (bJ t b pool kk a l tt M [s8,s9,s10,s11]):=by
 let#[nn,wa,wl,wt,al,at',lt,st,okM,inp,l1,l2]:=I;have el:=Pk (N':=N) st;have okn:=st.2.2;unfold Zr;refine#[[l,tt],[.fd,.sh^Hw (J9 ps)^G8 us,.sh^.tup^pool.map .str,.sh^.int kk],?_,?_,?_]
 .show [Slot.fd,.sh^Dp.FK n.w^Hw (.ob l)^.ob tt,.sh^.tup^(pool.map D.str).map^FL n.w,.sh^.int kk]=_
  rw[(Gb wl wt).1,(NU _ _).1]
 .show([]:n_ Ch)++(F1 n.w^Hw (.ob l)^.ob tt++((pool.map D.str).flatMap^Ge n.w++([]++[])))=_
  rw[(Gb wl wt).2,(NU _ _).2];rfl
 refine#[N,ps,us,pool,kk,rfl,st,nd,hq,p2,p20,inp,by lk,k0,k4,(by show 5<=n.n;lk),λd m hd hm=>#[WV d,?_]];have hm:n.n<=m+5:=hm;rw[Sg.back_drop];let#[N',dN,okN',inN',ln1,ln2]:=Pj st hq inp (by lk) (by lk) hd;refine#[a,t,b,N,M,N',d,rfl,#[wa,okn,okM,tm],#[by lk,by lk],dN,okN',λT came went x1 x2 hT hc hw e1 e2 x12=>?_];have okT:=hT.okN okN';have n1a:x1≠a:=λz=>by rw[z]at e1;rw[show(#[m,n.w]:Sg).w a=P3 _ from wa]at e1;cases e1
 have n2a:x2≠a:=λz=>by rw[z]at e2;rw[show(#[m,n.w]:Sg).w a=P3 _ from wa]at e2;cases e2
 have n1l:x1≠l:=λz=>by rw[z]at e1;rw[show(#[m,n.w]:Sg).w l=P3 _ from wl]at e1;cases e1
 have n2l:x2≠l:=λz=>by rw[z]at e2;rw[show(#[m,n.w]:Sg).w l=P3 _ from wl]at e2;cases e2
 have n1t:x1≠tt:=λz=>by rw[z]at e1;rw[show(#[m,n.w]:Sg).w tt=P3 _ from wt]at e1;cases e1
 have n2t:x2≠tt:=λz=>by rw[z]at e2;rw[show(#[m,n.w]:Sg).w tt=P3 _ from wt]at e2;cases e2
 obtain⟨n2,en2⟩:∃n2,n2=U9 ((⟨m,n.w⟩:Sg).put a^kc C t b N' T) x1 x2 came went:=#[_,rfl];rw[←en2];have n2n:n2.n=m:=by rw[en2];rfl
 have w1:n2.w x1=P3^.pl^.lst^came.map An:=by rw[en2];exact(BB x12).trans (B5 ..)
 have w2:n2.w x2=P3^.pl^.lst^went.map An:=by rw[en2];exact B5 ..
 have w3:n2.w a=P3^kc C t b N' T:=by rw[en2];exact(BB n2a.symm).trans^(BB n1a.symm).trans (B5 ..)
 have w4:n2.w l=P3^.pl^J9 ps:=by rw[en2];exact(BB n2l.symm).trans^(BB n1l.symm).trans^(BB al.symm).trans wl
 have w5:n2.w tt=P3^.pl^G8 us:=by rw[en2];exact(BB n2t.symm).trans^(BB n1t.symm).trans^(BB at'.symm).trans wt
 refine#[l,tt,N,N',ps,us,d,rfl,lt,w4,w5,st,dN,okN',λn3 ps' us' en3 v4 v5 st' oth=>?_];have v1:n3.w x1=P3^.pl^.lst^came.map An:=(oth _ n1l n1t).trans w1;have v2:n3.w x2=P3^.pl^.lst^went.map An:=(oth _ n2l n2t).trans w2;have v3:n3.w a=P3^kc C t b N' T:=(oth _ al at').trans w3;refine#[[l,tt],[.sh^Hw (J9 ps')^G8 us'],?_,?_,?_]
 .show [Slot.sh^Dp.FK n3.w^Hw (.ob l)^.ob tt]=_
  rw[(Gb v4 v5).1]
 .show F1 n3.w^Hw (.ob l)^.ob tt++[]=_
  rw[(Gb v4 v5).2];rfl
 refine#[N',ps',us',rfl,st',GA N',?_];rw[LS];refine#[N',t,b,rfl,okN',tm.1,tm.2.1,tm.2.2.1,tm.2.2.2,λord o1 o2=>?_];have eT:sub N'^CZ N' t b [] ord=T:=IsT.uniq #[ord,o1,o2,rfl] hT;rw[eT]
 have i1:∀d∈came.map An,item d:=λd hd=>by
  let#[u,hu,rfl]:=TM.mp hd;exact ED okT.1 _^List.mem_map_of_mem^T_ hc u hu
 have i2:∀d∈went.map An,item d:=λd hd=>by
  let#[u,hu,rfl]:=TM.mp hd;exact ED okM.1 _^List.mem_map_of_mem^T_ hw u hu
 have j1:(came.map An).length<=60:=by rw[FM];exact cG (QV hc) okT.2.2
 have j2:(went.map An).length<=60:=by rw[FM];exact cG (QV hw) okM.2.2
 have sh:=Ox i1 i2 j1 j2;refine#[[.tup [.lst^came.map An,.lst^went.map An]],?_,#[_,rfl,sh,rfl,?_]]
 .show [Dp.FK n3.w^.tup [.ob x1,.ob x2]]=_
  rw[X0 v1 v2]
 refine#[M,T,rfl,okM,okT,λc' w' hc' hw'=>?_];rw[hc'.uniq hc,hw'.uniq hw];refine#[_,rfl,sh,?_];refine C9 ?_;refine#[_,AH (j:=0) rfl,x1,rfl,#[_,v1,rfl],rfl,_,v1,#[_,_,rfl,rfl,eC j1^by cbv,LX (Df _) rfl,rfl,?_]];refine#[_,AH (j:=1) rfl,x2,rfl,#[_,(BB x12.symm).trans v2,rfl],rfl,_,(BB x12.symm).trans v2,#[_,rfl,rfl,rfl,rfl,?_]];obtain⟨n4,en4⟩:∃n4,n4=(n3.put x1^.pl^.lst (came.map An++[.non])).put x2^.pl^.lst []:=#[_,rfl];rw[←en4];have u3:n4.w a=P3^kc C t b N' T:=by rw[en4];exact(BB n2a.symm).trans^(BB n1a.symm).trans v3
 have u4:n4.w l=P3^.pl^J9 ps':=by rw[en4];exact(BB n2l.symm).trans^(BB n1l.symm).trans v4
 have u5:n4.w tt=P3^.pl^G8 us':=by rw[en4];exact(BB n2t.symm).trans^(BB n1t.symm).trans v5
 have n4n:n4.n=m:=by rw[en4];exact en3.trans n2n
 refine#[a,_,_,rfl,u3,by cbv,a,t,b,N',T,rfl,u3,_,rfl,Bj okT,_,rfl,Bj okT,?_];refine C9 ?_;refine#[a,_,_,rfl,u3,by cbv,a,t,b,N',T,rfl,u3,_,rfl,Bj okN',?_];refine#[[l,tt],[.sh^Hw (J9 ps')^G8 us'],?_,?_,?_]
 .show [Slot.sh^Dp.FK n4.w^Hw (.ob l)^.ob tt]=_
  rw[(Gb u4 u5).1]
 .show F1 n4.w^Hw (.ob l)^.ob tt++[]=_
  rw[(Gb u4 u5).2];rfl
 refine#[N',ps',us',rfl,st',GA N',?_];rw[LS];refine#[_,rfl,Bj okN',?_];refine C9 ?_;refine#[a,t,b,N',T,rfl,#[u3,okN',okT,tm],hT.ps.symm,(by lk),λm' hm'=>?_];exact q _ N' T ps' us' _ _ _ #[by show 7*k<=m';lk,u3,u4,u5,al,at',lt,st',okT,λx hx=>inN' x^st'.1.mem_iff.mpr hx,by lk,by lk]
def O8{C:Ch}{n0:Sg}(hn0:400<=n0.n):Qu C {nx:=λ_ _=>False,rt:=λd _=>d=.bl l_} n0 (.no::.fd::T0 10 .no):=by
 unfold Qu;refine#[rfl,by lk,λt b b0 bt tt=>?_];have tm:VY t b:=#[b0,by lk,by lk,tt];refine#[9,rfl,by cbv,(by show 2<=n0.n - 1;lk),λpool lp hq rise=>?_];refine#[5,rfl,by cbv,by cbv,(by show 1<=n0.n - 1 - 2;lk),λkk k0 k5=>?_];intro a ha;refine#[a,t,b,rfl,B5 ..,rfl,?_];refine#[z0,rfl,λl hl=>#[rfl,λq ht=>?_]];refine#[z0,z0,z2,?_];obtain⟨n1,en1⟩:∃n1,n1=(((((n0 - 1 - 2 - 1).put a^.ins C [] []).put a^kc C t b ⟨[],[]⟩ ⟨[],[]⟩).put l^.pl^.lst []).put q^.pl^.dit [] []):=#[_,rfl];have ql:q≠l:=λz=>by rw[z,B5]at ht;cases ht
 have qa:q≠a:=λz=>by
  rw[z]at ht
  by_cases e:a=l
  .rw[e,B5]at ht;cases ht
  .rw[BB e,B5]at ht;cases ht
 have la:l≠a:=λz=>by rw[z,B5]at hl;cases hl
 have w3:n1.w a=P3^kc C t b #[[],[]] #[[],[]]:=by rw[en1,BB qa.symm,BB la.symm,B5]
 have w4:n1.w l=P3^.pl^J9 []:=by rw[en1,BB ql.symm,B5];rfl
 have w5:n1.w q=P3^.pl^G8 []:=by rw[en1,B5];rfl
 have n1n:n1.n=n0.n - 1 - 2 - 1:=by rw[en1];rfl
 have ok0:okN #[[],[]]:=#[#[λx hx=>(by cases hx),.nil,λx hx=>(by cases hx),.nil],cB _,cB _];rw[←en1];refine#[a,_,_,rfl,w3,by cbv,a,t,b,_,_,rfl,w3,enc #[[],[]],rfl,Bj ok0,enc #[[],[]],rfl,Bj ok0,?_];generalize enc #[[],[]]=E0;refine C9 ?_;refine#[a,_,_,rfl,w3,by cbv,a,t,b,_,_,rfl,w3,enc #[[],[]],rfl,Bj ok0,enc #[[],[]],rfl,Bj ok0,?_];generalize enc #[[],[]]=E0;refine C9 ?_;refine#[16,rfl,by cbv,by cbv,(by lk),λr r0 r16=>?_];refine#[_,rfl,#[by lk,by lk],?_];refine K9 (λk n ρ=>∃N M ps us s8 s9 s10 s11,Y5 C t b pool k n a l q N M ps us/\ρ=bJ t b pool kk a l q M [s8,s9,s10,s11]) (λ_ _ _=>rfl) ?_ _ _ _ #[#[[],[]],#[[],[]],[],[],_,_,_,_,#[?_,w3,w4,w5,la.symm,qa.symm,ql.symm,#[.refl _,.refl _,ok0],ok0,(λx hx=>by cases hx),?_,?_],rfl]
 .rintro k d n ρ nx ⟨N,M,ps,us,s8,s9,s10,s11,I,rfl⟩ h
  exact Xj tm (Fq rise) hq (by lk) (by lk) k0 (by lk) I λn' N' T ps' us' s9 s10 s11 I'=>h _ _ #[N',T,ps',us',_,_,_,_,I',rfl]
 .rw[Fp];show 7*(3+r).toNat<=n1.n - 1;lk
 .rw[Fp];show 0+(3+r).toNat<=18;lk
 .rw[Fp];show 0+(3+r).toNat<=18;lk
end Nt
namespace K67
open L2 Dp Nt
section
variable (P:Program)(w:World)(K:Frag)(mg:Str->o_ Value)(base:Heap)(C_Keeper:Addr)
noncomputable abbrev SY:Prop:=Got P w K mg base "rank_of" 1 ["tie"] .sh LZ
noncomputable abbrev Pz:Prop:=Got P w K mg base "order_of" 4 ["ties"] .fr C5
noncomputable abbrev Py:Prop:=Got P w K mg base "steps_of" 1 ["net"] .sh Mw
noncomputable abbrev Yu:Prop:=Got P w K mg base "only" 1 ["net","ties"] .sh Di
noncomputable abbrev SW:Prop:=Got P w K mg base "without" 2 ["net","ties"] .sh GN
noncomputable abbrev P1:Prop:=Got P w K mg base "left_out" 5 ["net","thin"] .fr IN
noncomputable abbrev OS:Prop:=Got P w K mg base "length_of" 2 ["net","thing"] .sh Yw
noncomputable abbrev Mj:Prop:=Got P w K mg base "nearest_of" 1 ["waiting","found"] .sh VJ
noncomputable abbrev Ml:Prop:=Got P w K mg base "least_ways" 2 ["net","start"] .fr M5
noncomputable abbrev aC:Prop:=Got P w K mg base "far" 3 ["net","a","b"] .sh Wf
noncomputable abbrev VI:Prop:=Got P w K mg base "way_of" 3 ["net","a","b"] .sh Yv
noncomputable abbrev OT:Prop:=Got P w K mg base "is_within" 1 ["length","times","number"] .sh Mt
noncomputable abbrev P0:Prop:=Got P w K mg base "near_way" 4 ["net","times","tie"] .sh Mx
noncomputable abbrev SX:Prop:=Got P w K mg base "thinned" 5 ["net","times"] .sh CS
noncomputable abbrev OX:Prop:=Got P w K mg base "_law_next" 1 ["_law_feed_here","_law_many"] .sh BN
noncomputable abbrev Mp:Prop:=Got P w K mg base "_law_names" 1 [] .sh Mz
noncomputable abbrev Kg:Prop:=Got P w K mg base "_law_places" 2 ["_law_feed_here","_law_many"] .sh J7
noncomputable abbrev Ki:Prop:=Got P w K mg base "_law_length" 2 ["_law_feed_here","_law_sort"] .sh La
noncomputable abbrev Mm:Prop:=Got P w K mg base "_law_times" 2 ["_law_feed_here"] .sh J5
noncomputable abbrev OV:Prop:=Got P w K mg base "_law_rank" 1 ["_law_tie"] .sh LZ
noncomputable abbrev Mo:Prop:=Got P w K mg base "_law_order" 4 ["_law_ties"] .fr C5
noncomputable abbrev Mn:Prop:=Got P w K mg base "_law_reach" 1 ["_law_ties","_law_a"] .fr Cs
noncomputable abbrev J4:Prop:=Got P w K mg base "_law_thinned" 5 ["_law_net","_law_times_here"] .sh CS
noncomputable abbrev Kh:Prop:=Got P w K mg base "_law_net_of" 1 ["_law_state"] .sh DQ
noncomputable abbrev OW:Prop:=Got P w K mg base "_law_pair" 1 ["_law_a","_law_b"] .sh IM
noncomputable abbrev Sa:Prop:=Got P w K mg base "_law_do" 2 ["_law_state","_law_deed_here"] .sh Q4
noncomputable abbrev G3:Prop:=GQ P w K mg base C_Keeper "turn_to" 6 ["self","net"] .sh^Dh C_Keeper
noncomputable abbrev Kl:Prop:=GQ P w K mg base C_Keeper "come" 7 ["self","name"] .sh^M7 C_Keeper
noncomputable abbrev FY:Prop:=GQ P w K mg base C_Keeper "ask_place" 1 ["self","name"] .sh^FZ C_Keeper
noncomputable abbrev Ms:Prop:=GQ P w K mg base C_Keeper "far" 4 ["self","a","b"] .sh^GP C_Keeper
noncomputable abbrev OZ:Prop:=GQ P w K mg base C_Keeper "go" 7 ["self","name"] .sh^VL C_Keeper
noncomputable abbrev Dv:Prop:=GQ P w K mg base C_Keeper "ties_between" 2 ["self","a","b"] .fr^GO C_Keeper
noncomputable abbrev Mr:Prop:=GQ P w K mg base C_Keeper "lay" 7 ["self","a","b","length"] .sh^P2 C_Keeper
noncomputable abbrev ET:Prop:=GQ P w K mg base C_Keeper "tie_between" 3 ["self","a","b"] .sh^Mu C_Keeper
noncomputable abbrev Kk:Prop:=GQ P w K mg base C_Keeper "take" 7 ["self","a","b"] .sh^Mv C_Keeper
noncomputable abbrev OU:Prop:=Got P w K mg base "_law_told" 8 ["_law_keeper","_law_deed_here"] .sh^IL C_Keeper
noncomputable abbrev Kf:Prop:=Got P w K mg base "_law_turned" 5 ["_law_before","_law_after"] .sh Ei
noncomputable abbrev OY:Prop:=Got P w K mg base "_law_deed" 3 ["_law_feed_here","_law_state","_law_pool","_law_sort"] .sh IQ
noncomputable abbrev G2:Prop:=Got P w K mg base "_law_far_right" 5 ["_law_feed_here","_law_keeper","_law_thin"] .sh^IP C_Keeper
noncomputable abbrev GL:Prop:=Y6 P w K mg base "Keeper" C_Keeper 1 ["self","times"]^M6 C_Keeper
noncomputable abbrev Mq:Prop:=GQ P w K mg base C_Keeper "net" 1 ["self"] .sh^J8 C_Keeper
noncomputable abbrev Kj:Prop:=GQ P w K mg base C_Keeper "thin" 1 ["self"] .sh^J6 C_Keeper
end
def bW{d:cv}{ps:n_ Str}{n:Nat}(c:∀f:Nat->Db,bindArgs d #[(cV n).map f,[]]=pure^ps.zip^(cV n).map f)(us:n_ Db)(h:us.length=n):bindArgs d #[us,[]]=pure^ps.zip us:=by
 have e:us=(cV n).map λi=>us.getD i .none:=by
  apply iV <;>simp_all
 rw[e];exact c _
local macro_rules|`(tactic|walk_at "L")=>`(tactic|(intro _ _ _ h;repeat (first|(obtain⟨e,_⟩:=h;subst e;rfl)|(obtain⟨_,h⟩:=h))))
local macro_rules|`(tactic|walk_at "B")=>`(tactic|(intro _ _ _ _ _ _;exact bW λ_=>rfl))
noncomputable def Ht(K:Frag)(x:Str)(st:cS):Prop:=∃(f:Ch) (oc:Db) (od an:o_ Ch) (sl:Array^o_ Db) (kV dc pm cd ct:Db),nsIn K mainGlobals x=P3^P3^.ref f/\K.lookup f=P3 #[oc,od,.func^fnOf x x (By st) (BM st) (AJ st) .none kV dc pm an cd ct,sl]/\codeIn K cd x=l_/\keepIn K^.ref f=l_
noncomputable def Hn(K:Frag)(x:Str):Prop:=nsIn K mainGlobals x=P3 k_
noncomputable def Hi(K:Frag)(x:Str)(i:Int):Prop:=∃t,nsIn K mainGlobals x=P3^P3^.int i t
def Ht.mk{K:Frag}{x:Str}{st:cS}{f:Ch}{oc:Db}{od an:o_ Ch}{sl:Array^o_ Db}{kV dc pm cd ct:Db}(a:nsIn K mainGlobals x=P3^P3^.ref f)(l:K.lookup f=P3 #[oc,od,.func^fnOf x x (By st) (BM st) (AJ st) .none kV dc pm an cd ct,sl])(c:codeIn K cd x=l_)(k:keepIn K^.ref f=l_):Ht K x st:=#[f,oc,od,an,sl,kV,dc,pm,cd,ct,a,l,c,k]
def Hi.mk{K:Frag}{x:Str}{i:Int}{t:Tok}(a:nsIn K mainGlobals x=P3^P3^.int i t):Hi K x i:=#[t,a]
def Hn.mk{K:Frag}{x:Str}(a:nsIn K mainGlobals x=P3 k_):Hn K x:=a
noncomputable def Hm(K:Frag)(C:Ch)(x q:Str)(st:cS):Prop:=∃(f:Ch) (oc:Db) (od an:o_ Ch) (sl:Array^o_ Db) (kV dc pm cd ct:Db),PySem.W.findIn K (.ref C) x=P3^P3^.ref f/\K.lookup f=P3 #[oc,od,.func^fnOf x q (By st) (BM st) (AJ st) .none kV dc pm an cd ct,sl]/\codeIn K cd q=l_/\PySem.W.isFn K^.ref f=l_/\keepIn K^.ref f=l_
def Hm.mk{K:Frag}{C:Ch}{x q:Str}{st:cS}{f:Ch}{oc:Db}{od an:o_ Ch}{sl:Array^o_ Db}{kV dc pm cd ct:Db}(a:PySem.W.findIn K (.ref C) x=P3^P3^.ref f)(l:K.lookup f=P3 #[oc,od,.func^fnOf x q (By st) (BM st) (AJ st) .none kV dc pm an cd ct,sl])(c:codeIn K cd q=l_)(n:PySem.W.isFn K^.ref f=l_)(k:keepIn K^.ref f=l_):Hm K C x q st:=#[f,oc,od,an,sl,kV,dc,pm,cd,ct,a,l,c,n,k]
noncomputable def Ha(K:Frag)(x y:Str):Prop:=∃f:Ch,nsIn K mainGlobals x=P3^P3^.ref f/\nsIn K mainGlobals y=P3^P3^.ref f
def Ha.mk{K:Frag}{x y:Str}{f:Ch}(a:nsIn K mainGlobals x=P3^P3^.ref f)(b:nsIn K mainGlobals y=P3^P3^.ref f):Ha K x y:=#[f,a,b]
structure C0 (K:Frag) (mg:Str->Option Db) (h:cA) (C_Keeper:Ch):Prop where
 X:K.In h
 G:h.Ns mainGlobals mg
 c_Keeper:nsIn K mainGlobals "Keeper"=P3 (P3^.ref C_Keeper)
 cl_Keeper:Cls K C_Keeper
 na_Keeper_times:NoAttr K C_Keeper "times"
 na_Keeper_whole:NoAttr K C_Keeper "whole"
 na_Keeper_kept:NoAttr K C_Keeper "kept"
 mk_Keeper:PySem.W.makesIn K C_Keeper=l_
 kp_Keeper:keepIn K^.ref C_Keeper=l_
 h_rank_of:Ht K "rank_of" K0
 h_order_of:Ht K "order_of" Iu
 h_steps_of:Ht K "steps_of" FJ
 h_only:Ht K "only" TL
 h_without:Ht K "without" Ky
 h_left_out:Ht K "left_out" Iw
 h_length_of:Ht K "length_of" G_
 h_nearest_of:Ht K "nearest_of" Fe
 h_least_ways:Ht K "least_ways" Fg
 h_far:Ht K "far" Ws
 h_way_of:Ht K "way_of" NS
 h_is_within:Ht K "is_within" HA
 h_near_way:Ht K "near_way" Iv
 h_thinned:Ht K "thinned" Kz
 h__law_feed:Ht K "_law_feed" D6
 h__law_next:Ht K "_law_next" Cv
 h__law_names:Ht K "_law_names" Fk
 h__law_places:Ht K "_law_places" Eo
 h__law_length:Ht K "_law_length" Er
 h__law_times:Ht K "_law_times" Fh
 h__law_rank:Ht K "_law_rank" HC
 h__law_order:Ht K "_law_order" Fj
 h__law_reach:Ht K "_law_reach" Fi
 h__law_thinned:Ht K "_law_thinned" D4
 h__law_net_of:Ht K "_law_net_of" Ep
 h__law_pair:Ht K "_law_pair" HD
 h__law_do:Ht K "_law_do" K3
 h__law_told:Ht K "_law_told" HB
 h__law_turned:Ht K "_law_turned" En
 h__law_deed:Ht K "_law_deed" HE
 h__law_far_right:Ht K "_law_far_right" C_
 h_law:Ht K "law" Iy
 m_Keeper_turn_to:Hm K C_Keeper "turn_to" "Keeper.turn_to" DA
 m_Keeper_come:Hm K C_Keeper "come" "Keeper.come" Eu
 m_Keeper_ask_place:Hm K C_Keeper "ask_place" "Keeper.ask_place" Ci
 m_Keeper_far:Hm K C_Keeper "far" "Keeper.far" Fo
 m_Keeper_go:Hm K C_Keeper "go" "Keeper.go" HF
 m_Keeper_ties_between:Hm K C_Keeper "ties_between" "Keeper.ties_between" CA
 m_Keeper_lay:Hm K C_Keeper "lay" "Keeper.lay" Fn
 m_Keeper_tie_between:Hm K C_Keeper "tie_between" "Keeper.tie_between" CM
 m_Keeper_take:Hm K C_Keeper "take" "Keeper.take" Et
 m_Keeper___init__:Hm K C_Keeper "__init__" "Keeper.__init__" A4
 m_Keeper_net:Hm K C_Keeper "net" "Keeper.net" Fl
 m_Keeper_thin:Hm K C_Keeper "thin" "Keeper.thin" Es
 a_far_ways:Ha K "far" "far_ways"
 z0:Hn K "all"
 z1:Hn K "isinstance"
 z2:Hn K "len"
 z3:Hn K "list"
 z4:Hn K "max"
 z5:Hn K "min"
 z6:Hn K "range"
 z7:Hn K "repr"
 z8:Hn K "reversed"
 z9:Hn K "sorted"
 z10:Hn K "str"
 z11:Hn K "tuple"
 z12:Hn K "zip"
 v0:Hi K "MOST_PLACES" 24
 v1:Hi K "MOST_TIES" 60
noncomputable def Ctx(P:cH)(w:cN)(K:Frag)(mg:Str->o_ Db)(base h:cA)(C:Ch):Prop:=C0 K mg h C
section
variable {P:Program}{w:World}{K:Frag}{mg:Str->o_ Value}{h base:Heap}{x:Str}{st:Stmt}
def Ht.fn(X:K.In h)(G:h.Ns mainGlobals mg)(H:Ht K x st):∃f fd,mg x=P3^.ref f/\Fun K x x st f fd:=by
 let#[f,oc,od,an,sl,kV,dc,pm,cd,ct,a,l,c,k]:=H;exact#[f,_,mg_of X G a,MQ (st:=st) l c k]
variable {C:Addr}
def C0.T(A:C0 K mg h C):Txt K mg:=#[mg_none_of A.X A.G A.z0,mg_none_of A.X A.G A.z1,mg_none_of A.X A.G A.z2,mg_none_of A.X A.G A.z3,mg_none_of A.X A.G A.z4,mg_none_of A.X A.G A.z5,mg_none_of A.X A.G A.z6,mg_none_of A.X A.G A.z7,mg_none_of A.X A.G A.z8,mg_none_of A.X A.G A.z9,mg_none_of A.X A.G A.z10,mg_none_of A.X A.G A.z11,mg_none_of A.X A.G A.z12,(let #[t,e]:=A.v0;#[t,mg_of A.X A.G e]),(let #[t,e]:=A.v1;#[t,mg_of A.X A.G e])]
def Ctx.got{k:Nat}{ps:n_ Str}{κ:Kd}{W:W2}(A:Ctx P w K mg base h C)(H:Ht K x st)
  (ok:∀{f:Ch}{fd:cv},Txt K mg->Fun K x x st f fd->mg x=P3^.ref f->Binds K fd ps []->FnOk P w K mg base Fb k f fd ps^RE K κ W ps.length)
  (hW:autoParam (∀ss n P,W ss n P->ss.length=ps.length) zau10._auto_1) (hb:autoParam (∀(kV doc pm:Db) (an:o_ Ch) (cdv ct:Db) (us:n_ Db),us.length=ps.length->bindArgs (fnOf x x (By st) (BM st) (AJ st) .none kV doc pm an cdv ct) #[us,[]]=pure^ps.zip us) zau11._auto_1):Got P w K mg base x k ps κ W:=by
 let#[f,fd,m,F]:=H.fn A.X A.G;exact#[f,fd,ok A.T F m^F.binds hb,m,F.kp,F.binds hb,hW]
def Ctx.gotM{q:Str}{k:Nat}{ps:n_ Str}{κ:Kd}{W:W2}(A:Ctx P w K mg base h C)(H:Hm K C x q st)
  (ok:∀{f:Ch}{fd:cv},Txt K mg->Fun K x q st f fd->FnOk P w K mg base Fb k f fd ps^RE K κ W ps.length)
  (hW:autoParam (∀ss n P,W ss n P->ss.length=ps.length) zau10._auto_1) (hb:autoParam (∀(kV doc pm:Db) (an:o_ Ch) (cdv ct:Db) (us:n_ Db),us.length=ps.length->bindArgs (fnOf x q (By st) (BM st) (AJ st) .none kV doc pm an cdv ct) #[us,[]]=pure^ps.zip us) zau11._auto_1):GQ P w K mg base C x k ps κ W:=by
 let#[f,oc,od,an,sl,kV,dc,pm,cd,ct,a,l,c,n,k]:=H;have F:=MQ (st:=st) l c k;exact#[f,_,ok A.T F,#[a,n,k],F.binds hb,hW]
def Ctx.gotC{k:Nat}{ps:n_ Str}{W:W2}(A:Ctx P w K mg base h C)
  (ok:∀{f:Ch}{fd:cv},Txt K mg->Fun K "__init__" "Keeper.__init__" A4 f fd->FnOk P w K mg base Fb k f fd ps^RE K .sh W ps.length)
  (hW:autoParam (∀ss n P,W ss n P->ss.length=ps.length) zau10._auto_1) (hb:autoParam (∀(kV doc pm:Db) (an:o_ Ch) (cdv ct:Db) (us:n_ Db),us.length=ps.length->bindArgs (fnOf "__init__" "Keeper.__init__" (By A4) (BM A4) (AJ A4) .none kV doc pm an cdv ct) #[us,[]]=pure^ps.zip us) zau11._auto_1):Y6 P w K mg base "Keeper" C k ps W:=by
 let#[f,oc,od,an,sl,kV,dc,pm,cd,ct,a,l,c,n,k]:=A.m_Keeper___init__;have F:=MQ (st:=A4) l c k;exact#[f,_,ok A.T F,#[A.mk_Keeper,a,n,A.kp_Keeper],mg_of A.X A.G A.c_Keeper,F.binds hb,hW]
end
section
variable {P:Program}{w:World}{K:Frag}{mg:Str->o_ Value}{base:Heap}
variable {h:Heap}{C_Keeper:Addr}(A:Ctx P w K mg base h C_Keeper)
include A
omit A in
def O0:AZ ["tie"] ["tie"]^AJ K0:=by walk_at "s"
def PN:SY P w K mg base:=A.got A.h_rank_of λT F m b=>GU F O0 (λhr=>(AI^Ae^Aj^AB (AY AR Al (dv 0) AG)^AB (AY AR Al (dv 0) AG)^AB (AY AR Al (dv 0) AG) AO)) Iz
omit A in
def NQ:AZ ["ties"] ["ties"]^AJ Iu:=by walk_at "s"
def HK:Pz P w K mg base:=A.got A.h_order_of λT F m b=>have jD:=PN A;GU F NQ (λhr=>(AI^Ae (N9 jD (hr.mono^by cbv) rfl T.Gaa rfl (dv 0)))) HG
omit A in
def jE:AZ ["net","steps","place","a","b","length"] ["net"]^AJ FJ:=#[rfl,rfl,rfl,by decide +kernel,rfl,by decide +kernel,by decide +kernel]
omit A in
def bo{f:Ch}{fd:cv}(F:Fun K "steps_of" "steps_of" FJ f fd):FnOk P w K mg base Fb 1 f fd ["net"]^RE K .sh Mw 1:=by
 refine F.ok (k:=0) jE (λvs H Q E h=>h.1) λcdv A outer s H vs Q E hr h=>?_;let#[hl,F0,U,V',M,n,ss,Pd,ra,#[N,rfl,ok,lp,lt,p],q]:=h;let#[dom,fU,uV,vM,fd0,pa]:=ra;cases pa with
 |cons r1 pa=>
 cases pa;let#[v,e1,h1]:=r1.1;cases e1;let#[an,vs,rfl,hn,v1,r,rfl,hp,v2,r2,rfl,ht,e2]:=h1;cases(show r2=[]from e2);let#[ap,us,rfl,hpn,hps]:=hp;let#[at_,ws,rfl,htn,hts]:=ht;have nd:=jE.nd;have hu:=F7 hr;have szl:=PySem.sizeLine_eq;have lus:us.length=N.ps.length:=by rw[hps.length,FM]
 have lws:ws.length=N.ts.length:=by rw[hts.length,FM]
 refine#[_,BI (D8 (i:=1) nd rfl (ZB rfl) JF)
  (BI (L3 c5 rfl (T1^Dk ix_tup (pv 0) Ax λ_ _=>rfl) (Fw (i:=2) nd rfl (ZB rfl)) (Cw (Hy hu (pv 1) (pv 2) JF rfl)))
  (BI (L3 c5 rfl (T1^Dk ix_tup (pv 0) Ax λ_ _=>rfl) (T3 rfl (Fv (Fw (i:=3) nd rfl (ZB rfl))^Fv (Fw (i:=4) nd rfl (ZB rfl))^Fv (Fw (i:=5) nd rfl (ZB rfl)) QT))
   (BI (Hy hu (Hz hu (pv 1) (pv 3) λ_ _=>rfl) (pv 4) (pv 5) rfl)^Cw (Hy hu (Hz hu (pv 1) (pv 4) λ_ _=>rfl) (pv 3) (pv 5) rfl)))
  (Cw^FN^YC^pv 1))),?_]
 refine λd hd=>?_;have old0:∀b o,H b=P3 o->Aq H d (.dK []) b=P3 o:=λb o e=>by rw[AL^Ah e hd];exact e
 have SqN:∀H':Hp,(∀b o,H b=P3 o->H' b=P3 o)->SqT K H' an [.ref ap,.ref at_]:=λH' o=>SqT.of^o _ _ hn;have SqP:∀H':Hp,(∀b o,H b=P3 o->H' b=P3 o)->SqT K H' ap us:=λH' o=>SqT.of^o _ _ hpn;have SqW:∀H':Hp,(∀b o,H b=P3 o->H' b=P3 o)->SqT K H' at_ ws:=λH' o=>SqT.of^o _ _ htn;refine#[_,rfl,an,_,0,_,rfl,rfl,SqN _ old0,rfl,ap,rfl,#[_,SqP _ old0],?_];refine Qj (xs:=us) (λi Z H'=>∃(as:n_ (Str×Ch)) (x2 x3 x4 x5:o_ V),Z=[P3^.ref an,P3^.ref d,x2,x3,x4,x5]/\as.map (·.1)=N.ps.take i/\Stp H d as (λ_=>[]) H') ?_ (λi Z H' hi #[as,x2,x3,x4,x5,e,hm,st]=>SqP _ st.old) ?_ ?_
 .exact#[[],_,_,_,_,rfl,rfl,old0,hd,AM,(λx hx=>by cases hx),ci,ci]
 .rintro i x Z H' hx ⟨as,x2,x3,x4,x5,rfl,hm,st⟩
  have hi:i<N.ps.length:=by rw[←lus];exact(UF.mp hx).1
  let#[x',hx',hAt]:=hps.get (i:=i) (d:=.str N.ps[i]) (by rw[XV,No hi];rfl);rw[hx]at hx';cases hx';let#[rfl,_]:=hAt;intro q hq;have las:as.length<=i:=by have:=congrArg hV hm;rw[FM,gW]at this;lk
  have nq:d≠q:=λe=>by rw[←e,st.top]at hq;cases hq
  have las2:(as.map λx=>((.inr x.1:Key),V.ref x.2)).length=as.length:=FM ..;refine#[_,rfl,_,rfl,d,_,rfl,DPut.k (k:=.inr N.ps[i]) (by rw[AL nq];exact st.top)^by lk,?_];refine#[as++[(N.ps[i],q)],_,_,_,_,rfl,?_,st.more hq ?_ rfl]
  .rw[c0,hm,List.take_succ,No hi];rfl
  .rw[hm];exact PQ (Lu ok.rise) hi
 .rintro Z H' ⟨as,x2,x3,x4,x5,rfl,hm,st⟩
  rw[lus,iU]at hm;refine#[_,rfl,an,_,1,_,rfl,rfl,SqN _ st.old,rfl,at_,rfl,#[_,SqW _ st.old],?_];refine Qj (xs:=ws) (λi Z H'=>∃(x2 x3 x4 x5:o_ V),Z=[P3^.ref an,P3^.ref d,x2,x3,x4,x5]/\Stp H d as (λp=>(C4 (N.ts.take i) p).map kv) H') #[_,_,_,_,rfl,st] (λi Z H' hi #[x2,x3,x4,x5,e,st]=>SqW _ st.old) ?_ ?_
  .rintro i x Z H' hx ⟨x2,x3,x4,x5,rfl,st⟩
   have hi:i<N.ts.length:=by rw[←lws];exact(UF.mp hx).1
   let#[x',hx',hAt]:=hts.get (i:=i) (d:=An N.ts[i]) (by rw[XV,No hi];rfl);rw[hx]at hx';cases hx';have hmem:N.ts[i]∈N.ts:=dE hi;have hsnoc:N.ts.take (i+1)=N.ts.take i++[N.ts[i]]:=by rw[List.take_succ,No hi];rfl
   have hpre:(N.ts.take (i+1)).Pairwise Bn:=ok.trise.sublist^List.take_sublist _ _;have hlt2:∀s∈N.ts.take (i+1),cs s.a<cs s.b:=λs hs=>(ok.tin s^List.mem_of_mem_take hs).2.2.1;rw[hsnoc]at hpre hlt2;have new:=Us hpre hlt2;have ltk:(N.ts.take i).length<=1000:=by rw[gW];lk
   generalize N.ts[i]=t at hAt hmem hsnoc new;generalize N.ts.take i=ts at hsnoc new st ltk;let#[m1,m2,m3,_]:=ok.tin t hmem;have hab:t.a≠t.b:=λe=>by rw[e]at m3;exact gI _ m3
   let#[ta,tb,tl]:=t;let#[tt,us3,rfl,htt,hit]:=hAt;let#[va,r3,rfl,#[rfl,_],vb,r4,rfl,#[rfl,_],vl,r5,rfl,rfl,e5]:=hit;cases(show r5=[]from e5);rw[←hm]at m1 m2;let#[#[xa,pa],ha,ea]:=TM.mp m1;let#[#[xb,pb],hb,eb]:=TM.mp m2;have ea':ta=xa:=ea.symm;have eb':tb=xb:=eb.symm;subst ea' eb';clear ea eb;replace hab:ta≠tb:=hab;replace new:tb∉(C4 ts ta).map (·.1)/\ta∉(C4 ts tb).map (·.1):=new;have ga:=DGet.k (k:=.inr ta) st.top;rw[Hv st.nms ha]at ga;have l1:=QZ ts ta;refine#[tt,_,rfl,SqT.of^st.old _ _ htt,rfl,_,_,rfl,_,_,rfl,_,_,rfl,rfl,?_];refine#[_,rfl,_,rfl,_,rfl,d,_,rfl,ga,_,rfl,pa,_,rfl,DPut.k (k:=.inr tb) (st.inn _ ha).2.2 (by show((C4 ts ta).map kv).length<sizeLine;rw[FM];lk),?_];have st1:=st.put (tb2:=λp=>(C4 ts p++if ta=p then [(tb,tl)]else []).map kv) ha (kvs:=putK ((C4 ts ta).map kv) (.inr tb)^.int tl) (by rw[QO new.1,if_pos rfl]) (λq hq=>by rw[if_neg^cY hq,cX]);have gb:=DGet.k (k:=.inr tb) st1.top;rw[Hv st1.nms hb]at gb;have l2:=QZ ts tb;have ib:=(st1.inn _ hb).2.2;simp only[if_neg hab,cX]at ib;refine#[_,rfl,_,rfl,_,rfl,d,_,rfl,gb,_,rfl,pb,_,rfl,DPut.k (k:=.inr ta) ib (by rw[FM];lk),?_];refine#[_,_,_,_,rfl,st1.put hb ?_ λq hq=>?_]
   .show(C4 (N.ts.take (i+1)) tb).map kv=_
    rw[hsnoc,Nh,QO new.2];show((C4 ts tb++((if ta=tb then [(tb,tl)]else [])++if tb=tb then [(ta,tl)]else [])).map kv)=_;rw[if_neg hab,if_pos rfl];rfl
   .show(C4 (N.ts.take (i+1)) q).map kv=_
    rw[hsnoc,Nh];show((C4 ts q++((if ta=q then [(tb,tl)]else [])++if tb=q then [(ta,tl)]else [])).map kv)=_;rw[if_neg^cY hq,cX]
  .rintro Z H' ⟨x2,x3,x4,x5,rfl,st⟩
   rw[lws,iU]at st
   have old:∀(f:Ch->Obj) b o,H b=P3 o->FR H' (as.map (·.2)) f b=P3 o:=λf b o e=>by
    rw[DF λhm=>by let#[x,hx,e2]:=TM.mp hm;have:=(st.inn x hx).1;rw[e2,e]at this;cases this];exact st.old b o e
   refine#[_,rfl,(as.map fun(x:Str×Ch)=>x.2),λb hb=>?_,λf=>q (.ref d) (FR H' (as.map fun(x:Str×Ch)=>x.2) f) (D1 N) n (λb o e=>#[o,old f b o e,λ_ _=>rfl,λ_ _=>rfl]) #[λg hg=>?_,λb k hk=>(fd0.2 b k hk).to (λ_ _ z=>z) (λb vs e=>old f b _ e) (λb o e=>#[o,old f b o e]) λu e=>old f b _ e] (show At K M (FR H' (as.map fun(x:Str×Ch)=>x.2) f) (D1 N)^.ref d from st.at_ dom hm f) p]
   .let#[x,hx,rfl]:=TM.mp hb
    exact#[_,(st.inn x hx).2.2]
   .let#[a,r,cells,hf,hcf,hc,rest]:=fd0.1 g hg
    exact#[a,r,cells,old f _ _ hf,hcf,#[hc.1,old f _ _ hc.2],rest]
def HJ:Py P w K mg base:=A.got A.h_steps_of λ_ F _ _=>bo F
omit A in
def Vg:AZ ["net","ties"] ["net","ties"]^AJ TL:=by walk_at "s"
def L9:Yu P w K mg base:=A.got A.h_only λT F m b=>GU F Vg (λhr=>(AI^Ae^Aj^AB (AY AR Al (dv 0) AG)^AB (Bz BH CQ rfl T.Gac fP (AT (Ad Ju Q1 rfl T.Gaa fR (AT (Je 1) Ab)) Ab)) AO)) RO
omit A in
def Oz:AZ ["net","ties"] ["net","ties"]^AJ Ky:=by walk_at "s"
def JJ:SW P w K mg base:=A.got A.h_without λT F m b=>have jF:=L9 A;GU F Oz (λhr=>(AI^Ae^cg hr jF^AC (AU^dv 0)^AC (E6^WX [("ties":Str),("tie":Str)] [P3 1,k_] (B8^AY AR Al (dv 0) AG) (Av (i:=1) (show eI [("ties":Str),("tie":Str)] by decide +kernel) rfl (ZB rfl)) (Cz^Af (CF hr) GJ (dv 1) (Je 0)^by with_unfolding_all rfl) (dv 1)^by kernel_rfl) AN)) Lw
omit A in
def NR:AZ ["net","thin"] ["net","thin"]^AJ Iw:=by walk_at "s"
def Nf:P1 P w K mg base:=A.got A.h_left_out λT F m b=>have jG:=HK A;GU F NR (λhr=>(AI^Ae^cg hr jG^AC (AU^WX [("thin":Str),("tie":Str)] [P3 1,k_] (B8^AY AR Al (dv 0) AG) (Av (i:=1) (show eI [("thin":Str),("tie":Str)] by decide +kernel) rfl (ZB rfl)) (Cz^Af (CF hr) GJ (dv 1) (AY AR Al (dv 0) AG)^by with_unfolding_all rfl) (dv 1)^by kernel_rfl) AN)) RP
omit A in
def jH:AZ ["net","thing","steps","length","here","there"] ["net","thing"]^AJ G_:=by walk_at "s"
def L_:OS P w K mg base:=A.got A.h_length_of λT F m b=>have jI:=HJ A;GU F jH (λhr=>(AF (BA (DTW.dt^LI (Gw^Jf (U0 kit_tuple (dv 1) rfl T.Gag rfl T.Gac (by decide +kernel)))^Gv^Af Co FX (Ad BV ES rfl T.Gad PySem.boot_len (AT (dv 1) Ab)) AG^Am _) (AI^Ae CK) Ak)
 (AF (BA (Gw^Jf (Ad (VA rfl) aA rfl T.Gam PyProof.Rows.boot_all (AT (WX [("place":Str)] [k_] (B8^dv 1) (Av (i:=0) (show eI [("place":Str)] by decide +kernel) rfl (ZB rfl)) IE (U0 V7 (dv 0) rfl T.Gag rfl T.Gan (by decide +kernel))^by kernel_rfl) Ab))) (AI^Ae CK) Ak)
 (AF (Ai (i:=2) jH.nd rfl (ZB rfl) (cg hr jI^AC (AU^dv 0) AN))
 (AF (BA (Af (Ea hr) GK (AY AR Al (dv 1) AG) (dv 2)^by with_unfolding_all rfl) (AI^Ae CK) Ak)
 (AF (Ai (i:=3) jH.nd rfl (ZB rfl) AG)
 (AF (EH c5 rfl (Yg rfl T.Gao (AB (dv 1)^AB (Uy Xw VE (dv 1) (MY AG) MZ) AO)) (Jm rfl (Bo (Av (i:=4) jH.nd rfl (ZB rfl))^Bo (Av (i:=5) jH.nd rfl (ZB rfl)) GB)) (AF (BA (Af (Ea hr) GK (dv 5) (A6 hr (dv 2)^dv 4)^by with_unfolding_all rfl) (AI^Ae CK) Ak)
 (AI (WN (i:=3) jH.nd rfl (ZB rfl) (A6 hr (A6 hr (dv 2)^dv 4)^dv 5)))))
 (AI^Ae^dv 3)))))))) Ly
omit A in
def KA:AZ ["waiting","found"] ["waiting","found"]^AJ Fe:=by walk_at "s"
def KP:Mj P w K mg base:=A.got A.h_nearest_of λT F m b=>GU F KA (λhr=>(AI^Ae^AY AR Al (Ad (SK hr) Yq rfl T.Gah boot_min (AT (WX [("found":Str),("place":Str)] [P3 1,k_] (B8^Je 0) (Av (i:=1) (show eI [("found":Str),("place":Str)] by decide +kernel) rfl (ZB rfl)) IE (Aj^AB (AY AR Al (A6 hr (Je 0)^dv 1) AG)^AB (dv 1) AO)^by kernel_rfl) Ab)) AG)) KH
omit A in
def jJ:AZ ["net","start","steps","found","waiting","place","other","step","length"] ["net","start"]^AJ Fg:=by walk_at "s"
def Ew:Ml P w K mg base:=A.got A.h_least_ways λT F m b=>have jK:=KP A;have jI:=HJ A;GU F jJ (λhr=>(AF (Ai (i:=2) jJ.nd rfl (ZB rfl) (cg hr jI^AC (AU^dv 0) AN))
 (AF (Eg (i:=3) jJ.nd rfl (ZB rfl) (N_ (dv 1)^Aj^AB AG^AB CK AO))
 (AF (Eg (i:=4) jJ.nd rfl (ZB rfl) (B9^AB (dv 1) AO))
 (AF (Jg c5 (Ph^Je 4) (AF (Ai (i:=5) jJ.nd rfl (ZB rfl) (cg hr jK^AC (E6^Je 4)^AC (E6^Je 3) AN))
 (AF (N5 4 PySem.F.plainAttrs_list PySem.F.slot_list_remove PySem.F.type_list_remove (K7 hr) XS (pv 4)^AB (dv 5) AO)
 (AI (EH c5 rfl (Uw^A6 hr (dv 2)^dv 5) (Jm rfl (Bo (Av (i:=6) jJ.nd rfl (ZB rfl))^Bo (Av (i:=7) jJ.nd rfl (ZB rfl)) GB)) (AF (Ai (i:=8) jJ.nd rfl (ZB rfl) (Ba Bw CU (AY AR Al (A6 hr (Je 3)^dv 5) AG)^dv 7))
 (AI (BA (Af (Ea hr) GK (dv 6) (Je 3)^by with_unfolding_all rfl) (AF (N5 4 PySem.F.plainAttrs_list PySem.F.slot_list_append PySem.F.type_list_append CG LY (pv 4)^AB (dv 6) AO)
 (AI^MX (i:=3) hr (pv 3) (dv 6)^Aj^AB (dv 8)^AB (dv 5) AO))^AI^BA (Af (JI hr) OR (dv 8) (AY AR Al (A6 hr (Je 3)^dv 6) AG)^Am _) (AI^MX (i:=3) hr (pv 3) (dv 6)^Aj^AB (dv 8)^AB (dv 5) AO) Ak))))))))
 (AI^Qo 3^pv 3)))))) KJ
omit A in
def jL:AZ ["net","a","b","found"] ["net","a","b"]^AJ Ws:=by walk_at "s"
def YL:aC P w K mg base:=A.got A.h_far λT F m b=>have jM:=Ew A;GU F jL (λhr=>(AF (Ai (i:=3) jL.nd rfl (ZB rfl) (cg hr jM^AC (AU^dv 0)^AC (AU^dv 1) AN))
 (AI^Ae^U1 (Af (UG hr) XX (dv 2) (dv 3)^by with_unfolding_all rfl) (AY AR Al (A6 hr (dv 3)^dv 2) AG) CK))) X1
def OP:Got P w K mg base "far_ways" 3 ["net","a","b"] .sh Wf:=by
 let#[f,a,b]:=A.a_far_ways;let#[f1,fd,ok,m,r]:=YL A;cases m.symm.trans^mg_of A.X A.G a;exact#[f,fd,ok,mg_of A.X A.G b,r]
omit A in
def jN:AZ ["net","a","b","found","way","place"] ["net","a","b"]^AJ NS:=by walk_at "s"
def Rj:VI P w K mg base:=A.got A.h_way_of λT F m b=>have jM:=Ew A;GU F jN (λhr=>(AF (Ai (i:=3) jN.nd rfl (ZB rfl) (cg hr jM^AC (AU^dv 0)^AC (AU^dv 1) AN))
 (AF (BA (Af (Ea hr) GK (dv 2) (dv 3)^by with_unfolding_all rfl) (AI^Ae CK) Ak)
 (AF (Eg (i:=4) jN.nd rfl (ZB rfl) (B9 AO))
 (AF (Ai (i:=5) jN.nd rfl (ZB rfl) (dv 2))
 (AF (Jg c5 (Af Vy Yp (dv 5) CK^Am _) (AF (N5 4 PySem.F.plainAttrs_list PySem.F.slot_list_append PySem.F.type_list_append CG LY (pv 4)^AB (dv 5) AO)
 (AI (Ai (i:=5) jN.nd rfl (ZB rfl) (AY AR Al (A6 hr (dv 3)^dv 5) AG)))))
 (AI^Ae (SE rfl (Je 4) rfl T.Gac rfl T.Gak)))))))) RH
omit A in
def Lm:AZ ["length","times","number"] ["length","times","number"]^AJ HA:=by walk_at "s"
def MA:OT P w K mg base:=A.got A.h_is_within λT F m b=>GU F Lm (λhr=>(AI^Ae^Yh YI Z9 (Ba Fy J3 (dv 0)^AY AR Al (dv 1) AG) (Ba Fy J3 (dv 2)^AY AR Al (dv 1) AG)^Am _)) Lz
omit A in
def jO:AZ ["net","times","tie","way"] ["net","times","tie"]^AJ Iv:=by walk_at "s"
def Nd:P0 P w K mg base:=A.got A.h_near_way λT F m b=>have jP:=MA A;have jQ:=L_ A;have jR:=Rj A;GU F jO (λhr=>(AF (Ai (i:=3) jO.nd rfl (ZB rfl) (cg hr jR^AC (AU^dv 0)^AC (AU^AY AR Al (dv 2) AG)^AC (AU^AY AR Al (dv 2) AG) AN))
 (AF (BA (DTW.dt^LI (Af PK VG (dv 3) CK^Am _)^Gv^Gw^Jf^cg hr jP^AC (AU^cg hr jQ^AC (AU^dv 0)^AC (AU^dv 3) AN)^AC (AU^dv 1)^AC (AU^AY AR Al (dv 2) AG) AN) (AI^Ae CK) Ak)
 (AI^Ae^dv 3)))) KI
omit A in
def jS:AZ ["net","times","kept","tie"] ["net","times"]^AJ Kz:=by walk_at "s"
def PM:SX P w K mg base:=A.got A.h_thinned λT F m b=>have jT:=Nd A;have jF:=L9 A;have jG:=HK A;GU F jS (λhr=>(AF (Eg (i:=2) jS.nd rfl (ZB rfl) (B9 AO))
 (AF (EH c5 rfl (Jl^cg hr jG^AC (AU^AY AR Al (dv 0) AG) AN) (Av (i:=3) jS.nd rfl (ZB rfl)) (AI^BA (Af PK VG (cg hr jT^AC (AU^cg hr jF^AC (AU^dv 0)^AC (E6^Je 2) AN)^AC (AU^dv 1)^AC (AU^dv 3) AN) CK^Am _) (AI^N5 2 PySem.F.plainAttrs_list PySem.F.slot_list_append PySem.F.type_list_append CG LY (pv 2)^AB (dv 3) AO) Ak))
 (AI^Ae^cg hr jF^AC (AU^dv 0)^AC (E6^Je 2) AN)))) Lx
def Bq:OX P w K mg base:=A.got A.h__law_next λT F _ _=>V1 F T.Gad
omit A in
def jU:AZ ["_law_names_here"] []^AJ Fk:=by walk_at "s"
def KR:Mp P w K mg base:=A.got A.h__law_names λT F m b=>GU F jU (λhr=>(AF (Ai (i:=0) jU.nd rfl (ZB rfl) (B9^AB Ag^AB Ag^AB Ag^AB Ag^AB Ag^AB Ag^AB Ag^AB Ag^AB Ag^AB Ag^AB Ag^AB Ag^AB Ag^AB Ag^AB Ag^AB Ag^AB Ag AO))
 (AI^Ae^Ba Bw CU (dv 0)^B9^AB Ag^AB Ag^AB Ag^AB Ag^AB Ag^AB Ag^AB Ag^AB Ag^AB Ag AO))) KL
omit A in
def jV:AZ ["_law_feed_here","_law_many","_law_names_here","_law_at","_law_step"] ["_law_feed_here","_law_many"]^AJ Eo:=by walk_at "s"
def JL:Kg P w K mg base:=A.got A.h__law_places λT F m b=>have jW:=KR A;have jX:=Bq A;GU F jV (λhr=>(AF (Ai (i:=2) jV.nd rfl (e_ rfl) (SF jW (hr.mono^by cbv) rfl))
 (AF (Ai (i:=3) jV.nd rfl (e_ rfl) (cg hr jX^AC (Bs 0)^AC (AU AG) AN))
 (AF (Ai (i:=4) jV.nd rfl (e_ rfl) (AY AR Al (B9^AB AG^AB AG^AB AG^AB AG AO)^cg hr jX^AC (Bs 0)^AC (AU AG) AN))
 (AI^Ae (Bz BH CQ rfl T.Gac fP (AT (Ad Jv Q2 rfl T.Gaa fR (AT (WX [("_law_names_here":Str),("_law_at":Str),("_law_step":Str),("_law_k":Str)] [P3 2,P3 3,P3 4,k_] (DI.c (LJ rfl T.Gai (AT (dv 1) Ab))) (Av (i:=3) (show eI [("_law_names_here":Str),("_law_at":Str),("_law_step":Str),("_law_k":Str)] by decide +kernel) rfl (ZB rfl)) IE (AY AR Al (dv 0)^Ba DV G1 (Ba Bw CU (dv 1)^Ba Fy J3 (dv 2)^dv 3) AG)^by kernel_rfl) Ab)) Ab))))))) I0
omit A in
def Io:AZ ["_law_feed_here","_law_sort"] ["_law_feed_here","_law_sort"]^AJ Er:=by walk_at "s"
def JN:Ki P w K mg base:=A.got A.h__law_length λT F m b=>have jX:=Bq A;GU F Io (λhr=>(AF (BA (Af Co FX (dv 1) AG^Am _) (AI^Ae^Ba L6 Pt (Ba L7 G1 AG AG)^cg hr jX^AC (Bs 0)^AC (AU AG) AN) Ak)
 (AI^Ae^Ba Bw CU AG^cg hr jX^AC (Bs 0)^AC (AU^AY AR Al (B9^AB AG^AB AG^AB AG AO)^dv 1) AN))) I_
omit A in
def jY:AZ ["_law_feed_here","_law_some"] ["_law_feed_here"]^AJ Fh:=by walk_at "s"
def KQ:Mm P w K mg base:=A.got A.h__law_times λT F m b=>have jX:=Bq A;GU F jY (λhr=>(AF (Ai (i:=1) jY.nd rfl (ZB rfl) (B9^AB (Aj^AB AG^AB AG AO)^AB (Aj^AB AG^AB AG AO)^AB (Aj^AB AG^AB AG AO)^AB (Aj^AB AG^AB AG AO)^AB (Aj^AB AG^AB AG AO)^AB (Aj^AB AG^AB AG AO)^AB (Aj^AB (Ba L7 G1 AG AG)^AB AG AO)^AB (Aj^AB AG^AB AG AO) AO))
 (AI^Ae^AY AR Al (dv 1)^cg hr jX^AC (Bs 0)^AC (AU AG) AN))) O2
omit A in
def Lo:AZ ["_law_tie"] ["_law_tie"]^AJ HC:=by walk_at "s"
def MC:OV P w K mg base:=A.got A.h__law_rank λT F m b=>GU F Lo (λhr=>(AI^Ae^Aj^AB (AY AR Al (dv 0) AG)^AB (AY AR Al (dv 0) AG)^AB (AY AR Al (dv 0) AG) AO)) O7
omit A in
def KC:AZ ["_law_ties"] ["_law_ties"]^AJ Fj:=by walk_at "s"
def Ey:Mo P w K mg base:=A.got A.h__law_order λT F m b=>have jZ:=MC A;GU F KC (λhr=>(AI^Ae (N9 jZ (hr.mono^by cbv) rfl T.Gaa rfl (dv 0)))) NW
omit A in
def ja:AZ ["_law_ties","_law_a","_law_found","_law_fresh","_law_one","_law_other","_law_length_here","_law_here","_law_there"] ["_law_ties","_law_a"]^AJ Fi:=by walk_at "s"
def Ex:Mn P w K mg base:=A.got A.h__law_reach λT F m b=>GU F ja (λhr=>(AF (Eg (i:=2) ja.nd rfl (ZB rfl) (N_ (dv 1) AG))
 (AF (Ai (i:=3) ja.nd rfl (ZB rfl) EJ)
 (AF (Jg c5 (Jf^dv 3) (AF (Ai (i:=3) ja.nd rfl (ZB rfl) EJ)
 (AI (WM c5 rfl (pv 0) (Jm rfl (Bo (Av (i:=4) ja.nd rfl (ZB rfl))^Bo (Av (i:=5) ja.nd rfl (ZB rfl))^Bo (Av (i:=6) ja.nd rfl (ZB rfl)) GB)) (AI (EH c5 rfl (Jl^B9^AB (Aj^AB (dv 4)^AB (dv 5) AO)^AB (Aj^AB (dv 5)^AB (dv 4) AO) AO) (Jm rfl (Bo (Av (i:=7) ja.nd rfl (ZB rfl))^Bo (Av (i:=8) ja.nd rfl (ZB rfl)) GB)) (AI (BA (DTW.dt^MV (Af (UG hr) XX (dv 7) (Je 2)^by with_unfolding_all rfl)^IC^Af (JI hr) OR (Ba Bw CU (A6 hr (Je 2)^dv 7)^dv 6) (WS hr (Je 2) (dv 8)^Ba L7 G1 AG AG)^Am _) (AF (MX (i:=2) hr (pv 2) (dv 8)^Ba Bw CU (A6 hr (Je 2)^dv 7)^dv 6)
 (AI (Ai (i:=3) ja.nd rfl (ZB rfl) EJ))) Ak))))))))
 (AI^Qo 2^pv 2))))) O4
omit A in
def jb:AZ ["_law_net","_law_times_here","_law_kept","_law_tie","_law_by"] ["_law_net","_law_times_here"]^AJ D4:=by walk_at "s"
def Hg:J4 P w K mg base:=A.got A.h__law_thinned λT F m b=>have jc:=Ey A;have jd:=Ex A;GU F jb (λhr=>(AF (Eg (i:=2) jb.nd rfl (ZB rfl) (B9 AO))
 (AF (EH c5 rfl (Jl^cg hr jc^AC (AU^AY AR Al (dv 0) AG) AN) (Av (i:=3) jb.nd rfl (ZB rfl)) (AF (Ai (i:=4) jb.nd rfl (ZB rfl) (Qq hr (cg hr jd^AC (E6^Je 2)^AC (AU^AY AR Al (dv 3) AG) AN)^AY AR Al (dv 3) AG))
 (AI^BA (DTW.dt^LI (Af PK VG (dv 4) CK^Am _)^Gv^Af YJ Z_ (Ba Fy J3 (dv 4)^AY AR Al (dv 1) AG) (Ba Fy J3 (AY AR Al (dv 3) AG)^AY AR Al (dv 1) AG)^Am _) (AI^N5 2 PySem.F.plainAttrs_list PySem.F.slot_list_append PySem.F.type_list_append CG LY (pv 2)^AB (dv 3) AO) Ak)))
 (AI^Ae^Aj^AB (AY AR Al (dv 0) AG)^AB (Bz BH CQ rfl T.Gac fP (AT (Ad Ju Q1 rfl T.Gaa fR (AT (Je 2) Ab)) Ab)) AO)))) O6
omit A in
def je:AZ ["_law_state","_law_ties"] ["_law_state"]^AJ Ep:=by walk_at "s"
def JM:Kh P w K mg base:=A.got A.h__law_net_of λT F m b=>GU F je (λhr=>(AF (Ai (i:=1) je.nd rfl (e_ rfl) (A6 hr (dv 0) Ag))
 (AI^Ae^Aj^AB (Bz BH CQ rfl T.Gac fP (AT (Ad Jv Q2 rfl T.Gaa fR (AT (A6 hr (dv 0) Ag) Ab)) Ab))^AB (Bz BH CQ rfl T.Gac fP (AT (WX [("_law_ties":Str),("_law_pair_here":Str)] [P3 1,k_] (B8 (Ad (Jt rfl) Q0 rfl T.Gaa fR (AT (dv 1) Ab))) (Av (i:=1) (show eI [("_law_ties":Str),("_law_pair_here":Str)] by decide +kernel) rfl (ZB rfl)) IE (Ba Bw CU (dv 1)^Aj^AB (WP hr (dv 0)^dv 1) AO)^by kernel_rfl) Ab)) AO))) O5
omit A in
def Lp:AZ ["_law_a","_law_b"] ["_law_a","_law_b"]^AJ HD:=by walk_at "s"
def MD:OW P w K mg base:=A.got A.h__law_pair λT F m b=>GU F Lp (λhr=>(AI^Ae^Aj^AB (Ad (Gy rfl) Pu rfl T.Gah boot_min (AT (dv 0)^AT (dv 1) Ab))^AB (Ad (Gz rfl) Pw rfl T.Gaj boot_max (AT (dv 0)^AT (dv 1) Ab)) AO)) RN
omit A in
def jf:AZ ["_law_state","_law_deed_here","_law_pair_here"] ["_law_state","_law_deed_here"]^AJ K3:=by walk_at "s"
def PP:Sa P w K mg base:=A.got A.h__law_do λT F m b=>have jg:=MD A;GU F jf (λhr=>(AF (BA (Af Co FX (AY AR Al (dv 1) AG) Ag^Am _) (AI^Bx^OA PySem.F.plainAttrs_list PySem.F.slot_list_append PySem.F.type_list_append CG LY (A6 hr (dv 0) Ag)^AB (AY AR Al (dv 1) AG) AO) Ak)
 (AF (BA (Af Co FX (AY AR Al (dv 1) AG) Ag^Am _) (AF (Bx^OA PySem.F.plainAttrs_list PySem.F.slot_list_remove PySem.F.type_list_remove (K7 hr) XS (A6 hr (dv 0) Ag)^AB (AY AR Al (dv 1) AG) AO)
 (AI (EH c5 rfl (Jl (Pl (Pp rfl) We rfl T.Gal boot_list (AT (A6 hr (dv 0) Ag) Ab))) (Av (i:=2) jf.nd rfl (ZB rfl)) (AI^BA (Af (UD hr) GJ (AY AR Al (dv 1) AG) (dv 2)^by with_unfolding_all rfl) (AI^Bx^OA PySem.F.plainAttrs_dict PySem.F.slot_dict_pop PySem.F.type_dict_pop (Qa hr) VF (A6 hr (dv 0) Ag)^AB (dv 2) AO) Ak)))) Ak)
 (AF (BA (Af Co FX (AY AR Al (dv 1) AG) Ag^Am _) (AI^WL hr (A6 hr (dv 0) Ag) (cg hr jg^AC (AU^AY AR Al (dv 1) AG)^AC (AU^AY AR Al (dv 1) AG) AN)^AY AR Al (dv 1) AG) Ak)
 (AI^BA (Af Co FX (AY AR Al (dv 1) AG) Ag^Am _) (AI^Bx^OA PySem.F.plainAttrs_dict PySem.F.slot_dict_pop PySem.F.type_dict_pop (Qa hr) VF (A6 hr (dv 0) Ag)^AB (cg hr jg^AC (AU^AY AR Al (dv 1) AG)^AC (AU^AY AR Al (dv 1) AG) AN) AO) Ak))))) Vi
omit A in
def jh:AZ ["self","net","before"] ["self","net"]^AJ DA:=by walk_at "s"
def Bg:G3 P w K mg base C_Keeper:=A.gotM A.m_Keeper_turn_to λT F=>have ji:=Nf A;have jj:=PM A;Sk F jh (λhr=>(AF (Ai (i:=2) jh.nd rfl (ZB rfl) (BX A.cl_Keeper A.na_Keeper_kept^dv 0))
 (AF (Jh A.cl_Keeper A.na_Keeper_whole (dv 0)^dv 1)
 (AF (Jh A.cl_Keeper A.na_Keeper_kept (dv 0)^cg hr jj^AC (AU^dv 1)^AC (AU^BX A.cl_Keeper A.na_Keeper_times^dv 0) AN)
 (AI^Ae^Aj^AB (IJ^cg hr ji^AC (AU^BX A.cl_Keeper A.na_Keeper_kept^dv 0)^AC (AU^dv 2) AN)^AB (IJ^cg hr ji^AC (AU^dv 2)^AC (AU^BX A.cl_Keeper A.na_Keeper_kept^dv 0) AN) AO))))) RI
omit A in
def Ir:AZ ["self","name"] ["self","name"]^AJ Eu:=by walk_at "s"
def JQ:Kl P w K mg base C_Keeper:=A.gotM A.m_Keeper_come λT F=>have jk:=Bg A;by
 let#[_,Gae]:=T.Gae;exact Sk F Ir (λhr=>(AF (BA (Af (UD hr) GJ (dv 1) (AY AR Al (BX A.cl_Keeper A.na_Keeper_whole^dv 0) AG)^by with_unfolding_all rfl) (AI DM) Ak)
 (AF (BA (Af Co FX (Ad BV ES rfl T.Gad PySem.boot_len (AT (AY AR Al (BX A.cl_Keeper A.na_Keeper_whole^dv 0) AG) Ab)) (Qr rfl Gae)^Am _) (AI DM) Ak)
 (AI^Ae^BJ A.cl_Keeper jk (hr.mono^by cbv) (dv 0)^AC (AU^Aj^AB (Bz BH CQ rfl T.Gac fP (AT (Ad Po Wd rfl T.Gaa fR (AT (Ba Bw CU (AY AR Al (BX A.cl_Keeper A.na_Keeper_whole^dv 0) AG)^Aj^AB (dv 1) AO) Ab)) Ab))^AB (AY AR Al (BX A.cl_Keeper A.na_Keeper_whole^dv 0) AG) AO) AN)))) RU
omit A in
def Ej:AZ ["self","name"] ["self","name"]^AJ Ci:=by walk_at "s"
def Bt:FY P w K mg base C_Keeper:=A.gotM A.m_Keeper_ask_place λT F=>Sk F Ej (λhr=>(AI^BA (Af (CF hr) GJ (dv 1) (AY AR Al (BX A.cl_Keeper A.na_Keeper_whole^dv 0) AG)^by with_unfolding_all rfl) (AI DM) Ak)) TZ
omit A in
def KG:AZ ["self","a","b"] ["self","a","b"]^AJ Fo:=by walk_at "s"
def Ez:Ms P w K mg base C_Keeper:=A.gotM A.m_Keeper_far λT F=>have jl:=Bt A;have jm:=OP A;Sk F KG (λhr=>(AF (Bx^BJ A.cl_Keeper jl (hr.mono^by cbv) (dv 0)^AC (AU^dv 1) AN)
 (AF (Bx^BJ A.cl_Keeper jl (hr.mono^by cbv) (dv 0)^AC (AU^dv 2) AN)
 (AI^Ae^cg hr jm^AC (AU^BX A.cl_Keeper A.na_Keeper_kept^dv 0)^AC (AU^dv 1)^AC (AU^dv 2) AN)))) RQ
omit A in
def jn:AZ ["self","name","places","ties"] ["self","name"]^AJ HF:=by walk_at "s"
def MG:OZ P w K mg base C_Keeper:=A.gotM A.m_Keeper_go λT F=>have jl:=Bt A;have jk:=Bg A;Sk F jn (λhr=>(AF (Bx^BJ A.cl_Keeper jl (hr.mono^by cbv) (dv 0)^AC (AU^dv 1) AN)
 (AF (MW (i:=2) jn.nd rfl (ZB rfl) rfl [("name":Str),("place":Str)] [P3 1,k_] (B8^AY AR Al (BX A.cl_Keeper A.na_Keeper_whole^dv 0) AG) (λ_ _ _ _ _=>(Av (i:=1) (show eI [("name":Str),("place":Str)] by decide +kernel) rfl (ZB rfl))) (λ_ _ _ _ _=>(Cz^Af HI OQ (dv 1) (dv 0)^Am _)) (λ_ _ _ _ _=>(dv 1)) (by kernel_rfl))
 (AF (MW (i:=3) jn.nd rfl (ZB rfl) rfl [("name":Str),("tie":Str)] [P3 1,k_] (B8^AY AR Al (BX A.cl_Keeper A.na_Keeper_whole^dv 0) AG) (λ_ _ _ _ _=>(Av (i:=1) (show eI [("name":Str),("tie":Str)] by decide +kernel) rfl (ZB rfl))) (λ_ _ _ _ _=>(Cz^Af (CF hr) GJ (dv 0) (Uy Xw VE (dv 1) MZ^MY AG)^by with_unfolding_all rfl)) (λ_ _ _ _ _=>(dv 1)) (by kernel_rfl))
 (AI^Ae^BJ A.cl_Keeper jk (hr.mono^by cbv) (dv 0)^AC (AU^Aj^AB (Bz BH CQ rfl T.Gac fP (AT (dv 2) Ab))^AB (Bz BH CQ rfl T.Gac fP (AT (dv 3) Ab)) AO) AN))))) Vh
omit A in
def DR:AZ ["self","a","b"] ["self","a","b"]^AJ CA:=by walk_at "s"
def B6:Dv P w K mg base C_Keeper:=A.gotM A.m_Keeper_ties_between λT F=>have jl:=Bt A;Sk F DR (λhr=>(AF (Bx^BJ A.cl_Keeper jl (hr.mono^by cbv) (dv 0)^AC (AU^dv 1) AN)
 (AF (Bx^BJ A.cl_Keeper jl (hr.mono^by cbv) (dv 0)^AC (AU^dv 2) AN)
 (AI^Ae^WX [("a":Str),("b":Str),("tie":Str)] [P3 1,P3 2,k_] (B8^AY AR Al (BX A.cl_Keeper A.na_Keeper_whole^dv 0) AG) (Av (i:=2) (show eI [("a":Str),("b":Str),("tie":Str)] by decide +kernel) rfl (ZB rfl)) (Cz^Af (UE hr) XW (Uy Xw VE (dv 2) MZ^MY AG) (Aj^AB (Ad (Gy rfl) Pu rfl T.Gah boot_min (AT (dv 0)^AT (dv 1) Ab))^AB (Ad (Gz rfl) Pw rfl T.Gaj boot_max (AT (dv 0)^AT (dv 1) Ab)) AO)^Am _) (dv 2)^by kernel_rfl)))) O3
omit A in
def jo:AZ ["self","a","b","length","ties","others"] ["self","a","b","length"]^AJ Fn:=by walk_at "s"
def KU:Mr P w K mg base C_Keeper:=A.gotM A.m_Keeper_lay λT F=>have jp:=B6 A;have jk:=Bg A;have jF:=L9 A;have jq:=JJ A;by
 let#[_,Gaf]:=T.Gaf;exact Sk F jo (λhr=>(AF (Ai (i:=4) jo.nd rfl (ZB rfl) (BJ A.cl_Keeper jp (hr.mono^by cbv) (dv 0)^AC (AU^dv 1)^AC (AU^dv 2) AN))
 (AF (BA (Af Co FX (dv 1) (dv 2)^Am _) (AI DM) Ak)
 (AF (BA (DTW.dt^MV (Gw^Ph^Je 4)^IC^Af Co FX (Ad BV ES rfl T.Gad PySem.boot_len (AT (AY AR Al (BX A.cl_Keeper A.na_Keeper_whole^dv 0) AG) Ab)) (Qr rfl Gaf)^Am _) (AI DM) Ak)
 (AF (Ai (i:=5) jo.nd rfl (ZB rfl) (AY AR Al (cg hr jq^AC (AU^BX A.cl_Keeper A.na_Keeper_whole^dv 0)^AC (E6^Je 4) AN) AG))
 (AI^Ae^BJ A.cl_Keeper jk (hr.mono^by cbv) (dv 0)^AC (AU^cg hr jF^AC (AU^BX A.cl_Keeper A.na_Keeper_whole^dv 0)^AC (E6^Ba Bw CU (dv 5)^Aj^AB (Aj^AB (Ad (Gy rfl) Pu rfl T.Gah boot_min (AT (dv 1)^AT (dv 2) Ab))^AB (Ad (Gz rfl) Pw rfl T.Gaj boot_max (AT (dv 1)^AT (dv 2) Ab))^AB (dv 3) AO) AO) AN) AN)))))) TY
omit A in
def jr:AZ ["self","a","b","ties"] ["self","a","b"]^AJ CM:=by walk_at "s"
def Ds:ET P w K mg base C_Keeper:=A.gotM A.m_Keeper_tie_between λT F=>have jp:=B6 A;Sk F jr (λhr=>(AF (Ai (i:=3) jr.nd rfl (ZB rfl) (BJ A.cl_Keeper jp (hr.mono^by cbv) (dv 0)^AC (AU^dv 1)^AC (AU^dv 2) AN))
 (AF (BA (Gw^Ph^Je 3) (AI DM) Ak)
 (AI^Ae^AY AR Al (Je 3) AG)))) RK
omit A in
def Iq:AZ ["self","a","b"] ["self","a","b"]^AJ Et:=by walk_at "s"
def JP:Kk P w K mg base C_Keeper:=A.gotM A.m_Keeper_take λT F=>have jt:=Ds A;have jk:=Bg A;have jq:=JJ A;Sk F Iq (λhr=>(AI^Ae^BJ A.cl_Keeper jk (hr.mono^by cbv) (dv 0)^AC (AU^cg hr jq^AC (AU^BX A.cl_Keeper A.na_Keeper_whole^dv 0)^AC (E6^B9^AB (BJ A.cl_Keeper jt (hr.mono^by cbv) (dv 0)^AC (AU^dv 1)^AC (AU^dv 2) AN) AO) AN) AN)) RM
omit A in
def Ln:AZ ["_law_keeper","_law_deed_here"] ["_law_keeper","_law_deed_here"]^AJ HB:=by walk_at "s"
def MB:OU P w K mg base C_Keeper:=A.got A.h__law_told λT F m b=>have ju:=JQ A;have jv:=Ez A;have jw:=MG A;have jx:=KU A;have jy:=JP A;GU F Ln (λhr=>(AF (BA (Af Co FX (AY AR Al (dv 1) AG) Ag^Am _) (AI^Ae^BJ A.cl_Keeper ju (hr.mono^by cbv) (dv 0)^AC (AU^AY AR Al (dv 1) AG) AN) Ak)
 (AF (BA (Af Co FX (AY AR Al (dv 1) AG) Ag^Am _) (AI^Ae^BJ A.cl_Keeper jw (hr.mono^by cbv) (dv 0)^AC (AU^AY AR Al (dv 1) AG) AN) Ak)
 (AF (BA (Af Co FX (AY AR Al (dv 1) AG) Ag^Am _) (AI^Ae^BJ A.cl_Keeper jx (hr.mono^by cbv) (dv 0)^AC (AU^AY AR Al (dv 1) AG)^AC (AU^AY AR Al (dv 1) AG)^AC (AU^AY AR Al (dv 1) AG) AN) Ak)
 (AF (BA (Af Co FX (AY AR Al (dv 1) AG) Ag^Am _) (AI^Ae^BJ A.cl_Keeper jy (hr.mono^by cbv) (dv 0)^AC (AU^AY AR Al (dv 1) AG)^AC (AU^AY AR Al (dv 1) AG) AN) Ak)
 (AI^Ae^BJ A.cl_Keeper jv (hr.mono^by cbv) (dv 0)^AC (AU^AY AR Al (dv 1) AG)^AC (AU^AY AR Al (dv 1) AG) AN)))))) RJ
omit A in
def jz:AZ ["_law_before","_law_after","_law_came"] ["_law_before","_law_after"]^AJ En:=by walk_at "s"
def JK:Kf P w K mg base:=A.got A.h__law_turned λT F m b=>have jc:=Ey A;GU F jz (λhr=>(AF (Ai (i:=2) jz.nd rfl (ZB rfl) (cg hr jc^AC (AU^WX [("_law_before":Str),("_law_tie":Str)] [P3 0,k_] (B8^AY AR Al (dv 1) AG) (Av (i:=1) (show eI [("_law_before":Str),("_law_tie":Str)] by decide +kernel) rfl (ZB rfl)) (Cz^Af (CF hr) GJ (dv 1) (AY AR Al (dv 0) AG)^by with_unfolding_all rfl) (dv 1)^by kernel_rfl) AN))
 (AI^Ae^Aj^AB (dv 2)^AB (cg hr jc^AC (AU^WX [("_law_after":Str),("_law_tie":Str)] [P3 1,k_] (B8^AY AR Al (dv 0) AG) (Av (i:=1) (show eI [("_law_after":Str),("_law_tie":Str)] by decide +kernel) rfl (ZB rfl)) (Cz^Af (CF hr) GJ (dv 1) (AY AR Al (dv 0) AG)^by with_unfolding_all rfl) (dv 1)^by kernel_rfl) AN) AO))) NV
omit A in
def j4:AZ ["_law_feed_here","_law_state","_law_pool","_law_sort","_law_places_here","_law_new","_law_way","_law_pair_here","_law_side","_law_a","_law_b"] ["_law_feed_here","_law_state","_law_pool","_law_sort"]^AJ HE:=by walk_at "s"
def MF:OY P w K mg base:=A.got A.h__law_deed λT F m b=>have j5:=JN A;have jX:=Bq A;GU F j4 (λhr=>(AF (Ai (i:=4) j4.nd rfl (e_ rfl) (A6 hr (dv 1) Ag))
 (AF (MW (i:=5) j4.nd rfl (ZB rfl) rfl [("_law_places_here":Str),("_law_name":Str)] [P3 4,k_] (B8^dv 2) (λ_ _ _ _ _=>(Av (i:=1) (show eI [("_law_places_here":Str),("_law_name":Str)] by decide +kernel) rfl (ZB rfl))) (λ_ _ _ _ _=>(Cz^Af (CF hr) GJ (dv 1) (dv 0)^by with_unfolding_all rfl)) (λ_ _ _ _ _=>(dv 1)) (by kernel_rfl))
 (AF (Ai (i:=6) j4.nd rfl (ZB rfl) (cg hr jX^AC (Bs 0)^AC (AU AG) AN))
 (AF (BA (DTW.dt^MV (Af (YF hr) Z7 (dv 5) (B9 AO)^Am _)^IC^DTW.dt^LI (Af (JI hr) OR (dv 6) AG^Am _)^Gv^Af (JI hr) OR (Ad BV ES rfl T.Gad PySem.boot_len (AT (dv 4) Ab)) AG^Am _) (AI^Ae^Aj^AB Ag^AB (AY AR Al (dv 5)^cg hr jX^AC (Bs 0)^AC (AU (Ad BV ES rfl T.Gad PySem.boot_len (AT (dv 5) Ab))) AN) AO) Ak)
 (AF (BA (Af Co FX (dv 6) AG^Am _) (AI^Ae^Aj^AB Ag^AB (AY AR Al (dv 4)^cg hr jX^AC (Bs 0)^AC (AU (Ad BV ES rfl T.Gad PySem.boot_len (AT (dv 4) Ab))) AN) AO) Ak)
 (AF (BA (DTW.dt^MV (Af Co FX (dv 6) AG^Am _)^IC^Af (YG hr) Z8 (A6 hr (dv 1) Ag) U4^Am _) (AF (Ai (i:=7) j4.nd rfl (ZB rfl) (AY AR Al (Ad (Jt rfl) Q0 rfl T.Gaa fR (AT (A6 hr (dv 1) Ag) Ab))^cg hr jX^AC (Bs 0)^AC (AU (Ad SM Yr rfl T.Gad PySem.boot_len (AT (A6 hr (dv 1) Ag) Ab))) AN))
 (AF (Ai (i:=8) j4.nd rfl (ZB rfl) (cg hr jX^AC (Bs 0)^AC (AU AG) AN))
 (AI^Ae^Aj^AB Ag^AB (AY AR Al (dv 7)^dv 8)^AB (AY AR Al (dv 7)^Ba L6 Pt AG^dv 8) AO))) Ak)
 (AF (Ai (i:=9) j4.nd rfl (ZB rfl) (cg hr jX^AC (Bs 0)^AC (AU (Ad BV ES rfl T.Gad PySem.boot_len (AT (dv 4) Ab))) AN))
 (AF (Ai (i:=10) j4.nd rfl (ZB rfl) (Ba DV G1 (Ba Bw CU (Ba Bw CU (dv 9) AG)^cg hr jX^AC (Bs 0)^AC (AU^Ba L6 Pt (Ad BV ES rfl T.Gad PySem.boot_len (AT (dv 4) Ab)) AG) AN) (Ad BV ES rfl T.Gad PySem.boot_len (AT (dv 4) Ab))))
 (AI^Ae^Aj^AB Ag^AB (AY AR Al (dv 4)^dv 9)^AB (AY AR Al (dv 4)^dv 10)^AB (cg hr j5^AC (Bs 0)^AC (AU^U1 (Af (JI hr) OR (dv 3) AG^Am _) (dv 3)^cg hr jX^AC (Bs 0)^AC (AU AG) AN) AN) AO)))))))))) RT
omit A in
def j6:AZ ["_law_feed_here","_law_keeper","_law_thin","_law_places_here","_law_a","_law_b","_law_due","_law_one","_law_other","_law_found"] ["_law_feed_here","_law_keeper","_law_thin"]^AJ C_:=by walk_at "s"
def Fz:G2 P w K mg base C_Keeper:=A.got A.h__law_far_right λT F m b=>have jv:=Ez A;have jX:=Bq A;have jd:=Ex A;GU F j6 (λhr=>(AF (Ai (i:=3) j6.nd rfl (ZB rfl) (AY AR Al (dv 2) AG))
 (AF (BA (Af (UE hr) XW (dv 3) (Aj AO)^Am _) (AI^Ae EJ) Ak)
 (AF (Ai (i:=4) j6.nd rfl (ZB rfl) (AY AR Al (dv 3)^cg hr jX^AC (Bs 0)^AC (AU (Ad BV ES rfl T.Gad PySem.boot_len (AT (dv 3) Ab))) AN))
 (AF (Ai (i:=5) j6.nd rfl (ZB rfl) (AY AR Al (dv 3)^cg hr jX^AC (Bs 0)^AC (AU (Ad BV ES rfl T.Gad PySem.boot_len (AT (dv 3) Ab))) AN))
 (AF (Ai (i:=6) j6.nd rfl (ZB rfl) (cg hr jd^AC (E6^AY AR Al (dv 2) AG)^AC (AU^dv 4) AN))
 (AF (EH c5 rfl (Jl^B9^AB (Aj^AB (dv 4)^AB (dv 5) AO)^AB (Aj^AB (dv 5)^AB (dv 4) AO)^AB (Aj^AB (dv 4)^AB (dv 4) AO) AO) (Jm rfl (Bo (Av (i:=7) j6.nd rfl (ZB rfl))^Bo (Av (i:=8) j6.nd rfl (ZB rfl)) GB)) (AF (Ai (i:=9) j6.nd rfl (ZB rfl) (BJ A.cl_Keeper jv (hr.mono^by cbv) (dv 1)^AC (AU^dv 7)^AC (AU^dv 8) AN))
 (AI^BA (Af HI OQ (Ad (BL hr) CT rfl T.Gab eh (AT (dv 9) Ab)) (Ad (BL hr) CT rfl T.Gab eh (AT (U1 (Af HI OQ (dv 7) (dv 8)^Am _) (Qq hr (dv 6)^dv 5) AG) Ab))^Am _) (AI^Ae EJ) Ak)))
 (AI^Ae EJ)))))))) RS
omit A in
def FI:AZ ["self","times"] ["self","times"]^AJ A4:=by walk_at "s"
def FO:GL P w K mg base C_Keeper:=A.gotC λT F=>Sk F FI (λhr=>(AF (Jh A.cl_Keeper A.na_Keeper_times (dv 0)^dv 1)
 (AF (Jh A.cl_Keeper A.na_Keeper_whole (dv 0)^Aj^AB (Aj AO)^AB (Aj AO) AO)
 (AI^Jh A.cl_Keeper A.na_Keeper_kept (dv 0)^Aj^AB (Aj AO)^AB (Aj AO) AO)))) RR
omit A in
def KD:AZ ["self"] ["self"]^AJ Fl:=by walk_at "s"
def KS:Mq P w K mg base C_Keeper:=A.gotM A.m_Keeper_net λT F=>Sk F KD (λhr=>(AI^Ae^BX A.cl_Keeper A.na_Keeper_whole^dv 0)) TX
omit A in
def Ip:AZ ["self"] ["self"]^AJ Es:=by walk_at "s"
def JO:Kj P w K mg base C_Keeper:=A.gotM A.m_Keeper_thin λT F=>Sk F Ip (λhr=>(AI^Ae^BX A.cl_Keeper A.na_Keeper_kept^dv 0)) RL
end
section
variable {P:Program}{w:World}{K:Frag}{mg:Str->o_ Value}{base:Heap}
def Lq:AZ ["_law_script"] ["_law_script"]^AJ D6:=by constructor <;>first|rfl|decide +kernel
def ME{f:Ch}{fd:cv}(T:Txt K mg)(F:Fun K "_law_feed" "_law_feed" D6 f fd):FnOk P w K mg base Fb 1 f fd ["_law_script"]^Lj K:=by
 refine F.ok Lq (λvs H Q E h=>?_) λcdv A outer s H vs Q E hr h=>?_
 .let#[a,ns,rfl,_]:=h
  rfl
 .let#[a,ns,rfl,#[hl,hS],q]:=h
  refine#[_,Cw^FN^PJ^Bp (Gd Mf rfl T.Gal boot_list (Bp (Nb sl_list (pv 0) QS^QR Ax) Ck))^Bp Ax^Bp Ax Ck,?_];refine#[_,rfl,63,rfl,a,_,rfl,hS,λp hp=>#[p,_,rfl,.inl^SqL.of AM,λc hc=>#[by show 3<=sizeLine;decide,λg hg=>?_]]];rw[Z5 hl]at hg ⊢;have ncg:c≠g:=λz=>by rw[←z,AM]at hg;cases hg
  exact q c g _ ncg (by rw[AL ncg,AM]) AM
def j7:AZ ["_law_script","_law_feed_here","_law_times_here","_law_pool","_law_sort","_law_keeper","_law_state","_law_before","_law_k","_law_deed_here","_law_told_here","_law_after"] ["_law_script"]^AJ Iy:=by walk_at "s"
def YK{h:cA}{C_Keeper f ff:Ch}{fd fdf:cv}(A:Ctx P w K mg base h C_Keeper)(Gf:FnOk P w K mg base Fb 1 ff fdf ["_law_script"]^Lj K)(mf:mg "_law_feed"=P3^.ref ff)(kf:keepIn K^.ref ff=l_)(bf:Binds K fdf ["_law_script"] [])(F:Fun K "law" "law" Iy f fd):FnOk P w K mg base Fb 9 f fd ["_law_script"]^NP K:=by
 have j8:=FO A;have j9:=KS A;have j_:=JO A;have kA:=MF A;have kB:=PP A;have kC:=Fz A;have kE:=JM A;have jX:=Bq A;have kF:=JL A;have kG:=Hg A;have kH:=KQ A;have kI:=MB A;have kJ:=JK A;have T:=A.T
 exact Zz (n0:=3000) F j7 rfl (by cbv) (λcdv A0 outer s H E hr=>D8 (i:=1) j7.nd rfl (ZB rfl) (L5 Gf (hr.mono^by cbv) rfl mf kf bf .nil JG (Bp (pv 0) Ck)))
  (λcdv A0 outer s H E hr=>(AF (Ai (i:=2) j7.nd rfl (ZB rfl) (cg hr kH^AC (Bs 1) AN))
 (AF (Ai (i:=3) j7.nd rfl (ZB rfl) (cg hr kF^AC (Bs 1)^AC (AU AG) AN))
 (AF (Ai (i:=4) j7.nd rfl (ZB rfl) (cg hr jX^AC (Bs 1)^AC (AU AG) AN))
 (AF (Ai (i:=5) j7.nd rfl (ZB rfl) (WR j8 (hr.mono^by cbv) rfl (AC (AU^dv 2) AN)))
 (AF (Ai (i:=6) j7.nd rfl (ZB rfl) (U3 (IJ^B9 AO)^IJ U2))
 (AF (Ai (i:=7) j7.nd rfl (ZB rfl) (Aj^AB (Aj AO)^AB (Aj AO) AO))
 (AF (BA (DTW.dt^LI (Af HI OQ (Ad (BL hr) CT rfl T.Gab eh (AT (GC A.cl_Keeper j9 (hr.mono^by cbv)^dv 5) Ab)) (Ad (BL hr) CT rfl T.Gab eh (AT (dv 7) Ab))^Am _)^Gv^Af HI OQ (Ad (BL hr) CT rfl T.Gab eh (AT (GC A.cl_Keeper j_ (hr.mono^by cbv)^dv 5) Ab)) (Ad (BL hr) CT rfl T.Gab eh (AT (dv 7) Ab))^Am _) (AI^Ae EJ) Ak)
 (AF (EH c5 rfl (LJ rfl T.Gai (AT (Ba Bw CU AG^cg hr jX^AC (Bs 1)^AC (AU AG) AN) Ab)) (Av (i:=8) j7.nd rfl (ZB rfl)) (AF (Ai (i:=9) j7.nd rfl (ZB rfl) (Jn kA (hr.mono^by cbv) rfl (AC (Bs 1)^AC (AU^dv 6)^AC (AU^dv 3)^AC (AU^dv 4) AN)))
 (AF (Ai (i:=10) j7.nd rfl (ZB rfl) (cg hr kI^AC (AU^dv 5)^AC (AU^dv 9) AN))
 (AF (Bx^cg hr kB^AC (AU^dv 6)^AC (AU^dv 9) AN)
 (AF (Ai (i:=11) j7.nd rfl (ZB rfl) (cg hr kG^AC (AU (Jn kE (hr.mono^by cbv) rfl (AC (AU^dv 6) AN)))^AC (AU^dv 2) AN))
 (AF (BA (Af HI OQ (SG (BL hr) CT rfl T.Gab eh (AT (dv 10) Ab)) (Ad (BL hr) CT rfl T.Gab eh (AT (cg hr kJ^AC (AU^dv 7)^AC (AU^dv 11) AN) Ab))^Am _) (AI^Ae EJ) Ak)
 (AF (Bx^OA PySem.F.plainAttrs_list PySem.F.slot_list_append PySem.F.type_list_append CG LY (AY AR Al (dv 10) AG)^AB CK AO)
 (AF (Bx^Yi PySem.F.plainAttrs_list PySem.F.slot_list_clear PySem.F.type_list_clear UI Yt^AY AR Al (dv 10) AG)
 (AF (BA (DTW.dt^LI (Af HI OQ (Ad (BL hr) CT rfl T.Gab eh (AT (GC A.cl_Keeper j_ (hr.mono^by cbv)^dv 5) Ab)) (Ad (BL hr) CT rfl T.Gab eh (AT (dv 11) Ab))^Am _)^Gv^Af HI OQ (Ad (BL hr) CT rfl T.Gab eh (AT (GC A.cl_Keeper j9 (hr.mono^by cbv)^dv 5) Ab)) (Ad (BL hr) CT rfl T.Gab eh (AT (Jn kE (hr.mono^by cbv) rfl (AC (AU^dv 6) AN)) Ab))^Am _) (AI^Ae EJ) Ak)
 (AF (BA (Gw^Jf^cg hr kC^AC (Bs 1)^AC (AU^dv 5)^AC (AU^dv 11) AN) (AI^Ae EJ) Ak)
 (AI (Ai (i:=7) j7.nd rfl (ZB rfl) (dv 11)))))))))))))
 (AI^Ae EJ)))))))))) (O8^by cbv)
end
local macro_rules|`(tactic|walk_at "B")=>`(tactic|(intro _ _ _ _ _ _;exact bW λ_=>rfl))
def all_mk{l:PySem.W.OpenLaw}{w:cN}{K:Frag}{h:cA}{mg:Str->o_ Db}{fa C_Keeper:Ch}(hfa:mg "law"=P3^.ref fa)(A:C0 K mg h C_Keeper):∃fd:cv,(∀(s:Go) (v:Db),iR s fd #[[v],[]] [("_law_script",v)])/\∀base:cA,K.In base->base.Ns mainGlobals mg->FnOk l.prog w K mg base Fb 9 fa fd ["_law_script"]^NP K:=by
 let#[ff,ffd,mf,Ff]:=A.h__law_feed.fn A.X A.G;have bf:=Ff.binds (ps:=["_law_script"]) (by walk_at "B");let#[f,oc,od,an,sl,kV,dc,pm,cd,ct,a,l',c,k]:=A.h_law;cases hfa.symm.trans^mg_of A.X A.G a;exact#[fnOf "law" "law" (By Iy) (BM Iy) (AJ Iy) .none kV dc pm an cd ct,λs v=>.of_eq rfl,λbase _ _=>YK A (ME A.T Ff) mf Ff.kp bf^MQ (st:=Iy) l' c k]
def walk{l:PySem.W.OpenLaw}{q:cH}{loose:n_ Str}{XP:(Str->o_ Db)->cA->Prop}{YP:cN->cA->Prop}{d:DefRec}{K:Params->Frag}(hn:l.most=P3 63)(hdf:d.params.defaults=[])
  (hY:∀(w:cN) (h:cA),YP w h->(K w.params).In h)
  (F:∀(w:cN) (mg:Str->o_ Db) (fa:Ch) (h:cA),(K w.params).In h->h.Ns mainGlobals mg->mg d.name=P3^.ref fa->
   ∃fd:cv,(∀(s:Go) (u:Db),iR s fd #[[u],[]] [("_law_script",u)])/\∀base:cA,(K w.params).In base->base.Ns mainGlobals mg->FnOk l.prog w (K w.params) mg base Fb 9 fa fd ["_law_script"]^NP^K w.params):
  PySem.W.WalkO q loose XP YP l.row.toRowW d [] (λf vs=>PySem.call f vs):=
 L2.P6 (n:=63) (k:=9) (x:="_law_script") (CX:=λ_=>Fb) (sp:=λw=>NP^K w.params) hn (by cbv) hdf #[rfl,by cbv,by cbv,rfl] hY F (λ_ _ a ns hl _ hS=>#[a,ns,rfl,#[hl,hS],λ_=>rfl]) λ_ _ _ _ _ z=>z
end K67
end _p
namespace PySem.W.Fast
theorem tw11993568520769553300:True:=⟨⟩
theorem tw1789878880439368747:True:=⟨⟩
theorem tw11867424023655006924:True:=⟨⟩
theorem tw6593152329302535869:True:=⟨⟩
theorem tw877368185985096430:True:=⟨⟩
theorem tw16634948243515183495:True:=⟨⟩
theorem tw4779978684628742727:True:=⟨⟩
theorem tw7540207264178334773:True:=⟨⟩
theorem tw6644098540269110491:True:=⟨⟩
theorem tw189594175990525947:True:=⟨⟩
theorem tw13019465588486399594:True:=⟨⟩
theorem tw7215821623964087732:True:=⟨⟩
theorem tw12933226074296913286:True:=⟨⟩
theorem tw15609067386188153930:True:=⟨⟩
theorem tw461357450766251739:True:=⟨⟩
theorem tw10561673408452327520:True:=⟨⟩
theorem tw4636732914224858515:True:=⟨⟩
theorem tw2288218800967855076:True:=⟨⟩
theorem tw16960412756517206127:True:=⟨⟩
theorem tw14203960696324752961:True:=⟨⟩
theorem tw15067938284492854331:True:=⟨⟩
theorem tw11735724525447399182:True:=⟨⟩
theorem tw12239873248699698479:True:=⟨⟩
theorem tw18307158640358695162:True:=⟨⟩
theorem tw8196448398491844329:True:=⟨⟩
theorem tw6134043691469122410:True:=⟨⟩
theorem tw1977048907444134644:True:=⟨⟩
theorem tw11650146809583315159:True:=⟨⟩
theorem tw6093355428345702268:True:=⟨⟩
theorem tw15096668117208036047:True:=⟨⟩
theorem tw15255398810454766317:True:=⟨⟩
theorem tw5101789821979361396:True:=⟨⟩
theorem tw7586051909537077132:True:=⟨⟩
theorem tw2986477709881474967:True:=⟨⟩
theorem tw9452917039992938862:True:=⟨⟩
theorem tw14111502840244249235:True:=⟨⟩
theorem tw13307246794917886294:True:=⟨⟩
theorem tw16657460885266940029:True:=⟨⟩
theorem tw5131070050325700772:True:=⟨⟩
theorem tw11535438839009055445:True:=⟨⟩
theorem tw4942364732088081519:True:=⟨⟩
theorem tw13329232783153824349:True:=⟨⟩
theorem tw3905673769605986578:True:=⟨⟩
theorem tw2732691592850338257:True:=⟨⟩
theorem tw15649705150172087122:True:=⟨⟩
theorem tw18419512533423162699:True:=⟨⟩
theorem tw745092305799075590:True:=⟨⟩
theorem tw4475884719675593340:True:=⟨⟩
theorem tw6665867678386270923:True:=⟨⟩
theorem tw16053513061651330271:True:=⟨⟩
theorem tw16132116890333033219:True:=⟨⟩
theorem tw3232762609830086561:True:=⟨⟩
theorem tw4441684365956709813:True:=⟨⟩
theorem tw11147777027947359484:True:=⟨⟩
theorem tw5949819906511659151:True:=⟨⟩
theorem tw13350048160328020480:True:=⟨⟩
theorem tw11241253683057572766:True:=⟨⟩
theorem tw1419957023513396346:True:=⟨⟩
theorem tw10044611142646803208:True:=⟨⟩
theorem tw5445279287717010377:True:=⟨⟩
theorem tw711280557037717475:True:=⟨⟩
theorem tw241975763848178651:True:=⟨⟩
theorem tw14995710353898133848:True:=⟨⟩
theorem tw18131337856811150087:True:=⟨⟩
theorem tw2467418955510485643:True:=⟨⟩
theorem tw4592815312671437940:True:=⟨⟩
theorem tw17238066196860796726:True:=⟨⟩
theorem tw15320035815036908980:True:=⟨⟩
theorem tw14599600455981021771:True:=⟨⟩
theorem tw15924159428085896754:True:=⟨⟩
theorem tw14916634807857146388:True:=⟨⟩
theorem tw12292139132126870875:True:=⟨⟩
theorem tw16352797369406431473:True:=⟨⟩
theorem tw16515439791162976602:True:=⟨⟩
theorem tw7927054098934836552:True:=⟨⟩
theorem tw3744796765308166722:True:=⟨⟩
theorem tw7644634168976484616:True:=⟨⟩
theorem tw5566300264708802963:True:=⟨⟩
theorem tw173018687563666102:True:=⟨⟩
theorem tw18371526414374823863:True:=⟨⟩
theorem tw12871801600860015004:True:=⟨⟩
theorem tw12986176026915281795:True:=⟨⟩
theorem tw4538224963817111649:True:=⟨⟩
theorem tw10931169451570419658:True:=⟨⟩
theorem tw7140076082393319827:True:=⟨⟩
theorem tw13878567212149371267:True:=⟨⟩
theorem tw5071958554739167386:True:=⟨⟩
theorem tw8557547492732875337:True:=⟨⟩
theorem tw10440062164860437510:True:=⟨⟩
theorem tw13366867016817863996:True:=⟨⟩
theorem tw4113687955345586702:True:=⟨⟩
theorem tw468809958718043175:True:=⟨⟩
theorem tw15016810758123518944:True:=⟨⟩
theorem tw266814318101955196:True:=⟨⟩
theorem tw10814811017399787768:True:=⟨⟩
theorem tw14711418673358212353:True:=⟨⟩
theorem tw14210310089678633789:True:=⟨⟩
theorem tw15980446129401193863:True:=⟨⟩
theorem tw12604972083906920782:True:=⟨⟩
theorem tw4835072617703369474:True:=⟨⟩
theorem tw8890719482049354533:True:=⟨⟩
theorem tw15093052186151601712:True:=⟨⟩
theorem tw15601538527280039987:True:=⟨⟩
theorem tw10786145845921802987:True:=⟨⟩
theorem tw8015921857806912002:True:=⟨⟩
theorem tw15257621206256451232:True:=⟨⟩
theorem tw11174904254232828206:True:=⟨⟩
theorem tw1016368587578885213:True:=⟨⟩
theorem tw1037452619751377433:True:=⟨⟩
theorem tw12227254756605856831:True:=⟨⟩
theorem tw15235877174441193131:True:=⟨⟩
theorem tw8836280635321466536:True:=⟨⟩
theorem tw14532046197572631867:True:=⟨⟩
theorem tw15878687430355629393:True:=⟨⟩
theorem tw5588169099144134861:True:=⟨⟩
theorem tw4034288531594635414:True:=⟨⟩
theorem tw13086187083800154126:True:=⟨⟩
theorem tw8956518739441712652:True:=⟨⟩
theorem tw5270586094654634764:True:=⟨⟩
theorem tw12630270793660772851:True:=⟨⟩
theorem tw8780701130280850904:True:=⟨⟩
theorem tw5465203649940504528:True:=⟨⟩
theorem tw3476267111281287488:True:=⟨⟩
theorem tw2936223889966449722:True:=⟨⟩
theorem tw10092413999262347454:True:=⟨⟩
theorem tw7125326436530106684:True:=⟨⟩
theorem tw5834500051866488474:True:=⟨⟩
theorem tw17646420998314938309:True:=⟨⟩
theorem tw4662764686229968120:True:=⟨⟩
theorem tw7697822375156072927:True:=⟨⟩
theorem tw17086952202495714702:True:=⟨⟩
theorem tw8529433745021040422:True:=⟨⟩
theorem tw12527272290746750979:True:=⟨⟩
theorem tw18127106151294639429:True:=⟨⟩
theorem tw10043710991333238755:True:=⟨⟩
theorem tw18096276913039022745:True:=⟨⟩
theorem tw15177763991511662278:True:=⟨⟩
theorem tw6488131699161607710:True:=⟨⟩
theorem tw6912956088996813619:True:=⟨⟩
theorem tw13335732632929910965:True:=⟨⟩
theorem tw12979972345474505900:True:=⟨⟩
theorem tw2405375010530720323:True:=⟨⟩
theorem tw12104382195675617987:True:=⟨⟩
theorem tw5754250299003115450:True:=⟨⟩
theorem tw7404332649406011986:True:=⟨⟩
theorem tw3734858915684030809:True:=⟨⟩
theorem tw17497018248922209750:True:=⟨⟩
theorem tw14185750409328908621:True:=⟨⟩
theorem tw3199738434103457131:True:=⟨⟩
theorem tw12257484810768335643:True:=⟨⟩
theorem tw1985825734979961189:True:=⟨⟩
theorem tw8454664219822517101:True:=⟨⟩
theorem tw14692345524084394275:True:=⟨⟩
theorem tw1964939045108406960:True:=⟨⟩
theorem tw5387423063397599475:True:=⟨⟩
theorem tw2130337017858868302:True:=⟨⟩
theorem tw5605926307592891568:True:=⟨⟩
theorem tw4319655029784662611:True:=⟨⟩
theorem tw3163542927235281877:True:=⟨⟩
theorem tw12332771969719425691:True:=⟨⟩
theorem tw6652576896568756429:True:=⟨⟩
theorem tw8829975422846309621:True:=⟨⟩
theorem tw14086833390936044058:True:=⟨⟩
theorem tw13020665006958788101:True:=⟨⟩
theorem tw8943492335951176842:True:=⟨⟩
theorem tw5031932322285961473:True:=⟨⟩
theorem tw3179477307942642543:True:=⟨⟩
theorem tw1496119493745983107:True:=⟨⟩
theorem tw3065206055860536195:True:=⟨⟩
theorem tw1894441083474870225:True:=⟨⟩
theorem tw14460774973504476119:True:=⟨⟩
theorem tw14286992409232839910:True:=⟨⟩
theorem tw9745180748507252090:True:=⟨⟩
theorem tw2420973106726444754:True:=⟨⟩
theorem tw1480859881548533156:True:=⟨⟩
theorem tw13263584323692491814:True:=⟨⟩
theorem tw17857948423509898670:True:=⟨⟩
theorem tw4702778717826645102:True:=⟨⟩
theorem tw15191088064398608894:True:=⟨⟩
theorem tw12513163139668277288:True:=⟨⟩
theorem tw10353028899937416782:True:=⟨⟩
theorem tw6539340372591711314:True:=⟨⟩
theorem tw2285310172371577042:True:=⟨⟩
theorem tw16410677018475210241:True:=⟨⟩
theorem tw8982188219445196203:True:=⟨⟩
theorem tw6031913007499176849:True:=⟨⟩
theorem tw11588216589939066464:True:=⟨⟩
theorem tw12075452630853649653:True:=⟨⟩
end PySem.W.Fast
open _p
open PySem.W
set_option maxRecDepth 100000 in
set_option maxHeartbeats 0 in
theorem PySem.Challenge.cw_thinnet_k67_keepers_deeds_holds : PySem.Challenge.rw_thinnet_k67_keepers_deeds.Holds := by
 w_on;o_law;k_head;(case hw=>w_witness2)
 k_fill
 refine K67.walk (l:=PySem.Challenge.rw_thinnet_k67_keepers_deeds) rfl rfl (λw h Y=>PySem.W.kIn_of Y) ?F
 case F =>
  intro w mg fa h KX G hmg
  refine' K67.all_mk (h:=h) hmg (K67.C0.mk KX G ?cK (L2.Cls.mk ?pg ?hd ?po ?sa) ?_ ?_ ?_ ?_ ?_ ?_ ?_ ?_ ?_ ?_ ?_ ?_ ?_ ?_ ?_ ?_ ?_ ?_ ?_ ?_ ?_ ?_ ?_ ?_ ?_ ?_ ?_ ?_ ?_ ?_ ?_ ?_ ?_ ?_ ?_ ?_ ?_ ?_ ?_ ?_ ?_ ?_ ?_ ?_ ?_ ?_ ?_ ?_ ?_ ?_ ?_ ?_ ?_ ?_ ?_ ?_ ?_ ?_ ?_ ?_ ?_ ?_ ?_ ?_ ?_)
  case cK=>k_is
  case pg=>k_is
  case hd=>k_is
  case po=>k_is
  case sa=>k_is
  all_goals first
   | (refine' K67.Ht.mk ?a ?l ?c ?k;(case a=>k_is);(case l=>k_is);(case c=>k_is);(case k=>k_is))
   | (refine' K67.Hm.mk ?a ?l ?c ?n ?k;(case a=>k_is);(case l=>k_is);(case c=>k_is);(case n=>k_is);(case k=>k_is))
   | (refine' K67.Hn.mk ?a;(case a=>k_is))
   | (refine' K67.Hi.mk ?a;(case a=>k_is))
   | (refine' K67.Ha.mk ?a ?b;(case a=>k_is);(case b=>k_is))
   | (unfold L2.NoAttr;k_is)
   | k_is
#print axioms PySem.Challenge.cw_thinnet_k67_keepers_deeds_holds

import PyProof.Rows.All
import Wide.All
import OpenK.AllK
import Wide.FinOn
import Lean
import PyProof.EqAt
import PyProof.EqKinds
import PyProof.TupleCall
import PyProof.StationsW
import PyProof.PassesOwn
import PyProof.RulesAs
import PyProof.ExcClass3
import PyProof.Rows.CatchOwn
import OpenK.KMake
import OpenK.KWalk
import PyProof.InstStoreFacts
import PyProof.ExcBaseAll.ValueError
import PyProof.RangeIter
import OpenK.KRaise
import PyProof.NsDelKeeps
import KE.KIsAll
import PyProof.P3In
import PyProof.NeData
import PyProof.CompUse
import PyProof.ReprLen
import KE.KSortTup
import PyProof.SumAny
import PyProof.Rows.SeqCalls
import KE.KRevIter
import PyProof.TupleOfGen
import PyProof.CollectIter
import PyProof.Draws
import PyProof.EnumMake
import KE.KEqDict
import KE.KDictSum
import PyProof.ConsumeS
import PyProof.WalkInts
import KE.KIntText
import PyProof.Rows.FStr
import PySem.Challenge.RW_thinnet_k70_two_keepers
open PySem.W (Frag nsIn keepIn fnOf codeIn mg_of mg_none_of)
set_option Elab.async false
set_option linter.all false
set_option maxRecDepth 100000
open Array renaming length_toList->fD,getElem?_eq_getElem->g9,getElem?_toList->iK,getElem?_eq_some_iff->jy,getElem?_eq_none->kd
open Array.Perm renaming refl->kR
open Bool renaming false_ne_true->eO,and_eq_true->eh,eq_iff_iff->fC,false_eq_true->fG,eq_false_iff->fZ,beq_eq_decide_eq->jM,not_eq_true'->j6
open Classical renaming propDecidable->gZ,em->iI
open False renaming elim->fO
open ForInStep renaming yield->h8
open Int renaming toNat_natCast->gz,mul_le_mul_of_nonneg_left->jb,le_refl->jl,emod_lt_of_pos->jn,emod_nonneg->kQ
open List renaming length_map->Ev,getElem?_eq_getElem->No,mem_cons_self->Re,mem_singleton->Rs,mem_map->Sc,mem_cons_of_mem->TW,replicate->UF,getElem?_eq_some_iff->Uf,mem_cons->XV,getElem?_map->ZB,size_toArray->eF,mem_append->eM,mem_append_right->eN,nodup_cons->eQ,getD_eq_getElem?_getD->eU,length_append->eV,map_cons->eW,toArray->eX,not_mem_nil->ei,length_cons->eo,mem_filter->et,append_nil->e7,range->e8,nil_append->fE,nodup_nil->fF,map_append->fI,mem_append_left->fK,pairwise_cons->fM,length_filter_le->fP,map_map->fY,getElem_mem->fe,cons_ne_nil->fg,nodup_append->fj,Nodup->fk,length_singleton->fo,length_nil->f6,length_zip->gI,map_congr_left->gK,zipWith->gL,mem_flatMap->gN,mem_range->gO,drop_eq_getElem_cons->gR,flatMap_cons->gU,append_assoc->gW,filter_congr->gX,zip_cons_cons->gm,getElem?_append_right->gu,perm_append_singleton->gx,getElem?_append_left->g8,lookup_cons->hU,any_eq_true->hV,lookup->iC,mem_iff_getElem?->iL,getElem?_eq_none->iM,mem_of_getElem?->iO,drop_length->iR,mem_iff_getElem->iT,lt_trans->iU,map_id->iV,of_mem_zip->iW,length_set->iY,getElem?_zip_eq_some->iZ,filter_map->ia,lt_irrefl->ir,getElem?_replicate->iu,length_eq_zero_iff->iz,getElem?_cons_succ->i4,filter_cons_of_neg->i5,reverse_cons->i7,length_range->i9,pairwise_map->jA,length_take->jE,all_eq_true->jF,singleton_append->jJ,forIn_cons->jS,length_reverse->jd,filter_eq_self->je,length->jj,perm_ext_iff_of_nodup->jx,ext_getElem?->j7,pairwise_iff_getElem->j9,mem_of_find?_eq_some->j_,getElem?_eq_none_iff->kA,take_length->kH,ext_getElem->kI,getElem_map->kJ,pairwise_singleton->kM,filter_cons_of_pos->kN,filter_nil->kT,getElem?_set_self->kW,length_replicate->kg,forIn_nil->kh,getElem?_zipWith->ki,map_nil->k7
open List.Perm renaming trans->kU,swap->ko
open Nat renaming le_refl->Op,ne_of_lt->eI,zero_le->eP,le_trans->eR,lt_of_lt_of_le->eg,le_succ->fR,lt_irrefl->fb,lt_succ_of_lt->gE,lt_of_le_of_lt->gP,lt_succ_self->gf,not_lt->ip,toDigits_of_lt_base->i6,le_succ_of_le->i_,le_of_lt->jN,ne_of_gt->jP,le_of_eq->jQ,mod_lt->jZ,toDigits->ja,succ_le_succ->kF,min_le_right->kG
open Ne renaming symm->fB
open Option renaming map_eq_some_iff->eq,isSome_map->j4
open Option.some renaming inj->eE
open Or renaming inl->eC,inr->gc
open PyProof.Rows renaming slot_tuple_getitem->fT,callWith_type1->gG,listUpdate_at->gw,get?_update_seq->h_,boot_tuple->iB,boot_sorted->iD,AllBare->im,listItems_at->jW,seqEpoch_at->jk,lt_int->kX
open PyProof.Rows.KeyOrd renaming kle_refl->f7,kle_of_klt->i8,kle_trans->jH,kle_antisymm->kr
open PySem renaming Addr->Ch,wpAny_bind->Cn,Value->Db,Shared->Go,wpAny_pure->On,Heap->eK,Expr->eS,Program->eT,World->eY,Stmt->eZ,Around->e_,sizeLine_eq->fA,FuncData->fL,wpAny_callSpecial?_slot->fS,wpAny_mono->fV,wpAny_holding->fc,wpAny_newObj_type->fi,wpAny_field->fq,wpAny_call_entry->ft,wpAny_seqItems->fw,codeAny_builtin->f8,wpAny_pyIter_tuple->f9,wpAny_Call_Name_kw->f_,IsPair->gA,wpAny_dictEntries->gF,plainId_quiet->gM,tupleKind_room_in1->gQ,wpAny_pyIter_list->gT,wpAny_typeNameOfWhole_keyiter->gY,NameKind->gg,Scope->gh,wpAny_letGo->gi,wpAny_setField_rec->gn,wpAny_passesOwn->gq,Builtin->gs,wpAny_truthy_bool->gy,wpAny_typeNameOf_keyiter->hX,wpAny_getItem_str_slice->hZ,DictEntry->h7,wpAny_loadPart'->h9,wpAny_updateSeq->iA,IsZip->iF,Keyword->iG,call_meetsIn->iH,PlainAttrs->iP,codeAny_mono->ic,wpAny_typeOf->ie,PyData->ii,typeIs_str->io,wpAny_rule->iq,wpAny_Call_method0_late->iw,wpAny_attempt->jD,wpAny_isInstance->jG,wpAny_notOrdered_dict->jK,wpAny_execs_nil->jO,IsPart->jR,post_val_or_str->jT,wpAny_updateSeq_pair->jU,wpAny_dictEpoch->jX,wpAny_setField->jg,wpAny_tryCatch->jh,wpAny_onRaise->ju,wpAny_newList->jw,BindsTo->kC,noFill_tuple_add->kE,PassesOwn->kO,wpAny_specialOf->kP,wpAny_of_eq->kZ
open PySem.Around renaming under_plainId->gS
open PySem.Builtin.Builtins renaming bindParams->jo
open PySem.Builtin.Dict renaming showsAll->jL,dictSlotArgs->kB,samePairs->ke,takeOut->kq
open PySem.Builtin.Dict_items renaming ownsTuple->ji
open PySem.Builtin.List renaming listExtendWith->gp,listLengthHint->jp,listSameRef->kL
open PySem.Builtin.Slice renaming slicePlaces->iX,sliceAdjust->j8
open PySem.Builtin.SmallTypes renaming nextOf->fh,ownedTupleIsFree->gC,ownedTupleHandOut->ik
open PySem.Builtin.Tuple renaming tupleExact->ig,tupleItemsOf->jt,tupleIsExact->jv
open PySem.Calls renaming callWith_builtin->fu,spliced_cons->gl,spliced_nil->iE,evalArgs_plain->iQ,Name_function_global->jr
open PySem.Expr renaming Call->jq
open PySem.F renaming slot_dict_keyiterator_next->gD,slot_tuple_iterator_next->gv,slot_zip_next->jV,args_dict_keyiterator_next_1->jY,entry_dict_keyiterator_next->jc,args_tuple_iterator_next_1->jf,entry_tuple_iterator_next->jm,called_tuple->km
open PySem.Heap renaming get?_push_of_some->FM,get?_push_size->TM,lt_size->Tk,get?_update_other->eG,size_push->fW,get?_update_self->fm,SameBut->gj,ExtBut->kY,IsTuple->k6
open PySem.Heap.SameBut renaming update->ge
open PySem.NameKind renaming free->fJ,cell->jC
open PySem.Obj renaming mapSeq->fH,data_mapFields->ij
open PySem.PassesOwn renaming never->fQ
open PySem.PyData renaming depthAll->gH,canLayAll0->g0,hasDict->iJ,eqv->iS,eqvAll->jz,hasDictAll->j5,leavesShortAll->kj
open PySem.SeqAt.EqAt renaming int_str->ku,str_int->kz
open PySem.Shared renaming heap->jB
open PySem.Str renaming ofString->fX,empty->gk
open PySem.Value renaming ref->eJ,none->ej,type->fN,str->g_,bool->iN
open Sum renaming inr->gJ,inl->jI
open Sum.inr renaming inj->hG
open True renaming intro->gB
open PySem PySem.Spec PyProof.Rows
local macro_rules | `(tactic| walk_at "s")=>`(tactic| (constructor <;> first | rfl | decide +kernel))
namespace _p

local macro_rules|`(tactic|let#[$x,*]:=$e)=>open Lean Parser Tactic in do
 let q k a:=mkNode ``rcasesPatLo #[mkNode ``rcasesPatMed #[mkNullNode #[mkNode k a]],mkNullNode]
 let p:Syntax:=(← `(term|⟨$x,*⟩)).raw.rewriteBottomUp fun s=>if s.isIdent then q ``rcasesPat.one #[s] else if s.getKind= ``Term.hole then q ``rcasesPat.ignore s.getArgs else if s.getKind= ``Term.anonymousCtor||s.getKind= `«term#[_,]» then q ``rcasesPat.tuple s.getArgs else s
 let m:TSyntax ``rcasesPatMed:=⟨p[0]⟩
 `(tactic|obtain $m:rcasesPatMed:=$e)
local macro_rules|`(tactic|exists $x,*)=>`(tactic|refine⟨$x,*, ?_⟩)
local macro_rules|`(tactic|lk)=>`(tactic|first|lia|omega)
local macro_rules|`(tactic|cbv)=>`(tactic|decide)
local macro_rules|`($f^$x)=>if f.raw.getTrailingSize>0 then Lean.Macro.throwUnsupported else match f with|`($g $a*)=>`($g $a* $x)|_=>`($f $x)
local macro_rules|`(#[%$t $y,*])=>if t.getTrailingSize>0||y.getElems.size=0 then Lean.Macro.throwUnsupported else `(⟨$y,*⟩)
open Option renaming some->P3,none->m_
open Bool renaming true->n_,false->o_
abbrev p_(a:Type u):=List a
abbrev q_(a:Type u):=Option a
namespace L2
abbrev Key:=Sum Int Str
def LQ:Key->Db->Bool
 |.inl k,v=>Value.isInt k v
 |.inr x,v=>Value.isStrOf x v
def cq(w:eY):Key->Int
 |.inl k=>hashInt k
 |.inr x=>hashStr w x
theorem BH:∀{k:Key}{v:Db},LQ k v=n_->(∃i t,k=jI i/\v=Value.int i t)\/(∃x t,k=gJ x/\v=g_ x t)
 |.inl i,v,h=>by
  let#[t,e]:=Value.isInt_shape h;exact .inl #[i,t,rfl,e]
 |.inr x,v,h=>by
  let#[t,e]:=Value.isStrOf_shape h;exact .inr #[x,t,rfl,e]
def S6(i:Int)(t:Tok):LQ (.inl i)^.int i t=n_:=by simp[LQ,Value.isInt]
def S5(x:Str)(t:Tok):LQ (.inr x)^.str x t=n_:=by simp[LQ,Value.isStrOf]
def Zc(a b:Int):decide ((jI a:Key)=jI b)=(a==b):=by
 grind
def ZZ(a b:Str):decide ((gJ a:Key)=gJ b)=decide (a=b):=by
 grind
def Zb(a:Int)(b:Str):decide ((jI a:Key)=gJ b)=o_:=decide_eq_false λq=>nomatch q
def Za(a:Str)(b:Int):decide ((gJ a:Key)=jI b)=o_:=decide_eq_false λq=>nomatch q
def A_(prog:eT)(w:eY):PySem.KeyKind prog w Key where
 is:=LQ
 hash:=cq w
 inj:=λv a b ha hb=>by
  rcases BH ha with⟨i,t,rfl,rfl⟩|⟨x,t,rfl,rfl⟩
  .rcases BH hb with⟨j,u,rfl,e⟩|⟨y,u,rfl,e⟩
   .injection e with e1 _;rw[e1]
   .exact nomatch e
  .rcases BH hb with⟨j,u,rfl,e⟩|⟨y,u,rfl,e⟩
   .exact nomatch e
   .injection e with e1 _;rw[e1]
 byValue:=λk v h=>by
  rcases BH h with⟨i,t,rfl,rfl⟩|⟨x,t,rfl,rfl⟩ <;>rfl
 pyHash:=λhv h=>by
  rcases BH hv with⟨i,t,rfl,rfl⟩|⟨x,t,rfl,rfl⟩
  .exact wpAny_pyHash_int h
  .exact wpAny_pyHash_str h
 eqBool:=λhu hv h=>by
  rcases BH hu with⟨i,t,rfl,rfl⟩|⟨x,t,rfl,rfl⟩
  .rcases BH hv with⟨j,u,rfl,rfl⟩|⟨y,u,rfl,rfl⟩
   .rw[Zc]at h;exact wpAny_eqBool_int h
   .rw[Zb]at h;exact ku i t y u _ _ _ _ h
  .rcases BH hv with⟨j,u,rfl,rfl⟩|⟨y,u,rfl,rfl⟩
   .rw[Za]at h;exact kz x t j u _ _ _ _ h
   .rw[ZZ]at h;exact wpAny_eqBool_str h
 «strs»:=λk x t v h=>by
  rcases BH h with⟨i,u,rfl,e⟩|⟨y,u,rfl,e⟩
  .exact nomatch e
  .injection e with e1 _
   subst e1
   cases v <;>rfl
def OF(prog:eT)(w:eY)(i:Int)(t:Tok):(A_ prog w).is (.inl i)^.int i t=n_:=S6 i t
def OE(prog:eT)(w:eY)(x:Str)(t:Tok):(A_ prog w).is (.inr x)^.str x t=n_:=S5 x t
inductive V where
 |non|bl (b:Bool)|int (i:Int)|str (x:Str)|byt (b:Array UInt8)|flt (b:UInt64)|ref (a:Ch)|ty (n:String)
 deriving DecidableEq
def RelV:V->Db->Prop
 |.non,u=>u=ej
 |.bl b,u=>u=iN b
 |.int i,u=>∃t,u=Value.int i t
 |.str x,u=>∃t,u=g_ x t
 |.byt b,u=>∃t,u=Value.bytes b t
 |.flt b,u=>∃t,u=Value.float b t
 |.ref a,u=>u=eJ a
 |.ty n,u=>u=fN n
abbrev Vals:p_ V->p_ Db->Prop:=Paired RelV
def Vals.length{xs:p_ V}{us:p_ Db}(r:Vals xs us):xs.length=us.length:=Paired.length r
theorem Vals.get:∀{xs:p_ V}{us:p_ Db}{i:Nat}{x:V},Vals xs us->xs[i]?=P3 x->∃u,us[i]?=P3 u/\RelV x u
 |_,_,_,_,.nil,e=>by simp at e
 |_,_,0,_,.cons r _,e=>by simp_all
 |_,_,i+1,x,.cons _ t,e=>by
  let#[u,h1,h2]:=Vals.get t^by simpa using e
  simp_all
theorem Vals.set{x:V}{u:Db}(r:RelV x u):∀{xs:p_ V}{us:p_ Db} (i:Nat),Vals xs us->Vals (xs.set i x)^us.set i u
 |_,_,_,.nil=>.nil
 |_,_,0,.cons _ t=>.cons r t
 |_,_,i+1,.cons q t=>.cons q^Vals.set r i t
theorem Vals.append:∀{xs ys:p_ V}{us ws:p_ Db},Vals xs us->Vals ys ws->Vals (xs++ys) (us++ws)
 |_,_,_,_,.nil,s=>s
 |_,_,_,_,.cons r t,s=>.cons r^Vals.append t s
theorem Vals.take:∀{xs:p_ V}{us:p_ Db} (n:Nat),Vals xs us->Vals (xs.take n)^us.take n
 |_,_,0,_=>.nil
 |_,_,_+1,.nil=>.nil
 |_,_,n+1,.cons r t=>.cons r^Vals.take n t
theorem Vals.drop:∀{xs:p_ V}{us:p_ Db} (n:Nat),Vals xs us->Vals (xs.drop n)^us.drop n
 |_,_,0,r=>r
 |_,_,_+1,.nil=>.nil
 |_,_,n+1,.cons _ t=>Vals.drop n t
def RelO:q_ V->q_ Db->Prop
 |some v,P3 u=>RelV v u
 |none,m_=>True
 |_,_=>False
def KV{κ:Type}:p_ (κ×V)->p_ (κ×Db)->Prop:=Paired fun(p:κ×V) (q:κ×Db)=>p.1=q.1/\RelV p.2 q.2
def kV:Key->V
 |.inl i=>.int i
 |.inr x=>.str x
inductive HO where
 |lst (xs:List V)
 |tup (xs:List V)
 |dK (kvs:List (Key×V))|dT (kvs:List (List Key×V))
 |set (S:Int->Bool) (n:Nat)
 |ins (C dx:Ch) (fs:List (Str×V))
 |own (x:Ch)
 |xd (fs:List (Str×V))
 |met (f x:Ch)
 |rng (lo hi:Int)
 |frz (o:Obj) (u:HO)
 |tbl (ps:Array Db)
 |ext (φ:eK->Prop)
 |vol (u:HO)
abbrev Hp:=Ch->q_ HO
def Aq(H:Hp)(a:Ch)(o:HO):Hp:=λb=>if b=a then P3 o else H b
def AM{H:Hp}{a:Ch}{o:HO}:Aq H a o a=P3 o:=by unfold Aq;grind
def AK{H:Hp}{a b:Ch}{o:HO}(h:b≠a):Aq H a o b=H b:=by unfold Aq;rw[if_neg h]
def YL{H:Hp}{a b:Ch}{o u:HO}(h:H a=P3 o)(h':H b=P3 u)(d:o≠u):a≠b:=by
 grind
def Ai{H:Hp}{a b:Ch}{o:HO}(h:H a=P3 o)(h':H b=m_):a≠b:=by
 grind
def IsTupN(h:eK)(a:Ch)(items:Array Db):Prop:=∃o,h.get? a=P3 o/\o.cls=.type "tuple"/\∃n,o.data=.seq items n/\o.dict=m_/\o.slots=#[]
def IsTupN.tup{h:eK}{a:Ch}{items:Array Db}(x:IsTupN h a items):IsTup h a items:=let #[o,h1,h2,n,h3,_]:=x;#[o,h1,h2,n,h3]
def IsTupN.new(h:eK)(items:Array Db):IsTupN (h.push {cls:=.type "tuple",data:=.seq items}) h.objs.size items:=#[_,TM _ rfl,rfl,_,rfl,rfl,rfl]
section
variable (P:Program)(w:World)
def ObjOk(H:Hp)(h:eK)(a:Ch):HO->Prop
 |.lst xs=>xs.length<=sizeLine/\∃(its:p_ Db) (n:Nat),Vals xs its/\h.get? a=P3 {cls:=.type "list",data:=.seq its.toArray n}
 |.tup xs=>xs.length<=sizeLine/\∃its:p_ Db,Vals xs its/\IsTupN h a its.toArray
 |.dK kvs=>kvs.length<=sizeLine/\(a==sysModules)=o_/\∃vs,KV kvs vs/\h.DictOf (A_ P w) a vs
 | .dT kvs=>kvs.length<=sizeLine/\(a==sysModules)=o_/\∃xs:p_ (p_ Key×Ch×Db),
   Paired (fun(p:p_ Key×V) (q:p_ Key×Ch×Db)=>p.1=q.1/\H q.2.1=P3^.tup^p.1.map kV/\RelV p.2 q.2.2) kvs xs /\
   ∃o es ep,h.get? a=P3 o/\o.ExactDict/\o.data=.dict es ep/\es.toList=xs.map^entryOfKey^tupleKind^A_ P w/\(xs.map (·.1)).Nodup
 |.set S n=>h.SetOf (intKind P w) a S n
 | .ins C dx fs=>H dx=P3^.own a/\fs.length<=1000/\dx≠a/\h.get? a=P3^PySem.W.instObj C dx /\
   ∃mA,h.Ns1 dx mA/\(∀f,RelO (fs.lookup f)^mA f)/\PySem.Within mA (fs.map (·.1))
 |.own _=>∃o,h.get? a=P3 o
 |.xd fs=>∃mA,h.Ns1 a mA/\∀f,RelO (fs.lookup f)^mA f
 |.rng lo hi=>∃t u v,h.get? a=P3 {cls:=.type "range",data:=.fields #[ .int lo t,.int hi u,.int 1 v]}
 |.frz o u=>h.get? a=P3 o/\ObjOk H h a u
 |.tbl ps=>h.get? a=P3 {cls:=.none,data:=.fields ps}
 |.met f x=>h.get? a=P3^PySem.W.methodObj (.ref f)^.ref x
 |.vol u=>ObjOk H h a u
 |.ext φ=>φ h/\(∃o,h.get? a=P3 o)/\∀h1 h2:eK,φ h1->(∀o,h1.get? a=P3 o->h2.get? a=P3 o)->φ h2
def HOk(H:Hp)(h:eK):Prop:=∀a o,H a=P3 o->ObjOk P w H h a o
end
section
variable {P:Program}{w:World}{H H':Hp}{h h':Heap}{a:Addr}{o:HO}
def ObjOk.lt(x:ObjOk P w H h a o):a<h.objs.size:=by
 induction o with
 |lst xs=>let#[_,_,_,_,e]:=x;exact Tk e
 |tup xs=>let#[_,_,_,p]:=x;exact p.tup.lt
 |dK kvs=>let#[_,_,_,_,o,_,_,e,_]:=x;exact Tk e
 |dT kvs=>let#[_,_,_,_,o,_,_,e,_]:=x;exact Tk e
 |set S n=>let#[o,_,_,_,e,_]:=x;exact Tk e
 |ins C dx fs=>let#[_,_,_,e,_]:=x;exact Tk e
 |own y=>let#[_,e]:=x;exact Tk e
 |xd fs=>let#[_,#[_,_,_,e,_],_]:=x;exact Tk e
 |rng lo hi=>let#[_,_,_,e]:=x;exact Tk e
 |vol u ih=>exact ih x
 |frz ob u ih=>let#[e,_]:=x;exact Tk e
 |tbl ps=>exact Tk (show h.get? a=P3 _ from x)
 |met f y=>exact Tk (show h.get? a=P3 _ from x)
 |ext φ=>let#[_,#[_,e],_]:=x;exact Tk e
theorem Paired.mapP{α β:Type}{F G:α->β->Prop}:∀{l₁:p_ α}{l₂:p_ β},Paired F l₁ l₂->(∀a b,F a b->G a b)->Paired G l₁ l₂
 |_,_,.nil,_=>.nil
 |_,_,.cons r t,f=>.cons (f _ _ r)^Paired.mapP t f
def Paired.imp'{α β:Type}{F G:α->β->Prop}(f:∀a b,F a b->G a b){l₁:p_ α}{l₂:p_ β}(r:Paired F l₁ l₂):Paired G l₁ l₂:=Paired.mapP r f
def ObjOk.stay(x:ObjOk P w H h a o)(k:∀b u,(b=a\/H b=P3^.own a)->h.get? b=P3 u->h'.get? b=P3 u)
  (ho:∀b,H b=P3^.own a->H' b=P3^.own a) (ht:∀b xs,H b=P3^.tup xs->H' b=P3^.tup xs):ObjOk P w H' h' a o:=by
 induction o with
 |lst xs=>let#[z,its,n,r,e]:=x;exact#[z,its,n,r,k _ _ (.inl rfl) e]
 |tup xs=>let#[z,its,r,ob,e,c]:=x;exact#[z,its,r,ob,k _ _ (.inl rfl) e,c]
 |dK kvs=>let#[z,y,vs,r,ob,es,ep,e,c]:=x;exact#[z,y,vs,r,ob,es,ep,k _ _ (.inl rfl) e,c]
 |dT kvs=>
  let#[z,y,xs,r,ob,es,ep,e,c]:=x;exact#[z,y,xs,Paired.mapP r λp q z=>#[z.1,ht _ _ z.2.1,z.2.2],ob,es,ep,k _ _ (.inl rfl) e,c]
 |set S n=>let#[ob,es,ep,t,e,c]:=x;exact#[ob,es,ep,t,k _ _ (.inl rfl) e,c]
 |ins C dx fs=>
  let#[d,z,ne,e,mA,#[od,es,ep,e2,c],r]:=x;exact#[ho _ d,z,ne,k _ _ (.inl rfl) e,mA,#[od,es,ep,k _ _ (.inr d) e2,c],r]
 |own y=>let#[ob,e]:=x;exact#[ob,k _ _ (.inl rfl) e]
 |xd fs=>let#[mA,#[od,es,ep,e,c],r]:=x;exact#[mA,#[od,es,ep,k _ _ (.inl rfl) e,c],r]
 |rng lo hi=>let#[t,u,v,e]:=x;exact#[t,u,v,k _ _ (.inl rfl) e]
 |vol u ih=>exact ih x
 |frz ob u ih=>let#[e,q]:=x;exact#[k _ _ (.inl rfl) e,ih q]
 |tbl ps=>
  have e:h.get? a=P3 {cls:=.none,data:=.fields ps}:=x;show h'.get? a=P3 {cls:=.none,data:=.fields ps};exact k a _ (.inl rfl) e
 |met f y=>
  have e:h.get? a=P3^PySem.W.methodObj (.ref f)^.ref y:=x;show h'.get? a=P3^PySem.W.methodObj (.ref f)^.ref y;exact k a _ (.inl rfl) e
 |ext φ=>let#[p,#[o,e],st]:=x;exact#[st _ _ p λo q=>k _ _ (.inl rfl) q,#[o,k _ _ (.inl rfl) e],st]
def HOk.lt(x:HOk P w H h)(e:H a=P3 o):a<h.objs.size:=(x a o e).lt
def HOk.fresh(x:HOk P w H h)(e:h.objs.size<=a):H a=m_:=by
 cases q:H a with
 |none=>rfl
 |some u=>exact absurd (eg (x.lt q) e)^fb _
def HOk.kept(x:HOk P w H h)(k:∀b u,h.get? b=P3 u->h'.get? b=P3 u):HOk P w H h':=λa o e=>
 (x a o e).stay (λb u _ q=>k b u q) (λ_ q=>q) λ_ _ q=>q
def HOk.laid(x:HOk P w H h)(k:∀b u,h.get? b=P3 u->h'.get? b=P3 u)(hp:h.objs.size<=a)(new:ObjOk P w (Aq H a o) h' a o):HOk P w (Aq H a o) h':=λb u e=>by
 have hn:=x.fresh hp
 by_cases hb:b=a
 .subst hb;rw[AM]at e;grind
 .rw[AK hb]at e
  exact(x b u e).stay (λc v _ q=>k c v q) (λc q=>by rw[AK^Ai q hn];exact q) λc xs q=>by rw[AK^Ai q hn];exact q
end
def Rd(H:Hp)(a:Ch)(u:HO):Prop:=H a=P3 u\/∃o,H a=P3^.frz o u
def Rd.ok{P:eT}{w:eY}{H:Hp}{h:eK}{a:Ch}{u:HO}(r:Rd H a u)(x:HOk P w H h):ObjOk P w H h a u:=by
 rcases r with r|⟨o,r⟩
 .exact x a u r
 .let#[_,q]:=x a _ r
  exact q
def cA:q_ HO->Prop
 |some (.lst _)=>True
 |some (.dK _)=>True
 |some (.dT _)=>True
 |some (.set _ _)=>True
 |some (.vol _)=>True
 |some (.ext _)=>True
 |_=>False
section
variable {P:Program}{w:World}{H:Hp}{h h':Heap}{x e:Addr}{o':HO}
def HOk.write(ok:HOk P w H h)(mu:cA^H x)(he:e=x\/H e=P3^.own x)(k:∀b u,b≠e->h.get? b=P3 u->h'.get? b=P3 u)(heo:∃u,h'.get? e=P3 u)
  (new:ObjOk P w (Aq H x o') h' x o'):HOk P w (Aq H x o') h':=λb u q=>by
 have nown:∀c y,H c=P3^.own y->c≠x:=λc y r z=>by subst z;rw[r]at mu;exact mu
 have ntup:∀c xs,H c=P3^.tup xs->c≠x:=λc xs r z=>by subst z;rw[r]at mu;exact mu
 by_cases hb:b=x
 .subst hb;rw[AM]at q;cases q;exact new
 .rw[AK hb]at q
  by_cases hbe:b=e
  .have q':H b=P3^.own x:=by
    grind
   rw[q]at q';cases q'
   let#[v,hv]:=heo;exact#[v,by rw[hbe];exact hv]
  .refine(ok b u q).stay (λc v hc r=>k c v ?_ r) (λc r=>by rw[AK^nown c b r];exact r) λc xs r=>by rw[AK^ntup c xs r];exact r
   grind
end
structure Un (fs ex:List Ch) (H H':Hp) (h h':eK):Prop where
 keep:∀b o,h.get? b=P3 o->H b=m_->b∉fs->b∉ex->h'.get? b=P3 o
 slot:∀b o,h.get? b=P3 o->H b=m_->b∈fs->b∉ex->∃sl,h'.get? b=P3 {o with slots:=sl}
 free:∀b o,h.get? b=P3 o->H b=m_->b∉ex->H' b=m_
 there:∀b o,h.get? b=P3 o->b∉ex->∃o',h'.get? b=P3 o'
 tups:∀b xs,H b=P3^.tup xs->H' b=P3 (.tup xs)
 frzs:∀b o u,H b=P3^.frz o u->H' b=P3 (.frz o u)
 tbls:∀b ps,H b=P3^.tbl ps->∃more,H' b=P3^.tbl (ps++more)
section
variable {fs ex:p_ Addr}{H H1:Hp}{h h1 h':Heap}{a x e:Addr}{o:HO}
def Un.any(u:Un fs ex H H1 h h1){b:Ch}{ob:Obj}(q:h.get? b=P3 ob)(n:H b=m_)(hx:b∉ex):∃sl,h1.get? b=P3 {ob with slots:=sl}:=by
 by_cases hb:b∈fs
 .exact u.slot b ob q n hb hx
 .exact#[_,u.keep b ob q n hb hx]
def Un.kept(k:∀b u,h.get? b=P3 u->h'.get? b=P3 u):Un fs ex H H h h':=
 #[λb ob q _ _ _=>k b ob q,λb ob q _ _ _=>#[_,k b ob q],λ_ _ _ n _=>n,λb ob q _=>#[ob,k b ob q],λ_ _ q=>q,λ_ _ _ q=>q,λ_ ps q=>#[#[],by rw[q];simp]]
def Un.refl:Un fs ex H H h h:=Un.kept λ_ _ q=>q
def Un.laid(k:∀b u,h.get? b=P3 u->h'.get? b=P3 u)(hp:h.objs.size<=a)(hn:H a=m_):Un fs ex H (Aq H a o) h h' where
 keep:=λb u q _ _ _=>k b u q
 slot:=λb u q _ _ _=>#[_,k b u q]
 free:=λb u q n _=>by rw[AK^eI^eg (Tk q) hp];exact n
 there:=λb u q _=>#[u,k b u q]
 tups:=λb xs q=>by rw[AK^Ai q hn];exact q
 frzs:=λb u xs q=>by rw[AK^Ai q hn];exact q
 tbls:=λb ps q=>#[#[],by rw[AK^Ai q hn,q];simp]
def Un.write(mu:cA^H x)(he:e=x\/H e=P3^.own x)(k:∀b u,b≠e->h.get? b=P3 u->h'.get? b=P3 u)(heo:∃u,h'.get? e=P3 u):Un fs ex H (Aq H x o) h h':=by
 have hx:∀b,H b=m_->b≠x:=λb n z=>by subst z;rw[n]at mu;exact mu
 have hb:∀b,H b=m_->b≠e:=λb n z=>by
  grind
 have hm:∀b u,H b=P3 u->¬cA^P3 u->b≠x:=λb u q nm z=>by grind
 refine#[λb u q n _ _=>k b u (hb b n) q,λb u q n _ _=>#[u.slots,k b u (hb b n) q],λb u q n _=>by rw[AK^hx b n];exact n,λb u q _=>?_,
  λb xs q=>by rw[AK^hm b _ q λz=>z];exact q,λb u xs q=>by rw[AK^hm b _ q λz=>z];exact q,λb ps q=>#[#[],by rw[AK^hm b _ q λz=>z,q];simp]]
 by_cases hbe:b=e
 .simp_all
 .exact#[u,k b u hbe q]
end
def dg(h:eK)(H:Hp):p_ Ch:=(e8 h.objs.size).filter λa=>(H a).isSome
def Mm(h:eK)(H:Hp):eK:=PySem.W.hideAll h^dg h H
def S_(h:eK)(H:Hp):(Mm h H).objs.size=h.objs.size:=PySem.W.hideAll_size _ _
def Ve{h:eK}{H:Hp}{b:Ch}{o:Obj}(e:h.get? b=P3 o)(n:H b=m_):(Mm h H).get? b=P3 o:=
 PySem.W.hideAll_get _ e λhm=>by
  have q:=(et.mp hm).2
  grind
def W4{h:eK}{H:Hp}{b:Ch}{o:Obj}(e:(Mm h H).get? b=P3 o):h.get? b=P3 o/\H b=m_:=by
 have e':=PySem.W.of_hideAll _ e;refine#[e',?_];cases q:H b with
 |none=>rfl
 |some x=>
  have z:(Mm h H).get? b=m_:=PySem.W.hideAll_none _^et.mpr #[gO.mpr^Tk e',by simp[q]]
  grind
structure Mod (K:Frag) (mg:Str->Option Db) (base:eK):Prop where
 kin:K.In base
 glob:base.Ns mainGlobals mg
 blt:∃mb,base.Ns builtinsNs mb/\∀x:Str,x ≠ "__name__"->mb x=bootBuiltins x
 nolimit:base.NoLimit
/-- the context:a def's body (or a comprehension's block) running. base:fixed through the whole law;s₀,H₀:the entry;outer:the frames whose slots others may change (a def's callers);stack:all frames that run;
   ex:iterators that were made ahead of the entry and are walked here^a comprehension's;fn:the names whose cells were made at the entry (a def:all;a comprehension's block:its own);calm:not within an except suite;pn:zG that every state bears;xe:what is wanted of an exception that leaves the code -/
structure Cx where
 prog:eT
 w:eY
 K:Frag
 mg:Str->Option Db
 base:eK
 A:e_
 N:List Str
 s₀:Go
 H₀:Hp
 env:Env
 outer:List Env
 stack:List Env
 ex:List Ch
 fn:Str->Bool
 calm:Bool
 pn:List (Ch×Obj)
 xe:Db->Go->Prop
def RO(l:p_ Env):p_ Ch:=l.filterMap (·.frame)
abbrev Cx.fs(X:Cx):p_ Ch:=RO X.outer
def Z_(sc:gh)(x:Str):Prop:=sc.names.lookup x=P3 .local\/sc.names.lookup x=P3 .cell\/sc.names.lookup x=P3 .free
def Loc(sc:gh)(x:Str):Prop:=sc.names.lookup x=P3 .local\/sc.names.lookup x=P3 .cell
def Look(env:Env)(h:eK)(m:Str->q_ Db)(x:Str)(u:Db):Prop:=
 (env.kindOf x=P3 .local/\m x=P3 u)\/((env.kindOf x=P3 .cell\/env.kindOf x=P3 .free)/\∃c,env.cells.lookup x=P3 c/\h.IsCell c^P3 u)
structure Cx.Ok (X:Cx):Prop where
 mod:Mod X.K X.mg X.base
 kind:X.env.scope.kind=.function
 glob:X.env.globals=mainGlobals
 blt:X.env.builtins=builtinsNs
 above:X.s₀.heap.objs.size<=X.env.locals
 inj:∀x y c,X.env.cells.lookup x=P3 c->X.env.cells.lookup y=P3 c->x=y
 has:∀x,(X.env.kindOf x=P3 .cell\/X.env.kindOf x=P3 .free)->∃c,X.env.cells.lookup x=P3 c
 cab:∀x c,X.fn x=n_->X.env.cells.lookup x=P3 c->X.s₀.heap.objs.size<=c
 hd:X.calm=n_->X.A.handled=m_
 frames:X.A.frames=P3 X.stack
 stk:X.stack=X.outer\/(X.stack=X.env::X.outer/\X.env.frame=P3 X.env.locals)
 exf:∀b∈X.ex,b≠X.env.locals/\∀x c,X.env.cells.lookup x=P3 c->c≠b
 bs:∀b o,X.base.get? b=P3 o->X.s₀.heap.get? b=P3 o/\X.H₀ b=m_
 bsz:X.base.objs.size<=X.s₀.heap.objs.size
 noex:∀b o,X.base.get? b=P3 o->b∉X.ex
 exfs:∀b∈X.ex,b∉X.fs
 funs:X.s₀.heap.FunFrames X.base X.outer
 frf:∀b∈X.fs,X.H₀ b=m_
structure Inv (X:Cx) (zG:List (Ch×Obj)) (Z:List^Option V) (H:Hp) (s:Go):Prop where
 ok:X.Ok
 os:s.os=X.s₀.os
 bare:im s.gens
 base:Un X.fs X.ex X.H₀ H X.s₀.heap s.heap
 loc:∃m,s.heap.Ns X.env.locals m/\∀(i:Nat) (x:Str) (v:V),X.N[i]?=P3 x->Z[i]?=P3^P3 v->Z_ X.env.scope x->∃u,RelV v u/\Look X.env s.heap m x u
 cell:∀x c,X.env.cells.lookup x=P3 c->∃v,s.heap.IsCell c v
 free:H X.env.locals=m_
 freeC:∀x c,X.env.cells.lookup x=P3 c->H c=m_
 pin:∀p∈X.pn++zG,s.heap.get? p.1=P3 p.2/\H p.1=m_/\p.1≠X.env.locals/\p.1∉X.fs/\∀v,p.2.data≠.cell v
 hok:HOk X.prog X.w H s.heap
 len:Z.length=X.N.length
section
variable {X:Cx}{zG:p_ (Addr×Obj)}{Z:p_^q_ V}{H H':Hp}{s:Shared}{h':Heap}
def Cx.Ok.nofr(ok:X.Ok){b:Ch}{o:Obj}(e:X.base.get? b=P3 o):b∉X.fs:=λhb=>by
 have:=(ok.funs.mem hb).1
 grind
def Inv.bs(I:Inv X zG Z H s):∀b o,X.base.get? b=P3 o->s.heap.get? b=P3 o/\H b=m_:=λb o e=>
 #[I.base.keep b o (I.ok.bs b o e).1 (I.ok.bs b o e).2 (I.ok.nofr e)^I.ok.noex b o e,I.base.free b o (I.ok.bs b o e).1 (I.ok.bs b o e).2 (I.ok.noex b o e)]
def Inv.bk(I:Inv X zG Z H s):∀b o,X.base.get? b=P3 o->s.heap.get? b=P3 o:=λb o e=>(I.bs b o e).1
def Inv.mod(I:Inv X zG Z H s):Mod X.K X.mg X.base:=I.ok.mod
def Inv.kIn(I:Inv X zG Z H s):X.K.In s.heap:=I.ok.mod.kin.keeps I.bk
def Inv.lt(I:Inv X zG Z H s):X.env.locals<s.heap.objs.size:=let #[_,hn,_]:=I.loc;hn.lt
def Inv.sz(I:Inv X zG Z H s):X.s₀.heap.objs.size<=s.heap.objs.size:=eR I.ok.above^jN I.lt
def Inv.nofs(I:Inv X zG Z H s){a:Ch}(h:s.heap.objs.size<=a):a∉X.fs:=λhb=>by
 let#[_,o,ho,_]:=I.ok.funs.mem hb;exact absurd (eg (Tk ho)^eR I.sz h)^fb _
def Inv.cne(I:Inv X zG Z H s):∀x c,X.env.cells.lookup x=P3 c->c≠X.env.locals:=λx c e z=>by
 let#[v,o,ho,hd]:=I.cell x c e;let#[m,#[o',es,ep,ho',hd',_],_]:=I.loc
 grind
def Inv.funs(I:Inv X zG Z H s):s.heap.FunFrames X.base X.outer:=by
 have all:∀(l:p_ _),(∀b∈RO l,b∈X.fs)->X.s₀.heap.FunFrames X.base l->s.heap.FunFrames X.base l:=by
  intro l
  induction l with
  |nil=>intro _ _;trivial
  |cons env r ih=>
   intro hs hl;let#[hk,#[L,o,hf,hn,ho,hd],hr]:=hl;have hL:=hs L (by unfold RO;simp_all);let#[sl,e]:=I.base.slot L o ho (I.ok.frf L hL) hL λz=>I.ok.exfs L z hL;exact#[hk,#[L,_,hf,hn,e,hd],ih (λb hb=>hs b^by unfold RO;rw[List.filterMap_cons,hf];exact TW _ hb) hr]
 exact all _ (λ_ hb=>hb) I.ok.funs
def Inv.stack(I:Inv X zG Z H s):s.heap.FunFrames X.base X.stack:=by
 rcases I.ok.stk with e|⟨e,hf⟩
 .rw[e];exact I.funs
 .rw[e]
  let#[m,hn,_]:=I.loc;exact .cons (by rw[I.ok.kind];decide) hf hn (Heap.get?_none_of_le^eR I.ok.bsz I.ok.above) I.funs
def Inv.stkSub(I:Inv X zG Z H s):∀b∈RO X.stack,b∈X.env.locals::X.fs:=λb hb=>by
 rcases I.ok.stk with e|⟨e,hf⟩
 .grind
 .rw[e]at hb
  unfold RO at hb;rw[List.filterMap_cons,hf]at hb;exact hb
def Inv.stkFree(I:Inv X zG Z H s):∀b∈RO X.stack,H b=m_:=λb hb=>by
 rcases XV.mp^I.stkSub b hb with e|hb
 .rw[e];exact I.free
 .let#[_,o,ho,_]:=I.ok.funs.mem hb
  exact I.base.free b o ho (I.ok.frf b hb) λz=>I.ok.exfs b z hb
def Inv.step{g':Array GenState}{t':Nat}{d':Drawn}{ch:p_ Ch}(I:Inv X zG Z H s)
  (hch:∀b∈ch,(b∈X.ex\/X.s₀.heap.objs.size<=b)/\b≠X.env.locals/\(∀x c,X.env.cells.lookup x=P3 c->c≠b)/\∀p∈X.pn++zG,p.1≠b)
  (keep:∀b o,b≠X.env.locals->b∉X.fs->b∉ch->s.heap.get? b=P3 o->H b=m_->h'.get? b=P3 o)
  (slot:∀b o,b≠X.env.locals->b∈X.fs->b∉ch->s.heap.get? b=P3 o->H b=m_->∃sl,h'.get? b=P3 {o with slots:=sl}) (free:∀b o,b∉ch->s.heap.get? b=P3 o->H b=m_->H' b=m_)
  (there:∀b o,b∉ch->s.heap.get? b=P3 o->∃o',h'.get? b=P3 o')
  (tups:∀b xs,H b=P3^.tup xs->H' b=P3^.tup xs) (frzs:∀b o u,H b=P3^.frz o u->H' b=P3^.frz o u) (tbls:∀b ps,H b=P3^.tbl ps->∃more,H' b=P3^.tbl (ps++more))
  (ns:∀m,s.heap.Ns X.env.locals m->h'.Ns X.env.locals m) (hok:HOk X.prog X.w H' h') (hg:im g'):
  Inv X zG Z H' {s with heap:=h',gens:=g',drawn:=d',toks:=t'}:=by
 have neL:∀b o,X.s₀.heap.get? b=P3 o->b≠X.env.locals:=λb o e=>eI^eg (Tk e) I.ok.above
 have neC:∀b o,X.s₀.heap.get? b=P3 o->b∉X.ex->b∉ch:=λb o e hx hb=>by
  rcases(hch b hb).1 with z|z
  .exact hx z
  .exact absurd (eg (Tk e) z)^fb _
 have cellK:∀x c,X.env.cells.lookup x=P3 c->∀v,s.heap.IsCell c v->h'.IsCell c v:=λx c e v #[o,ho,hd]=>by
  have nch:c∉ch:=λz=>(hch c z).2.2.1 x c e rfl
  by_cases hc:c∈X.fs
  .let#[sl,q]:=slot c o (I.cne x c e) hc nch ho^I.freeC x c e
   exact#[_,q,hd]
  .exact#[o,keep c o (I.cne x c e) hc nch ho^I.freeC x c e,hd]
 refine#[I.ok,I.os,hg,#[λb o e n hb hx=>?_,λb o e n hb hx=>?_,λb o e n hx=>?_,λb o e hx=>?_,λb xs e=>tups b xs^I.base.tups b xs e,λb o xs e=>frzs b o xs^I.base.frzs b o xs e,λb ps e=>?_],?_,λx c e=>?_,?_,λx c e=>?_,λp hp=>?_,hok,I.len]
 .exact keep b o (neL b o e) hb (neC b o e hx) (I.base.keep b o e n hb hx)^I.base.free b o e n hx
 .let#[sl,e1]:=I.base.slot b o e n hb hx
  let#[sl',e2]:=slot b _ (neL b o e) hb (neC b o e hx) e1^I.base.free b o e n hx;exact#[sl',e2]
 .let#[o',e1]:=I.base.there b o e hx
  exact free b o' (neC b o e hx) e1^I.base.free b o e n hx
 .let#[o',e1]:=I.base.there b o e hx
  exact there b o' (neC b o e hx) e1
 .let#[m1,e1]:=I.base.tbls b ps e
  let#[m2,e2]:=tbls b _ e1;exact#[m1++m2,by rw[e2,Array.append_assoc]]
 .let#[m,hn,hl]:=I.loc
  refine#[m,ns m hn,λi x v e1 e2 e3=>?_];let#[u,r,l]:=hl i x v e1 e2 e3;refine#[u,r,?_]
  rcases l with l|⟨k,c,e,z⟩
  .exact .inl l
  .exact .inr #[k,c,e,cellK x c e _ z]
 .let#[v,z]:=I.cell x c e
  exact#[v,cellK x c e v z]
 .let#[m,#[o,_,_,ho,_],_]:=I.loc
  exact free _ o (λz=>(hch _ z).2.1 rfl) ho I.free
 .let#[v,o,ho,hd]:=I.cell x c e
  exact free c o (λz=>(hch c z).2.2.1 x c e rfl) ho^I.freeC x c e
 .let#[e,n,ne,nf,d]:=I.pin p hp
  have nch:p.1∉ch:=λz=>(hch p.1 z).2.2.2 p hp rfl;exact#[keep p.1 p.2 ne nf nch e n,free p.1 p.2 nch e n,ne,nf,d]
def Inv.un{t':Nat}(I:Inv X zG Z H s)(u:Un X.fs [] H H' s.heap h')(hok:HOk X.prog X.w H' h'):Inv X zG Z H' {s with heap:=h',toks:=t'}:=by
 let#[m,#[o,es,ep,ho,r],_]:=id I.loc;let#[sl,hL]:=u.any ho I.free^by simp
 exact I.step (ch:=[]) (λ_ z=>nomatch z) (λb o _ hb _ e n=>u.keep b o e n hb^by simp) (λb o _ hb _ e n=>u.slot b o e n hb^by simp) (λb o _ e n=>u.free b o e n^by simp) (λb o _ e=>u.there b o e^by simp) u.tups u.frzs u.tbls (λm' hm=>by
  let#[o',es',ep',ho',r']:=hm;rw[ho]at ho';cases ho'
  exact#[_,_,_,hL,r']) hok I.bare
def Inv.call{g':Array GenState}{t':Nat}{d':Drawn}{ch:p_ Ch}(I:Inv X zG Z H s)(u:Un (RO X.stack) ch H H' s.heap h')(hok:HOk X.prog X.w H' h')(hg:im g')
  (hch:∀b∈ch,(b∈X.ex\/X.s₀.heap.objs.size<=b)/\b≠X.env.locals/\(∀x c,X.env.cells.lookup x=P3 c->c≠b)/\∀p∈X.pn++zG,p.1≠b):
  Inv X zG Z H' {s with heap:=h',gens:=g',drawn:=d',toks:=t'}:=by
 let#[m,#[o,es,ep,ho,r],_]:=id I.loc;let#[sl,hL]:=u.any ho I.free λz=>(hch _ z).2.1 rfl
 exact I.step hch (λb o hL hb hc e n=>u.keep b o e n (λz=>(XV.mp^I.stkSub b z).elim hL hb) hc) (λb o _ _ hc e n=>u.any e n hc) (λb o hc e n=>u.free b o e n hc) (λb o hc e=>u.there b o e hc) u.tups u.frzs u.tbls (λm' hm=>by
  let#[o',es',ep',ho',r']:=hm;rw[ho]at ho';cases ho'
  exact#[_,_,_,hL,r']) hok hg
def Inv.turned{t':Nat}{it:Ch}(I:Inv X zG Z H s)(k:∀b o,b≠it->s.heap.get? b=P3 o->h'.get? b=P3 o)(hn:H it=m_)(hL:it≠X.env.locals)
  (h1:it∈X.ex\/X.s₀.heap.objs.size<=it) (h2:∀x c,X.env.cells.lookup x=P3 c->c≠it) (h3:∀p∈X.pn++zG,p.1≠it):Inv X zG Z H {s with heap:=h',toks:=t'}:=by
 have nit:∀b u,H b=P3 u->b≠it:=λb u e z=>by grind
 refine I.step (g':=s.gens) (d':=s.drawn) (ch:=[it]) (λb hb=>?_) (λb o _ _ hc e _=>k b o (λz=>hc^by simp[z]) e) (λb o _ _ hc e _=>#[o.slots,k b o (λz=>hc^by simp[z]) e]) (λ_ _ _ _ n=>n)
  (λb o hc e=>#[o,k b o (λz=>hc^by simp[z]) e]) (λ_ _ e=>e) (λ_ _ _ e=>e) (λb ps e=>#[#[],by rw[e];simp]) (λm hm=>?_) (λb u e=>?_) I.bare
 .have e:b=it:=by simpa using hb
  subst e;exact#[h1,hL,h2,h3]
 .let#[o,es,ep,ho,r]:=hm
  exact#[o,es,ep,k _ o (fB hL) ho,r]
 .refine(I.hok b u e).stay (λc v hc q=>k c v ?_ q) (λ_ q=>q) λ_ _ q=>q
  grind
def Inv.tok(I:Inv X zG Z H s)(t:Nat):Inv X zG Z H {s with toks:=t}:=I.un Un.refl I.hok
def Inv.kept{t':Nat}(I:Inv X zG Z H s)(k:∀b u,s.heap.get? b=P3 u->h'.get? b=P3 u):Inv X zG Z H {s with heap:=h',toks:=t'}:=I.un (Un.kept k)^I.hok.kept k
def Inv.laid{a:Ch}{o:HO}{t':Nat}(I:Inv X zG Z H s)(k:∀b u,s.heap.get? b=P3 u->h'.get? b=P3 u)(hp:s.heap.objs.size<=a)(new:ObjOk X.prog X.w (Aq H a o) h' a o):
  Inv X zG Z (Aq H a o) {s with heap:=h',toks:=t'}:=I.un (Un.laid k hp^I.hok.fresh hp)^I.hok.laid k hp new
def Inv.write{x e:Ch}{o:HO}{t':Nat}(I:Inv X zG Z H s)(mu:cA^H x)(he:e=x\/H e=P3^.own x)(k:∀b u,b≠e->s.heap.get? b=P3 u->h'.get? b=P3 u)(heo:∃u,h'.get? e=P3 u)
  (new:ObjOk X.prog X.w (Aq H x o) h' x o):Inv X zG Z (Aq H x o) {s with heap:=h',toks:=t'}:=I.un (Un.write mu he k heo)^I.hok.write mu he k heo new
def Inv.pins_of{pins':p_ (Ch×Obj)}(I:Inv X zG Z H s)(h:∀p∈pins',s.heap.get? p.1=P3 p.2/\H p.1=m_/\p.1≠X.env.locals/\p.1∉X.fs/\∀v,p.2.data≠.cell v):Inv X pins' Z H s:=
 #[I.ok,I.os,I.bare,I.base,I.loc,I.cell,I.free,I.freeC,λp hp=>(eM.mp hp).elim (λz=>I.pin p^fK _ z)^h p,I.hok,I.len]
def OB{N:p_ Str}(hN:N.Nodup){i j:Nat}{x:Str}(a:N[i]?=P3 x)(b:N[j]?=P3 x):i=j:=by
 let#[h1,e1]:=Uf.mp a;let#[h2,e2]:=Uf.mp b;exact(List.getElem_inj hN).mp^e1.trans e2.symm
def K7{M:Model}{A:e_}{E:Db->Go->Prop}{i:Nat}{x:Str}{v:V}{u:Db}{Q:Unit->Go->Prop}(I:Inv X zG Z H s)(hN:X.N.Nodup)(hi:X.N[i]?=P3 x)(hx:Loc X.env.scope x)(r:RelV v u)
  (h:∀s',Inv X zG (Z.set i^P3 v) H s'->(∃a,gj a s.heap s'.heap/\(a=X.env.locals\/X.env.cells.lookup x=P3 a))->Q () s') (hf:X.fn x=n_\/X.env.scope.names.lookup x=P3 .local:=by first|exact .inl rfl|exact .inr rfl|assumption):wpAny M A (storeName X.env x u) Q E s:=by
 let#[m,hn,hl]:=id I.loc;have hcls:(X.env.scope.kind==.class||(X.env.scope.kind==.module&&X.env.locals !=X.env.globals))=o_:=by rw[I.ok.kind];rfl
 have hiσ:i<Z.length:=by rw[I.len];exact(Uf.mp hi).1
 have cne:=I.cne
 have tracked:∀{a:Ch}{h':eK},(∃o,s.heap.get? a=P3 o/\H a=m_)->gj a s.heap h'->HOk X.prog X.w H h':=λ{a h'} ha hs b ob e=>by
  let#[_,_,hfree]:=ha;refine(I.hok b ob e).stay (λc w' hc q=>(hs.2 c ?_).trans q) (λ_ q=>q) λ_ _ q=>q;rintro rfl
  rcases hc with rfl|hc
  .rw[hfree]at e;cases e
  .rw[hfree]at hc;cases hc
 rcases hx with hk|hk
 .refine wpAny_storeName_local hk hn (λh' hn' hs=>?_) hcls
  let#[oL,_,_,hoL,_]:=id hn;refine h _ #[I.ok,I.os,I.bare,#[λb o e n hb hx=>?_,λb o e n hb hx=>?_,I.base.free,λb o e hx=>?_,I.base.tups,I.base.frzs,I.base.tbls],#[_,hn',λj y v' e1 e2 e3=>?_],λy c e=>?_,I.free,I.freeC,λp hp=>?_,tracked #[oL,hoL,I.free] hs,by simpa using I.len] #[_,hs,.inl rfl]
  .exact(hs.2 b^eI^eg (Tk e) I.ok.above).trans^I.base.keep b o e n hb hx
  .let#[sl,e1]:=I.base.slot b o e n hb hx
   exact#[sl,(hs.2 b^eI^eg (Tk e) I.ok.above).trans e1]
  .let#[o',e1]:=I.base.there b o e hx
   exact#[o',(hs.2 b^eI^eg (Tk e) I.ok.above).trans e1]
  .by_cases hj:j=i
   .subst hj
    rw[hi]at e1;cases e1
    rw[kW hiσ]at e2;cases e2;exact#[u,r,.inl #[hk,by simp]]
   .rw[List.getElem?_set_ne^fB hj]at e2
    let#[u',r',q]:=hl j y v' e1 e2 e3;refine#[u',r',?_]
    rcases q with⟨k,e⟩|⟨k,c,e,z⟩
    .refine .inl #[k,?_]
     have:y≠x:=λe=>hj^OB hN e1 (e▸hi)
     simp[this,e]
    .exact .inr #[k,c,e,z.sameBut hs^cne y c e]
  .let#[w',z]:=I.cell y c e
   exact#[w',z.sameBut hs^cne y c e]
  .let#[e,n,ne,nf,d]:=I.pin p hp
   exact#[(hs.2 p.1 ne).trans e,n,ne,nf,d]
 .have hfn:X.fn x=n_:=by
   rcases hf with z|z
   .exact z
   .rw[z]at hk;cases hk
  let#[c,hc]:=I.ok.has x^.inl hk;let#[w',z]:=I.cell x c hc;refine wpAny_storeName_cell I.ok.kind hk hc z λh' hc' hs=>?_;let#[oc,hoc,hocd]:=id z;refine h {s with heap:=h'} #[I.ok,I.os,I.bare,#[λb o e n hb hx=>?_,λb o e n hb hx=>?_,I.base.free,λb o e hx=>?_,I.base.tups,I.base.frzs,I.base.tbls],#[m,hn.sameBut hs^fB^cne x c hc,λj y v' e1 e2 e3=>?_],λy c' e=>?_,I.free,I.freeC,λp hp=>?_,tracked #[oc,hoc,I.freeC x c hc] hs,by simpa using I.len] #[c,hs,.inr hc]
  .exact(hs.2 b^eI^eg (Tk e)^I.ok.cab x c hfn hc).trans^I.base.keep b o e n hb hx
  .let#[sl,e1]:=I.base.slot b o e n hb hx
   exact#[sl,(hs.2 b^eI^eg (Tk e)^I.ok.cab x c hfn hc).trans e1]
  .let#[o',e1]:=I.base.there b o e hx
   exact#[o',(hs.2 b^eI^eg (Tk e)^I.ok.cab x c hfn hc).trans e1]
  .by_cases hj:j=i
   .subst hj
    rw[hi]at e1;cases e1
    rw[kW hiσ]at e2;cases e2;exact#[u,r,.inr #[.inl hk,c,hc,hc']]
   .rw[List.getElem?_set_ne^fB hj]at e2
    let#[u',r',q]:=hl j y v' e1 e2 e3;refine#[u',r',?_]
    rcases q with q|⟨k,c',e,z'⟩
    .exact .inl q
    .refine .inr #[k,c',e,z'.sameBut hs ?_]
     rintro rfl;exact hj^OB hN e1 (I.ok.inj _ _ _ e hc▸hi)
  .by_cases hcc:c'=c
   .subst hcc;exact#[_,hc']
   .let#[w2,z2]:=I.cell y c' e
    exact#[w2,z2.sameBut hs hcc]
  .let#[e,n,ne,nf,d]:=I.pin p hp
   refine#[(hs.2 p.1 ?_).trans e,n,ne,nf,d];intro q;rw[q,hoc]at e;have q':oc=p.2:=eE e;exact d w'^by rw[←q'];exact hocd
def Iq{M:Model}{A:e_}{E:Db->Go->Prop}{i:Nat}{x:Str}{v:V}{u:Db}{Q:Unit->Go->Prop}(I:Inv X zG Z H s)(hN:X.N.Nodup)(hi:X.N[i]?=P3 x)(hx:Loc X.env.scope x)(r:RelV v u)
  (h:∀s',Inv X zG (Z.set i^P3 v) H s'->Q () s') (hf:X.fn x=n_\/X.env.scope.names.lookup x=P3 .local:=by first|exact .inl rfl|exact .inr rfl|assumption):wpAny M A (storeName X.env x u) Q E s:=
 K7 I hN hi hx r (λs' I' _=>h s' I') hf
def Inv.call'{s':Go}{ch:p_ Ch}(I:Inv X zG Z H s)(ho:s'.os=s.os)(u:Un (RO X.stack) ch H H' s.heap s'.heap)(hok:HOk X.prog X.w H' s'.heap)(hg:im s'.gens)
  (hch:∀b∈ch,(b∈X.ex\/X.s₀.heap.objs.size<=b)/\b≠X.env.locals/\(∀x c,X.env.cells.lookup x=P3 c->c≠b)/\∀p∈X.pn++zG,p.1≠b):Inv X zG Z H' s':=by
 let#[h',g',d',t',o']:=s';subst ho;exact I.call u hok hg hch
end
abbrev XK:=Db->q_ Ch->Hp->Prop
abbrev St:=p_^q_ V
abbrev VK:=V->Hp->Prop
abbrev TE:=St->Hp->VK->Prop
abbrev TT:=St->Hp->(Bool->Hp->Prop)->Prop
abbrev TA:=St->Hp->(p_ V->Hp->Prop)->Prop
structure Ends where
 nx:St->Hp->Prop
 rt:VK
 bk:St->Hp->Prop:=λ_ _=>False
 ct:St->Hp->Prop:=λ_ _=>False
abbrev TS:=Ends->St->Hp->Prop
def EP(X:Cx)(zG:p_ (Ch×Obj))(Z:St)(Q:VK)(u:Db)(s':Go):Prop:=∃v H',Inv X zG Z H' s'/\RelV v u/\Q v H'
def TP(X:Cx)(zG:p_ (Ch×Obj))(Z:St)(Q:Bool->Hp->Prop)(b:Bool)(s':Go):Prop:=∃H',Inv X zG Z H' s'/\Q b H'
def AP(X:Cx)(zG:p_ (Ch×Obj))(Z:St)(Q:p_ V->Hp->Prop)(us:p_ Db)(s':Go):Prop:=∃vs H',Inv X zG Z H' s'/\Vals vs us/\Q vs H'
def SP(X:Cx)(zG:p_ (Ch×Obj))(D:Ends)(f:Flow)(s':Go):Prop:=
 match f with
 |.next=>∃zZ H',Inv X zG zZ H' s'/\D.nx zZ H'
 |.brk=>∃zZ H',Inv X zG zZ H' s'/\D.bk zZ H'
 |.cont=>∃zZ H',Inv X zG zZ H' s'/\D.ct zZ H'
 |.ret u=>∃v zZ H',Inv X zG zZ H' s'/\RelV v u/\D.rt v H'
def PE(X:Cx)(e:eS)(t:TE):Prop:=
 ∀(zG:p_ (Ch×Obj)) (s:Go) (Z:St) (H:Hp) (Q:VK),Inv X zG Z H s->t Z H Q->wpAny (model X.prog X.w) X.A (eval e X.env) (EP X zG Z Q) X.xe s
def PT(X:Cx)(e:eS)(t:TT):Prop:=
 ∀(zG:p_ (Ch×Obj)) (s:Go) (Z:St) (H:Hp) (Q:Bool->Hp->Prop),Inv X zG Z H s->t Z H Q->wpAny (model X.prog X.w) X.A (isTrue e X.env^eval e X.env) (TP X zG Z Q) X.xe s
def PW(X:Cx)(e:eS)(t:TT):Prop:=
 ∀(whole:Sem Db) (zG:p_ (Ch×Obj)) (s:Go) (Z:St) (H:Hp) (Q:Bool->Hp->Prop),Inv X zG Z H s->t Z H Q->wpAny (model X.prog X.w) X.A (isTrue e X.env whole) (TP X zG Z Q) X.xe s
def PW.pt{X:Cx}{e:eS}{t:TT}(h:PW X e t):PT X e t:=h _
def PA(X:Cx)(es:p_ eS)(t:TA):Prop:=
 ∀(pos:Pos) (zG:p_ (Ch×Obj)) (s:Go) (Z:St) (H:Hp) (Q:p_ V->Hp->Prop),Inv X zG Z H s->t Z H Q->wpAny (model X.prog X.w) X.A (spliced^backTo pos^starEach es X.env) (AP X zG Z Q) X.xe s
def PS(X:Cx)(st:eZ)(t:TS):Prop:=
 ∀(zG:p_ (Ch×Obj)) (s:Go) (Z:St) (H:Hp) (D:Ends),Inv X zG Z H s->t D Z H->wpAny (model X.prog X.w) X.A (exec st X.env) (SP X zG D) X.xe s
def PSs(X:Cx)(st:p_ eZ)(t:TS):Prop:=
 ∀(zG:p_ (Ch×Obj)) (s:Go) (Z:St) (H:Hp) (D:Ends),Inv X zG Z H s->t D Z H->wpAny (model X.prog X.w) X.A (execs st X.env) (SP X zG D) X.xe s
def BD{α:Type}{t:Sem α}{Q Q':α->Go->Prop}{M:Model}{A:e_}{E:Db->Go->Prop}{s:Go}(h:wpAny M A t Q E s)(hQ:∀a s,Q a s->Q' a s):wpAny M A t Q' E s:=fV h hQ λ_ _ x=>x
section
variable {X:Cx}
def Bv(i:Nat):TE:=λZ H Q=>∃v,Z[i]?=P3^P3 v/\Q v H
def tC(v:V):TE:=λ_ H Q=>Q v H
def MO{i:Nat}{x:Str}{pos:Pos}(hN:X.N[i]?=P3 x)(hv:Z_ X.env.scope x)(hd:(x==("__debug__":Str))=o_:=by decide)(hcd:(x==("__classdict__":Str))=o_:=by decide):PE X (.Name x pos)^Bv i:=by
 intro zG s Z H Q I h;let#[v,e,h]:=h;let#[m,hn,hl]:=I.loc;let#[u,r,l]:=hl i x v hN e hv;have fin:EP X _ Z Q u s:=#[v,H,I,r,h]
 rcases l with⟨hk,hm⟩|⟨hk,c,hc,hcell⟩
 .exact wpAny_Name (wpAny_loadName_local I.ok.kind hk hn hm fin) hd
 .rcases hk with hk|hk
  .exact wpAny_Name (wpAny_loadName_cell I.ok.kind hk hc hcell fin) hd
  .exact wpAny_Name (wpAny_loadName_free I.ok.kind hk hc hcell fin hcd) hd
def Az{i j pos}:PE X (.Constant (.int i) j pos)^tC^.int i:=λ_ _ _ H _ I h=>wpAny_Constant_int #[.int i,H,I.tok _,#[_,rfl],h]
def bJ{b j pos}:PE X (.Constant (.bool b) j pos)^tC^.bl b:=λ_ _ _ H _ I h=>Constant_bool #[.bl b,H,I,rfl,h]
def ZI{j pos}:PE X (.Constant .none j pos)^tC .non:=λ_ _ _ H _ I h=>Constant_none #[.non,H,I,rfl,h]
def Py{x j pos}:PE X (.Constant (.str x) j pos)^tC^.str x:=λ_ _ _ H _ I h=>Calls.Constant_str #[.str x,H,I.tok _,#[_,rfl],h]
def Gl(X:Cx)(x:Str):Prop:=X.env.kindOf x=P3 .globalImplicit
def GB{E:Db->Go->Prop}{zG:p_ (Ch×Obj)}{s:Go}{Z:St}{H:Hp}{x:Str}{u:Db}{pos:Pos}{Q:Db->Go->Prop}(I:Inv X zG Z H s)(hg:Gl X x)(hm:X.mg x=P3 u)(h:Q u s)
  (hd:(x==("__debug__":Str))=o_:=by decide):wpAny (model X.prog X.w) X.A (eval (.Name x pos) X.env) Q E s:=
 jr I.ok.kind hg (Calls.loadGlobal_global (by rw[I.ok.glob];exact I.mod.glob.keeps I.bk) hm h) hd
def EA{E:Db->Go->Prop}{zG:p_ (Ch×Obj)}{s:Go}{Z:St}{H:Hp}{x:Str}{u:Db}{pos:Pos}{Q:Db->Go->Prop}(I:Inv X zG Z H s)(hg:Gl X x)(hm:X.mg x=m_)(hv:bootBuiltins x=P3 u)(h:Q u s)
  (hn:x ≠ "__name__":=by decide) (hd:(x==("__debug__":Str))=o_:=by decide):wpAny (model X.prog X.w) X.A (eval (.Name x pos) X.env) Q E s:=by
 let#[mb,h1,h2]:=I.mod.blt;exact jr I.ok.kind hg (Calls.loadGlobal_builtin (by rw[I.ok.glob];exact I.mod.glob.keeps I.bk) hm (by rw[I.ok.blt];exact h1.keeps I.bk) ((h2 x hn).trans hv) h) hd
def Wq{x:Str}{v:V}{u:Db}{pos:Pos}(hg:Gl X x)(hm:X.mg x=P3 u)(r:RelV v u)(hd:(x==("__debug__":Str))=o_:=by decide):PE X (.Name x pos)^tC v:=
 λ_ _ _ H _ I h=>GB I hg hm #[v,H,I,r,h] hd
def Ww{x:Str}{v:V}{u:Db}{pos:Pos}(hg:Gl X x)(hm:X.mg x=m_)(hv:bootBuiltins x=P3 u)(r:RelV v u)(hn:x ≠ "__name__":=by decide)(hd:(x==("__debug__":Str))=o_:=by decide):PE X (.Name x pos)^tC v:=
 λ_ _ _ H _ I h=>EA I hg hm hv #[v,H,I,r,h] hn hd
variable {a b:Expr}{ta tb:TE}{pos:Pos}
def tB(t:TE):TT:=λZ H Q=>t Z H λx H1=>∃c,x=.bl c/\Q c H1
def ZA{e:eS}{t:TE}(h:PE X e t)(he:∀whole,isTrue e X.env whole=(do let v ←whole;standAt e.pos;holding [v]^truthy v):=by intro _;rfl):PT X e^tB t:=by
 intro zG s Z H Q I hw;refine isTrue_plain (BD (h _ s Z H _ I hw) λv s1 #[x,H1,I1,r1,q1]=>?_)^he _;let#[d,rfl,q]:=q1;cases r1;exact gy #[H1,I1,q]
variable {tA tB':TT}{rest:p_ Expr}
def ai(t u:TT):TT:=λZ H Q=>t Z H λc H1=>if c=n_ then u Z H1 Q else Q o_ H1
def di(t u:TT):TT:=λZ H Q=>t Z H λc H1=>if c=n_ then Q n_ H1 else u Z H1 Q
def cU(t:TT):TT:=λZ H Q=>t Z H λc H1=>Q (!c) H1
def Q2(ha:PT X a tA):PW X (.BoolOp .And [a] pos) tA:=by
 intro wh zG s Z H Q I h;refine isTrue_and^BD (ha _ s Z H Q I h) λc s1 e=>?_;cases c with
 |true=>exact isTrue_and_nil e
 |false=>exact e
def Y_(ha:PT X a tA):PW X (.BoolOp .Or [a] pos) tA:=by
 intro wh zG s Z H Q I h;refine isTrue_or^BD (ha _ s Z H Q I h) λc s1 e=>?_;cases c with
 |false=>exact isTrue_or_nil e
 |true=>exact e
def Um(ha:PT X a tA)(hb:PW X (.BoolOp .And (b::rest) pos) tB'):PW X (.BoolOp .And (a::b::rest) pos)^ai tA tB':=by
 intro wh zG s Z H Q I h;refine isTrue_and^BD (ha _ s Z H _ I h) λc s1 #[H1,I1,q1]=>?_;cases c with
 |true=>exact hb wh _ s1 Z H1 Q I1 q1
 |false=>assumption
def bG(ha:PT X a tA)(hb:PW X (.BoolOp .Or (b::rest) pos) tB'):PW X (.BoolOp .Or (a::b::rest) pos)^di tA tB':=by
 intro wh zG s Z H Q I h;refine isTrue_or^BD (ha _ s Z H _ I h) λc s1 #[H1,I1,q1]=>?_;cases c with
 |true=>assumption
 |false=>exact hb wh _ s1 Z H1 Q I1 q1
def ZC(ha:PT X a tA):PT X (.UnaryOp .Not a pos)^cU tA:=λzG s Z H Q I h=>isTrue_not^ha _ s Z H _ I h
def ah(ta tb:TE):TE:=λZ H Q=>ta Z H λx H1=>∃c,x=.bl c/\if c=n_ then tb Z H1 Q else Q (.bl o_) H1
def ZO(ha:PE X a ta)(hb:PE X (.BoolOp .And (b::rest) pos) tb):PE X (.BoolOp .And (a::b::rest) pos)^ah ta tb:=by
 intro zG s Z H Q I h;refine BoolOp_and^BD (ha _ s Z H _ I h) λv s1 #[x,H1,I1,r1,q1]=>?_;let#[c,rfl,q1]:=q1;cases r1;refine gy ?_;cases c with
 |true=>exact hb _ s1 Z H1 Q I1 q1
 |false=>exact#[.bl _,H1,I1,rfl,q1]
def dk(t:TT)(ta tb:TE):TE:=λZ H Q=>t Z H λc H1=>if c=n_ then ta Z H1 Q else tb Z H1 Q
def N9{c:eS}(hc:PT X c tA)(ha:PE X a ta)(hb:PE X b tb):PE X (.IfExp c a b pos)^dk tA ta tb:=by
 intro zG s Z H Q I h;refine wpAny_IfExp^BD (hc _ s Z H _ I h) λd s1 #[H1,I1,q1]=>?_;cases d with
 |true=>exact ha _ s1 Z H1 Q I1 q1
 |false=>exact hb _ s1 Z H1 Q I1 q1
end
def SqL(K:Frag)(H:Hp)(a:Ch)(xs:p_ V):Prop:=
 Rd H a (.lst xs) \/
  ∃(o:Obj) (its:Array Db) (n:Nat),K.lookup a=P3 o/\o.cls=.type "list"/\o.dict=m_/\o.data=.seq its n/\its.size<=sizeLine/\Vals xs its.toList
def SqT(K:Frag)(H:Hp)(a:Ch)(xs:p_ V):Prop:=
 Rd H a (.tup xs) \/
  ∃(o:Obj) (its:Array Db) (n:Nat),K.lookup a=P3 o/\o.cls=.type "tuple"/\o.data=.seq its n/\its.size<=sizeLine/\Vals xs its.toList
def dC:Db->q_ V
 |.none=>P3 .non
 |.bool b=>P3^.bl b
 |.int i _=>P3^.int i
 |.str x _=>P3^.str x
 |.bytes b _=>P3^.byt b
 |.float b _=>P3^.flt b
 |.ref a=>P3^.ref a
 |.type n=>P3^.ty n
 |_=>m_
def RelV.abs{x:V}{u:Db}(r:RelV x u):dC u=P3 x:=by
 cases x with
 |non=>cases r;rfl
 |bl _=>cases r;rfl
 |int _=>let#[t,rfl]:=r;rfl
 |str _=>let#[t,rfl]:=r;rfl
 |byt _=>let#[t,rfl]:=r;rfl
 |flt _=>let#[t,rfl]:=r;rfl
 |ref _=>cases r;rfl
 |ty _=>cases r;rfl
def RelV.inj{x y:V}{u:Db}(r:RelV x u)(q:RelV y u):x=y:=eE^r.abs.symm.trans q.abs
theorem Vals.inj:∀{xs ys:p_ V}{us:p_ Db},Vals xs us->Vals ys us->xs=ys
 |_,_,_,.nil,.nil=>rfl
 |_,_,_,.cons r t,.cons r' t'=>by rw[r.inj r',Vals.inj t t']
section
variable {X:Cx}{zG:p_ (Addr×Obj)}{Z:St}{H:Hp}{s:Shared}{a:Addr}{xs ys:p_ V}
def SqL.of{K:Frag}(h:H a=P3^.lst xs):SqL K H a xs:=.inl^.inl h
def SqT.of{K:Frag}(h:H a=P3^.tup xs):SqT K H a xs:=.inl^.inl h
def Inv.list(I:Inv X zG Z H s)(h:SqL X.K H a xs):∃its:p_ Db,Vals xs its/\PlainL s.heap a its.toArray/\xs.length<=sizeLine:=by
 rcases h with h|⟨o,its,n,hk,hc,hd,hs,hz,r⟩
 .let#[z,its,n,r,e]:=h.ok I.hok
  exact#[_,r,#[_,n,e,rfl,rfl,rfl],z]
 .refine#[_,r,#[o,n,I.kIn a o hk,hc,hd,by lk],?_]
  have e:=r.length
  grind
def Inv.tuple(I:Inv X zG Z H s)(h:SqT X.K H a xs):∃its:p_ Db,Vals xs its/\IsTup s.heap a its.toArray/\xs.length<=sizeLine:=by
 rcases h with h|⟨o,its,n,hk,hc,hs,hz,r⟩
 .let#[z,its,r,p]:=h.ok I.hok
  exact#[_,r,p.tup,z]
 .refine#[_,r,#[o,I.kIn a o hk,hc,n,by lk],?_]
  have e:=r.length
  grind
def Inv.list_inj(I:Inv X zG Z H s)(h:SqL X.K H a xs)(h':SqL X.K H a ys):xs=ys:=by
 let#[its,r,#[o,n,e,_,_,d],_]:=I.list h;let#[its',r',#[o',n',e',_,_,d'],_]:=I.list h'
 have:its=its':=by grind
 subst this;exact r.inj r'
def Inv.tuple_inj(I:Inv X zG Z H s)(h:SqT X.K H a xs)(h':SqT X.K H a ys):xs=ys:=by
 let#[its,r,#[o,e,_,n,d],_]:=I.tuple h;let#[its',r',#[o',e',_,n',d'],_]:=I.tuple h'
 have:its=its':=by grind
 subst this;exact r.inj r'
end
abbrev Cx.wish(X:Cx)(E:Db->Go->Prop):Cx:={X with xe:=E}
abbrev Cx.nox(X:Cx):Cx:=X.wish λ_ _=>False
def Cx.Ok.wish{X:Cx}(ok:X.Ok)(E:Db->Go->Prop):(X.wish E).Ok:=
 #[ok.mod,ok.kind,ok.glob,ok.blt,ok.above,ok.inj,ok.has,ok.cab,ok.hd,ok.frames,ok.stk,ok.exf,ok.bs,ok.bsz,ok.noex,ok.exfs,ok.funs,ok.frf]
def Cx.Ok.unwish{X:Cx}{E:Db->Go->Prop}(ok:(X.wish E).Ok):X.Ok:=
 #[ok.mod,ok.kind,ok.glob,ok.blt,ok.above,ok.inj,ok.has,ok.cab,ok.hd,ok.frames,ok.stk,ok.exf,ok.bs,ok.bsz,ok.noex,ok.exfs,ok.funs,ok.frf]
section
variable {X:Cx}{zG:p_ (Addr×Obj)}{Z:St}{H:Hp}{s:Shared}{E:Value->Shared->Prop}
def Inv.wish(I:Inv X zG Z H s)(E:Db->Go->Prop):Inv (X.wish E) zG Z H s:=#[I.ok.wish E,I.os,I.bare,I.base,I.loc,I.cell,I.free,I.freeC,I.pin,I.hok,I.len]
def Inv.unwish(I:Inv (X.wish E) zG Z H s):Inv X zG Z H s:=#[I.ok.unwish,I.os,I.bare,I.base,I.loc,I.cell,I.free,I.freeC,I.pin,I.hok,I.len]
def SP.unwish{D:Ends}{f:Flow}{s':Go}(h:SP (X.wish E) zG D f s'):SP X zG D f s':=by
 cases f with
 |next=>let#[zZ,H',I,q]:=h;exact#[_,H',I.unwish,q]
 |brk=>let#[zZ,H',I,q]:=h;exact#[_,H',I.unwish,q]
 |cont=>let#[zZ,H',I,q]:=h;exact#[_,H',I.unwish,q]
 |ret u=>let#[v,zZ,H',I,r,q]:=h;exact#[v,_,H',I.unwish,r,q]
def PSs.nox{st:p_ eZ}{t:TS}(h:PSs X.nox st t):PSs X st t:=λzG s Z H D I hw=>
 fV (h _ s Z H D (I.wish _) hw) (λ_ _ q=>q.unwish) λ_ _ z=>fO z
end
section
variable {X:Cx}{st:Stmt}{rest:p_ Stmt}{t u:TS}{e:Expr}{te:TE}{pos:Pos}
def X2:TS:=λD Z H=>D.nx Z H
def R6(t u:TS):TS:=λD Z H=>t {D with nx:=u D} Z H
def ML:PSs X [] X2:=λ_ _ Z H _ I h=>jO #[Z,H,I,h]
def BK(h1:PS X st t)(h2:PSs X rest u):PSs X (st::rest)^R6 t u:=by
 intro zG s Z H D I h;refine wpAny_execs_cons^BD (h1 _ s Z H _ I h) λf s1 q=>?_;cases f with
 |next=>
  let#[zZ,H',I',q]:=q;exact h2 _ s1 _ H' D I' q
 |ret v=>exact q
 |brk=>exact q
 |cont=>exact q
def Cv(h1:PS X st t):PSs X [st] t:=by
 intro zG s Z H D I h;refine wpAny_execs_cons^BD (h1 _ s Z H D I h) λf s1 q=>?_;cases f with
 |next=>exact jO q
 |ret v=>exact q
 |brk=>exact q
 |cont=>exact q
def Inv.quiet{zG:p_ (Ch×Obj)}{Z:St}{H:Hp}{s:Go}(I:Inv X zG Z H s):interactive X.env=o_:=by simp[interactive,I.ok.kind]
def aZ(te:TE):TS:=λD Z H=>te Z H λ_ H1=>D.nx Z H1
def MN(he:PE X e te)(hs:swapsWith e m_ pos.line X.env=pure o_:=by rfl):PS X (.Expr e pos)^aZ te:=λzG s Z H D I h=>wpAny_Expr_any (BD (he _ s Z H _ I h) λv s1 #[x,H1,I1,r1,q1]=>#[Z,H1,I1,q1]) I.quiet hs
def WU(te:TE):TS:=λD Z H=>te Z H D.rt
def FP(he:PE X e te):PS X (.Return (P3 e) pos)^WU te:=λzG s Z H D I h=>wpAny_Return_some^BD (he _ s Z H _ I h) λv s1 #[x,H1,I1,r1,q1]=>#[x,Z,H1,I1,r1,q1]
def aY(c:TT)(t u:TS):TS:=λD Z H=>c Z H λb H1=>if b=n_ then t D Z H1 else u D Z H1
def Us{c:eS}{a b:p_ eZ}{tc:TT}(hc:PT X c tc)(ha:PSs X a t)(hb:PSs X b u):PS X (.If c a b pos)^aY tc t u:=by
 intro zG s Z H D I h;refine wpAny_If^BD (hc _ s Z H _ I h) λd s1 #[H1,I1,q1]=>?_;cases d with
 |true=>exact ha _ s1 Z H1 D I1 q1
 |false=>exact hb _ s1 Z H1 D I1 q1
end
abbrev TG:=V->St->Hp->(St->Hp->Prop)->Prop
abbrev aC:=p_ V->St->Hp->(St->Hp->Prop)->Prop
def PG(X:Cx)(target:eS)(t:TG):Prop:=
 ∀(zG:p_ (Ch×Obj)) (s:Go) (Z:St) (H:Hp) (v:V) (u:Db) (Q:St->Hp->Prop),Inv X zG Z H s->RelV v u->t v Z H Q->
  wpAny (model X.prog X.w) X.A (assign target X.env u) (λ_ s'=>∃zZ H',Inv X zG zZ H' s'/\Q zZ H') X.xe s
def b9(X:Cx)(ts:p_ eS)(t:aC):Prop:=
 ∀(zG:p_ (Ch×Obj)) (s:Go) (Z:St) (H:Hp) (vs:p_ V) (us:p_ Db) (Q:St->Hp->Prop),Inv X zG Z H s->Vals vs us->t vs Z H Q->
  wpAny (model X.prog X.w) X.A (assignInOrder ((assignEach ts X.env).map (·.2)) us) (λ_ s'=>∃zZ H',Inv X zG zZ H' s'/\Q zZ H') X.xe s
abbrev aB:=V->V->V->Hp->(Hp->Prop)->Prop
def b7(X:Cx)(t:aB):Prop:=
 ∀(zG:p_ (Ch×Obj)) (s:Go) (Z:St) (H:Hp) (o i v:V) (ov iv u:Db) (Q:Hp->Prop),Inv X zG Z H s->RelV o ov->RelV i iv->RelV v u->t o i v H Q->
  wpAny (model X.prog X.w) X.A (setItem ov iv u) (λ_ s'=>∃H',Inv X zG Z H' s'/\Q H') X.xe s
abbrev cM:=V->V->Hp->VK->Prop
def dZ(X:Cx)(op:Operator)(t:cM):Prop:=
 ∀(zG:p_ (Ch×Obj)) (s:Go) (Z:St) (H:Hp) (x y:V) (v u:Db) (Q:VK),Inv X zG Z H s->RelV x v->RelV y u->t x y H Q->
  wpAny (model X.prog X.w) X.A (inplaceOp op v u) (EP X zG Z Q) X.xe s
section
variable {X:Cx}{pos:Pos}
def HW(i:Nat):TG:=λv Z H Q=>Q (Z.set i^P3 v) H
def F3{i:Nat}{x:Str}(hN:X.N.Nodup)(hi:X.N[i]?=P3 x)(hx:Loc X.env.scope x)(hf:X.fn x=n_\/X.env.scope.names.lookup x=P3 .local:=by first|exact .inl rfl|exact .inr rfl|assumption):PG X (.Name x pos)^HW i:=λzG s Z H v u Q I r h=>wpAny_assign_Name^Iq I hN hi hx r (λs' I'=>#[_,H,I',h]) hf
def c6:aC:=λvs Z H Q=>vs=[]/\Q Z H
def bV(t:TG)(u:aC):aC:=λvs Z H Q=>∃v r,vs=v::r/\t v Z H λzZ H'=>u r zZ H' Q
def Q8:b9 X [] c6:=by
 intro zG s Z H vs us Q I r h;let#[e,h]:=h;exact assignInOrder_nil #[Z,H,I,h]
def F2{e:eS}{es:p_ eS}{t:TG}{u:aC}(h1:PG X e t)(h2:b9 X es u)
  (hs:(assignEach (e::es) X.env).map (·.2)=assign e X.env::(assignEach es X.env).map (·.2):=by rfl):b9 X (e::es)^bV t u:=by
 intro zG s Z H vs us Q I r h;let#[v,vr,e1,h]:=h;subst e1;cases r with
 |cons r rr=>
  rw[hs];exact assignInOrder_cons^BD (h1 _ s Z H _ _ _ I r h) λ_ s1 #[_,H1,I1,q1]=>h2 _ s1 _ H1 _ _ Q I1 rr q1
def c5(K:Frag)(n:Nat)(t:aC):TG:=λv Z H Q=>∃a xs,v=.ref a/\SqT K H a xs/\xs.length=n/\t xs Z H Q
def Uy{es:p_ eS}{k:Nat}{t:aC}{n:Nat}(hc:X.calm=n_)(h:b9 X es t)
  (hn:(assignEach es X.env).length=n:=by rfl) (hst:(assignEach es X.env).findIdx? (·.1)=m_:=by rfl):PG X (.Tuple es k pos)^c5 X.K n t:=by
 intro zG s Z H v u Q I r hw;let#[a,xs,e1,hq,hl,hw]:=hw;subst e1;cases r;let#[its,rv,ht,hz]:=I.tuple hq;exact assign_Tuple_tuple (I.ok.hd hc) ht (by simp[hn,←hl,rv.length]) hst λh' hx=>h _ _ Z H xs _ Q (I.kept λb o e=>hx b o (eI^Tk e) e) (by lk) hw
def bU(to ti:TE)(t:aB):TG:=λv Z H Q=>to Z H λo H1=>ti Z H1 λi H2=>t o i v H2 λH3=>Q Z H3
def Px{o i:eS}{to ti:TE}{t:aB}(ho:PE X o to)(hi:PE X i ti)(hs:b7 X t)
  (ha:∀v,assign (.Subscript o i pos) X.env v=(do
   let ov ←holding [v]^eval o X.env
   let iv ←holding [v,ov] (eval i X.env)
   standAt pos
   holding [v,ov,iv] (setItem ov iv v)
   release [v,ov,iv] []):=by intro _;rfl):PG X (.Subscript o i pos)^bU to ti t:=λzG s Z H v u Q I r h=>Cn^fc^BD (ho _ s Z H _ I h) λov s1 #[x,H1,I1,r1,q1]=>Cn^fc^BD (hi _ s1 Z H1 _ I1 q1) λiv s2 #[y,H2,I2,r2,q2]=>Cn^wpAny_standAt^Cn^fc^BD (hs _ s2 Z H2 x y v ov iv u _ I2 r1 r2 r q2) λ_ s3 #[H3,I3,q3]=>wpAny_release #[Z,H3,I3,q3]
def Nl(te:TE)(g:TG):TS:=λD Z H=>te Z H λx H1=>g x Z H1 D.nx
def Ps{tg e:eS}{te:TE}{g:TG}(he:PE X e te)(hg:PG X tg g)(hs:swapsWithSole [tg] e pos.line X.env=pure o_:=by rfl)(hw:swappedStores [tg] e X.env=pure m_:=by rfl)
  (h1:(assignEach [tg] X.env).map (·.2)=[assign tg X.env]:=by rfl):PS X (.Assign [tg] e pos)^Nl te g:=by
 intro zG s Z H D I h;refine wpAny_Assign_stores (BD (he _ s Z H _ I h) λv s1 #[x,H1,I1,r1,q1]=>?_) hs hw;rw[h1];exact BD (hg _ s1 Z H1 x v _ I1 r1 q1) λ_ s2 q=>q
def D7{i:Nat}{x:Str}{e:eS}{te:TE}{pos':Pos}(hN:X.N.Nodup)(hi:X.N[i]?=P3 x)(hx:Loc X.env.scope x)(he:PE X e te)(hs:swapsWith e (P3^.Name x pos') pos.line X.env=pure o_:=by rfl)(hf:X.fn x=n_\/X.env.scope.names.lookup x=P3 .local:=by first|exact .inl rfl|exact .inr rfl|assumption):
  PS X (.Assign [.Name x pos'] e pos) (Nl te^HW i):=λzG s Z H D I h=>wpAny_Assign_Name (BD (he _ s Z H _ I h) λv s1 #[y,H1,I1,r1,q1]=>Iq I1 hN hi hx r1 (λs2 I2=>#[_,H1,I2,q1]) hf) hs
def cf(i:Nat)(te:TE)(ti:cM):TS:=λD Z H=>∃x,Z[i]?=P3^P3 x/\te Z H λy H1=>ti x y H1 λz H2=>D.nx (Z.set i^P3 z) H2
def ZE{i:Nat}{x:Str}{e:eS}{te:TE}{op:Operator}{ti:cM}{pos':Pos}(hN:X.N.Nodup)(hi:X.N[i]?=P3 x)(hx:Loc X.env.scope x)(he:PE X e te)(ho:dZ X op ti)(hf:X.fn x=n_\/X.env.scope.names.lookup x=P3 .local:=by first|exact .inl rfl|exact .inr rfl|assumption):
  PS X (.AugAssign (.Name x pos') op e pos) (cf i te ti):=by
 intro zG s Z H D I h;let#[v,e1,h]:=h;let#[m,hn,hl]:=I.loc;have vis:Z_ X.env.scope x:=by rcases hx with k|k;exact .inl k;exact .inr^.inl k
 let#[u,r,l]:=hl i x v hi e1 vis;refine wpAny_AugAssign_Name ?_
 have go:wpAny (model X.prog X.w) X.A (eval e X.env) (λw s₂=>wpAny (model X.prog X.w) X.A (inplaceOp op u w) (λr s₃=>wpAny (model X.prog X.w) X.A (storeName X.env x r) (λ_=>SP X zG D .next) X.xe s₃) X.xe s₂) X.xe s:=by
  refine BD (he zG s Z H _ I h) λw s1 #[y,H1,I1,r1,q1]=>?_;refine BD (ho zG s1 Z H1 v y u w _ I1 r r1 q1) λz s2 #[zv,H2,I2,r2,q2]=>?_;exact Iq I2 hN hi hx r2 (λs3 I3=>#[_,H2,I3,q2]) hf
 rcases l with⟨hk,hm⟩|⟨hk,c,hc,hcell⟩
 .exact wpAny_loadName_local I.ok.kind hk hn hm go
 .rcases hk with hk|hk
  .exact wpAny_loadName_cell I.ok.kind hk hc hcell go
  .rcases hx with k|k
   .have:X.env.scope.names.lookup x=P3 .free:=hk
    rw[k]at this;cases this
   .have:X.env.scope.names.lookup x=P3 .free:=hk
    rw[k]at this;cases this
def d7(f:Int->Int->Int):cM:=λx y H Q=>∃i j,x=.int i/\y=.int j/\Q (.int^f i j) H
def Zh:dZ X .Add (d7 λi j=>i+j):=by
 intro zG s Z H x y v u Q I r1 r2 h;let#[i,j,e1,e2,q]:=h;subst e1;subst e2
 let#[t,rfl]:=r1;let#[t',rfl]:=r2;exact iadd_int #[.int _,H,I.tok _,#[_,rfl],q]
end
section
variable {X:Cx}{pos:Pos}
def Ys(c:TT)(tb:TS):TS:=λD Z H=>∃W:Nat->St->Hp->Prop,(∃m,W m Z H)/\∀m Z H,W m Z H->
 c Z H λb H1=>if b=n_ then ∃N:St->Hp->Prop,(∀zZ H',N zZ H'->∃m',m'<m/\W m' zZ H')/\tb {D with nx:=N,ct:=N,bk:=D.nx} Z H1 else D.nx Z H1
def Ur{c:eS}{body:p_ eZ}{tc:TT}{tb:TS}(hp:kO (model X.prog X.w) X.A X.env X.xe)(hc:PT X c tc)(hb:PSs X body tb):PS X (.While c body [] pos)^Ys tc tb:=by
 intro zG s Z H D I h;let#[W,#[m0,w0],turn]:=h;refine wpAny_While^codeAny_whileLoop (λn s'=>∃zZ H',Inv X zG zZ H' s'/\W n zZ H') ?_ m0 #[Z,H,I,w0];rintro n s1 ⟨zJ,H1,I1,w1⟩;refine gq hp^BD (hc zG s1 zJ H1 _ I1^turn n zJ H1 w1) λb s2 #[H2,I2,q2]=>?_;cases b with
 | true=>
  let#[N,hN,q2]:=q2;rw[if_pos rfl];refine gq hp^BD (hb zG s2 zJ H2 _ I2 q2) λf s3 q3=>?_;cases f with
  |next=>
   let#[zV,H3,I3,n3]:=q3;let#[m',hm,w3]:=hN zV H3 n3;exact#[m',hm,zV,H3,I3,w3]
  |cont=>
   let#[zV,H3,I3,n3]:=q3;let#[m',hm,w3]:=hN zV H3 n3;exact#[m',hm,zV,H3,I3,w3]
  |brk=>exact q3
  |ret v=>exact q3
 |false=>
  rw[if_neg eO];exact jO #[zJ,H2,I2,q2]
end
structure It where
 go:Nat->Hp->Prop
 yld:Nat->Hp->V->Hp->Prop
 stop:Nat->Hp->Prop
def GX(X:Cx)(zG:p_ (Ch×Obj))(H:Hp)(b:Ch):Prop:=
 H b=m_/\b≠X.env.locals/\b∉X.fs/\(b∈X.ex\/X.s₀.heap.objs.size<=b)/\(∀x c,X.env.cells.lookup x=P3 c->c≠b)/\∀p∈X.pn++zG,p.1≠b
def Inv.fpOk{X:Cx}{zG:p_ (Ch×Obj)}{Z:St}{H H':Hp}{s:Go}{b:Ch}(I:Inv X zG Z H s)(hb:s.heap.objs.size<=b)(hn:H' b=m_):GX X zG H' b:=by
 refine#[hn,jP^eg I.lt hb,I.nofs hb,.inr^eR I.sz hb,λx c e z=>?_,λp hp z=>?_]
 .let#[v,q]:=I.cell x c e
  exact absurd (eg q.lt^by rw[z];exact hb)^fb _
 .exact absurd (eg (Tk (I.pin p hp).1)^by rw[z];exact hb)^fb _
structure Turn (P:eT) (w:eY) (K:Frag) (tg:eS) (J:It) (fp:List Ch) (it:Ch) (tn:Nat->eK->Prop):Prop where
 mem:it∈fp
 obj:∀i h,tn i h->∀b∈fp,∃o,h.get? b=P3 o/\∀v,o.data≠.cell v
 keep:∀i h h',tn i h->(∀b∈fp,∀o,h.get? b=P3 o->h'.get? b=P3 o)->tn i h'
 item:∀(X:Cx),X.prog=P->X.w=w->X.K=K->X.calm=n_->∀(i:Nat) (zG:List (Ch×Obj)) (s:Go) (Z:St) (H:Hp) (E:Db->Go->Prop),Inv X zG Z H s->(∀b∈fp,GX X zG H b)->tn i s.heap->J.go i H->
  wpAny (model P w) X.A (pyNext^.ref it) (λr s1=>∃u,r=P3 u /\
   wpAny (model P w) X.A (letOwnedTupleGo tg (.ref it) u) (λ_ s2=>∃x H',Inv X zG Z H' s2/\RelV x u/\J.yld i H x H'/\tn (i+1) s2.heap/\∀b∈fp,H' b=m_) E s1) E s
 done:∀(X:Cx),X.prog=P->X.w=w->X.K=K->X.calm=n_->∀(i:Nat) (zG:List (Ch×Obj)) (s:Go) (Z:St) (H:Hp) (E:Db->Go->Prop),Inv X zG Z H s->(∀b∈fp,GX X zG H b)->tn i s.heap->J.stop i H->
  wpAny (model P w) X.A (pyNext^.ref it) (λr s1=>r=m_/\Inv X zG Z H s1) E s
 self:∀(A:e_) (i:Nat) (s:Go) (Q:Db->Go->Prop) (E:Db->Go->Prop),tn i s.heap->Q (.ref it) s->wpAny (model P w) A (pyIter^.ref it) Q E s
abbrev TI:=St->Hp->(It->Hp->Prop)->Prop
def de(X:Cx)(zG:p_ (Ch×Obj))(Z:St)(tg:eS)(R:It->Hp->Prop)(itv:Db)(s2:Go):Prop:=
 ∃(it:Ch) (fp:p_ Ch) (tn:Nat->eK->Prop) (J:It) (H':Hp),itv=.ref it/\Inv X zG Z H' s2/\Turn X.prog X.w X.K tg J fp it tn/\tn 0 s2.heap/\(∀b∈fp,GX X zG H' b)/\R J H'
def PI(X:Cx)(tg iter:eS)(wi:TI):Prop:=
 ∀(zG:p_ (Ch×Obj)) (s:Go) (Z:St) (H:Hp) (R:It->Hp->Prop),Inv X zG Z H s->wi Z H R->
  wpAny (model X.prog X.w) X.A (eval iter X.env) (λv s1=>wpAny (model X.prog X.w) X.A (pyIter v) (de X zG Z tg R) X.xe s1) X.xe s
def RM {M:Model}{A:e_}{E:Db → Go → Prop}{s:Go}{tg:eS}{it:Ch}{u:Db}{o:Obj}{n:String}{vs:Array Db}{Q:Unit → Go → Prop} (ho:s.heap.get? it=P3 o) (hc:o.cls=.type n) (hd:o.data=.fields vs)
    (hn:["enumerate","zip","dict_itemiterator","dict_reverseitemiterator","odict_iterator","itertools.zip_longest","itertools.pairwise"].contains n=o_) (hQ:Q () s):wpAny M A (letOwnedTupleGo tg (.ref it) u) Q E s:=by
  unfold letOwnedTupleGo
  cases tg <;>first
    |exact On hQ
    |(cases u <;>first
        |exact On hQ
        | (refine Cn^wpAny_load ho ?_
           rw[hc,hd];show wpAny M A (if(["enumerate","zip","dict_itemiterator","dict_reverseitemiterator","odict_iterator","itertools.zip_longest","itertools.pairwise"].contains n && vs[0]?==P3^rawInt _)=n_ then _ else _) Q E s;rw[if_neg^by grind];exact On hQ))
def dJ(K:Frag)(a:Ch):It:=
 #[λi H=>∃xs x,SqL K H a xs/\xs[i]?=P3 x,λi H x H'=>H'=H/\∀xs,SqL K H a xs->xs[i]?=P3 x,λi H=>∃xs,SqL K H a xs/\xs.length<=i]
def aG(K:Frag)(a:Ch):It:=
 #[λi H=>∃xs x,SqT K H a xs/\xs[i]?=P3 x,λi H x H'=>H'=H/\∀xs,SqT K H a xs->xs[i]?=P3 x,λi H=>∃xs,SqT K H a xs/\xs.length<=i]
def cO(lo:Int)(n:Nat):It:=#[λi _=>i<n,λi H x H'=>H'=H/\x=.int (lo+i),λi _=>n<=i]
def R0{P:eT}{w:eY}{K:Frag}{tg:eS}(a it:Ch):Turn P w K tg (dJ K a) [it] it (λi h=>h.IsListIter it a i) where
 mem:=by simp
 obj:=λi h st b hb=>by
  have e:b=it:=by simpa using hb
  subst e;let#[o,e,c,d]:=st;exact#[o,e,λv z=>by rw[d]at z;cases z]
 keep:=λi h h' st k=>st.at λo e=>k it (by simp) o e
 item:=by
  intro X hP hw hK hc i zG s Z H E I hf st hg;subst hP hw hK;let#[xs,x,hq,hx]:=hg;let#[its,rv,p,hz]:=I.list hq;let#[u,hu,ru]:=rv.get hx;let#[f0,f1,f2,f3,f4,f5]:=hf it (by simp);refine wpAny_pyNext_list_item st p.isList (x:=u) (by simpa using hu) λh' st' sb=>?_;have I1:Inv X zG Z H {s with heap:=h'}:=I.turned (t':=s.toks) (λb o hb e=>(sb.2 b hb).trans e) f0 f1 f3 f4 f5;let#[o,e,c,d]:=id st';exact#[u,rfl,RM (s:={s with heap:=h'}) e c d (by cbv) #[x,H,I1,ru,#[rfl,λys hy=>by rw[I.list_inj hy hq];exact hx],st',λb hb=>(hf b hb).1]]
 done:=by
  intro X hP hw hK hc i zG s Z H E I hf st hg;subst hP hw hK;let#[xs,hq,hx]:=hg;let#[its,rv,p,hz]:=I.list hq;let#[f0,f1,f2,f3,f4,f5]:=hf it (by simp);have hl:=rv.length;exact wpAny_pyNext_list_end (I.ok.hd hc) st p.isList (by simp;lk) λh' eb=>#[rfl,I.turned (t':=s.toks) (λb o hb e=>eb b o hb e) f0 f1 f3 f4 f5]
 self:=λ_ _ _ _ _ st h=>wpAny_pyIter_listiter st h
def Ij{P:eT}{w:eY}{K:Frag}{tg:eS}(a it:Ch):Turn P w K tg (aG K a) [it] it (λi h=>h.IsTupleIter it a i) where
 mem:=by simp
 obj:=λi h st b hb=>by
  have e:b=it:=by simpa using hb
  subst e;let#[o,e,c,d]:=st;exact#[o,e,λv z=>by rw[d]at z;cases z]
 keep:=λi h h' st k=>st.at λo e=>k it (by simp) o e
 item:=by
  intro X hP hw hK hc i zG s Z H E I hf st hg;subst hP hw hK;let#[xs,x,hq,hx]:=hg;let#[its,rv,p,hz]:=I.tuple hq;let#[u,hu,ru]:=rv.get hx;let#[f0,f1,f2,f3,f4,f5]:=hf it (by simp);refine wpAny_pyNext_tuple_item st (show s.heap.IsTuple a its.toArray from p) (x:=u) (by simpa using hu) λh' st' sb=>?_;have I1:Inv X zG Z H {s with heap:=h'}:=I.turned (t':=s.toks) (λb o hb e=>(sb.2 b hb).trans e) f0 f1 f3 f4 f5;let#[o,e,c,d]:=id st';exact#[u,rfl,RM (s:={s with heap:=h'}) e c d (by cbv) #[x,H,I1,ru,#[rfl,λys hy=>by rw[I.tuple_inj hy hq];exact hx],st',λb hb=>(hf b hb).1]]
 done:=by
  intro X hP hw hK hc i zG s Z H E I hf st hg;subst hP hw hK;let#[xs,hq,hx]:=hg;let#[its,rv,p,hz]:=I.tuple hq;let#[f0,f1,f2,f3,f4,f5]:=hf it (by simp);have hl:=rv.length;exact wpAny_pyNext_tuple_end (I.ok.hd hc) st (show s.heap.IsTuple a its.toArray from p) (by simp;lk) λh' eb=>#[rfl,I.turned (t':=s.toks) (λb o hb e=>eb b o hb e) f0 f1 f3 f4 f5]
 self:=λ_ _ _ _ _ st h=>wpAny_pyIter_tupleiter st h
def PR{P:eT}{w:eY}{K:Frag}{tg:eS}(it:Ch)(lo:Int)(n:Nat):Turn P w K tg (cO lo n) [it] it (λi h=>IsRangeIter h it (lo+(i:Nat)*1) ((n:Int) - (i:Nat)) 1) where
 mem:=by simp
 obj:=λi h st b hb=>by
  simp_all
 keep:=λi h h' st k=>k it (by simp) _ st
 item:=by
  intro X hP hw hK hc i zG s Z H E I hf st hg;subst hP hw hK;let#[f0,f1,f2,f3,f4,f5]:=hf it (by simp);have W:=Walks.range (prog:=X.prog) (w:=X.w) (I.ok.hd hc) it lo 1 n;refine W.item i s _ _ hg st λv h' tk hv st' kk=>?_;let#[t,rfl]:=hv;have I1:Inv X zG Z H {s with heap:=h',toks:=tk}:=I.turned (λb o hb e=>kk b o (by simpa using hb) e) f0 f1 f3 f4 f5;refine#[_,rfl,RM (s:={s with heap:=h',toks:=tk}) (n:="range_iterator") st' rfl rfl (by cbv) #[.int (lo+i),H,I1,#[t,?_],#[rfl,rfl],st',λb hb=>(hf b hb).1]];rw[Int.mul_one]
 done:=by
  intro X hP hw hK hc i zG s Z H E I hf st hg;subst hP hw hK;let#[f0,f1,f2,f3,f4,f5]:=hf it (by simp);exact wpAny_pyNext_range_end (I.ok.hd hc) st (by have:n<=i:=hg;lk) λh' eb=>#[rfl,I.turned (t':=s.toks) (λb o hb e=>eb b o hb e) f0 f1 f3 f4 f5]
 self:=λ_ _ _ _ _ st h=>wpAny_pyIter_rangeiter st h
section
variable {X:Cx}{tg:Expr}
def cx(K:Frag)(tl:TE):TI:=λZ H R=>tl Z H λx H1=>∃a,x=.ref a/\(∃xs,SqT K H1 a xs)/\R (aG K a) H1
def Uw{l:eS}{tl:TE}(hl:PE X l tl):PI X tg l^cx X.K tl:=by
 intro zG s Z H R I h;refine BD (hl _ s Z H _ I h) λv s1 #[x,H1,I1,r1,q1]=>?_;let#[a,e,#[xs,hq],q]:=q1;subst e;cases r1;let#[its,rv,p,hz]:=I1.tuple hq;refine f9 (p) ?_;refine#[_,_,_,_,H1,rfl,I1.kept λb o e=>FM _ e,Ij a _,#[_,TM _ rfl,rfl,rfl],λb hb=>?_,q];have e:b=s1.heap.objs.size:=by grind
 subst e;exact I1.fpOk (Op _)^I1.hok.fresh^Op _
def Ua{zG:p_ (Ch×Obj)}{Z:St}{H:Hp}{s:Go}{R:It->Hp->Prop}{E:Db->Go->Prop}{lo hi:Int}{t u v:Tok}{tk:Nat}(I:Inv X zG Z H s)(h1:-(2 ^ 62)<=lo)(h2:lo<2 ^ 62)(h3:-(2 ^ 62)<=hi)(h4:hi<2 ^ 62)
  (q:R (cO lo (hi - lo).toNat) H):wpAny (model X.prog X.w) X.A (pyIter^.ref s.heap.objs.size) (de X zG Z tg R) E {s with heap:=s.heap.push {cls:=.type "range",data:=.fields #[ .int lo t,.int hi u,.int 1 v]},toks:=tk}:=by
 refine wpAny_pyIter_range (IsRange.new ..) (small_one h1 h2 h3 h4) ?_;have I1:Inv X zG Z H {s with heap:=s.heap.push {cls:=.type "range",data:=.fields #[ .int lo t,.int hi u,.int 1 v]},toks:=tk}:=I.kept λb o e=>FM _ e
 refine#[(s.heap.push {cls:=.type "range",data:=.fields #[ .int lo t,.int hi u,.int 1 v]}).objs.size,[(s.heap.push {cls:=.type "range",data:=.fields #[ .int lo t,.int hi u,.int 1 v]}).objs.size],_,_,H,rfl,
  I1.kept (t':=tk) λb o e=>FM _ e,PR _ lo (hi - lo).toNat,?_,λb hb=>?_,q]
 .have e1:lo+((0:Nat):Int)*1=lo:=by simp
  have e2:(((hi - lo).toNat:Nat):Int) - ((0:Nat):Int)=Builtin.Range.rangeSize lo hi 1:=by rw[rangeSize_one];grind
  show IsRangeIter _ _ (lo+((0:Nat):Int)*1) ((((hi - lo).toNat:Nat):Int) - ((0:Nat):Int)) 1;rw[e1,e2];exact TM _ rfl
 .have e:b=(s.heap.push {cls:=.type "range",data:=.fields #[ .int lo t,.int hi u,.int 1 v]}).objs.size:=by simpa using hb
  subst e;exact I1.fpOk (Op _)^I1.hok.fresh^Op _
def bT(ta:TA):TI:=λZ H R=>ta Z H λvs H1=>∃j:Int,vs=[.int j]/\-(2 ^ 62)<=j/\j<2 ^ 62/\R (cO 0 j.toNat) H1
def SY{a:eS}{ta:TA}{p pos:Pos}(hg:Gl X "range")(hm:X.mg "range"=m_)(ha:PA X [a] ta)(hs:starEach [a] X.env=[(o_,eval a X.env)]:=by rfl):PI X tg (.Call (.Name "range" p) [a] [] pos)^bT ta:=by
 intro zG s Z H R I h;refine Call_^EA I hg hm boot_range (gG (BD (ha _ _ s Z H _ I h) λus s1 #[vs,H1,I1,r1,q1]=>?_) hs rfl);let#[j,e,q1,q2,q]:=q1;subst e;cases r1 with
 |cons r rr=>
  cases rr;let#[t,rfl]:=r;exact call_range_1^Ua I1 (by lk) (by lk) q1 q2^by simpa using q
def cX(wi:TI)(g:TG)(tb:TS):TS:=λD Z H=>wi Z H λJ H1=>∃W:Nat->Nat->St->Hp->Prop,(∃m,W 0 m Z H1)/\∀i m Z H,W i m Z H->
 (J.stop i H/\D.nx Z H)\/(J.go i H/\∃N:St->Hp->Prop,(∀zZ H',N zZ H'->∃m',m'<m/\W (i+1) m' zZ H')/\∀x H',J.yld i H x H'->g x Z H' λzO H2=>tb {D with nx:=N,ct:=N,bk:=D.nx} zO H2)
def JM(fp:p_ Ch)(h:eK):p_ (Ch×Obj):=fp.filterMap λb=>(h.get? b).map λo=>(b,o)
def DY{fp:p_ Ch}{h:eK}{b:Ch}{o:Obj}(hb:b∈fp)(e:h.get? b=P3 o):(b,o)∈JM fp h:=List.mem_filterMap.mpr #[b,hb,by rw[e];rfl]
def Sk{fp:p_ Ch}{h:eK}{p:Ch×Obj}(hp:p∈JM fp h):p.1∈fp/\h.get? p.1=P3 p.2:=by
 let#[b,hb,e]:=List.mem_filterMap.mp hp;cases q:h.get? b with
 |none=>grind
 |some o=>
  rw[q]at e;have e':=eE e;subst e'
  simp_all
def Inv.pinned{zG:p_ (Ch×Obj)}{Z:St}{H:Hp}{s:Go}{fp:p_ Ch}(I:Inv X zG Z H s)(hf:∀b∈fp,GX X zG H b)(ho:∀b∈fp,∃o,s.heap.get? b=P3 o/\∀v,o.data≠.cell v):Inv X (zG++JM fp s.heap) Z H s:=
 I.pins_of λp hp=>(eM.mp hp).elim (λz=>I.pin p^eN _ z) λz=>by
  let#[hb,e]:=Sk z;let#[f0,f1,f2,_]:=hf _ hb;let#[o,e',d]:=ho _ hb
  grind
def Inv.unpinned{zG pl:p_ (Ch×Obj)}{Z:St}{H:Hp}{s:Go}(I:Inv X (zG++pl) Z H s):Inv X zG Z H s:=I.pins_of λp hp=>I.pin p^eN _^fK _ hp
def MM{iter:eS}{body:p_ eZ}{wi:TI}{g:TG}{tb:TS}{pos:Pos}(hp:kO (model X.prog X.w) X.A X.env X.xe)(hc:X.calm=n_)(hi:PI X tg iter wi)(hg:PG X tg g)(hb:PSs X body tb)
  (hs:∀x,foldedSetIterable iter X.env x=pure x:=by intro _;rfl):PS X (.For tg iter body [] pos)^cX wi g tb:=by
 intro zG s Z H D I h;refine wpAny_For (BD (hi zG s Z H _ I h) λv s1 h1=>BD h1 λitv s2 h2=>?_) hs;let#[it,fp,tn,J,H2,e,I2,T,st2,f2,W,#[m0,w0],turn]:=h2;subst e;have stat:∀{H':Hp},(∀b∈fp,H' b=m_)->∀b∈fp,GX X zG H' b:=λhn b hb=>#[hn b hb,(f2 b hb).2];refine codeAny_forLoop_any (λn s'=>∃i zZ H',Inv X zG zZ H' s'/\tn i s'.heap/\(∀b∈fp,H' b=m_)/\W i n zZ H') ?_ m0 #[0,Z,H2,I2,st2,λb hb=>(f2 b hb).1,w0];rintro n s3 ⟨i,zV,H3,I3,st3,fr3,w3⟩
 rcases turn i n zV H3 w3 with⟨stop,qn⟩|⟨go,N,hN,step⟩
 .refine gq hp^BD (T.done X rfl rfl rfl hc i zG s3 zV H3 X.xe I3 (stat fr3) st3 stop) λr s4 #[hr,I4]=>?_
  subst hr;exact jO #[zV,H3,I4,qn]
 .refine gq hp^BD (T.item X rfl rfl rfl hc i zG s3 zV H3 X.xe I3 (stat fr3) st3 go) λr s4 #[u,hr,h4]=>?_
  subst hr;refine gq hp^BD h4 λ_ s5 #[x,H5,I5,r5,y5,st5,fr5]=>?_;have I5':=I5.pinned (stat fr5)^T.obj _ _ st5;refine gq hp^BD (hg _ s5 zV H5 x u _ I5' r5^step x H5 y5) λ_ s6 #[σ6,H6,I6,q6]=>?_;refine gq hp^BD (hb _ s6 σ6 H6 _ I6 q6) λf s7 q7=>?_
  have again:∀{zN:St}{H7:Hp},Inv X (zG++JM fp s5.heap) zN H7 s7->N zN H7->∃m,m<n/\∃i zZ H',Inv X zG zZ H' s7/\tn i s7.heap/\(∀b∈fp,H' b=m_)/\W i m zZ H':=λ{zN H7} I7 n7=>by
   let#[m',hm,w7]:=hN zN H7 n7;refine#[m',hm,i+1,zN,H7,I7.unpinned,T.keep _ _ _ st5 λb hb o e=>(I7.pin (b,o)^eN _^eN _^DY hb e).1,λb hb=>?_,w7];let#[o,e,d]:=T.obj _ _ st5 b hb;exact(I7.pin (b,o)^eN _^eN _^DY hb e).2.1
  cases f with
  |next=>let#[zN,H7,I7,n7]:=q7;exact again I7 n7
  |cont=>let#[zN,H7,I7,n7]:=q7;exact again I7 n7
  |brk=>let#[zN,H7,I7,q7]:=q7;exact#[zN,H7,I7.unpinned,q7]
  |ret v=>let#[x7,zN,H7,I7,r7,q7]:=q7;exact#[x7,zN,H7,I7.unpinned,r7,q7]
end
def RP{K:Frag}{a:Ch}{xs:p_ V}{g:TG}{tb:TS}{D:Ends}{Z:St}{H:Hp}(Pv:Nat->St->Hp->Prop)(h0:Pv 0 Z H)(hl:∀i Z H,i<=xs.length->Pv i Z H->SqT K H a xs)
  (hs:∀i x Z H,xs[i]?=P3 x->Pv i Z H->g x Z H λzO H2=>tb {D with nx:=Pv (i+1),ct:=Pv (i+1),bk:=D.nx} zO H2) (hd:∀Z H,Pv xs.length Z H->D.nx Z H):
  ∃W:Nat->Nat->St->Hp->Prop,(∃m,W 0 m Z H)/\∀i m Z H,W i m Z H->
   ((aG K a).stop i H/\D.nx Z H)\/((aG K a).go i H/\∃N:St->Hp->Prop,(∀zZ H',N zZ H'->∃m',m'<m/\W (i+1) m' zZ H')/\∀x H',(aG K a).yld i H x H'->g x Z H' λzO H2=>tb {D with nx:=N,ct:=N,bk:=D.nx} zO H2):=by
 refine#[λi m Z H=>m=xs.length - i/\i<=xs.length/\Pv i Z H,#[xs.length,by simp,eP _,h0],?_];rintro i m Z H ⟨rfl,hi,p⟩;have q:=hl i Z H hi p
 by_cases hlt:i<xs.length
 .refine .inr #[#[xs,xs[i],q,by simp],_,λzZ H' p'=>#[_,by lk,rfl,hlt,p'],λx H' y=>?_]
  let#[e,y]:=y;subst e;exact hs i x Z _ (y xs q) p
 .have e:i=xs.length:=by lk
  subst e;exact .inl #[#[xs,q,Op _],hd Z H p]
abbrev R2:=V->V->Hp->VK->Prop
def OpR(X:Cx)(f:Db->Db->Sem Db)(r:R2):Prop:=
 ∀(zG:p_ (Ch×Obj)) (s:Go) (Z:St) (H:Hp) (x y:V) (v u:Db) (Q:VK),Inv X zG Z H s->RelV x v->RelV y u->r x y H Q->
  wpAny (model X.prog X.w) X.A (f v u) (EP X zG Z Q) X.xe s
def CallR(X:Cx)(f:Db)(r:p_ V->Hp->VK->Prop):Prop:=
 ∀(zG:p_ (Ch×Obj)) (s:Go) (Z:St) (H:Hp) (xs:p_ V) (us:p_ Db) (Q:VK),Inv X zG Z H s->Vals xs us->r xs H Q->
  wpAny (model X.prog X.w) X.A (call f us) (EP X zG Z Q) X.xe s
def dD(X:Cx)(r:V->Hp->(Bool->Hp->Prop)->Prop):Prop:=
 ∀(zG:p_ (Ch×Obj)) (s:Go) (Z:St) (H:Hp) (x:V) (v:Db) (Q:Bool->Hp->Prop),Inv X zG Z H s->RelV x v->r x H Q->
  wpAny (model X.prog X.w) X.A (truthy v) (TP X zG Z Q) X.xe s
def C3(r:R2)(ta tb:TE):TE:=λZ H Q=>ta Z H λx H1=>tb Z H1 λy H2=>r x y H2 Q
def rI(C:Int->Int->Prop)(g:Int->Int->V):R2:=λx y H Q=>∃i j,x=.int i/\y=.int j/\C i j/\Q (g i j) H
def Hu(g:Int->Int->V):R2:=λx y H Q=>∃i j,x=.int i/\y=.int j/\Q (g i j) H
section
variable {X:Cx}{a b:Expr}{ta tb:TE}{pos:Pos}
def Zx(ha:PE X a ta)(hb:PE X b tb){zG:p_ (Ch×Obj)}{s:Go}{Z:St}{H:Hp}{R:V->V->Hp->Prop}(I:Inv X zG Z H s)
  (h:ta Z H λx H1=>tb Z H1 λy H2=>R x y H2) {Q:Db->Go->Prop}{f:Db->Db->Sem Db}
  (hf:∀v u s2 x y H2,Inv X zG Z H2 s2->RelV x v->RelV y u->R x y H2->wpAny (model X.prog X.w) X.A (f v u) Q X.xe s2):
  wpAny (model X.prog X.w) X.A (eval a X.env) (λv s₁=>wpAny (model X.prog X.w) X.A (eval b X.env) (λu s₂=>wpAny (model X.prog X.w) X.A (f v u) Q X.xe s₂) X.xe s₁) X.xe s:=BD (ha _ s Z H _ I h) λv s1 #[x,H1,I1,r1,q1]=>BD (hb _ s1 Z H1 _ I1 q1) λu s2 #[y,H2,I2,r2,q2]=>hf v u s2 x y H2 I2 r1 r2 q2
def Bn{op:Operator}{r:R2}(ho:OpR X (binaryOp op) r)(ha:PE X a ta)(hb:PE X b tb):PE X (.BinOp a op b pos)^C3 r ta tb:=λzG s Z H Q I h=>wpAny_BinOp^Zx ha hb I h λv u s2 x y H2 I2 rx ry q=>ho _ s2 Z H2 x y v u Q I2 rx ry q
def cG{f:Db->Db->Sem Db}{C:Int->Int->Prop}{g:Int->Int->Int}
  (rule:∀(i j:Int) (t u:Tok) (s:Go) (Q:Db->Go->Prop) (E:Db->Go->Prop),C i j->Q (.int (g i j) s.toks) {s with toks:=s.toks+1}->wpAny (model X.prog X.w) X.A (f (.int i t)^.int j u) Q E s):
  OpR X f (rI C λi j=>.int^g i j):=by
 intro zG s Z H x y v u Q I rx ry h;let#[i,j,rfl,rfl,hc,q]:=h;let#[t,rfl]:=rx;let#[t',rfl]:=ry;exact rule i j t t' s _ _ hc #[.int _,H,I.tok _,#[_,rfl],q]
def bN{f:Db->Db->Sem Db}{g:Int->Int->Int}
  (rule:∀(i j:Int) (t u:Tok) (s:Go) (Q:Db->Go->Prop) (E:Db->Go->Prop),Q (.int (g i j) s.toks) {s with toks:=s.toks+1}->wpAny (model X.prog X.w) X.A (f (.int i t)^.int j u) Q E s):
  OpR X f (Hu λi j=>.int^g i j):=by
 intro zG s Z H x y v u Q I rx ry h;let#[i,j,rfl,rfl,q]:=h;let#[t,rfl]:=rx;let#[t',rfl]:=ry;exact rule i j t t' s _ _ #[.int _,H,I.tok _,#[_,rfl],q]
def W1{f:Db->Db->Sem Db}{g:Int->Int->Bool}
  (rule:∀(i j:Int) (t u:Tok) (s:Go) (Q:Db->Go->Prop) (E:Db->Go->Prop),Q (.bool^g i j) s->wpAny (model X.prog X.w) X.A (f (.int i t)^.int j u) Q E s):
  OpR X f (Hu λi j=>.bl^g i j):=by
 intro zG s Z H x y v u Q I rx ry h;let#[i,j,rfl,rfl,q]:=h;let#[t,rfl]:=rx;let#[t',rfl]:=ry;exact rule i j t t' s _ _ #[.bl _,H,I,rfl,q]
def Xw(i j:Int):Prop:=0<j/\j<1073741824
def PC(i j:Int):Prop:=0<=j/\j<=1000000/\i.natAbs<2 ^ 64
def CMul(i j:Int):Prop:=(-(2 ^ 64)<i/\i<2 ^ 64)\/(-(2 ^ 64)<j/\j<2 ^ 64)
def CMul.ok{i j:Int}(h:CMul i j):IntMulOk i j:=by
 rcases h with⟨h1,h2⟩|⟨h1,h2⟩
 .exact .of_left^intBits_le_64 h1 h2
 .exact .of_right^intBits_le_64 h1 h2
def op_add:OpR X (binaryOp .Add) (Hu λi j=>.int (i+j)):=bN λ_ _ _ _ _ _ _ q=>add_int q
def op_sub:OpR X (binaryOp .Sub) (Hu λi j=>.int (i - j)):=bN λ_ _ _ _ _ _ _ q=>sub_int q
def op_mul:OpR X (binaryOp .Mult) (rI CMul λi j=>.int (i*j)):=cG λ_ _ _ _ _ _ _ hc q=>mul_int q hc.ok
def MR:OpR X (binaryOp .FloorDiv) (rI Xw λi j=>.int (i / j)):=cG λi j _ _ _ _ _ hc q=>by
 have h1:=hc.1;have h2:=hc.2;exact floordiv_int (by lk) (by grind)^.inl^PyProof.noPylong_small^by lk
def DX:OpR X (binaryOp .Mod) (rI (λ_ j=>0<j) λi j=>.int (i % j)):=cG λi j _ _ _ _ _ hc q=>mod_int' (by lk)^by rw[Int.fmod_eq_emod_of_nonneg i^by lk];exact q
def MQ:OpR X (binaryOp .Pow) (rI PC λi j=>.int (i ^ j.toNat)):=cG λ_ _ _ _ _ _ _ hc q=>pow_int_small hc.1 hc.2.1 hc.2.2 q
end
def aj:V->V->Bool
 |.non,.non=>n_|.non,.int _=>n_|.int _,.non=>n_|.non,.bl _=>n_|.bl _,.non=>n_|.non,.str _=>n_|.str _,.non=>n_
 |.int _,.int _=>n_|.bl _,.bl _=>n_|.str _,.str _=>n_|.byt _,.byt _=>n_
 |.int _,.str _=>n_|.str _,.int _=>n_|.bl _,.str _=>n_|.str _,.bl _=>n_
 |_,_=>o_
def dS:R2:=λx y H Q=>aj x y=n_/\Q (.bl (decide (x=y))) H
def dP:R2:=λx y H Q=>aj x y=n_/\Q (.bl (!decide (x=y))) H
def IT{i j:Int}:decide (V.int i=V.int j)=(i==j):=by
 rw[fC];simp
def M5{i j:Bool}:decide (V.bl i=V.bl j)=(i==j):=by
 rw[fC];simp
def IS{i j:Str}:decide (V.str i=V.str j)=(i==j):=by
 rw[fC];simp
def RY{i j:Array UInt8}:decide (V.byt i=V.byt j)=(i.toList==j.toList):=by
 rw[fC]
 simp_all
section
variable {X:Cx}{a b:Expr}{ta tb:TE}{pos:Pos}
def Ay{zG:p_ (Ch×Obj)}{Z:St}{H:Hp}{s:Go}{Q:VK}{k k':Bool}(I:Inv X zG Z H s)(q:Q (.bl k) H)(e:k=k'):EP X zG Z Q (.bool k') s:=by
 subst e;exact#[.bl k,H,I,rfl,q]
def CT:OpR X (compareOp .Eq) dS:=by
 intro zG s Z H x y v u Q I rx ry h;let#[hs,q]:=h;cases x with
 |non=>
  cases rx;cases y with
  |non=>cases ry;exact PySem.EqNone.eq_none_none^Ay I q^by simp
  |bl j=>cases ry;exact PySem.EqNone.eq_none_bool^Ay I q^by simp
  |int j=>let#[t',rfl]:=ry;exact PySem.EqNone.eq_none_int^Ay I q^by simp
  |str j=>let#[t',rfl]:=ry;exact PySem.EqNone.eq_none_str^Ay I q^by simp
  |_=>exact absurd (show o_=n_ from hs) eO
 |bl i=>
  cases rx;cases y with
  |non=>cases ry;exact PySem.EqNone.eq_bool_none^Ay I q^by simp
  |bl j=>cases ry;exact eq_bool^Ay I q M5
  |str j=>let#[t',rfl]:=ry;exact PySem.EqMixed.eq_bool_str^Ay I q^by simp
  |_=>exact absurd (show o_=n_ from hs) eO
 |int i=>
  let#[t,rfl]:=rx;cases y with
  |non=>cases ry;exact PySem.EqNone.eq_int_none^Ay I q^by simp
  |int j=>let#[t',rfl]:=ry;exact eq_int^Ay I q IT
  |str j=>let#[t',rfl]:=ry;exact PySem.EqMixed.eq_int_str^Ay I q^by simp
  |_=>exact absurd (show o_=n_ from hs) eO
 |str i=>
  let#[t,rfl]:=rx;cases y with
  |non=>cases ry;exact PySem.EqNone.eq_str_none^Ay I q^by simp
  |bl j=>cases ry;exact PySem.EqMixed.eq_str_bool^Ay I q^by simp
  |int j=>let#[t',rfl]:=ry;exact PySem.EqMixed.eq_str_int^Ay I q^by simp
  |str j=>let#[t',rfl]:=ry;exact eq_str^Ay I q IS
  |_=>exact absurd (show o_=n_ from hs) eO
 |byt i=>
  let#[t,rfl]:=rx;cases y with
  |byt j=>let#[t',rfl]:=ry;exact PySem.W.eq_bytes^Ay I q RY
  |_=>exact absurd (show o_=n_ from hs) eO
 |_=>cases y <;>exact absurd (show o_=n_ from hs) eO
def U9:OpR X (compareOp .NotEq) dP:=by
 intro zG s Z H x y v u Q I rx ry h;let#[hs,q]:=h;cases x with
 |non=>
  cases rx;cases y with
  |non=>cases ry;exact PySem.EqNone.ne_none_none^Ay I q^by simp
  |bl j=>cases ry;exact PySem.EqNone.ne_none_bool^Ay I q^by simp
  |int j=>let#[t',rfl]:=ry;exact PySem.EqNone.ne_none_int^Ay I q^by simp
  |str j=>let#[t',rfl]:=ry;exact PySem.EqNone.ne_none_str^Ay I q^by simp
  |_=>exact absurd (show o_=n_ from hs) eO
 |bl i=>
  cases rx;cases y with
  |non=>cases ry;exact PySem.EqNone.ne_bool_none^Ay I q^by simp
  |bl j=>cases ry;exact ne_bool^Ay I q^congrArg not M5
  |str j=>let#[t',rfl]:=ry;exact PySem.EqMixed.ne_bool_str^Ay I q^by simp
  |_=>exact absurd (show o_=n_ from hs) eO
 |int i=>
  let#[t,rfl]:=rx;cases y with
  |non=>cases ry;exact PySem.EqNone.ne_int_none^Ay I q^by simp
  |int j=>let#[t',rfl]:=ry;exact ne_int^Ay I q^congrArg not IT
  |str j=>let#[t',rfl]:=ry;exact PySem.EqMixed.ne_int_str^Ay I q^by simp
  |_=>exact absurd (show o_=n_ from hs) eO
 |str i=>
  let#[t,rfl]:=rx;cases y with
  |non=>cases ry;exact PySem.EqNone.ne_str_none^Ay I q^by simp
  |bl j=>cases ry;exact PySem.EqMixed.ne_str_bool^Ay I q^by simp
  |int j=>let#[t',rfl]:=ry;exact PySem.EqMixed.ne_str_int^Ay I q^by simp
  |str j=>let#[t',rfl]:=ry;exact ne_str^Ay I q^congrArg not IS
  |_=>exact absurd (show o_=n_ from hs) eO
 |byt i=>
  let#[t,rfl]:=rx;cases y with
  |byt j=>let#[t',rfl]:=ry;exact PySem.W.ne_bytes^Ay I q^congrArg not RY
  |_=>exact absurd (show o_=n_ from hs) eO
 |_=>cases y <;>exact absurd (show o_=n_ from hs) eO
def op_lt:OpR X (compareOp .Lt) (Hu λi j=>.bl (decide (i<j))):=W1 λ_ _ _ _ _ _ _ q=>kX q
def op_le:OpR X (compareOp .LtE) (Hu λi j=>.bl (decide (i<=j))):=W1 λ_ _ _ _ _ _ _ q=>le_int q
def YJ:OpR X (compareOp .Gt) (Hu λi j=>.bl (decide (j<i))):=W1 λ_ _ _ _ _ _ _ q=>gt_int q
def bM:OpR X (compareOp .GtE) (Hu λi j=>.bl (decide (j<=i))):=W1 λ_ _ _ _ _ _ _ q=>ge_int q
def Sh:OpR X (compareOp .Lt) (λx y H Q=>∃i j,x=.str i/\y=.str j/\Q (.bl (decide (i.cps.toList<j.cps.toList))) H):=by
 intro zG s Z H x y v u Q I rx ry h;let#[i,j,rfl,rfl,q]:=h;let#[t,rfl]:=rx;let#[t',rfl]:=ry;exact lt_str (Ay I q rfl)
def P0:OpR X (compareOp .Is) (λx y H Q=>y=.non/\Q (.bl (decide (x=.non))) H):=by
 intro zG s Z H x y v u Q I rx ry h;let#[rfl,q]:=h;cases ry;refine is_none_gen^Ay I q ?_
 cases x <;>first
  |omega
  |(let#[t,rfl]:=rx;rfl)
def W0:OpR X (compareOp .IsNot) (λx y H Q=>y=.non/\Q (.bl (!decide (x=.non))) H):=by
 intro zG s Z H x y v u Q I rx ry h;let#[rfl,q]:=h;cases ry;refine isnot_none_gen^Ay I q ?_
 cases x <;>first
  |omega
  |(let#[t,rfl]:=rx;rfl)
def OpR.or{f:Db->Db->Sem Db}{r r':R2}(h:OpR X f r)(h':OpR X f r'):OpR X f (λx y H Q=>r x y H Q\/r' x y H Q):=by
 intro zG s Z H x y v u Q I rx ry q
 rcases q with q|q
 .exact h _ s Z H x y v u Q I rx ry q
 .exact h' _ s Z H x y v u Q I rx ry q
def An(b:eS){op:CmpOp}(h:op≠.In:=by decide)(h2:op≠.NotIn:=by decide):behindInMarks op b=o_:=by
 have e1:(op==CmpOp.In)=o_:=by grind
 have e2:(op==CmpOp.NotIn)=o_:=by grind
 cases b <;>simp[behindInMarks,e1,e2]
def Wu{op:CmpOp}{r:R2}(ho:OpR X (compareOp op) r)(ha:PE X a ta)(hb:PE X b tb)(hm:behindInMarks op b=o_):PE X (.Compare a [op] [b] pos)^C3 r ta tb:=λzG s Z H Q I h=>wpAny_Compare1 (Zx ha hb I h λv u s2 x y H2 I2 rx ry q=>ho _ s2 Z H2 x y v u Q I2 rx ry q) hm
def UC(t:TE):TT:=λZ H Q=>t Z H λx H'=>∃k,x=.bl k/\Q k H'
def F1{op:CmpOp}{r:R2}(ho:OpR X (compareOp op) r)(ha:PE X a ta)(hb:PE X b tb)(hm:behindInMarks op b=o_):PT X (.Compare a [op] [b] pos)^UC^C3 r ta tb:=by
 intro zG s Z H Q I h
 refine wpAny_isTrue_Compare1 (BD (ha _ s Z H _ I h) λv s1 #[x,H1,I1,r1,q1]=>BD (hb _ s1 Z H1 _ I1 q1) λu s2 #[y,H2,I2,r2,q2]=>
  BD (ho _ s2 Z H2 x y v u _ I2 r1 r2 q2) λc s3 #[z,H3,I3,r3,k,e,q3]=>?_) hm
 subst e;cases r3;exact gy #[H3,I3,q3]
def aA(K:Frag)(x:V)(H:Hp)(k:Bool):Prop:=
 match x with
 |.non=>k=o_
 |.bl b=>k=b
 |.int i=>k=(i !=0)
 |.str y=>y.length<=sizeLine/\k=((y.length:Int) !=0)
 |.byt y=>y.size<=sizeLine/\k=((y.size:Int) !=0)
 |.ref p=>(∃xs,SqL K H p xs/\k=!xs.isEmpty)\/(∃xs,SqT K H p xs/\k=!xs.isEmpty)\/∃kvs,H p=P3^.dK kvs/\k=!kvs.isEmpty
 |_=>False
def QE{κ:Type}{kvs:p_ (κ×V)}{vs:p_ (κ×Db)}(r:KV kvs vs):(!vs.isEmpty)=!kvs.isEmpty:=by
 cases r <;>rfl
def Jd{xs:p_ V}{its:p_ Db}(r:Vals xs its):(!its.toArray.isEmpty)=!xs.isEmpty:=by
 cases r <;>simp
def Gr:(sizeLine:Nat)<2 ^ 63:=by cbv
def Yo:dD X (λx H Q=>∃k,aA X.K x H k/\Q k H):=by
 intro zG s Z H x v Q I rx h;let#[k,e,q]:=h;have hl:=Gr;have hs:sizeLine=16777216:=fA;cases x with
 |non=>
  cases rx;have e':k=o_:=e;subst e';exact truthy_none #[H,I,q]
 |bl b=>
  cases rx;have e':k=b:=e;subst e';exact gy #[H,I,q]
 |int i=>
  let#[t,rfl]:=rx;have e':k=(i !=0):=e;subst e';exact PySem.P.truthy_int #[H,I,q]
 |str y=>
  let#[t,rfl]:=rx;obtain⟨hy,e'⟩:y.length<=sizeLine/\k=((y.length:Int) !=0):=e;subst e';exact PySem.P.truthy_str (by lk) #[H,I.tok _,q]
 |byt y=>
  let#[t,rfl]:=rx;obtain⟨hy,e'⟩:y.size<=sizeLine/\k=((y.size:Int) !=0):=e;subst e';exact PySem.W.truthy_bytes (by lk) #[H,I.tok _,q]
 | ref p=>
  cases rx;have e':(∃xs,SqL X.K H p xs/\k=!xs.isEmpty)\/(∃xs,SqT X.K H p xs/\k=!xs.isEmpty)\/∃kvs,H p=P3^.dK kvs/\k=!kvs.isEmpty:=e
  rcases e' with⟨xs,hx,e'⟩|⟨xs,hx,e'⟩|⟨kvs,hx,e'⟩
  .subst e'
   let#[its,r,pl,hz]:=I.list hx;have hlen:=r.length;exact wpAny_truthy_list pl.isList (by simp only[eF];lk) #[H,I.tok _,by rw[Jd r];exact q]
  .subst e'
   let#[its,r,pl,hz]:=I.tuple hx;have hlen:=r.length;exact truthy_tuple pl (by simp only[eF];lk) #[H,I.tok _,by rw[Jd r];exact q]
  .subst e'
   obtain⟨hz,hS,vs,r,m⟩:kvs.length<=sizeLine/\(p==sysModules)=o_/\∃vs,KV kvs vs/\s.heap.DictOf (A_ X.prog X.w) p vs:=I.hok p _ hx;have hlen:kvs.length=vs.length:=Paired.length r;exact wpAny_truthy_dict hS m (by lk) #[H,I.tok _,by rw[QE r];exact q]
 |_=>exact(show False from e).elim
def Uq(ha:PE X a ta)(he:∀whole,isTrue a X.env whole=(do let v ←whole;standAt a.pos;holding [v]^truthy v)):
  PT X a (λZ H Q=>ta Z H λx H'=>∃k,aA X.K x H' k/\Q k H'):=λzG s Z H Q I h=>isTrue_plain (BD (ha _ s Z H _ I h) λv s1 #[x,H1,I1,r1,q1]=>Yo _ s1 Z H1 x v Q I1 r1 q1)^he _
def P1:OpR X (binaryOp .Add) (λx y H Q=>∃i j,x=.str i/\y=.str j/\i.length+j.length<=sizeLine/\Q (.str (i++j)) H):=by
 intro zG s Z H x y v u Q I rx ry h;let#[i,j,rfl,rfl,hz,q]:=h;let#[t,rfl]:=rx;let#[t',rfl]:=ry;exact add_str (λt' tk=>#[.str _,H,I.tok _,#[_,rfl],q]) hz
def vals1{x:V}{us:p_ Db}(r:Vals [x] us):∃u,us=[u]/\RelV x u:=by
 cases r with
 |cons r1 r2=>cases r2;grind
def vals2{x y:V}{us:p_ Db}(r:Vals [x,y] us):∃u w',us=[u,w']/\RelV x u/\RelV y w':=by
 cases r with
 |cons r1 r2=>
  cases r2 with
  |cons r3 r4=>cases r4;exact#[_,_,rfl,r1,r3]
def aE(K:Frag)(x:V)(H:Hp)(n:Nat):Prop:=
 match x with
 |.str y=>y.length<=sizeLine/\n=y.length
 |.byt y=>y.size<=sizeLine/\n=y.size
 |.ref p=>(∃xs,SqL K H p xs/\n=xs.length)\/∃xs,SqT K H p xs/\n=xs.length
 |_=>False
def BM:CallR X (.builtin "len") (λxs H Q=>∃x n,xs=[x]/\aE X.K x H n/\Q (.int n) H):=by
 intro zG s Z H xs us Q I r h;let#[x,n,rfl,e,q]:=h;let#[u,rfl,rx]:=vals1 r;have hl:=Gr;have hs:sizeLine=16777216:=fA;cases x with
 |str y=>
  let#[t,rfl]:=rx;obtain⟨hy,e'⟩:y.length<=sizeLine/\n=y.length:=e;subst e';exact len_str (by lk) #[.int _,H,I.tok _,#[_,rfl],q]
 |byt y=>
  let#[t,rfl]:=rx;obtain⟨hy,e'⟩:y.size<=sizeLine/\n=y.size:=e;subst e';exact PySem.W.len_bytes (by lk) #[.int _,H,I.tok _,#[_,rfl],q]
 | ref p=>
  cases rx;have e':(∃xs,SqL X.K H p xs/\n=xs.length)\/∃xs,SqT X.K H p xs/\n=xs.length:=e
  rcases e' with⟨xs,hx,e'⟩|⟨xs,hx,e'⟩
  .subst e'
   let#[its,r',pl,hz]:=I.list hx;have hlen:=r'.length;exact Calls.call_len_list pl.isList (by simp only[eF];lk) #[.int xs.length,H,I.tok _,#[_,by simp only[eF];rw[hlen]],q]
  .subst e'
   let#[its,r',pl,hz]:=I.tuple hx;have hlen:=r'.length;exact len_tuple pl (by simp only[eF];lk) #[.int xs.length,H,I.tok _,#[_,by simp only[eF];rw[hlen]],q]
 |_=>exact(show False from e).elim
end
structure ObjM (h:eK) (x dx C:Ch) (mA:Str->Option Db):Prop where
 obj:h.get? x=P3 (PySem.W.instObj C dx)
 ns:h.Ns1 dx mA
 ne:dx≠x
def Sz{h:eK}{dx:Ch}{mA:Str->q_ Db}(n:h.Ns1 dx mA):∃od,h.get? dx=P3 od/\∀name,PySem.W.lookIn name od=P3^mA name:=by
 let#[o,es,ep,ho,hd,hk,_,hm]:=n;refine#[o,ho,λname=>?_];have e:=hm name;unfold nsFind findBy at e;unfold PySem.W.lookIn;rw[hd]
 dsimp only
 split
 .simp_all
 .have a:es.toList.any (·.refKey)=o_:=by
   rw[List.any_eq_false];intro y hy;let#[z,t,hkey]:=hk y^Array.mem_toList_iff.mp hy;simp[DictEntry.refKey,hkey]
  grind
def ObjM.look{h:eK}{x dx C:Ch}{mA:Str->q_ Db}(I:ObjM h x dx C mA):∃od,PySem.W.InstAt h x (PySem.W.instObj C dx) C^P3 od/\∀name,PySem.W.lookIn name od=P3^mA name:=
 let #[od,ho,hl]:=Sz I.ns
 #[od,#[I.obj,rfl,rfl,ho],hl]
section
variable {prog:Program}{w:World}{A:Around}{E:Value->Shared->Prop}{s:Shared}{K:Frag}{x dx C f:Addr}{mA:Str->q_ Value}{name:Str}{v:Value}
def XI{expr:Bool}{Q:Db->Go->Prop}(X:K.In s.heap)(I:ObjM s.heap x dx C mA)(hg:PySem.W.plainGet K C name=n_)(hh:PySem.W.hasDictIn K C=n_)
  (ha:PySem.W.findIn K (.ref C) name=P3 m_) (hv:mA name=P3 v) (hv':PySem.W.handedIn v=n_) (h:Q v {s with toks:=s.toks+1}):
  wpAny (model prog w) A (getAttr (.ref x) name expr) Q E s:=by
 let#[od,J,hl]:=I.look;exact PySem.W.get_value X J (PySem.W.plainGet_of hg).1 (PySem.W.findObj_own hh ha rfl (by rw[hl,hv])) hv' h
def Vf{pl:Sem Bool}{Q:Db×p_ Db->Go->Prop}(X:K.In s.heap)(I:ObjM s.heap x dx C mA)(hg:PySem.W.plainGet K C name=n_)
  (hf:PySem.W.findIn K (.ref C) name=P3^P3^.ref f) (ht:PySem.W.isFn K^.ref f=n_) (hv:mA name=m_) (h:Q (.ref f,[.ref x]) s):
  wpAny (model prog w) A (getMethod (.ref x) name pl) Q E s:=by
 let#[od,J,hl]:=I.look;exact PySem.W.method_fn X J (PySem.W.plainGet_of hg).1 (PySem.W.plainGet_of hg).2 hf (beq_iff_eq.mp ht) (by show(PySem.W.lookIn _ od).map _=P3 _;grind) h
def WZ{ns:p_ Str}{Q:Unit->Go->Prop}(X:K.In s.heap)(I:ObjM s.heap x dx C mA)
  (hs:PySem.W.findIn K (.ref C) "__setattr__"=P3^P3^.builtin "object.__setattr__") (hp:PySem.W.plainOver K C=n_) (ht:PySem.W.takerIn K C name=P3 m_) (hh:PySem.W.hasDictIn K C=n_)
  (hw:PySem.Within mA ns) (hsz:ns.length<=sizeLine)
  (h:∀h',ObjM h' x dx C (λy=>if y=name then P3 v else mA y)->gj dx s.heap h'->Q () {s with heap:=h',toks:=s.toks+2}):
  wpAny (model prog w) A (setAttr (.ref x) name v) Q E s:=by
 let#[od,J,hl]:=I.look;refine PySem.W.set_plain X J hs^PySem.W.osa_open (s:={s with toks:=s.toks+1}) (r:=m_) X J hp ht λb=>?_;let#[cd,hc,hd']:=PySem.W.any_some hh;have hx:=I.obj;refine Cn^On^Cn^Cn^wpAny_loadPart hx^Cn^PySem.W.Looks.here (s:={s with toks:=s.toks+1}) (PySem.W.looks_clsIn X hc) ?_;rw[hd'];refine On (a:=P3 dx)^Cn^On^Cn ?_;refine wpAny_nsSet1 (s:={s with toks:=s.toks+1}) I.ns λh' hn2 hs2=>?_;let#[oD,esD,epD,hoD,hdD,hcD]:=hn2.count^PySem.Within.cons name v hw;refine Cn^wpAny_lookBehind hoD (by rw[hdD];exact pastItsLine_dict^eR hcD^by grind) ?_;exact On^h _ #[(hs2.2 _^fB I.ne).trans I.obj,hn2,I.ne] hs2
def VH{R:Result->Go->Prop}{vs:p_ Db}{kw:p_ (Str×Db)}(X:K.In s.heap)(hm:PySem.W.makesIn K C=n_)
  (hi:PySem.W.findIn K (.ref C) "__init__"=P3^P3^.ref f) (hf:PySem.W.typeIn K^.ref f=P3^.type "function")
  (h:codeAny (model prog w) (A.under^.builtin "type.__call__" #[.ref C::vs,kw]) (.call (.ref f) #[.ref (s.heap.objs.size+1)::vs,kw]) (PySem.W.InitBack (s.heap.objs.size+1) R)
   {s with heap:=(s.heap.push PySem.W.emptyDict).push^PySem.W.instObj C s.heap.objs.size}):
  codeAny (model prog w) A (.call (.ref C) #[vs,kw]) R s:=PySem.W.make_core (PySem.W.makes_of X hm) (PySem.W.looks_findIn X hi) (λself=>PySem.W.bind_fn X _ hf) (.inl rfl) h
end
def DV(f:Str)(v:V):p_ (Str×V)->p_ (Str×V)
 |[]=>[(f,v)]
 |(g,x)::r=>if g=f then(g,v)::r else(g,x)::DV f v r
theorem HS(f g:Str)(v:V):∀fs:p_ (Str×V),(DV f v fs).lookup g=if g=f then P3 v else fs.lookup g
 |[]=>by
  show iC g [(f,v)]=_
  by_cases h:g=f
  .simp_all
  simp_all
 | (k,x)::r=>by
  have ih:=HS f g v r;rw[show DV f v ((k,x)::r)=(if k=f then(k,v)::r else(k,x)::DV f v r)from rfl]
  by_cases hk:k=f
  .rw[if_pos hk]
   by_cases h:g=k
   .simp_all
   .have hb:(g==k)=o_:=beq_eq_false_iff_ne.mpr h
    simp only[iC,hb,if_neg λe:g=f=>h^e.trans hk.symm]
  .rw[if_neg hk]
   by_cases h:g=k
   .simp_all
   .have hb:(g==k)=o_:=beq_eq_false_iff_ne.mpr h
    simp only[iC,hb];exact ih
theorem Gw(f:Str)(v:V):∀fs:p_ (Str×V),f∈(DV f v fs).map (·.1)/\∀g,g∈fs.map (·.1)->g∈(DV f v fs).map (·.1)
 |[]=>#[by simp[DV],λg h=>by simp at h]
 |(k,x)::r=>by
  let#[i1,i2]:=Gw f v r;rw[show DV f v _=(if k=f then(k,v)::r else(k,x)::DV f v r)from rfl]
  grind
theorem HU(f:Str)(v:V):∀fs:p_ (Str×V),(DV f v fs).length<=fs.length+1
 |[]=>by simp[DV]
 |(k,x)::r=>by
  have ih:=HU f v r;rw[show DV f v _=(if k=f then(k,v)::r else(k,x)::DV f v r)from rfl]
  grind
def RelO.some_of{v:V}{o:q_ Db}(r:RelO (P3 v) o):∃u,o=P3 u/\RelV v u:=by
 cases o with
 |none=>exact(r).elim
 |some u=>exact#[u,rfl,r]
def RelO.none_of{o:q_ Db}(r:RelO m_ o):o=m_:=by
 cases o with
 |none=>rfl
 |some u=>exact(r).elim
def TB{v:V}{u:Db}(r:RelV v u):PySem.W.handedIn u=n_:=by
 cases v with
 |non=>cases(r);rfl
 |bl b=>cases(r);rfl
 |int i=>let#[t,e]:=(r);cases e;rfl
 |str x=>let#[t,e]:=(r);cases e;rfl
 |byt b=>let#[t,e]:=(r);cases e;rfl
 |flt b=>let#[t,e]:=(r);cases e;rfl
 |ref a=>cases(r);rfl
 |ty n=>cases(r);rfl
section
variable {P:Program}{w:World}{H:Hp}{h:Heap}{a C dx:Addr}{fs:p_ (Str×V)}
def IJ(hok:HOk P w H h)(e:H a=P3^.vol^.ins C dx fs):∃mA,ObjM h a dx C mA/\(∀f,RelO (fs.lookup f)^mA f)/\PySem.Within mA (fs.map (·.1))/\fs.length<=1000/\H dx=P3^.own a:=by
 let#[d,z,ne,ob,mA,n,r,q]:=(hok a _ e);exact#[mA,#[ob,n,ne],r,q,z,d]
end
structure Cls (K:Frag) (C:Ch):Prop where
 pg:PySem.W.plainGet K C gk=n_
 hd:PySem.W.hasDictIn K C=n_
 po:PySem.W.plainOver K C=n_
 sa:PySem.W.findIn K (.ref C) "__setattr__"=P3^P3^.builtin "object.__setattr__"
def Cls.get{K:Frag}{C:Ch}(c:Cls K C)(f:Str):PySem.W.plainGet K C f=n_:=c.pg
def NoAttr(K:Frag)(C:Ch)(f:Str):Prop:=PySem.W.findIn K (.ref C) f=P3 m_
def NoAttr.taker{K:Frag}{C:Ch}{f:Str}(n:NoAttr K C f):PySem.W.takerIn K C f=P3 m_:=by
 unfold PySem.W.takerIn;rw[n];rfl
structure eA (K:Frag) (C:Ch) (f:Str) (v:V) (u:Db):Prop where
 at_:PySem.W.findIn K (.ref C) f=P3 (P3 u)
 rel:RelV v u
 get:PySem.W.specialIn K u "__get__"=P3 m_
 cp:PySem.W.copiedNames.contains f=o_
structure Xu (K:Frag) (C:Ch) (m:Str) (f:Ch):Prop where
 at_:PySem.W.findIn K (.ref C) m=P3 (P3^.ref f)
 fn:PySem.W.isFn K^.ref f=n_
 kp:keepIn K^.ref f=n_
section
variable {X:Cx}{zG:p_ (Addr×Obj)}{Z:St}{H:Hp}{s:Shared}{a C dx:Addr}{fs:p_ (Str×V)}{f:Str}{v:V}{A:Around}{E:Value->Shared->Prop}
def QI{b:Bool}{Q:Db->Go->Prop}(I:Inv X zG Z H s)(e:H a=P3^.vol^.ins C dx fs)(c:Cls X.K C)(n:NoAttr X.K C f)(l:fs.lookup f=P3 v)
  (h:∀u s',Inv X zG Z H s'->RelV v u->Q u s'):wpAny (model X.prog X.w) A (getAttr (.ref a) f b) Q E s:=by
 let#[mA,O,r,_,_,_]:=IJ I.hok e;let#[u,hu,ru]:=RelO.some_of (v:=v) (o:=mA f) (by grind);exact XI I.kIn O (c.get f) c.hd n hu (TB ru)^h u _ (I.tok _) ru
def Jh{m:Str}{g:Ch}{pl:Sem Bool}{Q:Db×p_ Db->Go->Prop}(I:Inv X zG Z H s)(e:H a=P3^.vol^.ins C dx fs)(c:Cls X.K C)(k:Xu X.K C m g)(l:fs.lookup m=m_)
  (h:Q (.ref g,[.ref a]) s):wpAny (model X.prog X.w) A (getMethod (.ref a) m pl) Q E s:=by
 let#[mA,O,r,_,_,_]:=IJ I.hok e;exact Vf I.kIn O (c.get m) k.at_ k.fn (RelO.none_of^by grind) h
def Pc{y:V}{u:Db}{Q:Unit->Go->Prop}(I:Inv X zG Z H s)(e:H a=P3^.vol^.ins C dx fs)(c:Cls X.K C)(n:NoAttr X.K C f)(hl:fs.length<1000)(ry:RelV y u)
  (h:∀s',Inv X zG Z (Aq H a^.vol^.ins C dx^DV f y fs) s'->Q () s'):wpAny (model X.prog X.w) A (setAttr (.ref a) f u) Q E s:=by
 let#[mA,O,r,wi,_,ho]:=IJ I.hok e;have hz:(fs.map (·.1)).length<=sizeLine:=by rw[Ev,fA];lk
 refine WZ I.kIn O c.sa c.po n.taker c.hd wi hz λh' O' sb=>h _ ?_;have hd:∃o,h'.get? dx=P3 o:=let #[o,_,_,e',_]:=O'.ns;#[o,e']
 refine I.write (x:=a) (e:=dx) (by rw[e];exact gB) (.inr ho) (λb q hb z=>(sb.2 b hb).trans z) hd ?_;refine#[by rw[AK O.ne];exact ho,?_,O.ne,O'.obj,_,O'.ns,λg=>?_,λg hg=>?_]
 .have:=HU f y fs;lk
 .show RelO ((DV f y fs).lookup g) (if g=f then P3 u else mA g)
  rw[HS]
  by_cases q:g=f
  .rw[if_pos q,if_pos q];exact ry
  .rw[if_neg q,if_neg q];exact r g
 .by_cases q:g=f
  .rw[q];exact(Gw f y fs).1
  .refine(Gw f y fs).2 g^wi g λz=>hg ?_
   show(if g=f then P3 u else mA g)=m_;rw[if_neg q];exact z
def Inv.made(I:Inv X zG Z H s):Inv X zG Z (Aq (Aq H s.heap.objs.size^.own (s.heap.objs.size+1)) (s.heap.objs.size+1)^.vol^.ins C s.heap.objs.size [])
  {s with heap:=(s.heap.push PySem.W.emptyDict).push^PySem.W.instObj C s.heap.objs.size}:=by
 have e1:(s.heap.push PySem.W.emptyDict).get? s.heap.objs.size=P3 PySem.W.emptyDict:=TM s.heap rfl
 have e2:((s.heap.push PySem.W.emptyDict).push^PySem.W.instObj C s.heap.objs.size).get? (s.heap.objs.size+1)=P3^PySem.W.instObj C s.heap.objs.size:=by
  have:=TM (s.heap.push PySem.W.emptyDict) (o:=PySem.W.instObj C s.heap.objs.size) rfl
  rwa[fW]at this
 have e3:(s.heap.push PySem.W.emptyDict).Ns s.heap.objs.size (λ_=>m_):=#[PySem.W.emptyDict,#[],_,e1,rfl,(λe he=>absurd he^by simp),λ_=>rfl];have I1:=I.laid (a:=s.heap.objs.size) (o:=.own (s.heap.objs.size+1)) (h':=s.heap.push PySem.W.emptyDict) (t':=s.toks) (λb u q=>FM _ q) (Op _) #[_,e1];refine I1.laid (a:=s.heap.objs.size+1) (o:=.vol^.ins C s.heap.objs.size []) (t':=s.toks) (λb u q=>FM _ q) (jQ^fW _ _) ?_;have ne:s.heap.objs.size≠s.heap.objs.size+1:=eI^gf _;refine#[by rw[AK ne,AM],eP _,ne,e2,λ_=>m_,(Heap.Ns1.of_empty e3).at λo q=>FM _ q,λ_=>gB,λy hy=>absurd rfl hy]
def Xj{prog:eT}{w:eY}{env:Env}{e:eS}{f:Str}{pos:Pos}{s:Go}{Q:Db->Go->Prop}(hb:attributeBase e f env^eval e env=eval e env)
  (h:wpAny (model prog w) A (eval e env) (λo s₁=>wpAny (model prog w) A (getAttr o f n_) Q E s₁) E s):wpAny (model prog w) A (eval (.Attribute e f pos) env) Q E s:=
 Attribute_any_ h (by rw[arm_eval_Attribute,hb])
end
def cZ(K:Frag)(ta:TE)(f:Str):TE:=λZ H Q=>ta Z H λx H1=>∃a C dx fs v,x=.ref a/\H1 a=P3^.vol^.ins C dx fs/\Cls K C/\NoAttr K C f/\fs.lookup f=P3 v/\Q v H1
def ci(K:Frag)(ta tv:TE)(f:Str):TS:=λD Z H=>tv Z H λy H1=>ta Z H1 λx H2=>∃a C dx fs,x=.ref a/\H2 a=P3^.vol^.ins C dx fs/\Cls K C/\NoAttr K C f/\fs.length<1000 /\
 D.nx Z (Aq H2 a^.vol^.ins C dx^DV f y fs)
section
variable {X:Cx}{o e value:Expr}{f:Str}{pos pos':Pos}{ta tv:TE}
def ZL(he:PE X e ta)(hb:attributeBase e f X.env^eval e X.env=eval e X.env):PE X (.Attribute e f pos)^cZ X.K ta f:=by
 intro zG s Z H Q I h;refine Xj hb^BD (he _ s Z H _ I h) λu s1 #[x,H1,I1,rx,a,C,dx,fs,v,ex,ea,c,n,l,q]=>?_;subst ex;obtain rfl:u=eJ a:=rx;exact QI I1 ea c n l λu' s2 I2 ru=>#[v,H1,I2,ru,q]
def ZD(ha:PE X o ta)(hv:PE X value tv)(hs:swapsWith value (P3^.Attribute o f pos') pos.line X.env=pure o_):PS X (.Assign [.Attribute o f pos'] value pos)^ci X.K ta tv f:=by
 intro zG s Z H D I h;refine plainObj_wpAny_Assign_Attribute (BD (hv _ s Z H _ I h) λu s1 #[y,H1,I1,ry,q]=>BD (ha _ s1 Z H1 _ I1 q) λov s2 #[x,H2,I2,rx,a,C,dx,fs,ex,ea,c,n,l,q2]=>?_) hs;subst ex;obtain rfl:ov=eJ a:=rx;exact Pc I2 ea c n l ry λs3 I3=>#[Z,_,I3,q2]
end
section
variable {X:Cx}{zG:p_ (Addr×Obj)}{Z:St}{H:Hp}{s:Shared}{A:Around}{E:Value->Shared->Prop}{Q:Value->Shared->Prop}{c:Value}{b:Bool}
inductive Fe (K:Frag) (H:Hp):V->Db->Prop where
 |non:Fe K H .non^.type "NoneType"
 |bl (x:Bool):Fe K H (.bl x)^.type "bool"
 |int (i:Int):Fe K H (.int i)^.type "int"
 |str (x:Str):Fe K H (.str x)^.type "str"
 |flt (x:UInt64):Fe K H (.flt x)^.type "float"
 |lst {a:Ch}{xs:List V} (e:H a=P3^.lst xs):Fe K H (.ref a)^.type "list"
 |frz {a:Ch}{o:Obj}{xs:List V} (e:H a=P3^.frz o^.lst xs):Fe K H (.ref a)^.type "list"
 |tup {a:Ch}{xs:List V} (e:H a=P3^.tup xs):Fe K H (.ref a)^.type "tuple"
 |dF {a:Ch}{o:Obj}{kvs:List (Key×V)} (e:H a=P3^.frz o^.dK kvs):Fe K H (.ref a)^.type "dict"
 |dK {a:Ch}{kvs:List (Key×V)} (e:H a=P3^.dK kvs):Fe K H (.ref a)^.type "dict"
 |dT {a:Ch}{kvs:List (List Key×V)} (e:H a=P3^.dT kvs):Fe K H (.ref a)^.type "dict"
 | ins {a C dx:Ch}{fs:List (Str×V)} (e:H a=P3^.vol^.ins C dx fs) (cl:Cls K C) (ha:PySem.W.findIn K (.ref C) "__class__"=P3^P3^.builtin "object.__class__")
   (hn:PySem.W.specialIn K (.builtin "object.__class__") "__get__"=P3^P3^.builtin "getset_descriptor.__get__") (htk:PySem.W.takesIn K^.builtin "object.__class__"=P3 n_)
   (hm:PySem.W.mroIn K C^.type "object"=P3 n_):Fe K H (.ref a)^.ref C
def S7{x:V}{u t:Db}(I:Inv X zG Z H s)(rx:RelV x u)(ty:Fe X.K H x t)(e:PySem.W.kitOne X.K t c=P3 b)(h:∀tk,Q (.bool b) {s with toks:=tk}):
  wpAny (model X.prog X.w) A (call (.builtin "isinstance") [u,c]) Q E s:=by
 cases ty with
 |non=>cases(show u=ej from rx);exact PySem.W.kia_one PySem.W.kitx_none I.kIn gB e (λz=>nomatch z) h
 |bl y=>cases(show u=iN y from rx);exact PySem.W.kia_one PySem.W.kitx_bool I.kIn gB e (λz=>nomatch z) h
 |int i=>let#[t,q]:=(show ∃t,u=Value.int i t from rx);cases q;exact PySem.W.kia_one PySem.W.kitx_int I.kIn gB e (λz=>nomatch z) h
 |str y=>let#[t,q]:=(show ∃t,u=g_ y t from rx);cases q;exact PySem.W.kia_one PySem.W.kitx_str I.kIn gB e (λz=>nomatch z) h
 |flt y=>let#[t,q]:=(show ∃t,u=Value.float y t from rx);cases q;exact PySem.W.kia_one PySem.W.kitx_float I.kIn gB e (λz=>nomatch z) h
 |@lst a xs ea=>
  cases(show u=eJ a from rx);let#[_,_,n,_,h1]:=(show ObjOk X.prog X.w H s.heap a^.lst xs from I.hok a _ ea);exact PySem.W.kia_one PySem.W.kitx_list I.kIn #[_,h1,rfl] e (λz=>nomatch z) h
 |@frz a ob xs ea=>
  cases(show u=eJ a from rx);let#[_,_,_,n,_,h1]:=(show ObjOk X.prog X.w H s.heap a^.frz ob^.lst xs from I.hok a _ ea);exact PySem.W.kia_one PySem.W.kitx_list I.kIn #[_,h1,rfl] e (λz=>nomatch z) h
 |@tup a xs ea=>
  cases(show u=eJ a from rx);let#[_,_,_,p]:=(show ObjOk X.prog X.w H s.heap a^.tup xs from I.hok a _ ea);let#[o,h1,h2,_]:=p;exact PySem.W.kia_one PySem.W.kitx_tuple I.kIn #[o,h1,h2] e (λz=>nomatch z) h
 |@dF a ob kvs ea=>
  cases(show u=eJ a from rx);let#[_,_,_,vs,_,p]:=(show ObjOk X.prog X.w H s.heap a^.frz ob^.dK kvs from I.hok a _ ea);let#[o,es,ep,h1,h2,_]:=p;exact PySem.W.kia_one PySem.W.kitx_dict I.kIn #[o,h1,h2.1] e (λz=>nomatch z) h
 |@dK a kvs ea=>
  cases(show u=eJ a from rx);let#[_,_,vs,_,p]:=(show ObjOk X.prog X.w H s.heap a^.dK kvs from I.hok a _ ea);let#[o,es,ep,h1,h2,_]:=p;exact PySem.W.kia_one PySem.W.kitx_dict I.kIn #[o,h1,h2.1] e (λz=>nomatch z) h
 |@dT a kvs ea=>
  cases(show u=eJ a from rx);let#[_,_,xs,_,o,es,ep,h1,h2,_]:=(show ObjOk X.prog X.w H s.heap a^.dT kvs from I.hok a _ ea);exact PySem.W.kia_one PySem.W.kitx_dict I.kIn #[o,h1,h2.1] e (λz=>nomatch z) h
 |@ins a C dx fs ea cl ha hn htk hm=>
  cases(show u=eJ a from rx);let#[mA,O,_]:=IJ I.hok ea;let#[od,J,_]:=O.look;exact PySem.W.kia_one (PySem.W.kitx_own (cl.get _) cl.hd ha hn htk hm) I.kIn J e (λz=>nomatch z) h
end
structure Room (k:Nat) (A:e_):Prop where
 hd:A.handled=m_
 dp:A.depth+3*k+5<recursionLimit
 un:A.units+16*k+200<cLine
 gd:A.guards=P3 []
def Room.mono{j k:Nat}{A:e_}(r:Room k A)(h:j<=k):Room j A:=#[r.hd,by have:=r.dp;lk,by have:=r.un;lk,by first|exact r.gd|grind|grind]
def Room.deeper{k:Nat}{A:e_}(r:Room (k+1) A)(env:Env):Room k^A.deeper env:=
 #[r.hd,by have:=r.dp;show A.depth+1+3*k+5<_;lk,by have:=r.un;show A.units+3+16*k+200<_;lk,by first|exact r.gd|omega|grind]
def Room.in1{k:Nat}{A:e_}(r:Room (k+1) A):Room k A.in1:=
 #[r.hd,by have:=r.dp;grind,by have:=r.un;grind,by first|exact r.gd|omega|grind]
def QB{A:e_}{C:Ch}{us:p_ Db}{kw:p_ (Str×Db)}:(A.under^.builtin "type.__call__" #[.ref C::us,kw]).depth=A.depth+1:=by
 first|rfl|omega
def QA{A:e_}{C:Ch}{us:p_ Db}{kw:p_ (Str×Db)}:(A.under^.builtin "type.__call__" #[.ref C::us,kw]).units=A.units+1:=by
 first|rfl|omega
def Room.make{k:Nat}{A:e_}(r:Room (k+1) A)(C:Ch)(us:p_ Db)(kw:p_ (Str×Db)):Room k^A.under^.builtin "type.__call__" #[.ref C::us,kw]:=
 #[r.hd,by have:=r.dp;rw[QB];lk,by have:=r.un;rw[QA];lk,by first|exact r.gd|omega|grind]
def Room.depth{k:Nat}{A:e_}(r:Room k A):A.depth<recursionLimit:=by have:=r.dp;lk
def Room.units{k:Nat}{A:e_}(r:Room k A):A.units+64<cLine:=by have:=r.un;lk
def Room.units0{k:Nat}{A:e_}(r:Room k A):A.units<cLine:=by have:=r.un;lk
def R7:TA:=λ_ H Q=>Q [] H
def Qr(ta:TE)(tr:TA):TA:=λZ H Q=>ta Z H λx H1=>tr Z H1 λxs H2=>Q (x::xs) H2
section
variable {X:Cx}{e:Expr}{es:p_ Expr}{te:TE}{t:TA}{pos:Pos}
def Cf:PA X [] R7:=λ_ _ _ _ H Q I h=>iE #[[],H,I,.nil,h]
def Br(ha:PE X e te)(hr:PA X es t)(hs:starEach (e::es) X.env=(o_,eval e X.env)::starEach es X.env:=by rfl):PA X (e::es)^Qr te t:=by
 intro pos zG s Z H Q I h;rw[hs];exact gl^BD (ha _ s Z H _ I h) λu s1 #[x,H1,I1,r1,q1]=>BD (hr _ _ s1 Z H1 _ I1 q1) λus s2 #[xs,H2,I2,r2,q2]=>#[_,H2,I2,.cons r1 r2,q2]
def cT(t:TA):TE:=λZ H Q=>t Z H λxs H1=>xs.length<=sizeLine/\∀p,H1 p=m_->Q (.ref p)^Aq H1 p^.tup xs
def cV(t:TA):TE:=λZ H Q=>t Z H λxs H1=>xs.length<=sizeLine/\∀p,H1 p=m_->Q (.ref p)^Aq H1 p^.lst xs
def ZH{x1}(h:PA X es t):PE X (.Tuple es x1 pos)^cT t:=by
 intro zG s Z H Q I hq;refine wpAny_Tuple_spliced^BD (h pos zG s Z H _ I hq) λus s1 #[xs,H1,I1,r,z,q]=>#[by rw[←r.length];exact z,?_];have hf:H1 s1.heap.objs.size=m_:=I1.hok.fresh^Op _;refine#[.ref s1.heap.objs.size,Aq H1 s1.heap.objs.size^.tup xs,I1.laid (t':=s1.toks) (λb u e=>FM _ e) (Op _) ?_,rfl,q _ hf];exact#[z,us,r,IsTupN.new _ _]
def Pz(h:PA X es t):PE X (.List es pos)^cV t:=by
 intro zG s Z H Q I hq;refine wpAny_List_spliced^BD (h pos zG s Z H _ I hq) λus s1 #[xs,H1,I1,r,z,q]=>#[by rw[←r.length];exact z,?_];have hf:H1 s1.heap.objs.size=m_:=I1.hok.fresh^Op _;refine#[.ref s1.heap.objs.size,Aq H1 s1.heap.objs.size^.lst xs,I1.laid (t':=s1.toks) (λb u e=>FM _ e) (Op _) ?_,rfl,q _ hf];exact#[z,us,0,r,TM _ rfl]
end
abbrev Sp:=p_ V->Hp->VK->XK->Prop
abbrev WH:=p_ Env->Hp->Go->XK->Db->Go->Prop
structure Env0 (P:eT) (w:eY) (K:Frag) (mg:Str->Option Db) (base:eK) (A:e_) (outer:List Env) (s:Go) (H:Hp):Prop where
 frames:A.frames=P3 outer
 mod:Mod K mg base
 bs:∀b o,base.get? b=P3 o->s.heap.get? b=P3 o/\H b=m_
 bsz:base.objs.size<=s.heap.objs.size
 funs:s.heap.FunFrames base outer
 frf:∀b∈RO outer,H b=m_
 hok:HOk P w H s.heap
 bare:im s.gens
def CE(outer:p_ Env)(P:eT)(w:eY)(H:Hp)(s:Go)(Q:VK)(u:Db)(s':Go):Prop:=
 ∃v H',s'.os=s.os/\im s'.gens/\Un (RO outer) [] H H' s.heap s'.heap/\HOk P w H' s'.heap/\RelV v u/\Q v H'
def CR(CX:WH)(outer:p_ Env)(P:eT)(w:eY)(H:Hp)(s:Go)(Q:VK)(E:XK)(r:Result)(s':Go):Prop:=
 match r with
 |.ok (.ret u)=>CE outer P w H s Q u s'
 |.ok _=>False
 |.error e=>CX outer H s E e s'
structure FnOk (P:eT) (w:eY) (K:Frag) (mg:Str->Option Db) (base:eK) (CX:WH) (k:Nat) (f:Ch) (fd:fL) (ps:List Str) (sp:Sp):Prop where
 len:∀vs H Q E,sp vs H Q E->vs.length=ps.length
 run:∀(A:e_) (outer:List Env) (s:Go) (H:Hp) (args:Args) (us:List Db) (vs:List V) (Q:VK) (E:XK),Room k A->Env0 P w K mg base A outer s H->kC s fd args^ps.zip us->Vals vs us->sp vs H Q E->
  codeAny (model P w) A (.call (.ref f) args) (CR CX outer P w H s Q E) s
def Env0.make{P:eT}{w:eY}{K:Frag}{mg:Str->q_ Db}{base:eK}{A:e_}{outer:p_ Env}{s:Go}{H:Hp}(e:Env0 P w K mg base A outer s H)(C:Ch)(us:p_ Db)(kw:p_ (Str×Db)):
  Env0 P w K mg base (A.under^.builtin "type.__call__" #[.ref C::us,kw]) outer s H:=#[by first|exact e.frames|grind,e.mod,e.bs,e.bsz,e.funs,e.frf,e.hok,e.bare]
def Env0.in1{P:eT}{w:eY}{K:Frag}{mg:Str->q_ Db}{base:eK}{A:e_}{outer:p_ Env}{s:Go}{H:Hp}(e:Env0 P w K mg base A outer s H):
  Env0 P w K mg base A.in1 outer s H:=#[e.frames,e.mod,e.bs,e.bsz,e.funs,e.frf,e.hok,e.bare]
section
variable {X:Cx}{zG:p_ (Addr×Obj)}{Z:St}{H:Hp}{s s':Shared}
def Inv.env0(I:Inv X zG Z H s):Env0 X.prog X.w X.K X.mg X.base X.A X.stack s H:=
 #[I.ok.frames,I.ok.mod,I.bs,eR I.ok.bsz I.sz,I.stack,I.stkFree,I.hok,I.bare]
def Inv.after{Q:VK}{u:Db}(I:Inv X zG Z H s)(h:CE X.stack X.prog X.w H s Q u s'):EP X zG Z Q u s':=by
 let#[v,H',os,bare,un,hok,r,q]:=h;let#[hh,g,d,t,os']:=s';obtain rfl:os'=s.os:=os;exact#[v,H',I.call un hok bare λb z=>absurd z^by simp,r,q]
end
def Qs(sp:Sp)(dvs:p_ V)(E:XK)(t:TA):TE:=λZ H Q=>t Z H λvs H1=>sp (vs++dvs) H1 Q E
def X3(C:Ch)(m:Str)(sp:Sp)(dvs:p_ V)(E:XK)(ta:TE)(t:TA):TE:=λZ H Q=>ta Z H λx H1=>∃a dx fs,x=.ref a/\H1 a=P3^.vol^.ins C dx fs/\fs.lookup m=m_ /\
 t Z H1 λvs H2=>sp (x::(vs++dvs)) H2 Q E
def aX(C:Ch)(sp:Sp)(dvs:p_ V)(E:XK)(t:TA):TE:=λZ H Q=>t Z H λvs H1=>∀x dx,H1 x=m_->H1 dx=m_->dx≠x->
 sp (.ref x::(vs++dvs)) (Aq (Aq H1 dx^.own x) x^.vol^.ins C dx []) (λv H2=>v=.non/\Q (.ref x) H2) E
def Binds(K:Frag)(fd:fL)(ps:p_ Str)(ds:p_ Db):Prop:=
 ∀(s:Go) (us:p_ Db),K.In s.heap->(us++ds).length=ps.length->kC s fd #[us,[]]^ps.zip (us++ds)
def Binds.all{K:Frag}{fd:fL}{ps:p_ Str}(h:∀us:p_ Db,us.length=ps.length->bindArgs fd #[us,[]]=pure^ps.zip us):Binds K fd ps []:=λs us _ hl=>by
 rw[e7]at hl ⊢;exact .of_eq^h us hl
def EV(CX:WH)(X:Cx)(E:XK):Prop:=∀(zG:p_ (Ch×Obj)) (Z:St) (H:Hp) (s:Go) (e:Db) (s':Go),Inv X zG Z H s->CX X.stack H s E e s'->X.xe e s'
section
variable {X:Cx}{CX:WH}{k:Nat}{f C:Addr}{fd:FuncData}{ps:p_ Str}{sp:Sp}{dvs:p_ V}{ds:p_ Value}{E:XK}{x m:Str}{p pos apos:Pos}{e o:Expr}{es:p_ Expr}{ta:TE}{t:TA}
def MB{zG:p_ (Ch×Obj)}{Z:St}{H:Hp}{s:Go}{Q:VK}{us:p_ Db}{vs:p_ V}(F:FnOk X.prog X.w X.K X.mg X.base CX k f fd ps sp)(hr:Room k X.A)(hb:Binds X.K fd ps ds)(hd:Vals dvs ds)(hx:EV CX X E)
  (I:Inv X zG Z H s) (r:Vals vs us) (h:sp (vs++dvs) H Q E):wpAny (model X.prog X.w) X.A (call (.ref f) us) (EP X zG Z Q) X.xe s:=by
 have r2:Vals (vs++dvs) (us++ds):=r.append hd;have hl:(us++ds).length=ps.length:=by rw[←r2.length];exact F.len _ _ _ _ h
 refine wpAny_call^ic (F.run X.A X.stack s H #[us,[]] (us++ds) (vs++dvs) Q E hr I.env0 (hb s us I.kIn hl) r2 h) λr s' hq=>?_;cases r with
 |error e=>exact hx zG Z H s e s' I hq
 |ok fl=>
  cases fl with
  |ret u=>exact I.after hq
  |next=>exact fO hq
  |brk=>exact fO hq
  |cont=>exact fO hq
def MP(F:FnOk X.prog X.w X.K X.mg X.base CX k f fd ps sp)(hr:Room k X.A)(hg:Gl X x)(hm:X.mg x=P3^.ref f)(hk:keepIn X.K^.ref f=n_)(hb:Binds X.K fd ps ds)(hd:Vals dvs ds)(hx:EV CX X E)
  (ha:PA X (e::es) t) (hdb:(x==("__debug__":Str))=o_:=by decide) (he:starEach (e::es) X.env=(o_,eval e X.env)::starEach es X.env:=by rfl) (hpl:(backTo pos^starEach es X.env).any (·.1)=o_:=by rfl):
  PE X (.Call (.Name x p) (e::es) [] pos) (Qs sp dvs E t):=λzG s Z H Q I h=>f_^GB I hg hm (PySem.W.callWith_K I.ok.mod.kin hk (BD (ha _ _ s Z H _ I h) λus s1 #[vs,H1,I1,r,q]=>#[I1.kIn,MB F hr hb hd hx I1 r q]) he hpl) hdb
def U4(F:FnOk X.prog X.w X.K X.mg X.base CX k f fd ps sp)(hr:Room k X.A)(hg:Gl X x)(hm:X.mg x=P3^.ref f)(hk:keepIn X.K^.ref f=n_)(hb:Binds X.K fd ps ds)(hd:Vals dvs ds)(hx:EV CX X E)
  (hdb:(x==("__debug__":Str))=o_:=by decide):PE X (.Call (.Name x p) [] [] pos)^Qs sp dvs E R7:=λzG s Z H Q I h=>f_^GB I hg hm (PySem.W.callWith_K0 I.kIn hk^MB F hr hb hd hx I .nil h) hdb
def Wn{pl:Sem Bool}(he:PE X o ta)(c:Cls X.K C)(hm:Xu X.K C m f)(F:FnOk X.prog X.w X.K X.mg X.base CX k f fd ps sp)(hr:Room k X.A)(hb:Binds X.K fd ps ds)(hd:Vals dvs ds)(hx:EV CX X E)(ha:PA X (e::es) t)
  (hst:starEach (e::es) X.env=(o_,eval e X.env)::starEach es X.env:=by rfl) (hpl:(backTo pos^starEach es X.env).any (·.1)=o_:=by rfl)
  (ht:eval (.Call (.Attribute o m apos) (e::es) [] pos) X.env=(do
   let ov ←eval o X.env
   standAt apos.atName
   let (f,first) ←holding [ov] (getMethod ov m pl)
   callWith pos f first (backTo pos^starEach (e::es) X.env) (backToKw pos^keywordEach [] X.env)):=by rfl):
  PE X (.Call (.Attribute o m apos) (e::es) [] pos) (X3 C m sp dvs E ta t):=by
 intro zG s Z H Q I h;refine PySem.W.methodCall_KW (BD (he _ s Z H _ I h) λu s1 #[x,H1,I1,rx,a,dx,fs,ex,ea,l,q]=>?_) ht;subst ex;obtain rfl:u=eJ a:=rx;exact Jh I1 ea c hm l^PySem.W.callWith_K I.ok.mod.kin hm.kp (BD (ha _ _ s1 Z H1 _ I1 q) λus s2 #[vs,H2,I2,r,q2]=>#[I2.kIn,MB (vs:=.ref a::vs) F hr hb hd hx I2 (.cons rfl r) q2]) hst hpl
def U0{pl:Sem Bool}(he:PE X o ta)(c:Cls X.K C)(hm:Xu X.K C m f)(F:FnOk X.prog X.w X.K X.mg X.base CX k f fd ps sp)(hr:Room k X.A)(hb:Binds X.K fd ps ds)(hd:Vals dvs ds)(hx:EV CX X E)
  (ht:eval (.Call (.Attribute o m apos) [] [] pos) X.env=(do
   let ov ←eval o X.env
   standAt apos.atName
   let (f,first) ←holding [ov] (getMethod ov m pl)
   callWith pos f first (backTo pos^starEach [] X.env) (backToKw pos^keywordEach [] X.env)):=by rfl):
  PE X (.Call (.Attribute o m apos) [] [] pos) (X3 C m sp dvs E ta R7):=by
 intro zG s Z H Q I h;refine PySem.W.methodCall_KW (BD (he _ s Z H _ I h) λu s1 #[x,H1,I1,rx,a,dx,fs,ex,ea,l,q]=>?_) ht;subst ex;obtain rfl:u=eJ a:=rx;exact Jh I1 ea c hm l^PySem.W.callWith_K0 I1.kIn hm.kp^MB (vs:=[.ref a]) F hr hb hd hx I1 (.cons rfl .nil) q
structure Mk (K:Frag) (C f:Ch):Prop where
 makes:PySem.W.makesIn K C=n_
 init:PySem.W.findIn K (.ref C) "__init__"=P3 (P3^.ref f)
 fn:PySem.W.isFn K^.ref f=n_
 kp:keepIn K^.ref C=n_
def UP{zG:p_ (Ch×Obj)}{Z:St}{H:Hp}{s:Go}{Q:VK}{us:p_ Db}{vs:p_ V}(M:Mk X.K C f)(F:FnOk X.prog X.w X.K X.mg X.base CX k f fd ps sp)(hr:Room (k+1) X.A)(hb:Binds X.K fd ps ds)(hd:Vals dvs ds)
  (hx:EV CX X E) (I:Inv X zG Z H s) (r:Vals vs us)
  (h:∀x dx,H x=m_->H dx=m_->dx≠x->sp (.ref x::(vs++dvs)) (Aq (Aq H dx^.own x) x^.vol^.ins C dx []) (λv H2=>v=.non/\Q (.ref x) H2) E):
  wpAny (model X.prog X.w) X.A (call (.ref C) us) (EP X zG Z Q) X.xe s:=by
 have hq:=h (s.heap.objs.size+1) s.heap.objs.size (I.hok.fresh^fR _) (I.hok.fresh^Op _)^eI^gf _;have I2:=Inv.made (C:=C) I;have r2:Vals (V.ref (s.heap.objs.size+1)::(vs++dvs)) (eJ (s.heap.objs.size+1)::(us++ds)):=.cons rfl (r.append hd)
 have hl:(eJ (s.heap.objs.size+1)::us++ds).length=ps.length:=by
  have e:=r2.length;rw[F.len _ _ _ _ hq]at e;exact e.symm
 refine wpAny_call (VH (f:=f) I.kIn M.makes M.init (beq_iff_eq.mp M.fn) (ic (F.run _ X.stack _ _ #[eJ (s.heap.objs.size+1)::us,[]] (eJ (s.heap.objs.size+1)::(us++ds)) _ _ E (hr.make C us [])
  (I2.env0.make C us []) (hb _ (eJ (s.heap.objs.size+1)::us) I2.kIn hl) r2 hq) λr s' hq'=>?_))
 cases r with
 |error e=>exact hx zG Z _ _ e s' I2 hq'
 | ok fl=>
  cases fl with
  |ret u=>
   let#[v,H',I3,rv,ev,q3]:=I2.after hq';subst ev;exact#[rv,#[V.ref (s.heap.objs.size+1),H',I3,rfl,q3]]
  |next=>exact fO hq'
  |brk=>exact fO hq'
  |cont=>exact fO hq'
def Wo(M:Mk X.K C f)(F:FnOk X.prog X.w X.K X.mg X.base CX k f fd ps sp)(hr:Room (k+1) X.A)(hg:Gl X x)(hm:X.mg x=P3^.ref C)(hb:Binds X.K fd ps ds)(hd:Vals dvs ds)(hx:EV CX X E)
  (ha:PA X (e::es) t) (hdb:(x==("__debug__":Str))=o_:=by decide) (he:starEach (e::es) X.env=(o_,eval e X.env)::starEach es X.env:=by rfl) (hpl:(backTo pos^starEach es X.env).any (·.1)=o_:=by rfl):
  PE X (.Call (.Name x p) (e::es) [] pos) (aX C sp dvs E t):=λzG s Z H Q I h=>f_^GB I hg hm (PySem.W.callWith_K I.ok.mod.kin M.kp (BD (ha _ _ s Z H _ I h) λus s1 #[vs,H1,I1,r,q]=>#[I1.kIn,UP M F hr hb hd hx I1 r q]) he hpl) hdb
end
section
variable {fd:FuncData}{ps ks:p_ Str}
structure dH (K:Frag) (fd:fL) (ps ks:List Str) (g:List Db->List Db->List Db) (gV:List V->List V->List V):Prop where
 to:∀(s:Go) (us ws:List Db),K.In s.heap->(g us ws).length=ps.length->kC s fd #[us,ks.zip ws] (ps.zip^g us ws)
 rel:∀{vs:List V}{us:List Db}{zs:List V}{ws:List Db},Vals vs us->Vals zs ws->Vals (gV vs zs)^g us ws
end
structure AX (N P:List Str) (sc:gh):Prop where
 kind:sc.kind=.function
 co:sc.isCoroutine=o_
 gen:sc.isGenerator=o_
 nd:N.Nodup
 pre:N.take P.length=P
 par:∀x∈P,sc.names.lookup x=P3 .local\/sc.names.lookup x=P3 .cell
 nofree:∀y∈sc.names,y.2≠.free
theorem Ld{kindOf:Str->q_ gg}{x:Str}:∀{binds:p_ (Str×Db)}{m:Str->q_ Db},(∀v,(x,v)∉binds)->bindL kindOf binds m x=m x
 |[],_,_=>rfl
 |(n,v)::r,m,h=>by
  unfold bindL;rw[Ld λw hw=>h w^TW _ hw]
  split
  .grind
  .rfl
theorem Lf{kindOf:Str->q_ gg}{x:Str}:∀{binds:p_ (Str×Db)}{m:Str->q_ Db},(∀v,(x,v)∉binds)->bindC kindOf binds m x=m x
 |[],_,_=>rfl
 |(n,v)::r,m,h=>by
  unfold bindC;rw[Lf λw hw=>h w^TW _ hw]
  split
  .rfl
  grind
theorem Le{kindOf:Str->q_ gg}{x:Str}{v:Db}:∀{P:p_ Str}{vs:p_ Db}{i:Nat}{m:Str->q_ Db},P.Nodup->P[i]?=P3 x->vs[i]?=P3 v->kindOf x=P3 .local->
  bindL kindOf (P.zip vs) m x=P3 v
 |[],_,_,_,_,h,_,_=>by simp at h
 |_::_,[],_,_,_,_,h,_=>by simp at h
 |p::P,w::vs,0,m,nd,h1,h2,hk=>by
  simp at h1 h2;subst h1;subst h2
  show bindL kindOf ((p,w)::P.zip vs) m p=_;unfold bindL;rw[Ld λv hv=>(eQ.mp nd).1 (iW hv).1,if_pos hk];simp
 |p::P,w::vs,i+1,m,nd,h1,h2,hk=>by
  unfold bindL;exact Le (i:=i) (eQ.mp nd).2 (by simp_all) (by simp_all) hk
theorem Lg{kindOf:Str->q_ gg}{x:Str}{v:Db}:∀{P:p_ Str}{vs:p_ Db}{i:Nat}{m:Str->q_ Db},P.Nodup->P[i]?=P3 x->vs[i]?=P3 v->kindOf x≠P3 .local->
  bindC kindOf (P.zip vs) m x=P3 v
 |[],_,_,_,_,h,_,_=>by simp at h
 |_::_,[],_,_,_,_,h,_=>by simp at h
 |p::P,w::vs,0,m,nd,h1,h2,hk=>by
  simp at h1 h2;subst h1;subst h2
  show bindC kindOf ((p,w)::P.zip vs) m p=_;unfold bindC;rw[Lf λv hv=>(eQ.mp nd).1 (iW hv).1,if_neg hk];simp
 |p::P,w::vs,i+1,m,nd,h1,h2,hk=>by
  unfold bindC;exact Lg (i:=i) (eQ.mp nd).2 (by simp_all) (by simp_all) hk
def start(N:p_ Str)(vs:p_ V):St:=vs.map P3++UF (N.length - vs.length) m_
def Jt(CX:WH)(P:eT)(w:eY)(K:Frag)(mg:Str->q_ Db)(base:eK)(N:p_ Str)(qual:Str)(scope:gh)(f:Ch)(cd:Db)(A:e_)(outer:p_ Env)(s:Go)(H:Hp)(E:XK):Cx where
 prog:=P
 w:=w
 K:=K
 mg:=mg
 base:=base
 A:=A.deeper (envOfC qual scope s.heap.objs.size f cd)
 N:=N
 s₀:=s
 H₀:=H
 env:=envOfC qual scope s.heap.objs.size f cd
 outer:=outer
 stack:=envOfC qual scope s.heap.objs.size f cd::outer
 ex:=[]
 calm:=n_
 fn:=λ_=>n_
 pn:=[]
 xe:=λe s'=>wpAny (model P w) (A.deeper^envOfC qual scope s.heap.objs.size f cd) (leaving (envOfC qual scope s.heap.objs.size f cd) e) (λ_ s''=>CX outer H s E e s'') (λe' s''=>CX outer H s E e' s'') s'
def Ol{sc:gh}{n:Nat}{x:Str}(h:sc.names.lookup x=P3 .cell):∃c,(cellsFrom n sc.names []).lookup x=P3 c:=by
 have q:=PySem.W.cellsFrom_some sc.names n []^.inl h;exact Option.isSome_iff_exists.mp q
def S9{CX:WH}{P:eT}{w:eY}{K:Frag}{mg:Str->q_ Db}{base:eK}{N ps:p_ Str}{qual:Str}{scope:gh}{f:Ch}{cd:Db}{A:e_}{outer:p_ Env}{s s1:Go}{H:Hp}{E:XK}{us:p_ Db}{vs:p_ V}
  (S:AX N ps scope) (hd:A.handled=m_) (e0:Env0 P w K mg base A outer s H) (hl:vs.length=ps.length) (r:Vals vs us)
  (x:InCallC s s.heap.objs.size (bindL (envOfC qual scope s.heap.objs.size f cd).kindOf (ps.zip us) λ_=>m_) (cellsFrom (s.heap.objs.size+1) scope.names []) (bindC (envOfC qual scope s.heap.objs.size f cd).kindOf (ps.zip us) λ_=>m_) s1):
  Inv (Jt CX P w K mg base N qual scope f cd A outer s H E) [] (start N vs) H s1:=by
 have hpl:ps.length<=N.length:=by have:=congrArg jj S.pre;rw[jE]at this;lk
 let#[h1,tk,rfl,hk]:=x.done;have noA:∀b:Ch,b∉(Jt CX P w K mg base N qual scope f cd A outer s H E).ex:=λb z=>absurd (show b∈([]:p_ Ch)from z)^by simp
 refine#[#[e0.mod,S.kind,rfl,rfl,Op _,λy z c h1 h2=>?_,λy hy=>?_,λy c _ h=>?_,λ_=>hd,Around.frames_deeper e0.frames,.inr #[rfl,rfl],λb z=>absurd z^noA b,e0.bs,e0.bsz,λb _ _=>noA b,λb z=>absurd z^noA b,e0.funs,e0.frf],
  rfl,e0.bare,Un.kept hk,#[_,x.toInCall.ns,λi y v h1 h2 h3=>?_],λy c h=>#[_,x.cell y c h],e0.hok.fresh^Op _,λy c h=>?_,λp hp=>absurd (show p∈([]:p_ (Ch×Obj))from hp)^by simp,e0.hok.kept hk,?_]
 .exact name_of_addr x.apart (PySem.mem_of_lookup h1)^PySem.mem_of_lookup h2
 .have hy:scope.names.lookup y=P3 .cell\/scope.names.lookup y=P3 .free:=hy
  rcases hy with hy|hy
  .exact Ol hy
  .exact absurd rfl (S.nofree _^PySem.mem_of_lookup hy)
 .exact jN^x.above y c^PySem.mem_of_lookup h
 .have hi:i<vs.length:=by
   unfold start at h2
   by_cases hi:i<vs.length
   .exact hi
   .rw[gu^by simpa using hi]at h2
    rw[iu]at h2
    split at h2 <;>cases h2
  have ha:vs[i]?=P3 v:=by
   unfold start at h2;rw[g8 (by simpa using hi),ZB]at h2;cases e:vs[i]? with
   |none=>rw[e]at h2;cases h2
   |some a=>rw[e]at h2;cases h2;rfl
  let#[u,hu,rv]:=r.get ha
  have hp:ps[i]?=P3 y:=by
   rw[←S.pre,List.getElem?_take_of_lt^by lk];exact h1
  have ndP:ps.Nodup:=by rw[←S.pre];exact S.nd.sublist^List.take_sublist _ _
  refine#[u,rv,?_]
  rcases S.par y^iO hp with k|k
  .exact .inl #[k,Le ndP hp hu k]
  .let#[c,e]:=Ol (n:=s.heap.objs.size+1) k
   refine .inr #[.inl k,c,e,?_];have q:=x.cell y c e;rw[Lg ndP hp hu^by show scope.names.lookup y≠_;rw[k];decide]at q;exact q
 .exact e0.hok.fresh^jN^x.above y c^PySem.mem_of_lookup h
 .unfold start
  show _=N.length;rw[eV,Ev,kg];lk
def bW{CX:WH}{P:eT}{w:eY}{K:Frag}{mg:Str->q_ Db}{base:eK}{k:Nat}{f:Ch}{name qual:Str}{params:Arguments}{body:p_ eZ}{scope:gh}{dV kV doc pm cdv ct oc:Db}{an od:q_ Ch}
  {osl:Array^q_ Db}{N ps:p_ Str}{sp:Sp} (lk:K.lookup f=P3 #[oc,od,.func^fnOf name qual params body scope dV kV doc pm an cdv ct,osl]) (hcd:codeIn K cdv qual=n_) (S:AX N ps scope)
  (len:∀vs H Q E,sp vs H Q E->vs.length=ps.length)
  (hbody:∀(A:e_) (outer:p_ Env) (s:Go) (H:Hp) (vs:p_ V) (Q:VK) (E:XK),Room k^A.deeper^envOfC qual scope s.heap.objs.size f cdv->sp vs H Q E->
   ∃t,PSs (Jt CX P w K mg base N qual scope f cdv A outer s H E) body t/\t {nx:=λ_ H'=>Q .non H',rt:=Q} (start N vs) H):
  FnOk P w K mg base CX (k+1) f (fnOf name qual params body scope dV kV doc pm an cdv ct) ps sp:=by
 refine#[len,λA outer s H args us vs Q E hr e0 hb r hsp=>?_];have hl:=len _ _ _ _ hsp;have KX:K.In s.heap:=e0.mod.kin.keeps λb o e=>(e0.bs b o e).1;have lim:s.heap.NoLimit:=e0.mod.nolimit.keeps λb o e=>(e0.bs b o e).1
 have hkind:∀y∈ps.zip us,scope.names.lookup y.1=P3 .local\/(scope.names.lookup y.1=P3 .cell/\((cellsFrom (s.heap.objs.size+1) scope.names []).lookup y.1).isSome=n_):=fun#[n,v] hy=>by
  rcases S.par n (iW hy).1 with q|q
  .exact .inl q
  .exact .inr #[q,PySem.W.cellsFrom_some _ _ _^.inl q]
 refine codeAny_call_function hr.depth (KX _ _ lk) rfl S.co S.gen rfl (PySem.W.codeRec_of KX hcd) (hb _ _ _ _ ?_);refine wpAny_newFunctionEnv_cells S.kind hkind λenv he s1 x=>?_;subst he;refine#[lim.keeps x.toInCall.keep,codeAny_func ?_];let#[t,ht,hq]:=hbody A outer s H vs Q E (hr.deeper _) hsp;have I:Inv (Jt CX P w K mg base N qual scope f cdv A outer s H E) [] (start N vs) H s1:=S9 S hr.hd e0 hl r x;refine fV (ht [] s1 (start N vs) H _ I hq) (λfl s' hs=>?_) λe s' hs=>hs
 have fin:∀{zZ:St}{H':Hp}{v:V}{u:Db},Inv (Jt CX P w K mg base N qual scope f cdv A outer s H E) [] zZ H' s'->RelV v u->Q v H'->CE outer P w H s Q u s':=
  λ{zZ H' v u} J rv q=>#[v,H',J.os,J.bare,J.base,J.hok,rv,q]
 cases fl with
 |ret u=>
  let#[v,zZ,H',J,rv,q]:=hs;exact fin J rv q
 |next=>
  let#[zZ,H',J,q]:=hs;exact fin (v:=V.non) (u:=ej) J rfl q
 |brk=>
  let#[_,_,_,q]:=hs;exact fO q
 |cont=>
  let#[_,_,_,q]:=hs;exact fO q
section
variable {X:Cx}{x:Str}{p pos:Pos}{e:Expr}{es:p_ Expr}{t:TA}{id T:String}{r:p_ V->Hp->VK->Prop}
def af(r:p_ V->Hp->VK->Prop)(t:TA):TE:=λZ H Q=>t Z H λvs H1=>r vs H1 Q
def F4(hc:CallR X (.builtin id) r)(hg:Gl X x)(hm:X.mg x=m_)(hv:bootBuiltins x=P3^.builtin id)(ha:PA X (e::es) t)(hn:x ≠ "__name__":=by decide)(hdb:(x==("__debug__":Str))=o_:=by decide)
  (he:starEach (e::es) X.env=(o_,eval e X.env)::starEach es X.env:=by rfl) (hpl:(backTo pos^starEach es X.env).any (·.1)=o_:=by rfl):PE X (.Call (.Name x p) (e::es) [] pos)^af r t:=λzG s Z H Q I h=>f_^EA I hg hm hv (PyProof.Rows.callWith_builtin1 (BD (ha _ _ s Z H _ I h) λus s1 #[vs,H1,I1,r1,q1]=>hc _ s1 Z H1 vs us Q I1 r1 q1) he hpl) hn hdb
def Gm(hc:CallR X (.type T) r)(hg:Gl X x)(hm:X.mg x=m_)(hv:bootBuiltins x=P3^.type T)(ha:PA X (e::es) t)(hn:x ≠ "__name__":=by decide)(hdb:(x==("__debug__":Str))=o_:=by decide)
  (he:starEach (e::es) X.env=(o_,eval e X.env)::starEach es X.env:=by rfl) (hpl:(backTo pos^starEach es X.env).any (·.1)=o_:=by rfl):PE X (.Call (.Name x p) (e::es) [] pos)^af r t:=λzG s Z H Q I h=>f_^EA I hg hm hv (gG (BD (ha _ _ s Z H _ I h) λus s1 #[vs,H1,I1,r1,q1]=>hc _ s1 Z H1 vs us Q I1 r1 q1) he hpl) hn hdb
end
end L2
namespace HT
section
variable {prog:Program}{w:World}{A:Around}{E:Value->Shared->Prop}{s:Shared}
def cat_tup{t b:Ch}{vs ws:p_ Db}{Q:Db->Go->Prop}(ht:IsTup s.heap t vs.toArray)(hb:IsTup s.heap b ws.toArray)(hv:vs≠[])
  (h1:ws=[]->Q (.ref t) s) (h2:ws≠[]->Q (.ref s.heap.objs.size) {s with heap:=s.heap.push {cls:=.type "tuple",data:=.seq (vs++ws).toArray}})
  (hsz:vs.length+ws.length<=sizeLine):wpAny (model prog w) A (binaryOp .Add (.ref t)^.ref b) Q E s:=by
 let#[#[cls,dd,data,sl],ho,hc,n,hd]:=id ht;let#[#[cls2,dd2,data2,sl2],ho2,hc2,n2,hd2]:=id hb;simp only at hc hd hc2 hd2;subst hc hd hc2 hd2
 by_cases hw:ws=[]
 .exact concat_meets #[_,ho,rfl] #[_,ho2,rfl] kE seq_tuple_add PySem.F.slot_tuple_add PySem.F.entry_tuple_add (PySem.F.args_tuple_add_2 _ _)
   (tuple_addW1 t b vs.toArray ws.toArray n n2 dd dd2 sl sl2 (by simp_all)^by simp[hw]) #[ho,ho2,h1 hw]
 .refine concat_meets #[_,ho,rfl] #[_,ho2,rfl] kE seq_tuple_add PySem.F.slot_tuple_add PySem.F.entry_tuple_add (PySem.F.args_tuple_add_2 _ _)
   (tuple_addW2 t b vs.toArray ws.toArray n n2 dd dd2 sl sl2 (by grind) (by grind)^by lk) #[ho,ho2,?_]
  simp_all
def sIx(n d:Nat):q_ Int->Nat
 |none=>d
 |some v=>if v<0 then(v+(n:Int)).toNat else min v.toNat n
def sIx_none(n d:Nat):sIx n d m_=d:=rfl
def sIx_nat(n d k:Nat):sIx n d^P3 (k:Int)=min k n:=by
 show(if k<0 then((k:Int)+n).toNat else min _ n)=min k n;rw[if_neg^by lk,gz]
def Y3(n d:Nat)(hd:d<=n)(o:q_ Int):sIx n d o<=n:=by
 cases o with
 |none=>exact hd
 |some v=>
  show(if v<0 then(v+n).toNat else min _ n)<=n
  grind
def Rf(v:Int)(n d:Nat):(if v<0 then max (v+(n:Int)) 0 else min v (n:Int))=((sIx n d^P3 v:Nat):Int):=by
 show(if v<0 then max _ 0 else min v _)=(if v<0 then(v+n).toNat else min _ n)
 grind
def QX(lo hi:q_ Int)(n:Nat):j8 lo hi 1 (n:Int)=(((sIx n 0 lo:Nat):Int),((sIx n n hi:Nat):Int)):=by
 refine Prod.ext ?_ ?_
 .cases lo with
  |none=>rfl
  |some v=>exact Rf v n 0
 .cases hi with
  |none=>rfl
  |some v=>exact Rf v n n
def Pt(i j:Nat):iX (i:Int) (j:Int) 1=j - i:=by
 unfold iX
 grind
def Iu{v:Db}{o:q_ Int}{Q:q_ Int->Go->Prop}(p:jR v o)(h:Q o s):wpAny (model prog w) A (Builtin.Slice.slicePartIndex v) Q E s:=by
 cases p with
 |none=>exact slicePart_none h
 |int i t=>exact slicePart_int h
def sliceApplied_gen{sl:Ch}{vl vu:Db}{lo hi:q_ Int}{n:Nat}{Q:Int×Int×Nat->Go->Prop}(hs:s.heap.IsSliceOf sl vl vu .none)(pl:jR vl lo)(pu:jR vu hi)
  (h:Q (((sIx n 0 lo:Nat):Int),1,sIx n n hi - sIx n 0 lo) s):wpAny (model prog w) A (Builtin.Slice.sliceApplied (.ref sl)^pure (n:Int)) Q E s:=by
 let#[os,hos,hcs,hds]:=id hs;refine Cn^Cn (fq hos hds (x:=vl) rfl (Cn (fq hos hds (x:=vu) rfl (Cn (fq hos hds (x:=.none) rfl (On ?_))))));refine Cn^slicePart_none ?_;refine Cn^Iu pl^Cn^Iu pu^Cn^On ?_;show wpAny _ _ (match j8 lo hi 1 (n:Int)with|(lo,hi)=>pure (lo,(1:Int),iX lo hi 1)) _ _ s;rw[QX lo hi n];show wpAny _ _ (pure _) _ _ s;rw[Pt];exact On h
def Uv(xs:Array Db)(i k:Nat):((e8 k).filterMap fun(m:Nat)=>xs[((i:Int)+(m:Int)*1).toNat]?).toArray=((xs.toList.drop i).take k).toArray:=by
 have e:(fun(m:Nat)=>xs[((i:Int)+(m:Int)*1).toNat]?)=λm=>xs[i+m]?:=by
  grind
 rw[e]
 have:=pick_run xs i k
 rw[List.filterMap_map]at this;have e2:((λx=>xs[x]?)∘λx=>i+x)=λm=>xs[i+m]?:=rfl
 grind
def getItem_tuple_cut{t sl:Ch}{items:Array Db}{vl vu:Db}{lo hi:q_ Int}{Q:Db->Go->Prop}(ht:IsTup s.heap t items)(hs:s.heap.IsSliceOf sl vl vu .none)(pl:jR vl lo)(pu:jR vu hi)
  (hw:¬(sIx items.size 0 lo=0/\sIx items.size items.size hi=items.size))
  (h:Q (.ref s.heap.objs.size) {s with heap:=s.heap.push {cls:=.type "tuple",data:=.seq ((items.toList.drop^sIx items.size 0 lo).take (sIx items.size items.size hi - sIx items.size 0 lo)).toArray}})
  (hsz:items.size<=sizeLine):wpAny (model prog w) A (getItem (.ref t)^.ref sl) Q E s:=by
 have htake:sizeOk^.seq ((items.toList.drop^sIx items.size 0 lo).take (sIx items.size items.size hi - sIx items.size 0 lo)).toArray:=by
  show((items.toList.drop^sIx items.size 0 lo).take (sIx items.size items.size hi - sIx items.size 0 lo)).toArray.size<=sizeLine;rw[eF,jE,List.length_drop,fD];lk
 have hj:sIx items.size items.size hi<=items.size:=Y3 _ _ (Op _) hi;let#[os,hos,hcs,hds]:=id hs;have hTs:s.TypeIs (.ref sl) "slice":=#[os,hos,hcs];unfold getItem
 try with_reducible refine fc ?_
 first|refine Cn^On ?_|skip
 refine Cn^wpAny_sequenceKey ht.typeIs (by cbv) ?_
 refine Cn (fS (name:=fX "__getitem__") ht.typeIs fT
  (ft fT ht.typeIs entry_tuple_getitem ?_^args_tuple_getitem _ _))
 show wpAny _ _ (jt^.ref t >>=_) _ _ s;refine Cn^tupleItemsOf_ ht ?_;refine Cn^ie hTs ?_;rw[if_pos^by cbv];refine Cn^sliceApplied_gen hs pl pu ?_
 have hno:¬((((sIx items.size 0 lo:Nat):Int)==0&&(1:Int)==1&&(sIx items.size items.size hi - sIx items.size 0 lo)==items.size)=n_):=by
  grind
 show wpAny _ _ (if(((sIx items.size 0 lo:Nat):Int)==0&&(1:Int)==1&&(sIx items.size items.size hi - sIx items.size 0 lo)==items.size)=n_ then _ else _) _ _ s;rw[if_neg hno,Uv]
 first
  |exact Cn (m:=ig _)^fi (On #[_,rfl,On h]) htake
  |grind
  |grind
  |grind
end
end HT
namespace L2
abbrev TO:=St->Hp->(q_ Int->Hp->Prop)->Prop
def PO(X:Cx)(e:q_ eS)(t:TO):Prop:=
 ∀(zG:p_ (Ch×Obj)) (s:Go) (Z:St) (H:Hp) (Q:q_ Int->Hp->Prop),Inv X zG Z H s->t Z H Q->
  wpAny (model X.prog X.w) X.A (evalPart e X.env) (λu s'=>∃o H',Inv X zG Z H' s'/\jR u o/\Q o H') X.xe s
def WV:TO:=λ_ H Q=>Q m_ H
def aW(t:TE):TO:=λZ H Q=>t Z H λx H1=>∃i,x=.int i/\Q (P3 i) H1
section
variable {X:Cx}{e:Expr}{te:TE}{lo hi:q_ Expr}{tl th:TO}{pos p2:Pos}
def Q7:PO X m_ WV:=λzG s Z H Q I h=>On #[_,H,I,.none,h]
def Q6(h:PE X e te):PO X (P3 e)^aW te:=by
 intro zG s Z H Q I hw;refine BD (h _ s Z H _ I hw) λu s1 #[x,H1,I1,r1,q1]=>?_;let#[i,rfl,q]:=q1;let#[t,rfl]:=r1;exact#[_,H1,I1,.int i t,q]
def SlR(X:Cx)(r:V->q_ Int->q_ Int->Hp->VK->Prop):Prop:=
 ∀(zG:p_ (Ch×Obj)) (s:Go) (Z:St) (H:Hp) (x:V) (v vl vu:Db) (lo hi:q_ Int) (sl:Ch) (Q:VK),Inv X zG Z H s->RelV x v->s.heap.IsSliceOf sl vl vu .none->jR vl lo->jR vu hi->r x lo hi H Q->
  ∃T id,typeLookup (.type T) "__getitem__"=pure^P3^.builtin id/\s.TypeIs v T/\wpAny (model X.prog X.w) X.A (getItem v^.ref sl) (EP X zG Z Q) X.xe s
def SlR.or{r r':V->q_ Int->q_ Int->Hp->VK->Prop}(h:SlR X r)(h':SlR X r'):SlR X (λx lo hi H Q=>r x lo hi H Q\/r' x lo hi H Q):=by
 intro zG s Z H x v vl vu lo hi sl Q I rx hs pl pu q
 rcases q with q|q
 .exact h _ s Z H x v vl vu lo hi sl Q I rx hs pl pu q
 .exact h' _ s Z H x v vl vu lo hi sl Q I rx hs pl pu q
def dh(r:V->q_ Int->q_ Int->Hp->VK->Prop)(te:TE)(tl th:TO):TE:=λZ H Q=>te Z H λx H1=>tl Z H1 λl H2=>th Z H2 λu H3=>r x l u H3 Q
def N8{r:V->q_ Int->q_ Int->Hp->VK->Prop}(hr:SlR X r)(he:PE X e te)(hl:PO X lo tl)(hu:PO X hi th):PE X (.Subscript e (.Slice lo hi m_ p2) pos)^dh r te tl th:=by
 intro zG s Z H Q I h;refine Subscript_^BD (he zG s Z H _ I h) λv s1 #[x,H1,I1,r1,q1]=>?_;refine wpAny_Slice^BD (hl zG s1 Z H1 _ I1 q1) λvl s2 #[l,H2,I2,pl,q2]=>BD (hu zG s2 Z H2 _ I2 q2) λvu s3 #[u,H3,I3,pu,q3]=>?_;rw[evalPart_none];refine On ?_;have I4:Inv X zG Z H3 {s3 with heap:=s3.heap.push {cls:=.type "slice",data:=.fields #[ vl,vu,.none]}}:=I3.kept (t':=s3.toks) λb ob q=>FM _ q;let#[T,id,hT,ht,hg]:=hr zG {s3 with heap:=s3.heap.push {cls:=.type "slice",data:=.fields #[ vl,vu,.none]}} Z H3 x v vl vu l u s3.heap.objs.size Q I4 r1 (Heap.IsSliceOf.new ..) pl pu q3;show wpAny (model X.prog X.w) X.A (subscriptTail e (.Slice lo hi m_ p2) v^.ref s3.heap.objs.size) (EP X zG Z Q) X.xe {s3 with heap:=s3.heap.push {cls:=.type "slice",data:=.fields #[ vl,vu,.none]}};exact tail_any (ops:=[.ref s3.heap.objs.size,v]) ht hT hg^by with_unfolding_all rfl
def Oh(xs:p_ V)(lo hi:q_ Int):p_ V:=(xs.drop^HT.sIx xs.length 0 lo).take (HT.sIx xs.length xs.length hi - HT.sIx xs.length 0 lo)
def HZ(xs:p_ V)(lo hi:q_ Int):(Oh xs lo hi).length<=xs.length:=by
 unfold Oh
 grind
def aq(K:Frag):V->q_ Int->q_ Int->Hp->VK->Prop:=λx lo hi H Q=>∃a xs,x=.ref a/\SqT K H a xs /\
 ¬(HT.sIx xs.length 0 lo=0/\HT.sIx xs.length xs.length hi=xs.length)/\∀p,H p=m_->Q (.ref p)^Aq H p^.tup^Oh xs lo hi
def sl_tup:SlR X^aq X.K:=by
 intro zG s Z H x v vl vu lo hi sl Q I rx hs pl pu h;let#[a,xs,rfl,hx,hw,q]:=h;cases rx;let#[its,r,ht,hz]:=I.tuple hx;have hlen:its.toArray.size=xs.length:=by exact r.length.symm
 refine#[_,_,fT.lookup,ht.typeIs,?_];refine HT.getItem_tuple_cut ht hs pl pu (by grind) ?_ (by simp_all);rw[hlen];refine#[.ref _,_,I.laid (λb ob q=>FM _ q) (Op _) ?_,rfl,q _^I.hok.fresh^Op _];exact#[eR (HZ xs lo hi) hz,_,(r.drop _).take _,IsTupN.new _ _]
def Uk(K:Frag):R2:=λx y H Q=>∃a b xs ys,x=.ref a/\y=.ref b/\SqT K H a xs/\SqT K H b ys/\xs≠[]/\xs.length+ys.length<=sizeLine /\
 (ys=[]->Q (.ref a) H)/\(ys≠[]->∀p,H p=m_->Q (.ref p)^Aq H p^.tup (xs++ys))
def Vals.nil_iff{xs:p_ V}{us:p_ Db}(r:Vals xs us):us=[]↔xs=[]:=by
 cases r with
 |nil=>simp
 |cons _ _=>simp
def op_catT:OpR X (binaryOp .Add)^Uk X.K:=by
 intro zG s Z H x y v u Q I rx ry h;let#[a,b,xs,ys,rfl,rfl,ha,hb,hx,hz,q1,q2]:=h;cases rx;cases ry;let#[its,r1,p1,_]:=I.tuple ha;let#[its2,r2,p2,_]:=I.tuple hb;refine HT.cat_tup p1 p2 (λz=>hx^r1.nil_iff.mp z) (λz=>#[.ref a,H,I,rfl,q1^r2.nil_iff.mp z]) (λz=>?_) (by rw[←r1.length,←r2.length];exact hz);refine#[.ref _,_,I.laid (λb ob q=>FM _ q) (Op _) ?_,rfl,q2 (λw=>z^r2.nil_iff.mpr w) _^I.hok.fresh^Op _];exact#[by simp_all,_,r1.append r2,IsTupN.new _ _]
end
def YO(n:Nat)(i:Int):q_ Nat:=if 0<=i then(if i<n then P3 i.toNat else m_)else if -(n:Int)<=i then P3 (i+n).toNat else m_
def atI{α:Type}(xs:p_ α)(i:Int):q_ α:=(YO xs.length i).bind λj=>xs[j]?
def RK{n:Nat}{i:Int}{j:Nat}(h:YO n i=P3 j):seqIndex? i n=P3 j/\j<n/\-(n:Int)<=i/\i<n:=by
 unfold YO at h
 by_cases h0:0<=i
 .rw[if_pos h0]at h
  by_cases h1:i<n
  .rw[if_pos h1]at h
   have e:i.toNat=j:=eE h;exact#[by rw[seqIndex_of h0 h1,e],by lk,by lk,h1]
  grind
 .rw[if_neg h0]at h
  by_cases h1:-(n:Int)<=i
  .rw[if_pos h1]at h
   have e:(i+n).toNat=j:=eE h;exact#[by rw[seqIndex_neg (by lk) h1,e],by lk,h1,by lk]
  grind
def NA{α:Type}{xs:p_ α}{i:Int}{v:α}(h:atI xs i=P3 v):∃j,seqIndex? i xs.length=P3 j/\xs[j]?=P3 v/\j<xs.length/\-(xs.length:Int)<=i/\i<xs.length:=by
 unfold atI at h;cases e:YO xs.length i with
 |none=>simp_all
 |some j=>
  let#[h1,h2,h3,h4]:=RK e
  simp_all
def AH{α:Type}{xs:p_ α}{j:Nat}{v:α}(h:xs[j]?=P3 v):atI xs (j:Int)=P3 v:=by
 have hj:=(Uf.mp h).1
 have e:YO xs.length j=P3 j:=by
  unfold YO
  simp_all
 unfold atI;grind
def Rv(b:eS):Prop:=∀o i,subscripted b o_ o i=operate [o,i]^getItem o i
def IxR(X:Cx)(r:R2):Prop:=
 ∀(value slice:eS) (zG:p_ (Ch×Obj)) (s:Go) (Z:St) (H:Hp) (x y:V) (v u:Db) (Q:VK),Inv X zG Z H s->RelV x v->RelV y u->r x y H Q->
  subscripted slice o_ v u=operate [v,u]^getItem v u->wpAny (model X.prog X.w) X.A (subscriptTail value slice v u) (EP X zG Z Q) X.xe s
def WK(X:Cx)(id:String)(r:V->p_ V->Hp->VK->Prop):Prop:=
 ∀(zG:p_ (Ch×Obj)) (s:Go) (Z:St) (H:Hp) (x:V) (xs:p_ V) (v:Db) (us:p_ Db) (Q:VK),Inv X zG Z H s->RelV x v->Vals xs us->r x xs H Q->
  wpAny (model X.prog X.w) X.A (call (.builtin id) (v::us)) (EP X zG Z Q) X.xe s
section
variable {X:Cx}{a b:Expr}{ta tb:TE}{pos:Pos}
def IxR.or{r r':R2}(h:IxR X r)(h':IxR X r'):IxR X (λx y H Q=>r x y H Q\/r' x y H Q):=by
 intro value slice zG s Z H x y v u Q I rx ry q hs
 rcases q with q|q
 .exact h _ _ _ s Z H x y v u Q I rx ry q hs
 .exact h' _ _ _ s Z H x y v u Q I rx ry q hs
def Do{r:R2}(hr:IxR X r)(ha:PE X a ta)(hb:PE X b tb)(hs:Rv b):PE X (.Subscript a b pos)^C3 r ta tb:=λzG s Z H Q I h=>Subscript_^Zx ha hb I h λv u s2 x y H2 I2 rx ry q=>hr a b _ s2 Z H2 x y v u Q I2 rx ry q^hs _ _
def Y8(K:Frag):R2:=λx y H Q=>∃p xs i v,x=.ref p/\y=.int i/\SqL K H p xs/\atI xs i=P3 v/\Q v H
def a_(K:Frag):R2:=λx y H Q=>∃p xs i v,x=.ref p/\y=.int i/\SqT K H p xs/\atI xs i=P3 v/\Q v H
def bA:R2:=λx y H Q=>∃z i c,x=.str z/\y=.int i/\z.length<=sizeLine/\atI z.cps.toList i=P3 c/\Q (.str #[#[ c]]) H
def ix_list:IxR X^Y8 X.K:=by
 intro value slice zG s Z H x y v u Q I rx ry h hs;let#[p,xs,i,z,rfl,rfl,hq,he,q]:=h;cases rx;let#[t,rfl]:=ry;let#[its,r,pl,hz]:=I.list hq;let#[j,h1,h2,h3,h4,h5]:=NA he;let#[w,ew,rw']:=r.get h2;have hl:=r.length;have hn:=Gr;have fin:EP X zG Z Q w s:=#[z,H,I,rw',q]
 by_cases h0:0<=i
 .have hj:i.toNat=j:=by
   rw[seqIndex_of h0 h5]at h1
   grind
  exact item_listR pl.isList h0 (by lk) (by rw[hj];simpa using ew) fin hs
 .have hj:(i+(its.toArray.size:Int)).toNat=j:=by
   rw[seqIndex_neg (by lk) h4]at h1
   grind
  exact subscriptTail_builtinR (x:=w) pl.isList.typeIs slot_list_getitem.lookup
   (wpAny_getItem_list_neg (Q:=λr s'=>r=w/\EP X zG Z Q r s') pl.isList (by lk) (by grind) (by lk) (by grind) #[rfl,fin]) hs
def ix_tup:IxR X^a_ X.K:=by
 intro value slice zG s Z H x y v u Q I rx ry h hs;let#[p,xs,i,z,rfl,rfl,hq,he,q]:=h;cases rx;let#[t,rfl]:=ry;let#[its,r,pl,hz]:=I.tuple hq;let#[j,h1,h2,h3,h4,h5]:=NA he;let#[w,ew,rw']:=r.get h2;have hl:=r.length;have hn:=Gr
 exact subscriptTail_builtinR pl.typeIs fT.lookup
  (getItem_tuple (j:=j) pl (by lk) (by lk) (by grind) (by grind) #[rfl,#[z,H,I,rw',q]]) hs
def Zf:IxR X bA:=by
 intro value slice zG s Z H x y v u Q I rx ry h hs;let#[z,i,c,rfl,rfl,hz,he,q]:=h;let#[t,rfl]:=rx;let#[t',rfl]:=ry;let#[j,h1,h2,h3,h4,h5]:=NA he;have hl:z.cps.toList.length=z.length:=by simp[Str.length]
 have hn:=Gr
 exact tail_any (io s z t) slot_str_getitem.lookup (getItem_str (by
  grind) (by grind) #[.str _,H,I.tok _,#[_,rfl],q]) hs
def dQ(K:Frag):R2:=λx y H Q=>Y8 K x y H Q\/a_ K x y H Q\/bA x y H Q
def AN:IxR X^dQ X.K:=ix_list.or^ix_tup.or Zf
def P_(its:p_ Db)(n j:Nat)(u:Db):fH (·.setIfInBounds j u) {cls:=.type "list",data:=.seq its.toArray n}={cls:=.type "list",data:=.seq (its.set j u).toArray n}:=by
 simp[fH]
def Inv.lst{zG:p_ (Ch×Obj)}{Z:St}{H:Hp}{s:Go}{p:Ch}{xs:p_ V}(I:Inv X zG Z H s)(h:H p=P3^.lst xs):
  ∃(its:p_ Db) (n:Nat),Vals xs its/\s.heap.get? p=P3 {cls:=.type "list",data:=.seq its.toArray n}/\xs.length<=sizeLine:=by
 let#[z,its,n,r,e]:=I.hok p _ h;exact#[_,n,r,e,z]
def Inv.lstUpd{zG:p_ (Ch×Obj)}{Z:St}{H:Hp}{s:Go}{p:Ch}{xs ys:p_ V}{its its':p_ Db}{n n':Nat}{f:Obj->Obj}(I:Inv X zG Z H s)(h:H p=P3^.lst xs)
  (ho:s.heap.get? p=P3 {cls:=.type "list",data:=.seq its.toArray n}) (hf:f {cls:=.type "list",data:=.seq its.toArray n}={cls:=.type "list",data:=.seq its'.toArray n'}) (r:Vals ys its') (hz:ys.length<=sizeLine) (t:Nat):
  Inv X zG Z (Aq H p^.lst ys) {s with heap:=s.heap.update p f,toks:=t}:=by
 have e:(s.heap.update p f).get? p=P3 {cls:=.type "list",data:=.seq its'.toArray n'}:=by
  rw[fm f ho (by rw[hf] <;>rfl),hf]
 exact I.write (by rw[h];trivial) (.inl rfl) (λb u hb q=>(eG _ _^fB hb).trans q) #[_,e] #[hz,_,n',r,e]
def X_:V->V->V->Hp->(Hp->Prop)->Prop:=λo i v H Q=>∃p xs k j,o=.ref p/\i=.int k/\H p=P3^.lst xs/\YO xs.length k=P3 j/\Q^Aq H p^.lst^xs.set j v
def set_list:b7 X X_:=by
 intro zG s Z H o i v ov iv u Q I ro ri rv h;let#[p,xs,k,j,rfl,rfl,hp,hj,q]:=h;cases ro;let#[t,rfl]:=ri;let#[its,n,r,ho,hz]:=I.lst hp;let#[h1,h2,h3,h4]:=RK hj;have hl:=r.length;have hn:=Gr
 have I':Inv X zG Z (Aq H p^.lst^xs.set j v) {s with heap:=s.heap.update p (fH (·.setIfInBounds j u))}:=
  I.lstUpd hp ho (P_ its n j u) (r.set rv j) (by simp_all) s.toks
 by_cases h0:0<=k
 .have hk:k.toNat=j:=by
   rw[seqIndex_of h0 h4]at h1
   grind
  exact PySem.W.ki_setAt ho h0 (by lk) (by grind)^by rw[hk];exact#[_,I',q]
 .have hk:(k+(its.toArray.size:Int)).toNat=j:=by
   rw[seqIndex_neg (by lk) h3]at h1
   grind
  exact PySem.W.ki_setBack ho (by lk) (by grind) (by lk)^by rw[hk];exact#[_,I',q]
def L4(lo hi:q_ Int)(n:Nat):(sliceBounds lo hi m_ n).1=((HT.sIx n 0 lo:Nat):Int)/\(sliceBounds lo hi m_ n).2.1=((HT.sIx n n hi:Nat):Int)/\(sliceBounds lo hi m_ n).2.2=1:=by
 refine#[?_,?_,rfl]
 .cases lo with
  |none=>simp[sliceBounds,HT.sIx]
  |some i=>
   simp only[sliceBounds,HT.sIx,Option.getD_none,show(1:Int) > 0 by cbv,if_true]
   by_cases h:i<0
   .grind
   .simp only[h,if_false] <;>lk
 .cases hi with
  |none=>simp[sliceBounds,HT.sIx]
  |some i=>
   simp only[sliceBounds,HT.sIx,Option.getD_none,show(1:Int) > 0 by cbv,if_true]
   by_cases h:i<0
   .grind
   .simp only[h,if_false] <;>lk
def KL(its:p_ Db)(lo hi:q_ Int):slicePick its.toArray lo hi m_=((its.drop^HT.sIx its.length 0 lo).take (HT.sIx its.length its.length hi - HT.sIx its.length 0 lo)).toArray:=by
 let#[h1,h2,h3]:=L4 lo hi _;unfold slicePick;rw[h1,h2,h3];simp only[sliceRange_one,pick_run] <;>rfl
def ar(K:Frag):V->q_ Int->q_ Int->Hp->VK->Prop:=λx lo hi H Q=>∃a xs,x=.ref a/\SqL K H a xs/\∀p,H p=m_->Q (.ref p)^Aq H p^.lst^Oh xs lo hi
def sl_list:SlR X^ar X.K:=by
 intro zG s Z H x v vl vu lo hi sl Q I rx hs pl pu h;let#[a,xs,rfl,hx,q]:=h;cases rx;let#[its,r,ht,hz]:=I.list hx;have hlen:=r.length;refine#[_,_,slot_list_getitem.lookup,ht.isList.typeIs,?_];refine wpAny_getItem_list_slice ht.isList hs pl pu .none (by simp) ?_ (by grind);rw[KL,←hlen];refine#[.ref _,_,I.laid (λb ob q=>FM _ q) (Op _) ?_,rfl,q _^I.hok.fresh^Op _];exact#[eR (HZ xs lo hi) hz,_,0,(r.drop _).take _,TM _ rfl]
def YQ:V->Bool
 |.non=>n_
 |.bl _=>n_
 |.int _=>n_
 |.str _=>n_
 |_=>o_
def bg:V->V->Bool
 |.non,.non=>n_
 |.bl a,.bl b=>a==b
 |.bl a,.int b=>(if a then 1 else 0)==b
 |.int a,.bl b=>a==(if b then 1 else 0)
 |.int a,.int b=>a==b
 |.str a,.str b=>a==b
 |_,_=>o_
def Ms{A:e_}{s:Go}{y x:V}{u v:Db}(ry:RelV y u)(rx:RelV x v)(fy:YQ y=n_)(fx:YQ x=n_):SeqAt.EqAt A s u v^bg y x:=by
 cases y with
 |non=>
  cases ry;cases x with
  |non=>cases rx;exact SeqAt.EqAt.same _
  |bl b=>cases rx;exact SeqAt.EqAt.none_bool b
  |int b=>let#[t,rfl]:=rx;exact SeqAt.EqAt.none_int b t
  |str b=>let#[t,rfl]:=rx;exact SeqAt.EqAt.none_str b t
  |_=>exact absurd (show o_=n_ from fx) eO
 |bl a=>
  cases ry;cases x with
  |non=>cases rx;exact SeqAt.EqAt.bool_none a
  |bl b=>cases rx;exact SeqAt.EqAt.bool_bool a b
  |int b=>let#[t,rfl]:=rx;exact SeqAt.EqAt.bool_int a b t
  |str b=>let#[t,rfl]:=rx;exact SeqAt.EqAt.bool_str a b t
  |_=>exact absurd (show o_=n_ from fx) eO
 |int a=>
  let#[t',rfl]:=ry;cases x with
  |non=>cases rx;exact SeqAt.EqAt.int_none a t'
  |bl b=>cases rx;exact SeqAt.EqAt.int_bool a t' b
  |int b=>let#[t,rfl]:=rx;exact SeqAt.EqAt.int_int a t' b t
  |str b=>let#[t,rfl]:=rx;exact ku a t' b t
  |_=>exact absurd (show o_=n_ from fx) eO
 |str a=>
  let#[t',rfl]:=ry;cases x with
  |non=>cases rx;exact SeqAt.EqAt.str_none a t'
  |bl b=>cases rx;exact SeqAt.EqAt.str_bool a t' b
  |int b=>let#[t,rfl]:=rx;exact kz a t' b t
  |str b=>let#[t,rfl]:=rx;exact SeqAt.EqAt.str_str a t' b t
  |_=>exact absurd (show o_=n_ from fx) eO
 |_=>exact absurd (show o_=n_ from fy) eO
def GK:CallR X (.type "list") (λxs H Q=>∃p ys,xs=[.ref p]/\(SqL X.K H p ys\/SqT X.K H p ys)/\∀l,H l=m_->Q (.ref l)^Aq H l^.lst ys):=by
 intro zG s Z H xs us Q I r h;let#[p,ys,rfl,hq,q]:=h;let#[u,rfl,rx]:=vals1 r;cases rx
 have fin:∀(its:p_ Db),Vals ys its->ys.length<=sizeLine->∀(h':eK) (c':Nat),(∀b o',s.heap.get? b=P3 o'->h'.get? b=P3 o')->
   h'.get? s.heap.objs.size=P3 _->EP X zG Z Q (.ref s.heap.objs.size) {s with heap:=h'}:=λits r' hz h' c' kp e=>
  #[.ref s.heap.objs.size,_,I.laid (t':=s.toks) kp (Op _) (show ObjOk X.prog X.w _ h' _^.lst ys from#[hz,its,c',r',e]),rfl,q _^I.hok.fresh^Op _]
 rcases hq with hq|hq
 .let#[its,r',pl,hz]:=I.list hq
  have hlen:=r'.length;let#[o,ho,hc,n,hd]:=pl.isList;exact call_list_seq p (.inl rfl) ho hc hd (λh' c' kp e=>fin its r' hz h' c' kp e)^by grind
 .let#[its,r',pl,hz]:=I.tuple hq
  have hlen:=r'.length;let#[o,ho,hc,n,hd]:=pl;exact call_list_seq p (.inr rfl) ho hc hd (λh' c' kp e=>fin its r' hz h' c' kp e)^by grind
def BI:CallR X (.type "tuple") (λxs H Q=>∃p ys,xs=[.ref p]/\((SqL X.K H p ys/\∀l,H l=m_->Q (.ref l)^Aq H l^.tup ys)\/(SqT X.K H p ys/\Q (.ref p) H))):=by
 intro zG s Z H xs us Q I r h;let#[p,ys,rfl,h]:=h;let#[u,rfl,rx]:=vals1 r;cases rx
 rcases h with⟨hq,q⟩|⟨hq,q⟩
 .let#[its,r',pl,hz]:=I.list hq
  have hlen:=r'.length;refine call_tuple_list pl.isList (λh' kp=>?_) (by grind);have I1:=I.kept (t':=s.toks) kp;exact#[.ref _,_,I1.laid (t':=s.toks) (λb o e=>FM _ e) (Op _) (show ObjOk _ _ _ _ _^.tup ys from#[hz,_,r',IsTupN.new _ _]),rfl,q _^I1.hok.fresh^Op _]
 .let#[its,r',pl,hz]:=I.tuple hq
  exact call_tuple_same pl #[.ref p,H,I,rfl,q]
def Ym(K:Frag)(T:String)(x:V)(H:Hp):Prop:=match x with
 |.str _=>T="str"
 |.int _=>T="int"
 | .ref p=>(T="list"/\∃xs,SqL K H p xs)\/(T="tuple"/\∃o,K.lookup p=P3 o/\o.cls=.type "tuple"/\o.dict=m_) \/
   (T="dict"/\((∃kvs,H p=P3^.dK kvs)\/∃kvs,H p=P3^.dT kvs))\/(T="set"/\∃S n,H p=P3^.set S n)
 |_=>False
def Lw{zG:p_ (Ch×Obj)}{Z:St}{H:Hp}{s:Go}{T:String}{x:V}{v:Db}(I:Inv X zG Z H s)(r:RelV x v)(ty:Ym X.K T x H):
  s.TypeIs v T/\∀a,v=.ref a->∃ob,s.heap.get? a=P3 ob/\ob.dict=m_:=by
 cases x with
 |str z=>
  let#[t,rfl]:=r;cases(show T="str" from ty);exact#[io s z t,λ_ e=>nomatch e]
 |int i=>
  let#[t,rfl]:=r;cases(show T="int" from ty);exact#[typeIs_int s i t,λ_ e=>nomatch e]
 | ref p=>
  cases r
  rcases ty with⟨rfl,xs,hq⟩|⟨rfl,o,hk,hc,hd⟩|⟨rfl,hk⟩|⟨rfl,S,n,hk⟩
  .let#[its,_,pl,_]:=I.list hq
   refine#[pl.isList.typeIs,λa e=>?_];cases e;let#[o,n,e,c,hd,_]:=pl;exact#[o,e,hd]
  .refine#[#[o,I.kIn p o hk,hc],λa e=>?_]
   cases e;exact#[o,I.kIn _ o hk,hd]
  .have z:∃o,s.heap.get? p=P3 o/\o.ExactDict:=by
    rcases hk with⟨kvs,hk⟩|⟨kvs,hk⟩
    .let#[_,_,_,_,o,_,_,e,ex,_]:=I.hok p _ hk
     exact#[o,e,ex]
    .let#[_,_,_,_,o,_,_,e,ex,_]:=I.hok p _ hk
     exact#[o,e,ex]
   let#[o,e,ex]:=z;refine#[#[o,e,ex.1],λa e2=>?_];cases e2;exact#[o,e,ex.2.1]
  .let#[o,_,_,_,e,ex,_]:=I.hok p _ hk
   refine#[#[o,e,ex.1],λa e2=>?_];cases e2;exact#[o,e,ex.2.1]
 |_=>exact fO ty
def ce(K:Frag)(T:String)(r:V->p_ V->Hp->VK->Prop)(to:TE):TE:=λZ H Q=>to Z H λx H1=>Ym K T x H1/\r x [] H1 Q
def dn(K:Frag)(T:String)(r:V->p_ V->Hp->VK->Prop)(to:TE)(t:TA):TE:=λZ H Q=>to Z H λx H1=>Ym K T x H1/\t Z H1 λxs H2=>r x xs H2 Q
variable {o e:Expr}{es:p_ Expr}{to:TE}{t:TA}{name:Str}{apos cpos:Pos}{T id:String}{r:V->p_ V->Hp->VK->Prop}
def ZN(pa:iP T)(slot:Slot T name id)(hty:typeOf^.builtin id=pure^.type "method_descriptor")(hm:WK X id r)(ho:PE X o to)
  (hbase:attributeBase o name X.env^eval o X.env=eval o X.env:=by rfl) (hline:(apos.endLine==cpos.line)=n_:=by rfl):PE X (.Call (.Attribute o name apos) [] [] cpos)^ce X.K T r to:=by
 intro zG s Z H Q I h;refine iw hbase hline^BD (ho _ s Z H _ I h) λv s1 #[x,H1,I1,r1,ty,q1]=>?_;let#[h1,h2]:=Lw I1 r1 ty;exact#[T,id,pa,slot,hty,h1,h2,fu rfl (PySem.evalArgs_none^hm _ s1 Z H1 x [] v [] Q I1 r1 .nil q1)]
def bH(pa:iP T)(slot:Slot T name id)(hty:typeOf^.builtin id=pure^.type "method_descriptor")(hm:WK X id r)(ho:PE X o to)(ha:PA X (e::es) t)
  (hbase:attributeBase o name X.env^eval o X.env=eval o X.env:=by rfl)
  (hfew:((backTo cpos^starEach (e::es) X.env).all (λx=>!x.1)&&(backToKw cpos^keywordEach [] X.env).all (λx=>x.1.isSome)
   && decide ((e::es).length+([]:p_ iG).length+(if([]:p_ iG).isEmpty then 0 else 1)<30))=n_:=by rfl)
  (hline:(apos.endLine==cpos.line)=n_:=by rfl) (hs:starEach (e::es) X.env=(o_,eval e X.env)::starEach es X.env:=by rfl) (hplain:(backTo cpos^starEach es X.env).any (·.1)=o_:=by rfl):
  PE X (.Call (.Attribute o name apos) (e::es) [] cpos) (dn X.K T r to t):=by
 intro zG s Z H Q I h;refine wpAny_Call_method_late hbase hfew hline rfl (BD (ho _ s Z H _ I h) λv s1 #[x,H1,I1,r1,ty,q1]=>?_);let#[h1,h2]:=Lw I1 r1 ty;refine#[T,id,pa,slot,hty,h1,h2,?_];have hA:=ha cpos _ s1 Z H1 _ I1 q1;rw[hs]at hA ⊢;refine fu (by simp_all)^iQ ?_;exact BD hA λus s2 #[vs,H2,I2,r2,q2]=>hm _ s2 Z H2 x vs v us Q I2 r1 r2 q2
end
def dG(X:Cx)(id:String)(r:V->p_ V->Hp->VK->Prop):Prop:=
 ∀(zG:p_ (Ch×Obj)) (s:Go) (Z:St) (H:Hp) (x:V) (xs:p_ V) (v:Db) (us:p_ Db) (Q:VK),Inv X zG Z H s->RelV x v->Vals xs us->r x xs H Q->
  wpAny (model X.prog X.w) X.A (call (.builtin id) (v::us)) (EP X zG Z Q) X.xe s
theorem Vals.one:∀{x:V}{us:p_ Db},Vals [x] us->∃u,us=[u]/\RelV x u
 |_,_,.cons r .nil=>#[_,rfl,r]
theorem Vals.zero:∀{us:p_ Db},Vals [] us->us=[]
 |_,.nil=>rfl
theorem Vals.eraseIdx:∀{xs:p_ V}{us:p_ Db} (i:Nat),Vals xs us->Vals (xs.eraseIdx i)^us.eraseIdx i
 |_,_,_,.nil=>.nil
 |_,_,0,.cons _ t=>t
 |_,_,i+1,.cons r t=>.cons r^Vals.eraseIdx i t
def Vals.reverse{xs:p_ V}{us:p_ Db}(h:Vals xs us):Vals xs.reverse us.reverse:=by
 induction h with
 |nil=>exact .nil
 |cons r t ih=>rw[i7,i7];exact Vals.append ih^.cons r .nil
theorem LO{α:Type}:∀(l:p_ α) (i:Nat),(l.eraseIdx i).length<=l.length
 |[],_=>Op _
 |_::_,0=>fR _
 |_::r,i+1=>kF^LO r i
section
variable {X:Cx}{zG:p_ (Addr×Obj)}{Z:St}{H:Hp}{s:Shared}{l:Addr}{xs ys:p_ V}
def Inv.lset{its its':p_ Db}{n:Nat}{f:Array Db->Array Db}{t':Nat}(I:Inv X zG Z H s)(hH:H l=P3^.lst xs)
  (e:s.heap.get? l=P3 {cls:=.type "list",data:=.seq its.toArray n}) (hf:f its.toArray=its'.toArray) (hv:Vals ys its') (hz:ys.length<=sizeLine):
  Inv X zG Z (Aq H l^.lst ys) {s with heap:=s.heap.update l^fH f,toks:=t'}:=by
 have q:=PySem.IsL.update e f;rw[hf]at q;exact I.write (by rw[hH];exact trivial) (.inl rfl) (λb' u hb hu=>(eG _ _^fB hb).trans hu) #[_,q] #[hz,_,_,hv,q]
def Inv.lnew{its:p_ Db}{t':Nat}(I:Inv X zG Z H s)(hv:Vals ys its)(hz:ys.length<=sizeLine):
  Inv X zG Z (Aq H s.heap.objs.size^.lst ys) {s with heap:=s.heap.push {cls:=.type "list",data:=.seq its.toArray},toks:=t'}:=
 I.laid (λ_ _ q=>FM _ q) (Op _) #[hz,_,0,hv,TM _ rfl]
def Inv.fresh(I:Inv X zG Z H s):H s.heap.objs.size=m_:=I.hok.fresh^Op _
def Inv.lstM(I:Inv X zG Z H s)(hH:H l=P3^.lst xs):xs.length<=sizeLine/\∃(its:p_ Db) (n:Nat),Vals xs its/\xs.length=its.length/\s.heap.get? l=P3 {cls:=.type "list",data:=.seq its.toArray n}:=by
 let#[z,its,n,r,e]:=I.hok l _ hH;exact#[z,_,n,r,r.length,e]
end
section
variable {X:Cx}
def Q1:V->p_ V->Hp->VK->Prop:=λx vs H Q=>∃l xs y,x=.ref l/\vs=[y]/\H l=P3^.lst xs/\xs.length<sizeLine/\Q .non^Aq H l^.lst (xs++[y])
def B4:dG X "list.append" Q1:=by
 intro zG s Z H x vs v us Q I rx rv h;let#[l,xs,y,rfl,rfl,hH,hz,q]:=h;cases rx;let#[u,rfl,ru]:=rv.one;let#[z,its,n,r,hl,e]:=I.lstM hH;refine call_meets F.slot_list_append #[_,e,rfl] F.entry_list_append (F.args_list_append_2 _ _) (PySem.list_append l _ n u^by grind) #[e,?_];refine#[.non,_,I.lset hH e (by simp) (r.append^.cons ru .nil) ?_,rfl,q]
 grind
def N3:V->p_ V->Hp->VK->Prop:=λx vs H Q=>∃l xs,x=.ref l/\vs=[]/\H l=P3^.lst xs/\Q .non^Aq H l^.lst xs.reverse
def P8:dG X "list.reverse" N3:=by
 intro zG s Z H x vs v us Q I rx rv h;let#[l,xs,rfl,rfl,hH,q]:=h;cases rx;have hus:=rv.zero;subst hus;let#[z,its,n,r,hl,e]:=I.lstM hH;refine call_meets F.slot_list_reverse #[_,e,rfl] F.entry_list_reverse (F.args_list_reverse_1 _) (AutoSeq1.list_reverse_list_0 l _ n^by grind) #[e,?_];refine#[.non,_,I.lset hH e (by simp) r.reverse ?_,rfl,q]
 grind
def Ui:V->p_ V->Hp->VK->Prop:=λx vs H Q=>∃l xs,x=.ref l/\vs=[]/\H l=P3^.lst xs/\Q .non^Aq H l^.lst []
def VE:dG X "list.clear" Ui:=by
 intro zG s Z H x vs v us Q I rx rv h;let#[l,xs,rfl,rfl,hH,q]:=h;cases rx;have hus:=rv.zero;subst hus;let#[z,its,n,r,hl,e]:=I.lstM hH;exact call_meets F.slot_list_clear #[_,e,rfl] F.entry_list_clear (F.args_list_clear_1 _) (AutoSeq1.list_clear_list_0 l _ n^by grind) #[e,#[.non,_,I.lset hH e rfl .nil (eP _),rfl,q]]
end
end L2
namespace Att
open PySem.W PySem.Calls
def Hz{P:Params}{h:eK}:∀(ns:p_ Int) (vs:p_ Db),WellAll P h vs^ns.map WData.int->IntsAre vs ns:=by
 intro ns
 induction ns with
 |nil=>
  intro vs w;cases w;exact .nil
 | cons n ns ih=>
  intro vs w;cases w with
  |cons a b=>
   cases a;exact .cons _ _^ih _ b
def SA{l:OpenLaw}{n:Nat}(hn:l.most=P3 n){P:Params}{h:eK}{args:p_ WData}{vals:p_ Db}
  (hpre:l.row.toRowW.claim.pre args=n_) (hwl:WellAll P h vals args):
  ∃a vs ns,vals=[eJ a]/\args=[WData.list^ns.map WData.int]/\h.get? a=P3 {cls:=.type "list",data:=.seq vs.toArray}/\IntsAre vs ns/\ns.length<=n:=by
 have hsh:WShape.hasAll [] args [.list .int]=n_:=(pre_splitW hpre).1;have hc:l.pre.holds [] {args:=args}=n_:=(pre_splitW hpre).2;let#[d,r,rfl,h1,h2]:=hasAllW_cons hsh;obtain rfl:=hasAllW_nil h2;let#[xs,rfl,h3]:=hasW_list h1;let#[ns,rfl]:=items_int h3
 have hlen:ns.length<=n:=by
  unfold OpenLaw.pre at hc
  have h4:(WTm.not^.lt (.lit^.int (n:Int))^.len^.arg 0).holds [] {args:=[.list^ns.map .int]}=n_:=by
   have h4:=(holds_andW hc).1
   grind
  have h5:=condW_of h4^w_not^w_lt w_lit^w_len_list (w_arg rfl)
  grind
 cases hwl with
 |cons w1 w2=>
  cases w2;cases w1 with
  |list ho hall=>exact#[_,_,ns,rfl,rfl,ho,Hz ns _ hall,hlen]
def SX(l:OpenLaw)(args:p_ WData):l.row.toRowW.claim.post args (.bool n_) args=n_:=
 postW_of
  (show WShape.has [] _ _=n_ by first|rfl|decide|omega)
  (w_eq_bool (w_res rfl) w_lit) rfl
def attach_call{l:OpenLaw}{n:Nat}{q:eT}{loose:p_ Str}{XP:(Str->q_ Db)->eK->Prop}{YP:eY->eK->Prop}{d:DefRec}
  (hn:l.most=P3 n) (hdf:d.params.defaults=[])
  (call:∀(w:eY) (s₀ s₁:Go) (mg mb:Str->q_ Db) (fa:Ch) (o:Obj) (pm cd doc:Db) (a:Ch) (vs:p_ Db) (ns:p_ Int),
   Ground q loose [] XP w s₀ mg mb s₁.heap->YP w s₁.heap->
   s₁.heap.get? fa=P3 o->o.data=.func^docDef d.name d.params d.body d.scope pm cd doc->s₁.heap.CodeRec cd d.name->mg d.name=P3^.ref fa->
   s₁.heap.get? a=P3 {cls:=.type "list",data:=.seq vs.toArray}->IntsAre vs ns->ns.length<=n->s₁.gens=#[]->
   codeAny (model l.prog w) callerA (.call (.ref fa) #[[.ref a],[]]) (λr s'=>r=.ok^.ret^.bool n_/\OldK s₁.heap s'.heap/\s'.os=s₁.os/\im s'.gens) s₁):
  WalkO q loose XP YP l.row.toRowW d [] (λf vs=>PySem.call f vs):=by
 intro w s₀ s₁ mg mb G Y fa o pm cd doc dV kV ho hd hcd hD hmg hg args vals as hpre hlay hrd hwl hlo;obtain rfl:dV=.none:=Dflts.none hD hdf;obtain rfl:kV=.none:=Dflts.noKw hD;let#[a,vs,ns,rfl,rfl,hobj,hints,hlen]:=SA hn hpre hwl;refine enter_call^ic (call w s₀ s₁ mg mb fa o pm cd doc a vs ns G Y ho (fd_plain hd) hcd hmg hobj hints hlen hg) λr s' hq=>?_;let#[rfl,h2,h3,h4]:=hq;exact#[.inl #[.bool n_,.bool n_,[],rfl,λ_=>rfl,.bool n_,SX l _,λ_=>#[List.Pairwise.nil,λ_ hm=>(nomatch hm)]],h2,h3,h4]
end Att
namespace L2
theorem K0:∀{vs:p_ Db}{ns:p_ Int},IntsAre vs ns->Vals (ns.map V.int) vs
 |_,_,.nil=>.nil
 |_,_,.cons n t h=>.cons #[t,rfl]^K0 h
def aD(H:Hp):Prop:=∀b,H b=m_\/∃o xs,H b=P3^.frz o^.lst xs
def VP{P:eT}{w:eY}{K:Frag}{mg mb:Str->q_ Db}{CX:WH}{k:Nat}{fa a:Ch}{fd:fL}{x:Str}{sp:Sp}{s₁:Go}{vs:p_ Db}{ns:p_ Int}
  (KX:K.In s₁.heap) (hns:s₁.heap.Ns mainGlobals mg) (hb:s₁.heap.Ns builtinsNs mb) (hbb:∀x:Str,x ≠ "__name__"->mb x=bootBuiltins x) (hlim:s₁.heap.NoLimit) (hg:s₁.gens=#[])
  (ha:s₁.heap.get? a=P3 {cls:=.type "list",data:=.seq vs.toArray}) (hi:IntsAre vs ns) (hl:ns.length<=sizeLine) (hr:Room k callerA)
  (F:∀base:eK,K.In base->base.Ns mainGlobals mg->FnOk P w K mg base CX k fa fd [x] sp) (hbind:∀(s:Go) (u:Db),kC s fd #[[u],[]] [(x,u)])
  (hsp:∀H:Hp,aD H->SqL K H a^ns.map V.int->sp [.ref a] H (λv _=>v=.bl n_) λ_ _ _=>False)
  (hCX:∀H e s',CX [] H s₁ (λ_ _ _=>False) e s'->False):
  codeAny (model P w) callerA (.call (.ref fa) #[[.ref a],[]]) (λr s'=>r=.ok^.ret^.bool n_/\OldK s₁.heap s'.heap/\s'.os=s₁.os/\im s'.gens) s₁:=by
 have rv:=K0 hi;have lenV:=hi.length
 have core:∀H:Hp,aD H->SqL K H a^ns.map V.int->HOk P w H s₁.heap->(∀b,H b≠m_->b=a)->(H a≠m_->K.lookup a=m_)->
   codeAny (model P w) callerA (.call (.ref fa) #[[.ref a],[]]) (λr s'=>r=.ok^.ret^.bool n_/\OldK s₁.heap s'.heap/\s'.os=s₁.os/\im s'.gens) s₁:=by
  intro H hO hS hok hA hK;have base_of:∀{b:Ch}{o:Obj},s₁.heap.get? b=P3 o->H b=m_->(Mm s₁.heap H).get? b=P3 o:=λe n=>Ve e n
  have noA:∀{b:Ch}{o:Obj}{es:Array h7}{ep:Nat},s₁.heap.get? b=P3 o->o.data=.dict es ep->H b=m_:=λ{b o es ep} e d=>by
   cases q:H b with
   |none=>rfl
   |some u=>
    have e':b=a:=hA b (by rw[q];simp);subst e';rw[ha]at e;cases e
    have d':Data.seq vs.toArray _=Data.dict es ep:=d;cases d'
  have nsK:∀{b:Ch}{m:Str->q_ Db},s₁.heap.Ns b m->(Mm s₁.heap H).Ns b m:=λ{b m} #[o,es,ep,e,d,r]=>#[o,es,ep,base_of e^noA e d,d,r]
  have hKb:K.In^Mm s₁.heap H:=λb o e=>base_of (KX b o e) (by
   cases q:H b with
   |none=>rfl
   |some u=>
    have e':b=a:=hA b (by rw[q];simp);subst e';rw[hK^by rw[q];simp]at e;cases e)
  have hM:Mod K mg^Mm s₁.heap H:=#[hKb,nsK hns,#[mb,nsK hb,hbb],let #[mc,h1,h2]:=hlim;#[mc,nsK h1,h2]];have e0:Env0 P w K mg (Mm s₁.heap H) callerA [] s₁ H:=#[rfl,hM,λb o e=>W4 e,jQ^S_ _ _,trivial,λb hb=>absurd (show b∈([]:p_ Ch)from hb)^by simp,hok,.of_eq hg];refine ic ((F _ hKb^nsK hns).run callerA [] s₁ H #[[.ref a],[]] [.ref a] [.ref a] _ _ hr e0 (hbind s₁^.ref a) (.cons rfl .nil)^hsp H hO hS) λr s' h=>?_;cases r with
  |error e=>exact(hCX H e s' h).elim
  | ok fl=>
   cases fl with
   |next=>exact fO h
   |brk=>exact fO h
   |cont=>exact fO h
   | ret u=>
    let#[v,H',os,bare,un,hok',r',q]:=h;have q':v=.bl n_:=q;subst q';obtain rfl:u=iN n_:=r';refine#[rfl,OldK.of_keep λb o e=>?_,os,bare];cases q:H b with
    |none=>exact un.keep b o e q (by intro z;exact absurd (show b∈([]:p_ Ch)from z)^by simp)^by simp
    | some u=>
     rcases hO b with z|⟨ob,xs,z⟩
     .rw[q]at z;cases z
     .have z2:=un.frzs b ob _ z
      let#[e1,_]:=hok b _ z;let#[e2,_]:=hok' b _ z2;rw[e]at e1;cases e1
      exact e2
 cases hk:K.lookup a with
 |some o=>
  have e:=KX a o hk;rw[ha]at e;cases e;refine core (λ_=>m_) (λ_=>.inl rfl) (.inr #[_,vs.toArray,_,hk,rfl,rfl,rfl,by rw[eF,lenV];exact hl,by simpa using rv]) (λb u z=>by have z':(m_:q_ HO)=P3 u:=z;cases z') (λb z=>absurd rfl z) λz=>absurd rfl z
 | none=>
  refine core (λb=>if b=a then P3^.frz {cls:=.type "list",data:=.seq vs.toArray}^.lst^ns.map V.int else m_) (λb=>?_) (.inl^.inr #[{cls:=.type "list",data:=.seq vs.toArray},if_pos rfl]) (λb u z=>?_) (λb z=>?_) λ_=>hk
  .by_cases hb:b=a
   .exact .inr #[_,_,if_pos hb]
   .exact .inl^if_neg hb
  .by_cases hb:b=a
   .have z':=(if_pos hb).symm.trans z
    cases z';subst hb;exact#[ha,by rw[Ev];exact hl,vs,_,rv,ha]
   .have z':=(if_neg hb).symm.trans z
    cases z'
  .by_cases hb:b=a
   .exact hb
   .exact absurd (if_neg hb) z
def Qj{l:PySem.W.OpenLaw}{n k:Nat}{q:eT}{loose:p_ Str}{XP:(Str->q_ Db)->eK->Prop}{YP:eY->eK->Prop}{d:DefRec}{K:Params->Frag}{CX:eY->WH}{sp:eY->Sp}{x:Str}
  (hn:l.most=P3 n) (hn2:n<=sizeLine) (hdf:d.params.defaults=[]) (hr:Room k callerA)
  (hY:∀(w:eY) (h:eK),YP w h->(K w.params).In h)
  (F:∀(w:eY) (mg:Str->q_ Db) (fa:Ch) (h:eK),(K w.params).In h->h.Ns mainGlobals mg->mg d.name=P3^.ref fa->
   ∃fd:fL,(∀(s:Go) (u:Db),kC s fd #[[u],[]] [(x,u)]) /\
    ∀base:eK,(K w.params).In base->base.Ns mainGlobals mg->FnOk l.prog w (K w.params) mg base (CX w) k fa fd [x]^sp w)
  (hsp:∀(w:eY) (H:Hp) (a:Ch) (ns:p_ Int),ns.length<=n->aD H->SqL (K w.params) H a^ns.map V.int->sp w [.ref a] H (λv _=>v=.bl n_) λ_ _ _=>False)
  (hCX:∀(w:eY) (H:Hp) (s:Go) (e:Db) (s':Go),CX w [] H s (λ_ _ _=>False) e s'->False):
  PySem.W.WalkO q loose XP YP l.row.toRowW d [] (λf vs=>PySem.call f vs):=by
 refine Att.attach_call hn hdf λw s₀ s₁ mg mb fa o pm cd doc a vs ns G Y ho hd hcd hmg hobj hints hlen hg=>?_;have KX:=hY w _ Y;let#[fd,hb,hF]:=F w mg fa _ KX G.T.g hmg;exact VP KX G.T.g G.T.b G.T.builtins G.T.nolimit hg hobj hints (eR hlen hn2) hr hF hb (λH hO hS=>hsp w H a ns hlen hO hS) λH e s'=>hCX w H _ e s'
end L2
/- THE LAST THEOREM (shape;LID,My.* are yours):
   My.Adr:a structure of the addresses that your layer names (classes,functions);My.Txt K t:a structure (Prop) of the equations over K;
   My.txt_mk:{K}{implicit addresses ..} (e1:nsIn K mainGlobals "law"=P3^P3^.ref f) (e2:K.lookup f=P3 #[oc,od,.func^fnOf "law" "law" params body scope dV kV doc pm an cdv ct,sl]) (e3:codeIn K cdv "law"=n_) ..:∃ t,My.Txt K t
set_option maxRecDepth 100000 in
set_option maxHeartbeats 0 in
def PySem.Challenge.cw_LID_holds:PySem.Challenge.rw_LID.Holds:=by
 w_on;o_law;k_head;(case hw=>w_witness2)
 k_fill
 refine L2.Qj (l:=PySem.Challenge.rw_LID) (n:=63) (k:=40) (x:="script") (CX:=λw=>..) (sp:=λ_=>My.sp_law) rfl (by cbv) rfl #[rfl,by cbv,by cbv] (λw h Y=>PySem.W.kIn_of Y) ?F ?S ?C
 case F=>
  intro w mg fa h KX G hmg
  have T:∃t,My.Txt (L2.KOf KX) t:=by
   dsimp only[L2.KOf] -- K must stand as «<heap const> w.params» for k_is
   refine' My.txt_mk ?e1 ?e2 ?e3 ..
   (case e1=>PySem.W.k_is) -- in the order:a name->its address->its object->its parts
   (case e2=>PySem.W.k_is)
   ..
  let#[t,T]:=T;have e0:=hmg.symm.trans^mg_of KX G T.law;cases e0 -- fa is the law's own address;exact#[_,λs u=>.of_eq rfl,λbase kb nb=>My.law_fn T kb nb] -- if «.of_eq rfl» comes too early:refine' #[_,?b,λbase kb nb=>My.law_fn T kb nb];exact λs u=>.of_eq rfl
 case S=>exact λw H a ns hl hO hS=>..
 case C=>exact ..
(the tactic k_is has no namespace:write k_is) -/
namespace L2
def Bz(s:eZ):Arguments:=match s with
 |.FunctionDef _ a _ _ _ _ _ _ _ _=>a
 |_=>{posonlyargs:=[],args:=[],vararg:=m_,kwonlyargs:=[],kw_defaults:=[],kwarg:=m_,defaults:=[]}
def BQ(s:eZ):p_ eZ:=match s with
 |.FunctionDef _ _ b _ _ _ _ _ _ _=>b
 |_=>[]
def AI(s:eZ):gh:=match s with
 |.FunctionDef _ _ _ _ _ _ sc _ _ _=>sc
 |_=>{kind:=.function,names:=[],isGenerator:=o_,isCoroutine:=o_}
abbrev Fi:WH:=λ_ _ _ _ _ _=>False
abbrev E0:XK:=λ_ _ _=>False
def JO{X:Cx}:EV Fi X E0:=λ_ _ _ _ _ _ _ h=>h.elim
structure Fun (K:Frag) (x qual:Str) (st:eZ) (f:Ch) (fd:fL):Prop where
 ex:∃(oc:Db) (od:Option Ch) (kV doc pm:Db) (an:Option Ch) (cdv ct:Db) (osl:Array^Option Db),
  fd=fnOf x qual (Bz st) (BQ st) (AI st) .none kV doc pm an cdv ct/\K.lookup f=P3 #[oc,od,.func fd,osl]/\codeIn K cdv qual=n_
 kp:keepIn K^.ref f=n_
section
variable {P:Program}{w:World}{K:Frag}{mg:Str->q_ Value}{base:Heap}
def Fun.ok{x qual:Str}{st:eZ}{f:Ch}{fd:fL}{N ps:p_ Str}{k:Nat}{sp:Sp}(F:Fun K x qual st f fd)(S:AX N ps^AI st)(len:∀vs H Q E,sp vs H Q E->vs.length=ps.length)
  (hbody:∀(cdv:Db) (A:e_) (outer:p_ Env) (s:Go) (H:Hp) (vs:p_ V) (Q:VK) (E:XK),Room k^A.deeper^envOfC qual (AI st) s.heap.objs.size f cdv->sp vs H Q E->
   ∃t,PSs (Jt Fi P w K mg base N qual (AI st) f cdv A outer s H E).nox (BQ st) t/\t {nx:=λ_ H'=>Q .non H',rt:=Q} (start N vs) H):FnOk P w K mg base Fi (k+1) f fd ps sp:=by
 let#[oc,od,kV,doc,pm,an,cdv,ct,osl,rfl,lk,hcd]:=F.ex;refine bW lk hcd S len λA outer s H vs Q E hr hsp=>?_;let#[t,h,q]:=hbody _ A _ s H vs Q E hr hsp;exact#[t,h.nox,q]
def Fun.binds{x qual:Str}{st:eZ}{f:Ch}{fd:fL}{ps:p_ Str}(F:Fun K x qual st f fd)
  (h:∀(kV doc pm:Db) (an:q_ Ch) (cdv ct:Db) (us:p_ Db),us.length=ps.length->bindArgs (fnOf x qual (Bz st) (BQ st) (AI st) .none kV doc pm an cdv ct) #[us,[]]=pure^ps.zip us):Binds K fd ps []:=by
 let#[oc,od,kV,doc,pm,an,cdv,ct,osl,rfl,lk,hcd]:=F.ex;exact .all^h kV _ pm an _ ct
def Mn{x qual:Str}{st:eZ}{f:Ch}{oc:Db}{od an:q_ Ch}{osl:Array^q_ Db}{kV doc pm cdv ct:Db}(l:K.lookup f=P3 #[oc,od,.func^fnOf x qual (Bz st) (BQ st) (AI st) .none kV doc pm an cdv ct,osl])
  (c:codeIn K cdv qual=n_) (k:keepIn K^.ref f=n_):Fun K x qual st f^fnOf x qual (Bz st) (BQ st) (AI st) .none kV doc pm an cdv ct:=#[#[oc,od,kV,_,pm,an,_,ct,_,rfl,l,c],k]
end
def GD{A:e_}{k:Nat}(hr:Room k A):A.units+1<cLine:=gP (Nat.add_le_add_left (by cbv) _) hr.units
section
variable {X:Cx}
def pv(i:Nat){x:Str}{pos:Pos}(hN:X.N[i]?=P3 x:=by rfl)(hv:Z_ X.env.scope x:=by first|exact eC rfl|exact gc (eC rfl)|exact gc (gc rfl))(hd:(x==("__debug__":Str))=o_:=by decide)
  (hcd:(x==("__classdict__":Str))=o_:=by decide):PE X (.Name x pos)^Bv i:=MO hN hv hd hcd
end
def Ck{A B:Prop}(h:B):if o_=n_ then A else B:=by
 grind
def EC{A B:Prop}(h:A):if n_=n_ then A else B:=by
 grind
def ED{c A B:Prop}[Decidable c](h1:c->A)(h2:¬c->B):if c then A else B:=by
 grind
section
variable {κ:Type}[DecidableEq κ]
def CW(kvs:p_ (κ×V))(k:κ):q_ V:=(kvs.find? λkv=>decide (kv.1=k)).map (·.2)
def putK(kvs:p_ (κ×V))(k:κ)(v:V):p_ (κ×V):=
 if(kvs.any λkv=>decide (kv.1=k))=n_ then kvs.map (λkv=>if kv.1=k then(kv.1,v)else kv)else kvs++[(k,v)]
def C4{p:κ×V}{r:p_ (κ×V)}{k:κ}(e:p.1=k):CW (p::r) k=P3 p.2:=by simp[CW,e]
def C5{p:κ×V}{r:p_ (κ×V)}{k:κ}(e:¬p.1=k):CW (p::r) k=CW r k:=by simp[CW,e]
theorem Na(k:κ):∀kvs:p_ (κ×V),(kvs.any λkv=>decide (kv.1=k))=(CW kvs k).isSome
 |[]=>rfl
 |p::r=>by
  rw[List.any_cons]
  by_cases e:p.1=k
  .simp[C4 e,decide_eq_true e,Bool.true_or]
  .rw[C5 e,decide_eq_false e];exact Na k r
def D_(kvs:p_ (κ×V))(k:κ)(v:V):(putK kvs k v).length<=kvs.length+1:=by
 unfold putK
 grind
def RelO.isSome_eq{o:q_ V}{u:q_ Db}(r:RelO o u):o.isSome=u.isSome:=by
 cases o with
 |none=>cases u with
  |none=>rfl
  |some _=>exact(r).elim
 |some _=>cases u with
  |none=>exact(r).elim
  |some _=>rfl
def RelO.getD{o:q_ V}{u:q_ Db}{d:V}{d':Db}(r:RelO o u)(rd:RelV d d'):RelV (o.getD d)^u.getD d':=by
 cases o with
 |none=>cases u with
  |none=>exact rd
  |some _=>exact(r).elim
 |some _=>cases u with
  |none=>exact(r).elim
  |some _=>exact r
def KV.val{kvs:p_ (κ×V)}{vs:p_ (κ×Db)}(r:KV kvs vs)(k:κ):RelO (CW kvs k)^valueAt vs k:=by
 induction r with
 |nil=>exact gB
 | @cons p q ps qs h t ih=>
  let#[h1,h2]:=h
  by_cases e:p.1=k
  .have e':=h1.symm.trans e
   have b:valueAt (q::qs) k=P3 q.2:=by simp[valueAt,e']
   rw[C4 e,b];exact h2
  .have e':¬q.1=k:=λz=>e^h1.trans z
   have b:valueAt (q::qs) k=valueAt qs k:=by simp[valueAt,e']
   rw[C5 e,b];exact ih
def KV.any{kvs:p_ (κ×V)}{vs:p_ (κ×Db)}(r:KV kvs vs)(k:κ):(kvs.any λkv=>decide (kv.1=k))=vs.any λkv=>decide (kv.1=k):=by
 induction r with
 |nil=>rfl
 |cons h t ih=>simp_all
def KV.repl{kvs:p_ (κ×V)}{vs:p_ (κ×Db)}(r:KV kvs vs)(k:κ){y:V}{u:Db}(ry:RelV y u):
  KV (kvs.map λkv=>if kv.1=k then(kv.1,y)else kv) (vs.map λkv=>if kv.1=k then(kv.1,u)else kv):=by
 induction r with
 |nil=>exact .nil
 |@cons p q ps qs h t ih=>
  refine .cons ?_ ih
  by_cases e:p.1=k
  .simp_all
  simp_all
def KV.put{kvs:p_ (κ×V)}{vs:p_ (κ×Db)}(r:KV kvs vs)(k:κ){y:V}{u:Db}(ry:RelV y u):KV (putK kvs k y)^stored vs k u:=by
 unfold putK stored;rw[r.any k]
 by_cases e:(vs.any λkv=>decide (kv.1=k))=n_
 .rw[if_pos e,if_pos e];exact r.repl k ry
 .rw[if_neg e,if_neg e];exact Paired.snoc r #[rfl,ry]
def KV.length{kvs:p_ (κ×V)}{vs:p_ (κ×Db)}(r:KV kvs vs):kvs.length=vs.length:=Paired.length r
end
def HV{P:eT}{w:eY}{k:Key}{u:Db}(r:RelV (kV k) u):(A_ P w).is k u=n_:=by
 cases k with
 |inl i=>let#[t,e]:=(r);subst e;exact OF P w i t
 |inr x=>let#[t,e]:=(r);subst e;exact OE P w x t
theorem LR{P:eT}{w:eY}:∀{ks:p_ Key}{us:p_ Db},Vals (ks.map kV) us->ItemsAre (A_ P w) ks us
 |[],_,r=>by cases r;exact .nil
 |k::ks,_,r=>by
  cases r with
  |cons h t=>exact .cons (HV h)^LR t
abbrev KT(H:Hp):p_ (p_ Key×V)->p_ (p_ Key×Ch×Db)->Prop:=Paired λp q=>p.1=q.1/\H q.2.1=P3^.tup^p.1.map kV/\RelV p.2 q.2.2
def KT.val{H:Hp}{kvs:p_ (p_ Key×V)}{xs:p_ (p_ Key×Ch×Db)}(r:KT H kvs xs)(k:p_ Key):RelO (CW kvs k) ((atKey xs k).map (·.2)):=by
 induction r with
 |nil=>exact gB
 | @cons p q ps qs h t ih=>
  let#[h1,_,h2]:=h
  by_cases e:p.1=k
  .have e':=h1.symm.trans e
   have b:atKey (q::qs) k=P3 q.2:=by simp[atKey,e']
   rw[C4 e,b];exact h2
  .have e':¬q.1=k:=λz=>e^h1.trans z
   have b:atKey (q::qs) k=atKey qs k:=by simp[atKey,e']
   rw[C5 e,b];exact ih
def KT.repl{H:Hp}{kvs:p_ (p_ Key×V)}{xs:p_ (p_ Key×Ch×Db)}(r:KT H kvs xs)(k:p_ Key){y:V}{u:Db}(ry:RelV y u):
  KT H (kvs.map λkv=>if kv.1=k then(kv.1,y)else kv) (xs.map^putAt k u):=by
 induction r with
 |nil=>exact .nil
 |@cons p q ps qs h t ih=>
  refine .cons ?_ ih;unfold putAt
  by_cases e:p.1=k
  .simp_all
  simp_all
def KT.put{H:Hp}{kvs:p_ (p_ Key×V)}{xs:p_ (p_ Key×Ch×Db)}(r:KT H kvs xs)(k:p_ Key){b:Ch}{y:V}{u:Db}(hb:H b=P3^.tup^k.map kV)(ry:RelV y u):
  KT H (putK kvs k y) (storedH xs k b u):=by
 have e:(kvs.any λkv=>decide (kv.1=k))=(atKey xs k).isSome:=by
  rw[Na,(r.val k).isSome_eq,j4]
 unfold putK storedH;rw[e]
 by_cases q:(atKey xs k).isSome=n_
 .rw[if_pos q,if_pos q];exact r.repl k ry
 .rw[if_neg q,if_neg q];exact Paired.snoc r #[rfl,hb,ry]
def KT.keeps{H H':Hp}{kvs:p_ (p_ Key×V)}{xs:p_ (p_ Key×Ch×Db)}(r:KT H kvs xs)(ht:∀b ys,H b=P3^.tup ys->H' b=P3^.tup ys):KT H' kvs xs:=
 Paired.mapP r λ_ _ z=>#[z.1,ht _ _ z.2.1,z.2.2]
section
variable {P:Program}{w:World}{H:Hp}{h:Heap}{a:Addr}
def X5{u:HO}(ok:HOk P w H h)(e:Rd H a u):ObjOk P w H h a u:=e.ok ok
def E9{kvs:p_ (Key×V)}(ok:HOk P w H h)(e:Rd H a^.dK kvs):kvs.length<=sizeLine/\(a==sysModules)=o_/\∃vs,KV kvs vs/\h.DictOf (A_ P w) a vs:=
 X5 ok e
def YW{kvs:p_ (Key×V)}(ok:HOk P w H h)(e:H a=P3^.dK kvs):kvs.length<=sizeLine/\(a==sysModules)=o_/\∃vs,KV kvs vs/\h.DictOf (A_ P w) a vs:=E9 ok^.inl e
def EB{ks:p_ Key}(ok:HOk P w H h)(e:H a=P3^.tup^ks.map kV):(tupleKind^A_ P w).is h ks a:=by
 let#[_,its,r,o,h1,h2,n,h3,_]:=(ok a _ e);exact#[o,_,n,h1,h2,h3,by simpa using LR r]
def DK{kvs:p_ (p_ Key×V)}(ok:HOk P w H h)(e:Rd H a^.dT kvs):kvs.length<=sizeLine/\(a==sysModules)=o_ /\
  ∃xs,KT H kvs xs/\h.DictOfH (tupleKind^A_ P w) a xs:=by
 let#[z,y,xs,r,o,es,ep,h1,h2,h3,h4,h5]:=(X5 ok e);refine#[z,y,xs,r,o,es,ep,h1,h2,h3,h4,λx hx=>?_,h5]
 have all:∀{l:p_ _}{m:p_ _},KT H l m->∀x∈m,(tupleKind^A_ P w).is h x.1 x.2.1:=by
  intro l m q
  induction q with
  |nil=>grind
  |@cons p q ps qs hq t ih=>
   intro x hx
   rcases XV.mp hx with e|hx
   .exact EB ok^by grind
   .exact ih x hx
 exact all r x hx
def YV{kvs:p_ (p_ Key×V)}(ok:HOk P w H h)(e:H a=P3^.dT kvs):kvs.length<=sizeLine/\(a==sysModules)=o_ /\
  ∃xs,KT H kvs xs/\h.DictOfH (tupleKind^A_ P w) a xs:=DK ok^.inl e
end
def DGet(H:Hp)(a:Ch)(y:V)(r:q_ V):Prop:=
 (∃kvs k,Rd H a^.dK kvs/\y=kV k/\r=CW kvs k)\/∃kvs k b,Rd H a^.dT kvs/\y=.ref b/\H b=P3^.tup^k.map kV/\r=CW kvs k
def DPut(H:Hp)(a:Ch)(y v:V)(H':Hp):Prop:=
 (∃kvs k,H a=P3^.dK kvs/\y=kV k/\kvs.length<sizeLine/\H'=Aq H a^.dK^putK kvs k v) \/
 ∃kvs k b,H a=P3^.dT kvs/\y=.ref b/\H b=P3^.tup^k.map kV/\kvs.length<sizeLine/\H'=Aq H a^.dT^putK kvs k v
theorem DGet.k{H:Hp}{a:Ch}{kvs:p_ (Key×V)}{k:Key}(e:H a=P3^.dK kvs):DGet H a (kV k)^CW kvs k:=.inl #[_,k,.inl e,rfl,rfl]
theorem DPut.k{H:Hp}{a:Ch}{kvs:p_ (Key×V)}{k:Key}{v:V}(e:H a=P3^.dK kvs)(hl:kvs.length<sizeLine):DPut H a (kV k) v^Aq H a^.dK^putK kvs k v:=.inl #[_,k,e,rfl,hl,rfl]
def DPut.t{H:Hp}{a b:Ch}{kvs:p_ (p_ Key×V)}{k:p_ Key}{v:V}(e:H a=P3^.dT kvs)(eb:H b=P3^.tup^k.map kV)(hl:kvs.length<sizeLine):
  DPut H a (.ref b) v (Aq H a^.dT^putK kvs k v):=.inr #[_,k,b,e,rfl,eb,hl,rfl]
section
variable {X:Cx}{zG:p_ (Addr×Obj)}{Z:St}{H:Hp}{s:Shared}{a:Addr}{y v:V}{u r:Value}{o:q_ V}{A:Around}{E:Value->Shared->Prop}
def Inv.big(I:Inv X zG Z H s):sysModules<s.heap.objs.size:=Nat.lt_trans (by cbv) (I.mod.glob.keeps I.bk).lt
def TL{Q:Db->Go->Prop}(hu:A.units+1<cLine)(I:Inv X zG Z H s)(g:DGet H a y^P3 v)(ry:RelV y u)(h:∀w' s',Inv X zG Z H s'->RelV v w'->Q w' s'):
  wpAny (model X.prog X.w) A (getItem (.ref a) u) Q E s:=by
 rcases g with⟨kvs,k,e,ey,l⟩|⟨kvs,k,b,e,ey,eb,l⟩
 .subst ey
  let#[z,hd,vs,rel,dd]:=E9 I.hok e;let#[w',hw,rw']:=RelO.some_of (v:=v) (o:=valueAt vs k) (by rw[l];exact rel.val k);exact wpAny_getItem_of (HV ry) dd.mapOf hw^h w' _ (I.tok _) rw'
 .subst ey
  cases(show u=eJ b from ry);let#[z,hd,xs,rel,dd]:=DK I.hok e;let#[w',hw,rw']:=RelO.some_of (v:=v) (o:=(atKey xs k).map (·.2)) (by rw[l];exact rel.val k);let#[p,hp,hp2]:=eq.mp hw;refine wpAny_getItem_heap (gQ hu) (EB I.hok eb) dd hp ?_;rw[hp2];exact h w' _ (I.tok _) rw'
def c9{Q:Db->Go->Prop}(hu:A.units+1<cLine)(I:Inv X zG Z H s)(g:DGet H a y o)(ry:RelV y u)(h:∀s',Inv X zG Z H s'->Q (.bool o.isSome) s'):
  wpAny (model X.prog X.w) A (compareOp .In u^.ref a) Q E s:=by
 rcases g with⟨kvs,k,e,ey,l⟩|⟨kvs,k,b,e,ey,eb,l⟩
 .subst ey
  let#[z,hd,vs,rel,dd]:=E9 I.hok e;refine wpAny_in_of (HV ry) hd dd.mapOf ?_;rw[←(rel.val k).isSome_eq,←l];exact h _^I.tok _
 .subst ey
  cases(show u=eJ b from ry);let#[z,hd,xs,rel,dd]:=DK I.hok e;refine wpAny_in_heap (gQ hu) (EB I.hok eb) hd dd ?_;have q:=(rel.val k).isSome_eq;rw[j4]at q;rw[←q,←l];exact h _^I.tok _
def Xi{Q:Db->Go->Prop}(hu:A.units+1<cLine)(I:Inv X zG Z H s)(g:DGet H a y o)(ry:RelV y u)(h:∀s',Inv X zG Z H s'->Q (.bool (!o.isSome)) s'):
  wpAny (model X.prog X.w) A (compareOp .NotIn u^.ref a) Q E s:=by
 rcases g with⟨kvs,k,e,ey,l⟩|⟨kvs,k,b,e,ey,eb,l⟩
 .subst ey
  let#[z,hd,vs,rel,dd]:=E9 I.hok e;refine wpAny_notIn_of (HV ry) hd dd.mapOf ?_;rw[←(rel.val k).isSome_eq,←l];exact h _^I.tok _
 .subst ey
  cases(show u=eJ b from ry);let#[z,hd,xs,rel,dd]:=DK I.hok e;refine wpAny_notIn_heap (gQ hu) (EB I.hok eb) hd dd ?_;have q:=(rel.val k).isSome_eq;rw[j4]at q;rw[←q,←l];exact h _^I.tok _
def IU{h':eK}{t':Nat}{ob:HO}(I:Inv X zG Z H s)(mu:cA^H a)(hs:gj a s.heap h')(he:∃q,h'.get? a=P3 q)(new:ObjOk X.prog X.w (Aq H a ob) h' a ob):
  Inv X zG Z (Aq H a ob) {s with heap:=h',toks:=t'}:=
 I.write mu (.inl rfl) (λb q hb z=>(hs.2 b hb).trans z) he new
def Vt{P:eT}{w:eY}{H':Hp}{h':eK}{kvs:p_ (Key×V)}{vs:p_ (Key×Db)}(z:kvs.length<=sizeLine)(hd:(a==sysModules)=o_)(rel:KV kvs vs)(dd:h'.DictOf (A_ P w) a vs):
  ObjOk P w H' h' a (.dK kvs):=#[z,hd,vs,rel,dd]
def LZ{H':Hp}{Q:Unit->Go->Prop}(hu:A.units+1<cLine)(I:Inv X zG Z H s)(g:DPut H a y v H')(ry:RelV y u)(rv:RelV v r)(h:∀s',Inv X zG Z H' s'->Q () s'):
  wpAny (model X.prog X.w) A (setItem (.ref a) u r) Q E s:=by
 rcases g with⟨kvs,k,e,ey,l,eH⟩|⟨kvs,k,b,e,ey,eb,l,eH⟩
 .subst ey eH
  let#[z,hd,vs,rel,dd]:=YW I.hok e;have hz:vs.length<=sizeLine:=by rw[←rel.length];exact z
  have hl:(putK kvs k v).length<=sizeLine:=by have:=D_ kvs k v;lk
  refine wpAny_setItem_pairs (hsz:=hz) (HV ry) dd λh' dd' hs=>h _ ?_;have he:∃q,h'.get? a=P3 q:=let #[q,_,_,hq,_]:=dd';#[q,hq]
  exact IU I (by rw[e];exact gB) hs he^Vt hl hd (rel.put k rv) dd'
 .subst ey eH
  cases(show u=eJ b from ry);let#[z,hd,xs,rel,dd]:=YV I.hok e;have hz:xs.length<=sizeLine:=by rw[←Paired.length rel];exact z
  have hl:(putK kvs k v).length<=sizeLine:=by have:=D_ kvs k v;lk
  refine wpAny_setItem_heap (hsz:=hz) (gQ hu) (EB I.hok eb) dd λh' dd' hs=>h _ ?_;let#[q,es,ep,hq,h2,h3,h4,_,h5]:=dd';refine IU I (by rw[e];exact gB) hs #[q,hq] #[hl,hd,_,(rel.put k eb rv).keeps λc ys ec=>?_,q,es,ep,hq,h2,h3,h4,h5];rw[AK^YL ec e λz=>nomatch z];exact ec
end
def Xt(i:eS):Prop:=∀ov iv,subscripted i o_ ov iv=operate [ov,iv]^getItem ov iv
def WW{prog:eT}{w:eY}{A:e_}{E:Db->Go->Prop}{s:Go}{env:Env}{value slice:eS}{pos:Pos}{T id:String}{Q:Db->Go->Prop}
  (hl:typeLookup (.type T) "__getitem__"=pure^P3^.builtin id) (hs:Xt slice)
  (h:wpAny (model prog w) A (eval value env) (λo s₁=>wpAny (model prog w) A (eval slice env) (λi s₂=>s₂.TypeIs o T/\wpAny (model prog w) A (getItem o i) Q E s₂) E s₁) E s):
  wpAny (model prog w) A (eval (.Subscript value slice pos) env) Q E s:=by
 refine Subscript_^fV h (λo s₁ h₁=>fV h₁ (λi s₂ h₂=>?_) λ_ _ x=>x) λ_ _ x=>x;let#[hT,h₂]:=h₂;refine Cn ?_;refine Cn^kP hT hl ?_
 first
  |exact On (Cn (by
  rw[hs o i];exact wpAny_operating^fV h₂ (λr s₃ h₃=>Cn^wpAny_letTemporaryGo^On h₃) λ_ _ x=>x))
  |grind
  |grind
def Oa{X:Cx}{zG:p_ (Ch×Obj)}{Z:St}{H:Hp}{s:Go}{a:Ch}{y:V}{o:q_ V}(I:Inv X zG Z H s)(g:DGet H a y o):s.TypeIs (.ref a) "dict":=by
 rcases g with⟨kvs,k,e,_,_⟩|⟨kvs,k,b,e,_,_,_⟩
 .let#[_,_,vs,_,dd]:=E9 I.hok e
  exact dd.typeIs
 .let#[_,_,xs,_,dd]:=DK I.hok e
  exact dd.typeIs
def ae(td ty:TE):TE:=λZ H Q=>td Z H λx H1=>ty Z H1 λy H2=>∃a v,x=.ref a/\DGet H2 a y^P3 v/\Q v H2
def ak(td ty tv:TE):TS:=λD Z H=>tv Z H λv H1=>td Z H1 λx H2=>ty Z H2 λy H3=>∃a H4,x=.ref a/\DPut H3 a y v H4/\D.nx Z H4
section
variable {X:Cx}{o i value:Expr}{pos pos':Pos}{td ty tv:TE}
def II(hu:X.A.units+1<cLine)(ho:PE X o td)(hi:PE X i ty)(hs:Xt i):PE X (.Subscript o i pos)^ae td ty:=by
 intro zG s Z H Q I h;refine WW PySem.F.slot_dict_getitem.lookup hs^BD (ho _ s Z H _ I h) λu s1 #[x,H1,I1,rx,q1]=>BD (hi _ s1 Z H1 _ I1 q1) λiv s2 #[y,H2,I2,ry,a,v,ex,g,q2]=>?_;subst ex;obtain rfl:u=eJ a:=rx;exact#[Oa I2 g,TL hu I2 g ry λw' s3 I3 rw'=>#[v,H2,I3,rw',q2]]
def IG(hu:X.A.units+1<cLine)(ho:PE X o td)(hi:PE X i ty)(hv:PE X value tv)(hs:swapsWith value (P3^.Subscript o i pos') pos.line X.env=pure o_):
  PS X (.Assign [.Subscript o i pos'] value pos) (ak td ty tv):=by
 intro zG s Z H D I h;refine wpAny_Assign_Subscript (BD (hv _ s Z H _ I h) λr s1 #[v,H1,I1,rv,q1]=>BD (ho _ s1 Z H1 _ I1 q1) λu s2 #[x,H2,I2,rx,q2]=>BD (hi _ s2 Z H2 _ I2 q2) λiv s3 #[y,H3,I3,ry,a,H4,ex,g,q3]=>?_) hs;subst ex;obtain rfl:u=eJ a:=rx;exact LZ hu I3 g ry rv λs4 I4=>#[Z,H4,I4,q3]
end
def OZ{P:eT}{w:eY}{H:Hp}(h:eK)(hb:sysModules<h.objs.size):ObjOk P w H (h.push {cls:=.type "dict",data:=.dict #[]}) h.objs.size^.dK []:=
 #[eP _,beq_eq_false_iff_ne.mpr^fB^eI hb,[],.nil,Heap.DictOf.new h]
def Vs{P:eT}{w:eY}{H:Hp}(h:eK)(hb:sysModules<h.objs.size):ObjOk P w H (h.push {cls:=.type "dict",data:=.dict #[]}) h.objs.size^.dT []:=
 #[eP _,beq_eq_false_iff_ne.mpr^fB^eI hb,[],.nil,_,_,0,TM _ rfl,#[rfl,rfl,rfl],rfl,rfl,fF]
def Yv:TE:=λ_ H Q=>∀p,H p=m_->Q (.ref p)^Aq H p^.dK []
def Yu:TE:=λ_ H Q=>∀p,H p=m_->Q (.ref p)^Aq H p^.dT []
section
variable {X:Cx}{pos:Pos}
def JN:PE X (.Dict [] [] pos) Yv:=λzG s Z H Q I h=>
 wpAny_Dict_empty #[.ref _,_,I.laid (λ_ _ q=>FM _ q) (Op _)^OZ _ I.big,rfl,h _^I.hok.fresh^Op _]
def U1:PE X (.Dict [] [] pos) Yu:=λzG s Z H Q I h=>
 wpAny_Dict_empty #[.ref _,_,I.laid (λ_ _ q=>FM _ q) (Op _)^Vs _ I.big,rfl,h _^I.hok.fresh^Op _]
end
def PY:p_ (TE×TE)->St->Hp->(p_ (V×V)->Hp->Prop)->Prop
 |[],_,H,Q=>Q [] H
 |(tk,tv)::r,Z,H,Q=>tk Z H λx H1=>tv Z H1 λy H2=>PY r Z H2 λps H3=>Q ((x,y)::ps) H3
abbrev VV:p_ (V×V)->p_ (Db×Db)->Prop:=Paired λp q=>RelV p.1 q.1/\RelV p.2 q.2
def cN(X:Cx)(pos:Pos)(keys:p_^q_ eS)(values:p_ eS)(trs:p_ (TE×TE)):Prop:=
 ∀(zG:p_ (Ch×Obj)) (s:Go) (Z:St) (H:Hp) (Q:p_ (V×V)->Hp->Prop),Inv X zG Z H s->PY trs Z H Q->
  wpAny (model X.prog X.w) X.A (evalPairs^pairTrees keys values X.env pos) (λvs s'=>∃ps H',Inv X zG Z H' s'/\VV ps vs/\Q ps H') X.xe s
def Q5{X:Cx}{pos:Pos}:cN X pos [] [] []:=λzG s Z H Q I h=>pairTrees_nil_walk #[[],H,I,.nil,h]
def JK{X:Cx}{pos:Pos}{k v:eS}{ks:p_^q_ eS}{vs:p_ eS}{tk tv:TE}{trs:p_ (TE×TE)}(hk:PE X k tk)(hv:PE X v tv)(hr:cN X pos ks vs trs):
  cN X pos (P3 k::ks) (v::vs) ((tk,tv)::trs):=λzG s Z H Q I h=>
 pairTrees_cons_walk (BD (hk _ s Z H _ I h) λu s1 #[x,H1,I1,rx,q1]=>BD (hv _ s1 Z H1 _ I1 q1) λw2 s2 #[y,H2,I2,ry,q2]=>
  BD (hr _ s2 Z H2 _ I2 q2) λws s3 #[ps,H3,I3,rel,q3]=>#[_,H3,I3,.cons #[rx,ry] rel,q3])
def FT(kvs more:p_ (Key×V)):p_ (Key×V):=more.foldl (λacc kv=>putK acc kv.1 kv.2) kvs
def KV.merge:∀{more:p_ (Key×V)}{rs:p_ (Key×Db)}{kvs:p_ (Key×V)}{vs:p_ (Key×Db)},KV more rs->KV kvs vs->KV (FT kvs more)^merged vs rs:=by
 intro more rs kvs vs r
 induction r generalizing kvs vs with
 |nil=>intro q;exact q
 | @cons p q ps qs h t ih=>
  intro r0
  exact ih (by
   have:=r0.put p.1 h.2
   simp_all)
theorem E8:∀(more kvs:p_ (Key×V)),(FT kvs more).length<=kvs.length+more.length
 |[],kvs=>by show kvs.length<=kvs.length+0;lk
 |p::r,kvs=>by
  have h1:=E8 r^putK kvs p.1 p.2;have h2:=D_ kvs p.1 p.2;show(FT _ r).length<=_
  grind
theorem Jw{P:eT}{w:eY}:∀{kvs:p_ (Key×V)}{ws:p_ (Db×Db)},VV (kvs.map λkv=>(kV kv.1,kv.2)) ws->∃rs,Carries (A_ P w) ws rs/\KV kvs rs
 |[],_,r=>by cases r;exact#[[],gB,.nil]
 | p::kvs,_,r=>by
  cases r with
  |@cons a b as bs h t=>
   let#[rs,c,q]:=Jw t;let#[b1,b2]:=b;exact#[(p.1,b2)::rs,#[HV h.1,rfl,c],.cons #[rfl,h.2] q]
def ac(trs:p_ (TE×TE)):TE:=λZ H Q=>∀p,H p=m_->PY trs Z (Aq H p^.dK []) λps H2=>H2 p=P3^.dK []/\∃kvs:p_ (Key×V),ps=kvs.map (λkv=>(kV kv.1,kv.2))/\kvs.length<=15/\Q (.ref p)^Aq H2 p^.dK^FT [] kvs
def Q9{X:Cx}{pos:Pos}{keys:p_^q_ eS}{values:p_ eS}{trs:p_ (TE×TE)}(h:cN X pos keys values trs)(hall:keys.all (·.isSome)=n_)(hl:keys.length=values.length)(h0:keys≠[])
  (h15:keys.length<=15):PE X (.Dict keys values pos)^ac trs:=by
 intro zG s Z H Q I q;have hn:=I.hok.fresh^Op s.heap.objs.size;have I1:=I.laid (a:=s.heap.objs.size) (o:=.dK []) (h':=s.heap.push {cls:=.type "dict",data:=.dict #[]}) (t':=s.toks) (λ_ _ q=>FM _ q) (Op _)^OZ s.heap I.big;refine wpAny_Dict_walk (knd:=A_ X.prog X.w) hall hl h0 h15^BD (h zG _ Z _ _ I1^q _ hn) λws s2 #[ps,H2,I2,rel,e,kvs,ep,lk,q2]=>?_;subst ep;let#[rs,c,rk]:=Jw (P:=X.prog) (w:=X.w) rel;let#[z,hd,vs0,r0,dd]:=YW I2.hok e;cases r0;refine#[rs,c,dd,λh' dd' hs=>#[.ref s.heap.objs.size,_,?_,rfl,q2]]
 have hz:(FT [] kvs).length<=sizeLine:=by
  have h1:=E8 kvs [];rw[f6]at h1;rw[fA];lk
 have he:∃q,h'.get? s.heap.objs.size=P3 q:=let #[q,_,_,hq,_]:=dd';#[q,hq]
 exact IU I2 (by rw[e];exact gB) hs he^Vt hz hd (rk.merge .nil) dd'
structure M1 (X:Cx) (o:eS) (m:Str) (apos:Pos) (e:eS) (cpos:Pos):Prop where
 base:attributeBase o m X.env^eval o X.env=eval o X.env
 few:((backTo cpos^starEach [e] X.env).all (λx=>!x.1)&&(backToKw cpos^keywordEach [] X.env).all (λx=>x.1.isSome)
  && decide (([e]:List eS).length+([]:List iG).length+(if([]:List iG).isEmpty then 0 else 1)<30))=n_
 line:(apos.endLine==cpos.line)=n_
 trees:backTo cpos^starEach [e] X.env=[(o_,eval e X.env)]
structure M2 (X:Cx) (o:eS) (m:Str) (apos:Pos) (e f:eS) (cpos:Pos):Prop where
 base:attributeBase o m X.env^eval o X.env=eval o X.env
 few:((backTo cpos^starEach [e,f] X.env).all (λx=>!x.1)&&(backToKw cpos^keywordEach [] X.env).all (λx=>x.1.isSome)
  && decide (([e,f]:List eS).length+([]:List iG).length+(if([]:List iG).isEmpty then 0 else 1)<30))=n_
 line:(apos.endLine==cpos.line)=n_
 trees:backTo cpos^starEach [e,f] X.env=[(o_,eval e X.env),(o_,eval f X.env)]
def cP(H:Hp)(a:Ch):Prop:=(∃kvs,Rd H a^.dK kvs)\/∃kvs,Rd H a^.dT kvs
def QF{X:Cx}{zG:p_ (Ch×Obj)}{Z:St}{H:Hp}{s:Go}{a:Ch}(I:Inv X zG Z H s)(d:cP H a):
  s.TypeIs (.ref a) "dict"/\(∀b,eJ a=.ref b->∃ob,s.heap.get? b=P3 ob/\ob.dict=m_)/\(a==sysModules)=o_:=by
 rcases d with⟨kvs,e⟩|⟨kvs,e⟩
 .let#[_,hd,vs,_,dd]:=E9 I.hok e
  refine#[dd.typeIs,λb q=>?_,hd];cases q;let#[ob,_,_,h1,h2,_]:=dd;exact#[ob,h1,h2.2.1]
 .let#[_,hd,xs,_,dd]:=DK I.hok e
  refine#[dd.typeIs,λb q=>?_,hd];cases q;let#[ob,_,_,h1,h2,_]:=dd;exact#[ob,h1,h2.2.1]
section
variable {X:Cx}{zG:p_ (Addr×Obj)}{Z:St}{H:Hp}{s:Shared}{a:Addr}{y d:V}{u r:Value}{o:q_ V}{A:Around}{E:Value->Shared->Prop}
def Zu{Q:Db->Go->Prop}(hu:A.units+1<cLine)(I:Inv X zG Z H s)(g:DGet H a y o)(ry:RelV y u)(h:∀w' s',Inv X zG Z H s'->RelV (o.getD .non) w'->Q w' s'):
  wpAny (model X.prog X.w) A (call (.builtin "dict.get") [.ref a,u]) Q E s:=by
 rcases g with⟨kvs,k,e,ey,l⟩|⟨kvs,k,b,e,ey,eb,l⟩
 .subst ey
  let#[z,hd,vs,rel,dd]:=E9 I.hok e;refine iH PySem.F.slot_dict_get dd.typeIs PySem.F.entry_dict_get (PySem.F.args_dict_get_2 _ _) (meets_dict_get (A_ X.prog X.w) a (HV ry) hd) #[_,dd.mapOf,h _ _ (I.tok _) ?_];rw[l];exact(rel.val k).getD rfl
 .subst ey
  cases(ry);let#[z,hd,xs,rel,dd]:=DK I.hok e;refine iH PySem.F.slot_dict_get dd.typeIs PySem.F.entry_dict_get (PySem.F.args_dict_get_2 _ _) (meetsH_dict_get _ a b hd) #[gQ hu,k,xs,EB I.hok eb,dd,h _ _ (I.tok _) ?_];rw[l];exact(rel.val k).getD rfl
def Zt{Q:Db->Go->Prop}(hu:A.units+1<cLine)(I:Inv X zG Z H s)(g:DGet H a y o)(ry:RelV y u)(rd:RelV d r)(h:∀w' s',Inv X zG Z H s'->RelV (o.getD d) w'->Q w' s'):
  wpAny (model X.prog X.w) A (call (.builtin "dict.get") [.ref a,u,r]) Q E s:=by
 rcases g with⟨kvs,k,e,ey,l⟩|⟨kvs,k,b,e,ey,eb,l⟩
 .subst ey
  let#[z,hd,vs,rel,dd]:=E9 I.hok e;refine iH PySem.F.slot_dict_get dd.typeIs PySem.F.entry_dict_get (PySem.F.args_dict_get_3 _ _ _) (meets_dict_get_default (A_ X.prog X.w) a (HV ry) hd r) #[_,dd.mapOf,h _ _ (I.tok _) ?_];rw[l];exact(rel.val k).getD rd
 .subst ey
  cases(ry);let#[z,hd,xs,rel,dd]:=DK I.hok e;refine iH PySem.F.slot_dict_get dd.typeIs PySem.F.entry_dict_get (PySem.F.args_dict_get_3 _ _ _) (meetsH_dict_get_default _ a b hd r) #[gQ hu,k,xs,EB I.hok eb,dd,h _ _ (I.tok _) ?_];rw[l];exact(rel.val k).getD rd
end
def Yx(td ty:TE):TE:=λZ H Q=>td Z H λx H1=>∃a,x=.ref a/\cP H1 a/\ty Z H1 λy H2=>∃o,DGet H2 a y o/\Q (o.getD .non) H2
def Yw(td ty tx:TE):TE:=λZ H Q=>td Z H λx H1=>∃a,x=.ref a/\cP H1 a/\ty Z H1 λy H2=>tx Z H2 λz H3=>∃o,DGet H3 a y o/\Q (o.getD z) H3
section
variable {X:Cx}{o e f:Expr}{apos cpos:Pos}{td ty tx:TE}
def U3(hu:X.A.units+1<cLine)(ho:PE X o td)(he:PE X e ty)(m:M1 X o "get" apos e cpos):PE X (.Call (.Attribute o "get" apos) [e] [] cpos)^Yx td ty:=by
 intro zG s Z H Q I h;refine wpAny_Call_method m.base m.few m.line PySem.F.plainAttrs_dict PySem.F.slot_dict_get PySem.F.type_dict_get^BD (ho _ s Z H _ I h) λu s1 #[x,H1,I1,rx,a,ex,d,q1]=>?_;subst ex;obtain rfl:u=eJ a:=rx;let#[t1,t2,_]:=QF I1 d;refine#[t1,t2,?_];rw[m.trees];exact fu rfl (iQ^gl^BD (he _ s1 Z H1 _ I1 q1) λiv s2 #[y,H2,I2,ry,ov,g,q2]=>iE^Zu hu I2 g ry λw' s3 I3 rw'=>#[_,H2,I3,rw',q2])
def U2(hu:X.A.units+1<cLine)(ho:PE X o td)(he:PE X e ty)(hf:PE X f tx)(m:M2 X o "get" apos e f cpos):PE X (.Call (.Attribute o "get" apos) [e,f] [] cpos)^Yw td ty tx:=by
 intro zG s Z H Q I h;refine wpAny_Call_method m.base m.few m.line PySem.F.plainAttrs_dict PySem.F.slot_dict_get PySem.F.type_dict_get^BD (ho _ s Z H _ I h) λu s1 #[x,H1,I1,rx,a,ex,d,q1]=>?_;subst ex;obtain rfl:u=eJ a:=rx;let#[t1,t2,_]:=QF I1 d;refine#[t1,t2,?_];rw[m.trees]
 exact fu rfl (iQ (gl (BD (he _ s1 Z H1 _ I1 q1) λiv s2 #[y,H2,I2,ry,q2]=>
  gl (BD (hf _ s2 Z H2 _ I2 q2) λfv s3 #[z,H3,I3,rz,ov,g,q3]=>iE^Zt hu I3 g ry rz λw' s4 I4 rw'=>#[_,H3,I4,rw',q3]))))
end
end L2
set_option maxHeartbeats 4000000
namespace L2
section
def QR{env:Env}:∀(names:p_ (Str×gg)) (cs:p_ (Str×Ch)),(∀x,(x,fJ)∈names->∃c,env.cells.lookup x=P3 c)->(∀x c,cs.lookup x=P3 c->env.cells.lookup x=P3 c)->
  ∃cl,(forIn names cs fun(x:Str×gg) (r:p_ (Str×Ch))=>(if(x.2==fJ)=n_ then do let a ←cellOf env x.1;pure^h8 ((x.1,a)::r) else pure^h8 r:Sem^ForInStep^p_ (Str×Ch)))=(pure cl:Sem _) /\
   (∀x c,cl.lookup x=P3 c->env.cells.lookup x=P3 c)/\(∀x,((x,fJ)∈names\/∃c,cs.lookup x=P3 c)->∃c,cl.lookup x=P3 c):=by
 intro names
 induction names with
 |nil=>
  intro cs _ h2;exact#[cs,rfl,h2,λx hx=>hx.elim (λz=>absurd z^by simp) λz=>z]
 | cons p r ih=>
  intro cs h1 h2;let#[n,k]:=p
  by_cases hk:k=fJ
  .subst hk
   let#[c,hc]:=h1 n Re;have hcell:cellOf env n=pure c:=by simp only[cellOf,hc]
   let#[cl,e,a,b]:=ih ((n,c)::cs) (λx hx=>h1 x^TW _ hx) (λx c' hx=>by
    rw[hU]at hx;cases hb:x==n with
    |true=>
     rw[hb]at hx;have hx':P3 c=P3 c':=hx;cases hx'
     have:x=n:=by simpa using hb
     rw[this];exact hc
    |false=>rw[hb]at hx;exact h2 x c' hx)
   refine#[cl,?_,a,λx hx=>b x ?_]
   .rw[jS]
    simp only[beq_self_eq_true,if_true,hcell,pure_bind];exact e
   .by_cases hxn:x=n
    .subst hxn
     exact .inr #[c,by simp[hU]]
    .rcases hx with hx|⟨c',hx⟩
     .rcases XV.mp hx with hx|hx
      .cases hx;exact absurd rfl hxn
      .exact .inl hx
     .refine .inr #[c',?_]
      have:(x==n)=o_:=by simpa using hxn
      rw[hU,this];exact hx
  .have hk':(k==fJ)=o_:=by simpa using hk
   let#[cl,e,a,b]:=ih cs (λx hx=>h1 x^TW _ hx) h2;refine#[cl,?_,a,λx hx=>b x ?_]
   .rw[jS]
    simp only[hk',fG,if_false,pure_bind];exact e
   .rcases hx with hx|hx
    .rcases XV.mp hx with hx|hx
     .cases hx;exact absurd rfl hk
     .exact .inl hx
    .exact .inr hx
def Jv{scope:gh}{env:Env}(h:∀x,(x,fJ)∈scope.names->∃c,env.cells.lookup x=P3 c):
  ∃cl,closureFor scope env=pure cl/\(∀x c,cl.lookup x=P3 c->env.cells.lookup x=P3 c)/\(∀x,(x,fJ)∈scope.names->∃c,cl.lookup x=P3 c):=by
 let#[cl,e,a,b]:=QR _ [] h (λx c hx=>by simp at hx);refine#[cl,?_,a,λx hx=>b x^.inl hx];simp[closureFor]
 simp_all
variable {prog:Program}{w:World}{A:Around}{R:Result->Shared->Prop}{s:Shared}
def M8{elt target iter:eS}{ifs:p_ eS}{scope:gh}{pos:Pos}{it acc:Db}{env:Env}(I:Nat->Go->Prop)
  (turn:∀n s,I n s->wpAny (model prog w) A (pyNext it) (λr s₁=>match r with
   |none=>R (.ok .next) s₁
   | some v=>wpAny (model prog w) A (letOwnedTupleGo target it v) (λ_ s₁'=>wpAny (model prog w) A (assign target env v) (λ_ s₂=>
     wpAny (model prog w) A (forIn ifs n_ λc r=>if r=n_ then do let ok ←isTrue c env^eval c env;pure^h8 ok else pure^h8 r) (λok s₃=>
      if ok=n_ then wpAny (model prog w) A (eval elt env) (λx s₄=>
       wpAny (model prog w) A (call (.builtin "list.append") [acc,x]) (λ_ s₅=>∃m,m<n/\I m s₅) (λ_ _=>False) s₄) (λ_ _=>False) s₃
      else ∃m,m<n/\I m s₃) (λ_ _=>False) s₂) (λ_ _=>False) s₁') (λ_ _=>False) s₁) (λ_ _=>False) s)
  (n:Nat) (h:I n s):
  codeAny (model prog w) A (.compLoop (.ListComp elt [#[target,iter,ifs,0]] scope pos) 0 it acc env) R s:=by
 refine codeAny_loop rfl I (λn s hI=>?_) n h;refine wpAny_noted ?_;refine Cn^wpAny_standAt^Cn^fV (turn n s hI) (λr s₁ h₁=>?_) λ_ _ h'=>h'.elim;cases r with
 |none=>exact On h₁
 | some v=>
  refine Cn^fV h₁ (λ_ s₁' h₁'=>?_) λ_ _ h'=>h'.elim;refine Cn^fV h₁' (λ_ s₂ h₂=>Cn^fV h₂ (λok s₃ h₃=>?_) λ_ _ h'=>h'.elim) λ_ _ h'=>h'.elim;cases ok with
  |false=>exact On #[rfl,h₃]
  |true=>
   exact Cn^Cn^fV h₃ (λx s₄ h₄=>Cn^fV h₄ (λ_ s₅ h₅=>On^On #[rfl,h₅]) λ_ _ h'=>h'.elim) λ_ _ h'=>h'.elim
end
def A1(X:Cx)(sc:gh)(N':p_ Str)(cl:p_ (Str×Ch))(C:Ch)(s:Go)(H:Hp)(ex:p_ Ch):Cx where
 prog:=X.prog
 w:=X.w
 K:=X.K
 mg:=X.mg
 base:=X.base
 A:=X.A
 N:=N'
 s₀:=s
 H₀:=H
 env:=compEnvC sc cl C X.env
 outer:=X.stack
 stack:=X.stack
 ex:=ex
 fn:=λ_=>o_
 calm:=n_
 pn:=[]
 xe:=λ_ _=>False
def CF(js:p_^q_ Nat)(Z:St):St:=js.map λo=>match o with
 |some i=>(Z[i]?).getD m_
 |none=>m_
def XG(o:q_ gg):Bool:=match o with
 |some .cell=>n_
 |some .free=>n_
 |_=>o_
def RL{o:q_ gg}(h:XG o=n_):o=P3 .cell\/o=P3 .free:=by
 unfold XG at h
 split at h
 .grind
 .grind
 .cases h
def isFree(o:q_ gg):Bool:=match o with
 |some .free=>n_
 |_=>o_
def S8{o:q_ gg}(h:isFree o=n_):o=P3 .free:=by
 unfold isFree at h
 split at h
 .rfl
 .cases h
def VY(o:q_ gg):Bool:=match o with
 |some .local=>n_
 |_=>o_
def VX{o:q_ gg}(h:VY o=n_):o=P3 .local:=by
 unfold VY at h
 split at h
 .rfl
 .cases h
def Va(k:ScopeKind):Bool:=match k with
 |.function=>n_
 |_=>o_
def VZ{k:ScopeKind}(h:Va k=n_):k=.function:=by
 unfold Va at h
 split at h
 .rfl
 .cases h
def cm(sc esc:gh)(p:Str×gg):Bool:=match p.2 with
 |.cell=>o_
 |.free=>XG^esc.names.lookup p.1
 |.local=>VY^sc.names.lookup p.1
 |_=>n_
def c8(x:q_ Str)(y:Str):Bool:=match x with
 |some z=>z==y
 |none=>o_
def Zm{x:q_ Str}{y:Str}(h:c8 x y=n_):x=P3 y:=by
 unfold c8 at h
 split at h
 .grind
 .cases h
def Jx(sc esc:gh)(N:p_ Str):p_ Str->p_^q_ Nat->Bool
 |[],[]=>n_
 |x::xs,P3 j::js=>isFree^sc.names.lookup x&&c8 (N[j]?) x&&XG^esc.names.lookup x&&Jx sc esc N xs js
 |_::xs,m_::js=>Jx sc esc N xs js
 |_,_=>o_
def Hb(sc esc:gh)(N N':p_ Str)(js:p_^q_ Nat):Bool:=Va sc.kind&&sc.names.all^cm sc esc&&Jx sc esc N N' js
theorem EL{sc esc:gh}{N:p_ Str}:∀{N':p_ Str}{js:p_^q_ Nat},Jx sc esc N N' js=n_->js.length=N'.length
 |[],[],_=>rfl
 |x::xs,P3 j::js,h=>by
  unfold Jx at h;rw[eh]at h;rw[eo,eo,EL h.2]
 |x::xs,m_::js,h=>by
  unfold Jx at h;rw[eo,eo,EL h]
 |[],P3 _::_,h=>by cases h
 |[],m_::_,h=>by cases h
 |_::_,[],h=>by cases h
theorem M9{sc esc:gh}{N:p_ Str}:∀{N':p_ Str}{js:p_^q_ Nat},Jx sc esc N N' js=n_->∀{k:Nat}{x:Str}{j:Nat},N'[k]?=P3 x->js[k]?=P3^P3 j->
  sc.names.lookup x=P3 .free/\N[j]?=P3 x/\(esc.names.lookup x=P3 .cell\/esc.names.lookup x=P3 .free)
 |[],_,_,k,x,j,h1,_=>by simp at h1
 |_::_,[],h,_,_,_,_,_=>by unfold Jx at h;cases h
 | y::ys,P3 i::js,h,k,x,j,h1,h2=>by
  unfold Jx at h;rw[eh,eh,eh]at h;cases k with
  |zero=>
   simp at h1 h2;subst h1 h2;exact#[S8 h.1.1.1,Zm h.1.1.2,RL h.1.2]
  |succ k=>exact M9 h.2 (k:=k) (by simpa using h1)^by simpa using h2
 |y::ys,m_::js,h,k,x,j,h1,h2=>by
  unfold Jx at h;cases k with
  |zero=>simp at h2
  |succ k=>exact M9 h (k:=k) (by simpa using h1)^by simpa using h2
def S4{js:p_^q_ Nat}{Z:St}{k:Nat}{v:V}(h:(CF js Z)[k]?=P3^P3 v):∃j,js[k]?=P3^P3 j/\Z[j]?=P3^P3 v:=by
 unfold CF at h;rw[ZB]at h;cases e:js[k]? with
 |none=>simp_all
 | some o=>
  rw[e]at h;cases o with
  |none=>cases h
  |some j=>
   cases q:Z[j]? with
   |none=>simp_all
   |some w=>simp_all
theorem CU{env:Env}:∀{names:p_ (Str×gg)}{x:Str},names.lookup x=P3 .free->
  (names.map fun(n,k)=>if(k==fJ&&env.scope.kind==.function&&env.kindOf n==P3 .cell)then(n,jC)else(n,k)).lookup x=P3 .cell \/
  (names.map fun(n,k)=>if(k==fJ&&env.scope.kind==.function&&env.kindOf n==P3 .cell)then(n,jC)else(n,k)).lookup x=P3 .free
 |[],_,h=>by simp at h
 | (n,k)::r,x,h=>by
  have ih:=@CU env r x;show iC x ((if(k==fJ&&env.scope.kind==.function&&env.kindOf n==P3 .cell)=n_ then(n,jC)else(n,k))::_)=_\/iC x ((if(k==fJ&&env.scope.kind==.function&&env.kindOf n==P3 .cell)=n_ then(n,jC)else(n,k))::_)=_
  by_cases hc:(k==fJ&&env.scope.kind==.function&&env.kindOf n==P3 .cell)=n_
  .rw[if_pos hc]
   cases hx:x==n with
   |true=>exact .inl^by simp only[hU,hx]
   |false=>
    simp only[hU,hx]at h ⊢;exact ih h
  .rw[if_neg hc]
   cases hx:x==n with
   |true=>
    simp_all
   |false=>
    simp only[hU,hx]at h ⊢;exact ih h
def Pg{env:Env}{sc:gh}(hcell:∀y∈sc.names,y.2≠.cell){x:Str}(h:(relabel sc env).names.lookup x=P3 .cell\/(relabel sc env).names.lookup x=P3 .free):(x,fJ)∈sc.names:=by
 have hm:(x,jC)∈(relabel sc _).names\/(x,fJ)∈(relabel sc _).names:=h.elim (λz=>.inl^PySem.mem_of_lookup z) λz=>.inr^PySem.mem_of_lookup z
 have go:∀k,(k=.cell\/k=.free)->(x,k)∈(relabel sc env).names->(x,fJ)∈sc.names:=by
  intro k hk hmem;unfold relabel at hmem
  grind
 exact hm.elim (go _ (.inl rfl))^go _ (.inr rfl)
section
variable {X:Cx}{zG:p_ (Addr×Obj)}{Z:St}{H:Hp}{s:Shared}
structure CompOk (X:Cx) (sc:gh) (N':List Str) (js:List^Option Nat):Prop where
 kind:sc.kind=.function
 cell:∀y∈sc.names,y.2≠.cell
 free:∀x,(x,fJ)∈sc.names->X.env.scope.names.lookup x=P3 .cell\/X.env.scope.names.lookup x=P3 .free
 names:∀y∈sc.names,y.2=.local->sc.names.lookup y.1=P3 .local
 cap:Jx sc X.env.scope X.N N' js=n_
def CompOk.of{sc:gh}{N':p_ Str}{js:p_^q_ Nat}(h:Hb sc X.env.scope X.N N' js=n_):CompOk X sc N' js:=by
 unfold Hb at h;rw[eh,eh,jF]at h;let#[#[h1,h2],h3]:=h;refine#[VZ h1,λy hy e=>?_,λx hx=>?_,λy hy e=>?_,h3]
 .have q:=h2 y hy
  unfold cm at q
  simp_all
 .have q:=h2 _ hx
  exact RL q
 .have q:=h2 y hy
  unfold cm at q;rw[e]at q;exact VX q
def OS{sc:gh}{N':p_ Str}{js:p_^q_ Nat}{cl:p_ (Str×Ch)}{fp:p_ Ch}{h₁:eK}{tk:Nat}(I:Inv X zG Z H s)(hc:X.calm=n_)(O:CompOk X sc N' js)
  (hcl:∀x c,cl.lookup x=P3 c->X.env.cells.lookup x=P3 c) (hcl2:∀x,(x,fJ)∈sc.names->∃c,cl.lookup x=P3 c)
  (hf:∀b∈fp,GX X zG H b) (ho:∀b∈fp,∃o,s.heap.get? b=P3 o)
  (hns:h₁.Ns (s.heap.objs.size+1) λ_=>m_) (hk:∀b o,s.heap.get? b=P3 o->h₁.get? b=P3 o) (hD:∃n,h₁.get? s.heap.objs.size=P3 {cls:=.type "list",data:=.seq #[] n}):
  Inv (A1 X sc N' cl (s.heap.objs.size+1) s H fp) [] (CF js Z) (Aq H s.heap.objs.size^.lst []) {s with heap:=h₁,toks:=tk}:=by
 have fr:∀a,s.heap.objs.size<=a->H a=m_:=λa ha=>I.hok.fresh ha
 have cellLt:∀x c,cl.lookup x=P3 c->c<s.heap.objs.size:=λx c e=>by
  let#[v,q]:=I.cell x c^hcl x c e;exact q.lt
 have ok:(A1 X sc N' cl (s.heap.objs.size+1) s H fp).Ok:=by
  refine#[I.ok.mod,O.kind,I.ok.glob,I.ok.blt,fR _,λx y c h1 h2=>I.ok.inj x y c (hcl x c h1)^hcl y c h2,λx hx=>?_,λx c hx=>?_,λ_=>I.ok.hd hc,I.ok.frames,.inl rfl,λb hb=>#[?_,λx c e=>?_],I.bs,eR I.ok.bsz I.sz,λb o e hb=>?_,λb hb hb2=>?_,I.stack,I.stkFree]
  .exact hcl2 x^Pg (env:=X.env) O.cell hx
  .exact absurd (show o_=n_ from hx) eO
  .let#[o,e]:=ho b hb
   exact eI^gE^Tk e
  .exact(hf b hb).2.2.2.2.1 x c^hcl x c e
  .rcases(hf b hb).2.2.2.1 with z|z
   .exact I.ok.noex b o e z
   .have h1:b<X.base.objs.size:=Tk e
    exact absurd (eg h1^eR I.ok.bsz z)^fb _
  .rcases XV.mp^I.stkSub b hb2 with z|z
   .exact(hf b hb).2.1 z
   .exact(hf b hb).2.2.1 z
 refine#[ok,rfl,I.bare,?_,#[_,hns,λi x v h1 h2 h3=>?_],λx c e=>?_,?_,λx c e=>?_,λp hp=>absurd (show p∈([]:p_ (Ch×Obj))from hp)^by simp,?_,?_]
 .exact Un.laid hk (Op _)^fr _^Op _
 .let#[j,e1,e2]:=S4 h2
  let#[c1,c2,c3]:=M9 O.cap h1 e1;let#[m,_,hl]:=I.loc;let#[u,r,l]:=hl j x v c2 e2^.inr c3;refine#[u,r,.inr #[CU c1,?_]]
  rcases l with⟨l1,_⟩|⟨_,c,l2,l3⟩
  .have l1':X.env.scope.names.lookup x=P3 .local:=l1
   rcases c3 with c3|c3 <;>(rw[l1']at c3;cases c3)
  .let#[c',e']:=hcl2 x^PySem.mem_of_lookup c1
   have:c'=c:=eE^(hcl x c' e').symm.trans l2
   subst this;let#[oc,hoc,hocd]:=id l3;exact#[c',e',oc,hk _ _ hoc,hocd]
 .let#[v,oc,hoc,hocd]:=I.cell x c^hcl x c e
  exact#[v,oc,hk _ _ hoc,hocd]
 .show Aq H s.heap.objs.size (.lst []) (s.heap.objs.size+1)=m_
  rw[AK^Nat.succ_ne_self _];exact fr _^fR _
 .show Aq H s.heap.objs.size (.lst []) c=m_
  rw[AK^eI^cellLt x c e];exact I.freeC x c^hcl x c e
 .refine I.hok.laid hk (Op _) ?_
  let#[n,e]:=hD;exact#[eP _,[],n,.nil,e]
 .unfold CF
  show(js.map _).length=N'.length;rw[Ev];exact EL O.cap
def Un.but{fs ex:p_ Ch}{H H1:Hp}{h h1 h':eK}{C:Ch}(u:Un fs ex H H1 h h1)(hC:h.get? C=m_)(hs:∀b,b≠C->h'.get? b=h1.get? b):Un fs ex H H1 h h':=by
 have ne:∀{b:Ch}{o:Obj},h.get? b=P3 o->b≠C:=λ{b o} e z=>by grind
 refine#[λb o e n h1 h2=>(hs b^ne e).trans^u.keep b o e n h1 h2,λb o e n h1 h2=>?_,u.free,λb o e h1=>?_,u.tups,u.frzs,u.tbls]
 .let#[sl,q]:=u.slot b o e n h1 h2
  exact#[sl,(hs b^ne e).trans q]
 .let#[o',q]:=u.there b o e h1
  simp_all
def Je{sc:gh}{N':p_ Str}{cl:p_ (Str×Ch)}{C:Ch}{fp:p_ Ch}{pins':p_ (Ch×Obj)}{zZ:St}{H':Hp}{s':Go}{h':eK}(I:Inv X zG Z H s)(hf:∀b∈fp,GX X zG H b)(hC:s.heap.objs.size<=C)
  (J:Inv (A1 X sc N' cl C s H fp) pins' zZ H' s') (hs:∀b,b≠C->h'.get? b=s'.heap.get? b):Inv X zG Z H' {s' with heap:=h'}:=by
 have hC':H' C=m_:=J.free
 refine I.call' J.os (Un.but J.base (by
  cases e:s.heap.get? C with
  |none=>rfl
  |some o=>exact absurd (Tk e)^ip.mpr hC) hs) (λa o e=>(J.hok a o e).stay (λb u hb q=>(hs b (λz=>by
   grind)).trans q) (λ_ q=>q) λ_ _ q=>q) J.bare λb hb=>?_
 .let#[f0,f1,f2,f3,f4,f5]:=hf b hb
  exact#[f3,f1,f4,f5]
end
def b8(X:Cx)(ifs:p_ eS)(t:TT):Prop:=
 ∀(zG:p_ (Ch×Obj)) (s:Go) (Z:St) (H:Hp) (Q:Bool->Hp->Prop),Inv X zG Z H s->t Z H Q->
  wpAny (model X.prog X.w) X.A (forIn ifs n_ λc r=>if r=n_ then do let ok ←isTrue c X.env^eval c X.env;pure^h8 ok else pure^h8 r) (TP X zG Z Q) X.xe s
def cS:TT:=λ_ H Q=>Q n_ H
def Wl{X:Cx}:b8 X [] cS:=λzG s Z H Q I h=>wpAny_tests_nil #[H,I,h]
def Wj{X:Cx}{c:eS}{t:TT}(h:PT X c t):b8 X [c] t:=λzG s Z H Q I q=>wpAny_tests_one^h _ s Z H Q I q
def UD(X:Cx)(sc:gh)(N':p_ Str)(js:p_^q_ Nat)(tg elt:eS)(ifs:p_ eS)(wi:TI):TE:=λZ H Q=>wi Z H λJ H1=>∀l,H1 l=m_->X.K.lookup l=m_->∀cl C s H0 fp,∃(g:TG) (tt:TT) (te:TE) (W:Nat->Nat->St->Hp->Prop),
 PG (A1 X sc N' cl C s H0 fp) tg g/\b8 (A1 X sc N' cl C s H0 fp) ifs tt/\PE (A1 X sc N' cl C s H0 fp) elt te/\(∃m,W 0 m (CF js Z)^Aq H1 l^.lst [])/\∀i m zZ H',W i m zZ H'->
 (J.stop i H'/\Q (.ref l) H')\/(J.go i H'/\∀x H2,J.yld i H' x H2->g x zZ H2 λzV H3=>tt zV H3 λb H4=>if b=n_ then te zV H4 λy H5=>∃ys,H5 l=P3^.lst ys/\ys.length<sizeLine/\∃m',m'<m/\W (i+1) m' zV^Aq H5 l^.lst (ys++[y]) else ∃m',m'<m/\W (i+1) m' zV H4)
section
variable {X:Cx}{tg elt iter:Expr}{ifs:p_ Expr}{sc:Scope}{pos:Pos}{N':p_ Str}{js:p_^q_ Nat}{wi:TI}{g:TG}{tt:TT}{te:TE}
def La{zG:p_ (Ch×Obj)}{Z:St}{H:Hp}{s:Go}{cl:p_ (Str×Ch)}{C l it:Ch}{fp:p_ Ch}{tn:Nat->eK->Prop}{J:It}{s3:Go}{Q:VK}{R:Result->Go->Prop}{W:Nat->Nat->St->Hp->Prop}{m0:Nat}{zH:St}{H0:Hp}
  (I:Inv X zG Z H s) (hf:∀b∈fp,GX X zG H b) (hlt:∀b∈fp,b<s.heap.objs.size) (hC:s.heap.objs.size<=C)
  (T:Turn X.prog X.w X.K tg J fp it tn)
  (hg:PG (A1 X sc N' cl C s H fp) tg g) (ht:b8 (A1 X sc N' cl C s H fp) ifs tt) (he:PE (A1 X sc N' cl C s H fp) elt te)
  (hW:∀i m zZ H',W i m zZ H'->
   (J.stop i H'/\Q (.ref l) H')\/(J.go i H'/\∀x H2,J.yld i H' x H2->g x zZ H2 λzV H3=>tt zV H3 λb H4=>if b=n_ then te zV H4 λy H5=>∃ys,H5 l=P3^.lst ys/\ys.length<sizeLine/\∃m',m'<m/\W (i+1) m' zV^Aq H5 l^.lst (ys++[y]) else ∃m',m'<m/\W (i+1) m' zV H4))
  (hR:∀zZ H' s',Inv (A1 X sc N' cl C s H fp) [] zZ H' s'->Q (.ref l) H'->R (.ok .next) s')
  (I3:Inv (A1 X sc N' cl C s H fp) [] zH H0 s3) (t3:tn 0 s3.heap) (f3:∀b∈fp,H0 b=m_) (w0:W 0 m0 zH H0):
  codeAny (model X.prog X.w) X.A (.compLoop (.ListComp elt [#[tg,iter,ifs,0]] sc pos) 0 (.ref it) (.ref l)^compEnvC sc cl C X.env) R s3:=by
 have stat:∀{H':Hp},(∀b∈fp,H' b=m_)->∀b∈fp,GX (A1 X sc N' cl C s H fp) [] H' b:=λhn b hb=>by
  have q:=I3.ok.exf b hb;refine#[hn b hb,q.1,I3.ok.exfs b hb,.inl hb,q.2,λp hp=>absurd (show p∈([]:p_ (Ch×Obj))from hp)^by simp]
 refine M8 (λn s'=>∃i zZ H',Inv (A1 X sc N' cl C s H fp) [] zZ H' s'/\tn i s'.heap/\(∀b∈fp,H' b=m_)/\W i n zZ H') ?_ m0 #[0,zH,H0,I3,t3,f3,w0];rintro n s4 ⟨i,zR,H4,I4,st4,fr4,w4⟩
 rcases hW i n zR H4 w4 with⟨stop,qn⟩|⟨go,step⟩
 .refine BD (T.done (A1 X sc N' cl C s H fp) rfl rfl rfl rfl i [] s4 zR H4 (λ_ _=>False) I4 (stat fr4) st4 stop) λr s5 #[hr,I5]=>?_
  subst hr;exact hR zR H4 s5 I5 qn
 .refine BD (T.item (A1 X sc N' cl C s H fp) rfl rfl rfl rfl i [] s4 zR H4 (λ_ _=>False) I4 (stat fr4) st4 go) λr s5 #[u,hr,h5]=>?_
  subst hr;refine BD h5 λ_ s6 #[x,H6,I6,r6,y6,st6,fr6]=>?_;have I6':=I6.pinned (stat fr6)^T.obj _ _ st6;refine BD (hg _ s6 zR H6 x u _ I6' r6^step x H6 y6) λ_ s7 #[zN,H7,I7,q7]=>?_
  have again:∀{zI:St}{H9:Hp}{s9:Go}{m':Nat},Inv (A1 X sc N' cl C s H fp) ([]++JM fp s6.heap) zI H9 s9->m'<n->W (i+1) m' zI H9->∃m,m<n/\∃i zZ H',Inv (A1 X sc N' cl C s H fp) [] zZ H' s9/\tn i s9.heap/\(∀b∈fp,H' b=m_)/\W i m zZ H':=λ{zI H9 s9 m'} I9 hm w9=>by
   refine#[m',hm,i+1,zI,H9,I9.unpinned,T.keep _ _ _ st6 λb hb o e=>(I9.pin (b,o)^eN _^eN _^DY hb e).1,λb hb=>?_,w9];let#[o,e,d]:=T.obj _ _ st6 b hb;exact(I9.pin (b,o)^eN _^eN _^DY hb e).2.1
  refine BD (ht _ s7 zN H7 _ I7 q7) λok s8 #[H8,I8,q8]=>?_;cases ok with
  |false=>
   have q8':∃m',m'<n/\W (i+1) m' zN H8:=q8;let#[m',hm,w8]:=q8';show ∃m,m<n/\_;exact again I8 hm w8
  |true=>
   refine BD (he _ s8 zN H8 _ I8 q8) λy s9 #[yv,H9,I9,ry,q9]=>?_;let#[ys,hl,hz,m',hm,w9]:=q9;refine BD (B4 (X:=A1 X sc N' cl C s H fp) _ s9 zN H9 (.ref l) [yv] (.ref l) [y] (λv H'=>v=.non/\H'=Aq H9 l^.lst (ys++[yv])) I9 rfl (.cons ry .nil) #[l,ys,yv,rfl,rfl,hl,hz,rfl,rfl]) λ_ sa #[v,Ha,Ia,_,_,eH]=>?_;subst eH;exact again Ia hm w9
def Ws(hc:X.calm=n_)(N':p_ Str)(js:p_^q_ Nat)(hi:PI X tg iter wi)
  (hB:Hb sc X.env.scope X.N N' js=n_)
  (hs:∀x,foldedSetIterable iter X.env x=pure x:=by intro _;rfl):
  PE X (.ListComp elt [#[tg,iter,ifs,0]] sc pos) (UD X sc N' js tg elt ifs wi):=by
 intro zG s Z H Q I h;have O:CompOk X sc N' js:=CompOk.of hB;let#[cl,hclos,hcl,hcl2]:=Jv (scope:=sc) (env:=X.env) λx hx=>I.ok.has x^O.free x hx;rw[eval_ListComp];refine wpAny_comprehension_free (use:=m_) rfl hs hclos O.kind O.names (BD (hi zG s Z H _ I h) λv s1 h1=>BD h1 λitv s2 h2=>?_);let#[it,fp,tn,J,H2,e,I2,T,st2,f2,hq]:=h2;subst e
 have kfree:X.K.lookup s2.heap.objs.size=m_:=by
  cases q:X.K.lookup s2.heap.objs.size with
  |none=>rfl
  |some o=>exact absurd (Tk^I2.kIn _ _ q)^fb _
 let#[g,tt,te,W,hg,ht,he,#[m0,w0],hW]:=hq s2.heap.objs.size (I2.hok.fresh^Op _) kfree cl (s2.heap.objs.size+1) s2 H2 fp;refine fi^wpAny_newFunctionEnv O.cell (by intro y hy;simp at hy) (λh₁ hns₁ hsb₁=>?_) O.kind
 dsimp only at hns₁ hsb₁ ⊢
 generalize hH2:s2.heap.push {cls:=.type "list",dict:=m_,data:=.seq ([]:p_ Db).toArray}=Hh at hns₁ hsb₁ ⊢;have hCe:Hh.objs.size=s2.heap.objs.size+1:=by rw[←hH2,fW]
 have hlt:∀b∈fp,b<s2.heap.objs.size:=λb hb=>by
  let#[o,e,_]:=T.obj _ _ st2 b hb;exact Tk e
 have old:∀b o,s2.heap.get? b=P3 o->h₁.get? b=P3 o:=λb o e=>hsb₁.extBut b o (by rw[hCe];exact eI^gE^Tk e)^FM _ (hH2▸FM _ e);have hD:∃n,h₁.get? s2.heap.objs.size=P3 {cls:=.type "list",data:=.seq #[] n}:=#[_,hsb₁.extBut _ _ (by rw[hCe];exact eI^gf _)^FM _ (hH2▸TM _ rfl)]
 have I3:∀tk,Inv (A1 X sc N' cl (s2.heap.objs.size+1) s2 H2 fp) [] (CF js Z) (Aq H2 s2.heap.objs.size^.lst []) {s2 with heap:=h₁,toks:=tk}:=λtk=>
  OS I2 hc O hcl hcl2 f2 (λb hb=>let #[o,e,_]:=T.obj _ _ st2 b hb;#[o,e]) (by rw[←hCe];exact hns₁) old hD
 have st3:tn 0 h₁:=T.keep _ _ _ st2 λb hb o e=>old b o e
 have fr3:∀b∈fp,Aq H2 s2.heap.objs.size (.lst []) b=m_:=λb hb=>by
  rw[AK^eI^hlt b hb];exact(f2 b hb).1
 have loop:∀tk,codeAny (model X.prog X.w) X.A (.compLoop (.ListComp elt [#[tg,iter,ifs,0]] sc pos) 0 (.ref it) (.ref s2.heap.objs.size)^compEnvC sc cl (s2.heap.objs.size+1) X.env)
   (compPost (model X.prog X.w) X.A X.xe m_ (EP X zG Z Q) (.ref s2.heap.objs.size) (s2.heap.objs.size+1)) {s2 with heap:=h₁,toks:=tk}:=λtk=>by
  refine La (W:=W) (m0:=m0) (Q:=Q) I2 f2 hlt (fR _) T hg ht he hW (λzZ H' s' J' q'=>?_) (I3 tk) st3 fr3 w0;let#[m,hn,_]:=J'.loc;exact#[m,hn,λh' hs'=>#[.ref _,H',Je I2 f2 (fR _) J' λb hb=>hs'.2 b hb,rfl,q']]
 rw[show(newEnv sc Hh.objs.size X.env.globals cl X.env.qual m_ .none (P3 X.env) builtinsNs).locals=s2.heap.objs.size+1 from hCe];show codeAny (model X.prog X.w) X.A (.compStart (.ListComp elt [#[tg,iter,ifs,0]] sc pos) 0 (.ref it) (.ref s2.heap.objs.size)^compEnvC sc cl (s2.heap.objs.size+1) X.env) _ _;exact codeAny_compStart_list (loop _)^T.self _ 0 _ _ _ st3^loop _
end
structure d9 (B:eK) (l:List Env) (a C:Ch) (dx:Option Ch) (h:eK):Prop where
 stays:B.StaysIn h
 new:B.get? a=m_
 frames:h.FunFrames B l
 obj:∃vs sl tb,h.get? a=P3 #[.ref C,dx,.fields vs,sl]/\vs[2]?=P3 .none/\vs[1]?=P3 tb/\(tb=.none\/∃T oT ts,tb=.ref T/\B.get? T=m_/\T≠a/\h.get? T=P3 oT/\oT.data=.fields ts/\3<ts.size)
def bj:p_ Db:=[.type "ValueError",.type "Exception",.type "BaseException",.type "object"]
structure XC (K:Frag) (nm:Str) (C U:Ch):Prop where
 obj:∃q N bs sn sub ab col dd k0 k1 k2 k3 k5,K.lookup C=P3 (excClassObj nm q C N bs (.ref U::bj) n_ sn sub ab col dd k0 k1 k2 k3 k5 "ValueError.__new__")
 up:∃q N bs sn sub ab col dd k0 k1 k2 k3 k5 hd,K.lookup U=P3 (excClassObj "ThinError" q U N bs bj hd sn sub ab col dd k0 k1 k2 k3 k5 "ValueError.__new__")
 kp:keepIn K^.ref C=n_
 ga:PySem.W.findIn K (.ref C) "__getattribute__"=P3 (P3^.builtin "BaseException.__getattribute__")
 gt:PySem.W.findIn K (.ref C) "__getattr__"=P3 m_
 sa:PySem.W.findIn K (.ref C) "__setattr__"=P3 (P3^.builtin "object.__setattr__")
 at_:nsIn K mainGlobals nm=P3 (P3^.ref C)
 atU:nsIn K mainGlobals "ThinError"=P3 (P3^.ref U)
 ca:PySem.W.findIn K (.ref C) "__class__"=P3 (P3^.builtin "object.__class__")
 nw:PySem.W.findIn K (.ref C) "word"=P3 m_
 nn:PySem.W.findIn K (.ref C) "number"=P3 m_
 nr:PySem.W.findIn K (.ref C) "row"=P3 m_
structure eB (P:eT) (w:eY) (outer:List Env) (H:Hp) (s:Go) (a C:Ch) (dx:Option Ch) (B:eK) (H':Hp) (s':Go):Prop where
 os:s'.os=s.os
 bare:im s'.gens
 un:Un (RO outer) [] H H' s.heap s'.heap
 hok:HOk P w H' B
 all:∀b o o',s.heap.get? b=P3 o->b∉RO outer->s'.heap.get? b=P3 o'->B.get? b=P3 o'
 fly:d9 B outer a C dx s'.heap
 new:s.heap.objs.size<=a
 free:H' a=m_
def XF(d:Ch)(fs:p_ (Str×V))(h:eK):Prop:=∃mA,h.Ns1 d mA/\(∀f,RelO (fs.lookup f)^mA f)/\PySem.Within mA (fs.map (·.1))/\fs.length<=1000
def XT(C:Ch)(dx:q_ Ch)(a:Ch)(u:HO):Prop:=∃vs sl,u=.frz #[.ref C,dx,.fields vs,sl]^.own a/\vs[2]?=P3 .none
end L2
namespace Dp
open L2
inductive D where
 |non|bl (b:Bool)|int (i:Int)|str (x:Str)|tup (xs:List D)|lst (xs:List D)|dic (ks:List Key) (xs:List D)|fdi (ks:List Key) (xs:List D)|dit (ks:List^List Key) (xs:List D)|ob (a:Ch)
 deriving Inhabited
inductive Wc where
 |pl (d:D)|ins (C:Ch) (ks:List Str) (ds:List D)
structure Sg where
 n:Nat
 w:Ch->Option Wc
instance:HSub Sg Nat Sg:=#[λs k=>#[s.n - k,s.w]]
def Tq(o:HO):Prop:=∃u,o=.vol u
def NdT(M:Ch->Prop)(H:Hp)(a:Ch)(vs:p_ V):Prop:=H a=P3^.tup vs
def NdL(M:Ch->Prop)(H:Hp)(a:Ch)(vs:p_ V):Prop:=¬M a/\H a=P3^.lst vs
def NdD(M:Ch->Prop)(H:Hp)(a:Ch)(ks:p_ Key)(vs:p_ V):Prop:=¬M a/\H a=P3^.dK^ks.zip vs
def NdF(M:Ch->Prop)(H:Hp)(a:Ch)(ks:p_ Key)(vs:p_ V):Prop:=∃o,¬M a/\H a=P3^.frz o^.dK^ks.zip vs
def NdU(M:Ch->Prop)(H:Hp)(a:Ch)(ks:p_^p_ Key)(vs:p_ V):Prop:=¬M a/\H a=P3^.dT^ks.zip vs
mutual
def At(K:Frag)(M:Ch->Prop)(H:Hp):D->V->Prop
 |.non,v=>v=.non
 |.bl b,v=>v=.bl b
 |.int i,v=>v=.int i
 |.str x,v=>v=.str x/\x.length<=sizeLine
 |.tup ds,v=>∃a vs,v=.ref a/\NdT M H a vs/\Ats K M H ds vs
 |.lst ds,v=>∃a vs,v=.ref a/\NdL M H a vs/\Ats K M H ds vs
 |.dic ks ds,v=>∃a vs,v=.ref a/\NdD M H a ks vs/\ks.length=ds.length/\Ats K M H ds vs
 |.fdi ks ds,v=>∃a vs,v=.ref a/\NdF M H a ks vs/\ks.length=ds.length/\Ats K M H ds vs
 |.dit ks ds,v=>∃a vs,v=.ref a/\NdU M H a ks vs/\ks.length=ds.length/\Ats K M H ds vs
 |.ob a,v=>v=.ref a/\∃o,H a=P3 o
def Ats(K:Frag)(M:Ch->Prop)(H:Hp):p_ D->p_ V->Prop
 |[],vs=>vs=[]
 |d::ds,vs=>∃v r,vs=v::r/\At K M H d v/\Ats K M H ds r
end
section
variable {K:Frag}{M M':Addr->Prop}{H H':Hp}{a:Addr}{vs:p_ V}{ks:p_ Key}
def NdT.sq(h:NdT M H a vs):SqT K H a vs:=.inl^.inl h
def NdL.sq(h:NdL M H a vs):SqL K H a vs:=.inl^.inl h.2
def Pres(M:Ch->Prop)(H:Hp)(M':Ch->Prop)(H':Hp):Prop:=(∀b o,H b=P3 o->¬M b->¬Tq o->H' b=P3 o)/\(∀b,M' b->M b\/H b=m_)/\(∀b vs,H b=P3^.tup vs->H' b=P3^.tup vs)/\∀b o,H b=P3 o->∃o',H' b=P3 o'
def Pres.nd{u:HO}(p:Pres M H M' H')(n:¬M a)(h:H a=P3 u)(nv:¬Tq u:=by rintro⟨_,z⟩;cases z):¬M' a/\H' a=P3 u:=by
 refine#[λz=>?_,p.1 _ _ h n nv]
 rcases p.2.1 a z with z|z
 .exact n z
 grind
def NdT.pres(p:Pres M H M' H')(h:NdT M H a vs):NdT M' H' a vs:=p.2.2.1 _ _ h
def NdL.pres(p:Pres M H M' H')(h:NdL M H a vs):NdL M' H' a vs:=p.nd h.1 h.2
def NdD.pres(p:Pres M H M' H')(h:NdD M H a ks vs):NdD M' H' a ks vs:=p.nd h.1 h.2
def NdU.pres{ks:p_^p_ Key}(p:Pres M H M' H')(h:NdU M H a ks vs):NdU M' H' a ks vs:=p.nd h.1 h.2
def NdF.pres(p:Pres M H M' H')(h:NdF M H a ks vs):NdF M' H' a ks vs:=let #[o,h1,h2]:=h;#[o,p.nd h1 h2]
mutual
theorem At.pres(p:Pres M H M' H'):∀{d:D}{v:V},At K M H d v->At K M' H' d v
 |.non,v,h=>h
 |.bl b,v,h=>h
 |.int i,v,h=>h
 |.str x,v,h=>h
 |.tup ds,v,h=>by
  let#[a,vs,e,hn,hs]:=h;exact#[a,vs,e,hn.pres p,Ats.pres p hs]
 |.lst ds,v,h=>by
  let#[a,vs,e,hn,hs]:=h;exact#[a,vs,e,hn.pres p,Ats.pres p hs]
 |.dic ks ds,v,h=>by
  let#[a,vs,e,hn,hl,hs]:=h;exact#[a,vs,e,hn.pres p,hl,Ats.pres p hs]
 |.fdi ks ds,v,h=>by
  let#[a,vs,e,hn,hl,hs]:=h;exact#[a,vs,e,hn.pres p,hl,Ats.pres p hs]
 |.dit ks ds,v,h=>by
  let#[a,vs,e,hn,hl,hs]:=h;exact#[a,vs,e,hn.pres p,hl,Ats.pres p hs]
 |.ob a,v,h=>#[h.1,let #[_,e]:=h.2;p.2.2.2 _ _ e]
theorem Ats.pres(p:Pres M H M' H'):∀{ds:p_ D}{vs:p_ V},Ats K M H ds vs->Ats K M' H' ds vs
 |[],vs,h=>h
 |d::ds,vs,h=>by
  let#[v,r,e,h1,h2]:=h;exact#[v,r,e,At.pres p h1,Ats.pres p h2]
end
def Pres.trans{M1 M2 M3:Ch->Prop}{H1 H2 H3:Hp}(p:Pres M1 H1 M2 H2)(q:Pres M2 H2 M3 H3):Pres M1 H1 M3 H3:=by
 refine#[λb o e n nv=>?_,λb z=>?_,λb vs e=>q.2.2.1 b vs^p.2.2.1 b vs e,λb o e=>?_]
 .refine q.1 b o (p.1 b o e n nv) (λz=>?_) nv
  rcases p.2.1 b z with z|z
  .exact n z
  grind
 .rcases q.2.1 b z with z|z
  .exact p.2.1 b z
  .cases e:H1 b with
   |none=>grind
   |some o=>
    let#[o',e']:=p.2.2.2 b o e;rw[e']at z;cases z
 .let#[o',e']:=p.2.2.2 b o e
  exact q.2.2.2 b o' e'
def Pres.refl(M:Ch->Prop)(H:Hp):Pres M H M H:=#[λ_ _ e _ _=>e,λ_ z=>.inl z,λ_ _ e=>e,λ_ o e=>#[o,e]]
def Pres.less(h:∀b,M' b->M b):Pres M H M' H:=#[λ_ _ e _ _=>e,λb z=>.inl^h b z,λ_ _ e=>e,λ_ o e=>#[o,e]]
theorem Ats.length:∀{ds:p_ D}{vs:p_ V},Ats K M H ds vs->vs.length=ds.length
 |[],vs,h=>by cases h;rfl
 |d::ds,vs,h=>by
  let#[v,r,e,h1,h2]:=h;subst e;rw[eo,eo,Ats.length h2]
theorem Ats.get:∀{ds:p_ D}{vs:p_ V}{i:Nat}{d:D},Ats K M H ds vs->ds[i]?=P3 d->∃v,vs[i]?=P3 v/\At K M H d v
 |[],vs,i,d,h,e=>by simp at e
 |d0::ds,vs,0,d,h,e=>by
  let#[v,r,e1,h1,h2]:=h
  simp_all
 |d0::ds,vs,i+1,d,h,e=>by
  let#[v,r,e1,h1,h2]:=h;let#[u,e2,h3]:=Ats.get h2^by simpa using e
  simp_all
theorem Ats.append:∀{ds es:p_ D}{vs us:p_ V},Ats K M H ds vs->Ats K M H es us->Ats K M H (ds++es) (vs++us)
 |[],es,vs,us,h,g=>by cases h;exact g
 |d::ds,es,vs,us,h,g=>by
  let#[v,r,e,h1,h2]:=h;subst e;exact#[v,_,rfl,h1,Ats.append h2 g]
theorem Ats.drop:∀{ds:p_ D}{vs:p_ V} (n:Nat),Ats K M H ds vs->Ats K M H (ds.drop n)^vs.drop n
 |ds,vs,0,h=>h
 |[],vs,n+1,h=>by cases h;exact rfl
 |d::ds,vs,n+1,h=>by
  let#[v,r,e,h1,h2]:=h;subst e;exact Ats.drop n h2
theorem Ats.take:∀{ds:p_ D}{vs:p_ V} (n:Nat),Ats K M H ds vs->Ats K M H (ds.take n)^vs.take n
 |ds,vs,0,h=>rfl
 |[],vs,n+1,h=>by cases h;exact rfl
 |d::ds,vs,n+1,h=>by
  let#[v,r,e,h1,h2]:=h;subst e;exact#[v,_,rfl,h1,Ats.take n h2]
def Ats.one{d:D}{v:V}(h:At K M H d v):Ats K M H [d] [v]:=#[v,[],rfl,h,rfl]
theorem Ats.eraseIdx:∀{ds:p_ D}{vs:p_ V} (i:Nat),Ats K M H ds vs->Ats K M H (ds.eraseIdx i)^vs.eraseIdx i
 |[],vs,i,h=>by cases h;exact rfl
 |d0::ds,vs,0,h=>by
  let#[u,r,e1,h1,h2]:=h
  grind
 |d0::ds,vs,i+1,h=>by
  let#[u,r,e1,h1,h2]:=h;subst e1;exact#[u,_,rfl,h1,Ats.eraseIdx i h2]
theorem Ats.reverse:∀{ds:p_ D}{vs:p_ V},Ats K M H ds vs->Ats K M H ds.reverse vs.reverse
 |[],vs,h=>by cases h;exact rfl
 |d::ds,vs,h=>by
  let#[v,r,e,h1,h2]:=h;subst e;rw[i7,i7];exact Ats.append (Ats.reverse h2)^Ats.one h1
end
inductive Kd where
 |sh|tp|fr
def Tops(K:Frag)(M:Ch->Prop)(H:Hp)(a:Ch):D->Prop
 |.lst ds=>∃vs,H a=P3^.lst vs/\Ats K M H ds vs
 |.dic ks ds=>∃vs,H a=P3^.dK^ks.zip vs/\ks.length=ds.length/\Ats K M H ds vs
 |.dit ks ds=>∃vs,H a=P3^.dT^ks.zip vs/\ks.length=ds.length/\Ats K M H ds vs
 |_=>False
def Tops.notT{K:Frag}{M:Ch->Prop}{H:Hp}{a:Ch}{d:D}(h:Tops K M H a d){vs:p_ V}:H a≠P3^.tup vs:=λq=>by
 cases d with
 |lst ds=>let#[us,e,_]:=h;grind
 |dic ks ds=>let#[us,e,_]:=h;grind
 |dit ks ds=>let#[us,e,_]:=h;grind
 |_=>exact h.elim
def Tops.notV{K:Frag}{M:Ch->Prop}{H:Hp}{a:Ch}{d:D}(h:Tops K M H a d){o:HO}(q:H a=P3 o):¬Tq o:=fun#[u,z]=>by
 subst z;cases d with
 |lst ds=>let#[us,e,_]:=h;rw[e]at q;cases q
 |dic ks ds=>let#[us,e,_]:=h;rw[e]at q;cases q
 |dit ks ds=>let#[us,e,_]:=h;rw[e]at q;cases q
 |_=>exact h.elim
def Tops.pres{K:Frag}{M M':Ch->Prop}{H H':Hp}{a:Ch}{d:D}(h:Tops K M H a d)(p:Pres M H M' H')(e:∀o,H a=P3 o->H' a=P3 o):Tops K M' H' a d:=by
 cases d with
 |lst ds=>let#[vs,h1,h2]:=h;exact#[vs,e _ h1,h2.pres p]
 |dic ks ds=>let#[vs,h1,h2,h3]:=h;exact#[vs,e _ h1,h2,h3.pres p]
 |dit ks ds=>let#[vs,h1,h2,h3]:=h;exact#[vs,e _ h1,h2,h3.pres p]
 |_=>assumption
def Tops.at{K:Frag}{M:Ch->Prop}{H:Hp}{a:Ch}{d:D}(h:Tops K M H a d)(n:¬M a):At K M H d^.ref a:=by
 cases d with
 |lst ds=>let#[vs,h1,h2]:=h;exact#[a,vs,rfl,#[n,h1],h2]
 |dic ks ds=>let#[vs,h1,h2,h3]:=h;exact#[a,vs,rfl,#[n,h1],h2,h3]
 |dit ks ds=>let#[vs,h1,h2,h3]:=h;exact#[a,vs,rfl,#[n,h1],h2,h3]
 |_=>exact(h).elim
def AtT(K:Frag)(U:Ch->Prop)(M:Ch->Prop)(H:Hp):D->V->Prop
 |.lst ds,v=>∃a vs,v=.ref a/\¬U a/\Rd H a^.lst vs/\Ats K M H ds vs
 |.dic ks ds,v=>∃a vs,v=.ref a/\¬U a/\H a=P3^.dK^ks.zip vs/\ks.length=ds.length/\Ats K M H ds vs
 |.dit ks ds,v=>∃a vs,v=.ref a/\¬U a/\H a=P3^.dT^ks.zip vs/\ks.length=ds.length/\Ats K M H ds vs
 |d,v=>At K M H d v
def Tops.att{K:Frag}{U M:Ch->Prop}{H:Hp}{a:Ch}{d:D}(h:Tops K M H a d)(n:¬U a):AtT K U M H d^.ref a:=by
 cases d with
 |lst ds=>let#[vs,h1,h2]:=h;exact#[a,vs,rfl,n,.inl h1,h2]
 |dic ks ds=>let#[vs,h1,h2,h3]:=h;exact#[a,vs,rfl,n,h1,h2,h3]
 |dit ks ds=>let#[vs,h1,h2,h3]:=h;exact#[a,vs,rfl,n,h1,h2,h3]
 |_=>exact(h).elim
def VR(K:Frag)(U:Ch->Prop)(M:Ch->Prop)(H H':Hp):Kd->V->D->Prop
 |.sh,v,d=>At K M H' d v
 |.tp,v,d=>AtT K U M H' d v
 |.fr,v,d=>∃a,v=.ref a/\H a=m_/\Tops K (λb=>M b\/b=a) H' a d
def FeedOk(K:Frag)(M:Ch->Prop)(H:Hp)(f:Ch×Ch)(n:Nat):Prop:=
 ∃(at_ rest:Int) (cells:p_ Int),H f.1=P3^.lst [.ref f.2,.int at_,.int rest]/\f.2≠f.1/\NdL M H f.2^cells.map V.int/\cells.length<=63/\0<=at_/\at_+n<=2 ^ 60
mutual
def flat:D->Bool
 |.tup ds=>A9 ds
 |.lst _=>o_
 |.dic _ _=>o_
 |.fdi _ _=>o_
 |.dit _ _=>o_
 |_=>n_
def A9:p_ D->Bool
 |[]=>n_
 |d::ds=>flat d&&A9 ds
end
section
variable {K:Frag}{M M':Addr->Prop}{H H':Hp}
mutual
theorem IK(t:∀b vs,H b=P3^.tup vs->H' b=P3^.tup vs)(o:∀b o,H b=P3 o->∃o',H' b=P3 o'):∀(d:D) {v:V},flat d=n_->At K M H d v->At K M' H' d v
 |.non,_,_,h=>h
 |.bl _,_,_,h=>h
 |.int _,_,_,h=>h
 |.str _,_,_,h=>h
 |.tup ds,_,f,#[a,vs,e,n,h]=>#[a,vs,e,t _ _ n,BB t o ds f h]
 |.lst _,_,f,_=>by cases f
 |.dic _ _,_,f,_=>by cases f
 |.fdi _ _,_,f,_=>by cases f
 |.dit _ _,_,f,_=>by cases f
 |.ob _,_,_,#[e,_,h]=>#[e,o _ _ h]
theorem BB(t:∀b vs,H b=P3^.tup vs->H' b=P3^.tup vs)(o:∀b o,H b=P3 o->∃o',H' b=P3 o'):∀(ds:p_ D) {vs:p_ V},A9 ds=n_->Ats K M H ds vs->Ats K M' H' ds vs
 |[],_,_,h=>h
 |d::ds,_,f,#[v,r,e,h,hs]=>#[v,r,e,IK t o d (eh _ _▸f:_/\_).1 h,BB t o ds (eh _ _▸f:_/\_).2 hs]
end
end
def CellOk(K:Frag)(M:Ch->Prop)(H:Hp)(a:Ch):Wc->Prop
 |.pl (.lst ds)=>¬M a/\∃vs,H a=P3^.vol^.lst vs/\A9 ds=n_/\Ats K M H ds vs
 |.pl (.dit ks ds)=>¬M a/\∃vs,H a=P3^.vol^.dT^ks.zip vs/\ks.length=ds.length/\A9 ds=n_/\Ats K M H ds vs
 |.pl _=>False
 |.ins C ks ds=>∃dx vs,H a=P3^.vol^.ins C dx^ks.zip vs/\ks.length=ds.length/\A9 ds=n_/\Ats K M H ds vs
def FeedC(K:Frag)(F:q_ (Ch×Ch))(M:Ch->Prop)(H:Hp)(s:Sg):Prop:=(∀f,F=P3 f->FeedOk K M H f s.n)/\∀a c,s.w a=P3 c->CellOk K M H a c
def Ext(U:Ch->Prop)(H H':Hp):Prop:=∀b o,H b=P3 o->∃o',H' b=P3 o'/\(¬U b->¬Tq o->o'=o)/\∀vs,o=.tup vs->o'=o
def Ext.keep{U:Ch->Prop}{H H':Hp}(p:Ext U H H'){b:Ch}{o:HO}(e:H b=P3 o)(n:¬U b)(nv:¬Tq o:=by rintro⟨_,z⟩;cases z):H' b=P3 o:=by
 let#[o',q,r,_]:=p b o e;rw[q,r n nv]
def Ext.tup{U:Ch->Prop}{H H':Hp}(p:Ext U H H'){b:Ch}{vs:p_ V}(e:H b=P3^.tup vs):H' b=P3^.tup vs:=by
 let#[o',q,_,r]:=p b _ e
 grind
def Ext.free{U:Ch->Prop}{H H':Hp}(p:Ext U H H'){b:Ch}(e:H' b=m_):H b=m_:=by
 cases q:H b with
 |none=>rfl
 |some o=>
  let#[o',z,_]:=p b o q
  grind
def Ext.refl(U:Ch->Prop)(H:Hp):Ext U H H:=λ_ o e=>#[o,e,λ_ _=>rfl,λ_ _=>rfl]
def Ext.trans{U:Ch->Prop}{H1 H2 H3:Hp}(p:Ext U H1 H2)(q:Ext U H2 H3):Ext U H1 H3:=λb o e=>by
 let#[o',e1,r1,t1]:=p b o e;let#[o2,e2,r2,t2]:=q b o' e1;exact#[o2,e2,λn v=>(r2 n^by rw[r1 n v];exact v).trans^r1 n v,λvs z=>(t2 vs^(t1 vs z).trans z).trans^t1 vs z]
def Grow(H H':Hp):Prop:=H'=H\/∃p o,H p=m_/\H'=Aq H p o
def Grow.all{H H':Hp}(g:Grow H H'):∀b o,H b=P3 o->H' b=P3 o:=by
 intro b o e
 rcases g with rfl|⟨p,u,n,rfl⟩
 .exact e
 .rw[AK^Ai e n];exact e
def Grow.refl{H:Hp}:Grow H H:=.inl rfl
def Grow.ext{U:Ch->Prop}{H H':Hp}(g:Grow H H'):Ext U H H':=λb o e=>#[o,g.all b o e,λ_ _=>rfl,λ_ _=>rfl]
def Grow.pres{M:Ch->Prop}{H H':Hp}(g:Grow H H'):Pres M H M H':=#[λb o e _ _=>g.all b o e,λ_ z=>.inl z,λb vs e=>g.all b _ e,λb o e=>#[o,g.all b o e]]
def FeedOk.pres{K:Frag}{M M':Ch->Prop}{H H':Hp}{f:Ch×Ch}{n:Nat}(h:FeedOk K M H f n)(p:Pres M H M' H')(e:∀o,H f.1=P3 o->H' f.1=P3 o):FeedOk K M' H' f n:=by
 let#[a,r,cs,h1,h2,h3,h4]:=h;exact#[a,r,cs,e _ h1,h2,h3.pres p,h4]
def CellOk.to{K:Frag}{M M':Ch->Prop}{H H':Hp}{a:Ch}{c:Wc}(h:CellOk K M H a c)(m:∀u,H a=P3^.vol u->¬M a->¬M' a)(t:∀b vs,H b=P3^.tup vs->H' b=P3^.tup vs)(o:∀b o,H b=P3 o->∃o',H' b=P3 o')(e:∀u,H a=P3^.vol u->H' a=P3^.vol u):CellOk K M' H' a c:=by
 cases c with
 |ins C ks ds=>let#[dx,vs,h1,h2,h3,h4]:=h;exact#[dx,vs,e _ h1,h2,h3,BB t o _ h3 h4]
 |pl d=>cases d with
  |lst ds=>let#[h0,vs,h1,h3,h4]:=h;exact#[m _ h1 h0,vs,e _ h1,h3,BB t o _ h3 h4]
  |dit ks ds=>let#[h0,vs,h1,h2,h3,h4]:=h;exact#[m _ h1 h0,vs,e _ h1,h2,h3,BB t o _ h3 h4]
  |_=>exact h.elim
def FeedC.pres{K:Frag}{F:q_ (Ch×Ch)}{M M':Ch->Prop}{H H':Hp}{n:Sg}(h:FeedC K F M H n)(p:Pres M H M' H')(e:∀f o,F=P3 f->H f.1=P3 o->H' f.1=P3 o)(v:∀a u,H a=P3^.vol u->H' a=P3^.vol u):FeedC K F M' H' n:=#[λf hf=>(h.1 f hf).pres p λo q=>e f o hf q,λa c q=>(h.2 a c q).to (λu q n z=>(p.2.1 a z).elim n λz=>by rw[q]at z;cases z) p.2.2.1 p.2.2.2^v a]
def FeedC.grow{K:Frag}{F:q_ (Ch×Ch)}{M:Ch->Prop}{H H':Hp}{n:Sg}(h:FeedC K F M H n)(g:Grow H H'):FeedC K F M H' n:=h.pres g.pres (λf o _ e=>g.all _ o e) λa u e=>g.all a _ e
def FeedC.more{K:Frag}{F:q_ (Ch×Ch)}{M:Ch->Prop}{H:Hp}{n:Sg}(h:FeedC K F M H n)(a:Ch)(ha:∀f,F=P3 f->f.2≠a)(hv:∀u,H a≠P3^.vol u):FeedC K F (λb=>M b\/b=a) H n:=by
 refine#[λf hf=>?_,λb c q=>?_]
 .let#[x,r,cs,h1,h2,h3,h4]:=h.1 f hf
  exact#[x,r,cs,h1,h2,#[λz=>z.elim h3.1^ha f hf,h3.2],h4]
 .have k:∀u,H b=P3^.vol u->b≠a:=λu e z=>hv u (z▸e)
  have h:=h.2 b c q;cases c with
  |ins C ks ds=>let#[dx,vs,h1,h2,h3,h4]:=h;exact#[dx,vs,h1,h2,h3,BB (λ_ _ z=>z) (λ_ o z=>#[o,z]) _ h3 h4]
  |pl d=>cases d with
   |lst ds=>let#[h0,vs,h1,h3,h4]:=h;exact#[λz=>z.elim h0^k _ h1,vs,h1,h3,BB (λ_ _ z=>z) (λ_ o z=>#[o,z]) _ h3 h4]
   |dit ks ds=>let#[h0,vs,h1,h2,h3,h4]:=h;exact#[λz=>z.elim h0^k _ h1,vs,h1,h2,h3,BB (λ_ _ z=>z) (λ_ o z=>#[o,z]) _ h3 h4]
   |_=>exact h.elim
def AtX(K:Frag)(M:Ch->Prop)(H:Hp)(a:Ch)(nm:Str)(ks:p_ Str)(ds:p_ D):Prop:=∃C U dx u vs,XC K nm C U/\(¬M a/\H a=P3 u)/\XT C dx a u/\(dx=m_/\ks=[]/\vs=[]\/∃d,dx=P3 d/\¬M d/\H d=P3^.ext^XF d^ks.zip vs)/\ks.length=ds.length/\Ats K M H ds vs
def AtX.pres{K:Frag}{M M':Ch->Prop}{H H':Hp}{a:Ch}{nm:Str}{ks:p_ Str}{ds:p_ D}(h:AtX K M H a nm ks ds)(p:Pres M H M' H'):AtX K M' H' a nm ks ds:=by
 let#[C,U,dx,u,vs,c,#[n,ha],x,hd,hl,hs]:=h;refine#[C,U,dx,u,vs,c,p.nd n ha (by let#[_,_,rfl,_]:=x;rintro⟨_,z⟩;cases z),x,?_,hl,hs.pres p]
 rcases hd with z|⟨d,e1,n1,h1⟩
 .exact .inl z
 .exact .inr #[d,e1,p.nd n1 h1]
inductive Slot where
 |no|sh (d:D)|br (d:D)|fd|ow (d:D)|lt (a:Ch) (d:D)|ex (a:Ch) (nm:Str) (ks:List Str) (ds:List D)
def Slot.owns:Slot->Bool
 |.ow _=>n_
 |.lt _ _=>n_
 |_=>o_
def SlotOk(K:Frag)(F:q_ (Ch×Ch))(U:Ch->Prop)(M:Ch->Prop)(H:Hp):Slot->q_ V->Prop
 |.no,_=>True
 |.sh d,o=>∃v,o=P3 v/\At K M H d v
 |.br d,o=>∃v,o=P3 v/\AtT K U M H d v
 |.fd,o=>∃f,o=P3^.ref f.1/\F=P3 f
 |.ow d,o=>∃a,o=P3^.ref a/\M a/\¬U a/\Tops K M H a d
 |.lt a d,o=>o=P3^.ref a/\M a/\¬U a/\Tops K M H a d
 |.ex a nm ks ds,o=>o=P3^.ref a/\AtX K M H a nm ks ds
structure Fm where
 M0:Ch->Prop
 F:Option (Ch×Ch)
 U:Ch->Prop
 V:Ch->Prop
 H0:Hp
 zG:List ((Ch->Prop)×Hp)
 kp:List (Ch×HO)
def Apart(ρ:p_ Slot)(Z:L2.St):Prop:=∀(i j:Nat) (s t:Slot) (a:Ch),ρ[i]?=P3 s->s.owns=n_->ρ[j]?=P3 t->t.owns=n_->(Z[i]?).getD m_=P3^.ref a->(Z[j]?).getD m_=P3^.ref a->i=j
structure Rel (K:Frag) (C:Fm) (M:Ch->Prop) (H:Hp) (n:Sg) (ρ:List Slot) (Z:L2.St):Prop where
 len:ρ.length=Z.length
 sub:∀a,C.M0 a->M a
 dom:∀a,M a->∃o,H a=P3 o
 ext:Ext C.U C.H0 H
 fU:∀f,C.F=P3 f->C.U f.1
 uV:∀a,C.U a->C.V a
 vM:∀a,C.V a->M a
 feed:FeedC K C.F M H n
 sl:∀(i:Nat) (s:Slot),ρ[i]?=P3 s->SlotOk K C.F C.V M H s ((Z[i]?).getD m_)
 pin:∀p∈C.zG,Pres p.1 p.2 M H
 br0:∀(i:Nat) (d:D) (a:Ch),ρ[i]?=P3^.br d->(Z[i]?).getD m_=P3^.ref a->∃o,C.H0 a=P3 o
 new:∀(i:Nat) (s:Slot) (a:Ch),ρ[i]?=P3 s->s.owns=n_->(Z[i]?).getD m_=P3^.ref a->¬C.M0 a/\C.H0 a=m_
 two:Apart ρ Z
 kept:∀p∈C.kp,H p.1=P3 p.2/\(M p.1/\¬Tq p.2)/\¬C.V p.1/\∀(i:Nat) (d:D),ρ[i]?=P3^.ow d->(Z[i]?).getD m_≠P3^.ref p.1
section
variable {K:Frag}{C:Fm}{M:Addr->Prop}{H H':Hp}{n n':Sg}{ρ:p_ Slot}{Z:L2.St}{d:D}{v:V}{κ:Kd}
def Rel.pres(R:Rel K C M H n ρ Z)(e:Ext C.U H H'):Pres M H M H':=#[λb o q nb nv=>e.keep q (λz=>nb^R.vM b^R.uV b z) nv,λ_ z=>.inl z,λb vs q=>e.tup q,λb o q=>let #[o',h,_]:=e b o q;#[o',h]]
def AtT.pres{U V':Ch->Prop}{M':Ch->Prop}(h:AtT K V' M H d v)(p:Pres M H M' H')(e:Ext U H H')(uV:∀a,U a->V' a):AtT K V' M' H' d v:=by
 cases d with
 |lst ds=>
  let#[a,vs,e1,n1,hq,hs]:=h;refine#[a,vs,e1,n1,?_,hs.pres p]
  rcases hq with hq|⟨o,hq⟩
  .exact .inl^e.keep hq λz=>n1^uV a z
  .exact .inr #[o,e.keep hq λz=>n1^uV a z]
 |dic ks ds=>
  let#[a,vs,e1,n1,hq,hl,hs]:=h;exact#[a,vs,e1,n1,e.keep hq λz=>n1^uV a z,hl,hs.pres p]
 |dit ks ds=>
  let#[a,vs,e1,n1,hq,hl,hs]:=h;exact#[a,vs,e1,n1,e.keep hq λz=>n1^uV a z,hl,hs.pres p]
 |non=>assumption
 |bl b=>assumption
 |int i=>assumption
 |str x=>assumption
 |tup ds=>exact At.pres p h
 |fdi ks ds=>exact At.pres p h
 |ob a=>exact At.pres p h
def AtT.same{U V':Ch->Prop}{M':Ch->Prop}(h:AtT K U M H d v)(p:Pres M H M' H')(e:∀a o,v=.ref a->H a=P3 o->H' a=P3 o)(nv:∀a,v=.ref a->¬U a->¬V' a):AtT K V' M' H' d v:=by
 cases d with
 |lst ds=>
  let#[a,vs,e1,n1,hq,hs]:=h;refine#[a,vs,e1,nv a e1 n1,?_,hs.pres p]
  rcases hq with hq|⟨o,hq⟩
  .exact .inl^e a _ e1 hq
  .exact .inr #[o,e a _ e1 hq]
 |dic ks ds=>
  let#[a,vs,e1,n1,hq,hl,hs]:=h;exact#[a,vs,e1,nv a e1 n1,e a _ e1 hq,hl,hs.pres p]
 |dit ks ds=>
  let#[a,vs,e1,n1,hq,hl,hs]:=h;exact#[a,vs,e1,nv a e1 n1,e a _ e1 hq,hl,hs.pres p]
 |non=>assumption
 |bl b=>assumption
 |int i=>assumption
 |str x=>assumption
 |tup ds=>exact At.pres p h
 |fdi ks ds=>exact At.pres p h
 |ob a=>exact At.pres p h
def AtT.lies{U:Ch->Prop}{a:Ch}(h:AtT K U M H d^.ref a):∃o,H a=P3 o:=by
 cases d with
 |lst ds=>
  let#[b,vs,e,_,hq,_]:=h;cases e
  rcases hq with hq|⟨o,hq⟩
  .exact#[_,hq]
  grind
 |dic ks ds=>
  let#[b,vs,e,_,hq,_]:=h
  grind
 |dit ks ds=>
  let#[b,vs,e,_,hq,_]:=h
  grind
 |non=>cases(h)
 |bl b=>cases(h)
 |int i=>cases(h)
 |str x=>cases(h).1
 |tup ds=>
  let#[b,vs,e,hq,_]:=h;cases e;exact#[_,hq]
 |fdi ks ds=>
  let#[b,vs,e,#[o,_,hq],_]:=h
  simp_all
 |ob b=>let#[e,h]:=h;cases e;exact h
def SlotOk.pres{F:q_ (Ch×Ch)}{U V' M':Ch->Prop}{s:Slot}{o:q_ V}(h:SlotOk K F V' M H s o)(p:Pres M H M' H')(m:∀a,M a->M' a)(e:Ext U H H')(uV:∀a,U a->V' a):SlotOk K F V' M' H' s o:=by
 cases s with
 |no=>trivial
 |sh d=>let#[v,e1,h1]:=h;exact#[v,e1,h1.pres p]
 |ex a nm ks ds=>let#[e1,h1]:=h;exact#[e1,h1.pres p]
 |br d=>let#[v,e1,h1]:=h;exact#[v,e1,h1.pres p e uV]
 |fd=>exact h
 |ow d=>let#[a,e1,h1,h2,h3]:=h;exact#[a,e1,m a h1,h2,h3.pres p λo q=>e.keep q (λz=>h2^uV a z)^h3.notV q]
 |lt a d=>let#[e1,h1,h2,h3]:=h;exact#[e1,m a h1,h2,h3.pres p λo q=>e.keep q (λz=>h2^uV a z)^h3.notV q]
def Rel.step(R:Rel K C M H n ρ Z)(e:Ext C.U H H')(f:FeedC K C.F M H' n'):Rel K C M H' n' ρ Z:=by
 have p:=R.pres e;refine#[R.len,R.sub,λa z=>?_,R.ext.trans e,R.fU,R.uV,R.vM,f,λi s q=>(R.sl i s q).pres p (λ_ z=>z) e R.uV,λq hq=>(R.pin q hq).trans p,R.br0,R.new,R.two,λq hq=>?_]
 .let#[o,h1]:=R.dom a z
  let#[o',h2,_]:=e a o h1
  grind
 .let#[h1,h2,h3,h4]:=R.kept q hq
  exact#[e.keep h1 (λz=>h3^R.uV _ z) h2.2,h2,h3,h4]
def Rel.udom(R:Rel K C M H n ρ Z):∀a,C.U a->∃o,H a=P3 o:=λa z=>R.dom a^R.vM a^R.uV a z
def At.tp{U:Ch->Prop}(uM:∀a,U a->M a)(h:At K M H d v):AtT K U M H d v:=by
 cases d with
 |lst ds=>
  let#[a,vs,e,hn,hs]:=h;exact#[a,vs,e,λz=>hn.1^uM a z,.inl hn.2,hs]
 |dic ks ds=>
  let#[a,vs,e,hn,hl,hs]:=h;exact#[a,vs,e,λz=>hn.1^uM a z,hn.2,hl,hs]
 |dit ks ds=>
  let#[a,vs,e,hn,hl,hs]:=h;exact#[a,vs,e,λz=>hn.1^uM a z,hn.2,hl,hs]
 |non=>exact h
 |bl b=>exact h
 |int i=>exact h
 |str x=>exact h
 |tup ds=>exact h
 |fdi ks ds=>exact h
 |ob a=>exact h
def VR.back{U V':Ch->Prop}{H1:Hp}(e:Ext U H H1)(h:VR K V' M H1 H' κ v d):VR K V' M H H' κ v d:=by
 cases κ with
 |sh=>exact h
 |tp=>exact h
 |fr=>
  let#[a,e1,h1,h2]:=h;exact#[a,e1,e.free h1,h2]
def VR.shOf{U:Ch->Prop}(dom:∀a,M a->∃o,H a=P3 o)(h:VR K U M H H' κ v d)(hk:κ≠.tp):At K M H' d v:=by
 cases κ with
 |sh=>exact h
 |tp=>grind
 |fr=>
  let#[a,rfl,h1,h2]:=h;refine(h2.pres (Pres.less λ_ z=>.inl z) λ_ z=>z).at λz=>?_
  grind
def VR.tpOf{U:Ch->Prop}(dom:∀a,M a->∃o,H a=P3 o)(uM:∀a,U a->M a)(h:VR K U M H H' κ v d):AtT K U M H' d v:=by
 cases κ with
 |sh=>exact At.tp uM h
 |tp=>exact h
 |fr=>exact At.tp uM^VR.shOf dom h^by grind
def Iv{α:Type}{l:p_ α}{i j:Nat}{x y:α}(h:(l.set i x)[j]?=P3 y):(j=i/\i<l.length/\y=x)\/(j≠i/\l[j]?=P3 y):=by
 rw[List.getElem?_set]at h
 by_cases e:i=j
 .simp_all
 .rw[if_neg e]at h
  exact .inr #[λz=>e z.symm,h]
def L5{l:L2.St}{i j:Nat}{x:q_ V}(h:j≠i):((l.set i x)[j]?).getD m_=(l[j]?).getD m_:=by
 rw[List.getElem?_set,if_neg λz=>h z.symm]
def UJ{l:L2.St}{i:Nat}{x:q_ V}(h:i<l.length):((l.set i x)[i]?).getD m_=x:=by
 simp_all
def Rel.set(R:Rel K C M H n ρ Z){i:Nat}(h:At K M H d v):Rel K C M H n (ρ.set i^.sh d)^Z.set i^P3 v:=by
 have two:∀(j:Nat) (s:Slot),(ρ.set i^.sh d)[j]?=P3 s->s.owns=n_->ρ[j]?=P3 s/\((Z.set i^P3 v)[j]?).getD m_=(Z[j]?).getD m_:=λj s q o=>by
  rcases Iv q with⟨_,_,rfl⟩|⟨hj,q⟩
  .cases o
  .exact#[q,L5 hj]
 refine#[by rw[iY,iY];exact R.len,R.sub,R.dom,R.ext,R.fU,R.uV,R.vM,R.feed,λj s q=>?_,R.pin,λj e a q q2=>?_,λj s a q o q2=>?_,λj k s t a q1 o1 q2 o2 z1 z2=>?_,λp hp=>?_]
 .rcases Iv q with⟨rfl,hl,rfl⟩|⟨hj,q⟩
  .rw[UJ^by rw[←R.len];exact hl]
   exact#[v,rfl,h]
  .rw[L5 hj]
   exact R.sl j s q
 .rcases Iv q with⟨_,_,e⟩|⟨hj,q⟩
  .cases e
  .rw[L5 hj]at q2
   exact R.br0 j e a q q2
 .let#[q1,e]:=two j s q o
  rw[e]at q2;exact R.new j s a q1 o q2
 .let#[p1,e1]:=two j s q1 o1
  let#[p2,e2]:=two k t q2 o2;rw[e1]at z1;rw[e2]at z2;exact R.two j k s t a p1 o1 p2 o2 z1 z2
 .let#[h1,h2,h3,h4]:=R.kept p hp
  refine#[h1,h2,h3,λj e q=>?_];let#[q1,e2]:=two j _ q rfl;rw[e2];exact h4 j e q1
def Rel.owner(R:Rel K C M H n ρ Z){i:Nat}{s:Slot}(h:ρ[i]?=P3 s)(o:s.owns=n_):∃a e,(Z[i]?).getD m_=P3^.ref a/\M a/\¬C.V a/\Tops K M H a e/\¬C.M0 a/\C.H0 a=m_:=by
 have q:=R.sl i s h;cases s with
 |ow d=>let#[a,e1,h1,h2,h3]:=q;exact#[a,d,e1,h1,h2,h3,R.new i _ a h o e1]
 |lt a d=>let#[e1,h1,h2,h3]:=q;exact#[a,d,e1,h1,h2,h3,R.new i _ a h o e1]
 |_=>cases o
def Rel.setOw(R:Rel K C M H n ρ Z){i:Nat}{a:Ch}(e:Ext C.U H H')(f:FeedC K C.F M H' n')(ha:H a=m_)(h:Tops K (λb=>M b\/b=a) H' a d):
  Rel K C (λb=>M b\/b=a) H' n' (ρ.set i^.ow d) (Z.set i^P3^.ref a):=by
 have R1:=R.step e f
 have ne:∀b,M b->b≠a:=λb z q=>by
  let#[o,w]:=R.dom b z;rw[q,ha]at w;cases w
 have a0:¬C.M0 a/\C.H0 a=m_:=#[λz=>ne a (R.sub a z) rfl,R.ext.free ha];have pr:Pres M H (λb=>M b\/b=a) H':=#[λb o q nb nv=>e.keep q (λz=>nb^R.vM b^R.uV b z) nv,λb z=>z.elim .inl λz=>.inr (by rw[z];exact ha),λb vs q=>e.tup q,λb o q=>let #[o',h,_]:=e b o q;#[o',h]]
 have two:∀(j:Nat) (s:Slot),(ρ.set i^.ow d)[j]?=P3 s->(j=i/\s=.ow d/\((Z.set i^P3^.ref a)[j]?).getD m_=P3^.ref a)\/(j≠i/\ρ[j]?=P3 s/\((Z.set i^P3^.ref a)[j]?).getD m_=(Z[j]?).getD m_):=λj s q=>by
  rcases Iv q with⟨rfl,hl,rfl⟩|⟨hj,q⟩
  .exact .inl #[rfl,rfl,UJ^by rw[←R.len];exact hl]
  .exact .inr #[hj,q,L5 hj]
 have old:∀(j:Nat) (s:Slot) (b:Ch),ρ[j]?=P3 s->s.owns=n_->(Z[j]?).getD m_=P3^.ref b->b≠a:=λj s b q o z=>by
  let#[c,_,e1,m,_]:=R.owner q o;rw[e1]at z;cases z;exact ne _ m
 have hd:∃o,H' a=P3 o:=by
  cases d with
  |lst ds=>let#[vs,q,_]:=h;exact#[_,q]
  |dic ks ds=>let#[vs,q,_]:=h;exact#[_,q]
  |dit ks ds=>let#[vs,q,_]:=h;exact#[_,q]
  |_=>exact(show False from h).elim
 refine#[by rw[iY,iY];exact R.len,λb z=>.inl^R.sub b z,λb z=>?_,R1.ext,R.fU,R.uV,λb z=>.inl^R.vM b z,f.more a (λg hg q=>?_) λu z=>h.notV z #[u,rfl],λj s q=>?_,λq hq=>(R.pin q hq).trans pr,λj e2 b q q2=>?_,λj s b q o q2=>?_,λj k s t b q1 o1 q2 o2 z1 z2=>?_,λp hp=>?_]
 .rcases z with z|z
  .exact R1.dom b z
  .rw[z];exact hd
 .let#[_,_,_,_,_,h3,_]:=R.feed.1 g hg
  have:=h3.2
  rw[q,ha]at this;cases this
 .rcases two j s q with⟨rfl,rfl,e1⟩|⟨hj,q1,e1⟩
  .rw[e1]
   exact#[a,rfl,.inr rfl,λz=>ne a (R.vM a z) rfl,h]
  .rw[e1]
   exact(R.sl j s q1).pres pr (λ_ z=>.inl z) e R.uV
 .rcases two j _ q with⟨_,e1,_⟩|⟨hj,q1,e1⟩
  .cases e1
  .rw[e1]at q2
   exact R.br0 j e2 b q1 q2
 .rcases two j s q with⟨_,_,e1⟩|⟨hj,q1,e1⟩
  .rw[e1]at q2
   cases q2;exact a0
  .rw[e1]at q2
   exact R.new j s b q1 o q2
 .rcases two j s q1 with⟨rfl,_,e1⟩|⟨hj,p1,e1⟩
  .rw[e1]at z1
   cases z1
   rcases two k t q2 with⟨rfl,_,_⟩|⟨hk,p2,e2⟩
   .rfl
   .rw[e2]at z2
    exact absurd rfl (old k t a p2 o2 z2)
  .rw[e1]at z1
   rcases two k t q2 with⟨rfl,_,e2⟩|⟨hk,p2,e2⟩
   .rw[e2]at z2
    cases z2;exact absurd rfl (old j s a p1 o1 z1)
   .rw[e2]at z2
    exact R.two j k s t b p1 o1 p2 o2 z1 z2
 .let#[h1,h2,h3,h4]:=R1.kept p hp
  refine#[h1,#[.inl h2.1,h2.2],h3,λj e2 q=>?_]
  rcases two j _ q with⟨_,_,e1⟩|⟨hj,q1,e1⟩
  .rw[e1]
   intro z;cases z;exact ne _ h2.1 rfl
  .rw[e1]
   exact h4 j e2 q1
def Rel.mut(R:Rel K C M H n ρ Z){i:Nat}{a:Ch}{e:D}{o:HO}(hi:ρ[i]?=P3^.ow d)(ha:(Z[i]?).getD m_=P3^.ref a)(h:Tops K M (Aq H a o) a e):
  Rel K C M (Aq H a o) n (ρ.set i^.ow e) Z:=by
 let#[b,_,e1,m,nv,t,n0,h0]:=R.owner hi rfl;rw[ha]at e1;cases e1;have pr:Pres M H M^Aq H a o:=#[λb o' q nb _=>by rw[AK λz=>nb^by rw[z];exact m];exact q,λ_ z=>.inl z,λb vs q=>by rw[AK λz=>t.notT^by rw[←z];exact q];exact q,λb o' q=>(iI (b=a)).elim (λz=>#[o,by rw[z,AM]]) λz=>#[o',by rw[AK z];exact q]]
 have old:∀(j:Nat) (s:Slot),(ρ.set i^.ow e)[j]?=P3 s->(j=i/\s=.ow e)\/(j≠i/\ρ[j]?=P3 s):=λj s q=>by
  rcases Iv q with⟨rfl,hl,rfl⟩|⟨hj,q⟩
  .exact .inl #[rfl,rfl]
  .exact .inr #[hj,q]
 have far:∀(j:Nat) (s:Slot) (b:Ch),j≠i->ρ[j]?=P3 s->s.owns=n_->(Z[j]?).getD m_=P3^.ref b->b≠a:=λj s b hj q o z w=>by
  subst w;exact hj (R.two j i s _ b q o hi rfl z ha)
 refine#[by rw[iY];exact R.len,R.sub,λb z=>?_,λb o' q=>?_,R.fU,R.uV,R.vM,R.feed.pres pr (λf o' hf q=>?_) (λb u q=>by rw[AK λz=>t.notV (by rw[←z];exact q) #[u,rfl]];exact q),λj s q=>?_,λq hq=>(R.pin q hq).trans pr,λj e2 b q q2=>?_,λj s b q o2 q2=>?_,λj k s t b q1 o1 q2 o2 z1 z2=>?_,λp hp=>?_]
 .by_cases hb:b=a
  .exact#[o,by rw[hb,AM]]
  .let#[o',q]:=R.dom b z
   exact#[o',by rw[AK hb];exact q]
 .let#[o2,q2,r]:=R.ext b o' q
  have hb:b≠a:=λz=>by rw[z,h0]at q;cases q
  exact#[o2,by rw[AK hb];exact q2,r]
 .have hb:f.1≠a:=λz=>nv^by rw[←z];exact R.uV _^R.fU f hf
  rw[AK hb];exact q
 .rcases old j s q with⟨rfl,rfl⟩|⟨hj,q1⟩
  .rw[ha]
   exact#[a,rfl,m,nv,h]
  .have q2:=R.sl j s q1
   cases s with
   |no=>trivial
   |sh d=>let#[v,e1,h1]:=q2;exact#[v,e1,h1.pres pr]
   |ex a nm ks ds=>let#[e1,h1]:=q2;exact#[e1,h1.pres pr]
   |br d=>
    let#[v,e1,h1]:=q2;refine#[v,e1,h1.same pr (λb o' z q=>?_) λ_ _ z=>z];subst z;let#[o3,w]:=R.br0 j d b q1 e1;rw[AK λz=>by rw[z,h0]at w;cases w];exact q
   |fd=>exact q2
   |ow d=>
    let#[b,e1,h1,h2,h3]:=q2;exact#[b,e1,h1,h2,h3.pres pr λo' w=>by rw[AK (far j _ b hj q1 rfl e1)];exact w]
   |lt b d=>
    let#[e1,h1,h2,h3]:=q2;exact#[e1,h1,h2,h3.pres pr λo' w=>by rw[AK (far j _ b hj q1 rfl e1)];exact w]
 .rcases old j _ q with⟨_,e1⟩|⟨hj,q1⟩
  .cases e1
  .exact R.br0 j e2 b q1 q2
 .rcases old j s q with⟨rfl,_⟩|⟨hj,q1⟩
  .exact R.new j _ b hi rfl q2
  .exact R.new j s b q1 o2 q2
 .rcases old j s q1 with⟨rfl,rfl⟩|⟨hj,p1⟩
  .rcases old k t q2 with⟨rfl,_⟩|⟨hk,p2⟩
   .rfl
   .exact R.two j k _ t b hi rfl p2 o2 z1 z2
  .rcases old k t q2 with⟨rfl,rfl⟩|⟨hk,p2⟩
   .exact R.two j k s _ b p1 o1 hi rfl z1 z2
   .exact R.two j k s t b p1 o1 p2 o2 z1 z2
 .let#[h1,h2,h3,h4]:=R.kept p hp
  have hb:p.1≠a:=λz=>h4 i d hi (by rw[ha,z]);refine#[by rw[AK hb];exact h1,h2,h3,λj e2 q=>?_]
  rcases old j _ q with⟨rfl,_⟩|⟨hj,q1⟩
  .exact h4 j d hi
  .exact h4 j e2 q1
end
abbrev DW:=Sg->p_ Slot->(D->Sg->Prop)->Prop
abbrev Hj:=Sg->p_ Slot->(Bool->Sg->Prop)->Prop
abbrev EX:=Sg->p_ Slot->(p_ D->Sg->Prop)->Prop
abbrev Ti:=Sg->p_ Slot->(p_ Slot->Sg->Prop)->Prop
section
variable (X:Cx)
def DE(e:eS)(κ:Kd)(w:DW):Prop:=∃t,PE X e t/\∀(C:Fm) (M:Ch->Prop) (H:Hp) (n:Sg) (ρ:p_ Slot) (Z:L2.St) (P:D->Sg->Prop) (Q:VK),Rel X.K C M H n ρ Z->w n ρ P->
 (∀v H' d n',Ext C.U H H'->FeedC X.K C.F M H' n'->VR X.K C.V M H H' κ v d->P d n'->Q v H')->t Z H Q
def DT(e:eS)(w:Hj):Prop:=∃t,PT X e t/\∀(C:Fm) (M:Ch->Prop) (H:Hp) (n:Sg) (ρ:p_ Slot) (Z:L2.St) (P:Bool->Sg->Prop) (Q:Bool->Hp->Prop),Rel X.K C M H n ρ Z->w n ρ P->
 (∀b H' n',Ext C.U H H'->FeedC X.K C.F M H' n'->P b n'->Q b H')->t Z H Q
def DTW(e:eS)(w:Hj):Prop:=∃t,PW X e t/\∀(C:Fm) (M:Ch->Prop) (H:Hp) (n:Sg) (ρ:p_ Slot) (Z:L2.St) (P:Bool->Sg->Prop) (Q:Bool->Hp->Prop),Rel X.K C M H n ρ Z->w n ρ P->
 (∀b H' n',Ext C.U H H'->FeedC X.K C.F M H' n'->P b n'->Q b H')->t Z H Q
def aI(es:p_ eS)(w:EX):Prop:=∃t,PA X es t/\∀(C:Fm) (M:Ch->Prop) (H:Hp) (n:Sg) (ρ:p_ Slot) (Z:L2.St) (P:p_ D->Sg->Prop) (Q:p_ V->Hp->Prop),Rel X.K C M H n ρ Z->w n ρ P->
 (∀vs H' ds n',Ext C.U H H'->FeedC X.K C.F M H' n'->Paired (λv d=>AtT X.K C.V M H' d v) vs ds->P ds n'->Q vs H')->t Z H Q
def Ye(es:p_ eS)(w:EX):Prop:=∃t,PA X es t/\∀(C:Fm) (M:Ch->Prop) (H:Hp) (n:Sg) (ρ:p_ Slot) (Z:L2.St) (P:p_ D->Sg->Prop) (Q:p_ V->Hp->Prop),Rel X.K C M H n ρ Z->w n ρ P->
 (∀vs H' ds n',Ext C.U H H'->FeedC X.K C.F M H' n'->Ats X.K M H' ds vs->P ds n'->Q vs H')->t Z H Q
def EY(K:Frag)(F:q_ (Ch×Ch))(V' M:Ch->Prop)(H:Hp)(v:V)(s:Slot):Prop:=SlotOk K F V' M H s^P3 v/\s.owns=o_
def cR(e:eS)(w:Sg->p_ Slot->(Slot->Sg->Prop)->Prop):Prop:=∃t,PE X e t/\∀(C:Fm) (M:Ch->Prop) (H:Hp) (n:Sg) (ρ:p_ Slot) (Z:L2.St) (P:Slot->Sg->Prop) (Q:VK),Rel X.K C M H n ρ Z->w n ρ P->
 (∀v H' s n',Ext C.U H H'->FeedC X.K C.F M H' n'->EY X.K C.F C.V M H' v s->P s n'->Q v H')->t Z H Q
def Xv(es:p_ eS)(w:Ti):Prop:=∃t,PA X es t/\∀(C:Fm) (M:Ch->Prop) (H:Hp) (n:Sg) (ρ:p_ Slot) (Z:L2.St) (P:p_ Slot->Sg->Prop) (Q:p_ V->Hp->Prop),Rel X.K C M H n ρ Z->w n ρ P->
 (∀vs H' ss n',Ext C.U H H'->FeedC X.K C.F M H' n'->Paired (EY X.K C.F C.V M H') vs ss->P ss n'->Q vs H')->t Z H Q
end
def AA(i:Nat):DW:=λn ρ P=>match ρ[i]? with
 |some (.sh d)=>P d n
 |_=>False
def Ar(i:Nat):DW:=λn ρ P=>match ρ[i]? with
 |some (.sh d)=>P d n
 |some (.br d)=>P d n
 |some (.ow d)=>P d n
 |some (.lt _ d)=>P d n
 |_=>False
def wC(d:D):DW:=λn _ P=>P d n
section
variable {X:Cx}{a b c e:Expr}{κ zU zQ:Kd}{wa wb:DW}{pos:Pos}
def getD_some{Z:L2.St}{i:Nat}{v:V}(h:(Z[i]?).getD m_=P3 v):Z[i]?=P3^P3 v:=by
 cases q:Z[i]? with
 |none=>simp_all
 |some o=>simp_all
def Xc{i:Nat}(h:PE X e^Bv i):DE X e .sh^AA i:=by
 refine#[_,h,λC M H n ρ Z P Q R w q=>?_];unfold AA at w
 split at w
 .rename_i d hd
  let#[v,e1,h1]:=R.sl i _ hd;exact#[v,getD_some e1,q v H d n (Ext.refl _ _) R.feed h1 w]
 grind
def Vx{i:Nat}(h:PE X e^Bv i):DE X e .tp^Ar i:=by
 refine#[_,h,λC M H n ρ Z P Q R w q=>?_];unfold Ar at w
 split at w
 .rename_i d hd
  let#[v,e1,h1]:=R.sl i _ hd;exact#[v,getD_some e1,q v H d n (Ext.refl _ _) R.feed (At.tp R.vM h1) w]
 .rename_i d hd
  let#[v,e1,h1]:=R.sl i _ hd;exact#[v,getD_some e1,q v H d n (Ext.refl _ _) R.feed h1 w]
 .rename_i d hd
  let#[a,e1,_,h2,h3]:=R.sl i _ hd;exact#[.ref a,getD_some e1,q _ H d n (Ext.refl _ _) R.feed (h3.att h2) w]
 .rename_i a d hd
  let#[e1,_,h2,h3]:=R.sl i _ hd;exact#[.ref a,getD_some e1,q _ H d n (Ext.refl _ _) R.feed (h3.att h2) w]
 .exact w.elim
def dv(i:Nat){x:Str}{pos:Pos}(hN:X.N[i]?=P3 x:=by rfl)(hv:Z_ X.env.scope x:=by first|exact eC rfl|exact gc (eC rfl)|exact gc (gc rfl))(hd:(x==("__debug__":Str))=o_:=by decide)
  (hcd:(x==("__classdict__":Str))=o_:=by decide):DE X (.Name x pos) .sh^AA i:=Xc^MO hN hv hd hcd
def IN(i:Nat){x:Str}{pos:Pos}(hN:X.N[i]?=P3 x:=by rfl)(hv:Z_ X.env.scope x:=by first|exact eC rfl|exact gc (eC rfl)|exact gc (gc rfl))(hd:(x==("__debug__":Str))=o_:=by decide)
  (hcd:(x==("__classdict__":Str))=o_:=by decide):DE X (.Name x pos) .tp^Ar i:=Vx^MO hN hv hd hcd
def EK{d:D}{v:V}(h:PE X e^tC v)(hd:∀M H,At X.K M H d v):DE X e .sh^wC d:=
 #[_,h,λC M H n ρ Z P Q R w q=>q v H d n (Ext.refl _ _) R.feed (hd M H) w]
def AG{i:Int}{j pos}:DE X (.Constant (.int i) j pos) .sh^wC^.int i:=EK Az λ_ _=>rfl
def HY{b:Bool}{j pos}:DE X (.Constant (.bool b) j pos) .sh^wC^.bl b:=EK bJ λ_ _=>rfl
def CP{j pos}:DE X (.Constant .none j pos) .sh^wC .non:=EK ZI λ_ _=>rfl
def Ad{x:Str}{j pos}(hx:decide (x.length<=1000)=n_:=by rfl):DE X (.Constant (.str x) j pos) .sh^wC^.str x:=
 EK Py λ_ _=>#[rfl,eR (of_decide_eq_true hx)^by cbv]
def Rb{x:Str}{i:Int}{t:Tok}{pos:Pos}(hg:Gl X x)(hm:X.mg x=P3^.int i t)(hd:(x==("__debug__":Str))=o_:=by decide):DE X (.Name x pos) .sh^wC^.int i:=
 EK (Wq hg hm (v:=.int i) #[t,rfl] hd) λ_ _=>rfl
def Er(K:Frag)(κ:Kd)(r:R2)(f:D->D->(D->Prop)->Prop):Prop:=∀(U:Ch->Prop) (M:Ch->Prop) (H:Hp) (d e:D) (x y:V) (P:D->Prop) (Q:VK),(∀a,M a->∃o,H a=P3 o)->(∀a,U a->M a)->
 AtT K U M H d x->AtT K U M H e y->f d e P->(∀v H' z,Grow H H'->VR K U M H H' κ v z->P z->Q v H')->r x y H Q
def AU(f:D->D->(D->Prop)->Prop)(wa wb:DW):DW:=λn ρ P=>wa n ρ λx n1=>wb n1 ρ λy n2=>f x y λz=>P z n2
def Di{r:R2}{f:D->D->(D->Prop)->Prop}(hA:Er X.K κ r f){ta tb:TE}(ha:∀(C:Fm) (M:Ch->Prop) (H:Hp) (n:Sg) (ρ:p_ Slot) (Z:L2.St) (P:D->Sg->Prop) (Q:VK),Rel X.K C M H n ρ Z->wa n ρ P->
   (∀v H' d n',Ext C.U H H'->FeedC X.K C.F M H' n'->VR X.K C.V M H H' zU v d->P d n'->Q v H')->ta Z H Q)
  (hb:∀(C:Fm) (M:Ch->Prop) (H:Hp) (n:Sg) (ρ:p_ Slot) (Z:L2.St) (P:D->Sg->Prop) (Q:VK),Rel X.K C M H n ρ Z->wb n ρ P->
   (∀v H' d n',Ext C.U H H'->FeedC X.K C.F M H' n'->VR X.K C.V M H H' zQ v d->P d n'->Q v H')->tb Z H Q)
  (C:Fm) (M:Ch->Prop) (H:Hp) (n:Sg) (ρ:p_ Slot) (Z:L2.St) (P:D->Sg->Prop) (Q:VK) (R:Rel X.K C M H n ρ Z) (w:AU f wa wb n ρ P)
  (q:∀v H' d n',Ext C.U H H'->FeedC X.K C.F M H' n'->VR X.K C.V M H H' κ v d->P d n'->Q v H'):C3 r ta tb Z H Q:=by
 refine ha C M H n ρ Z _ _ R w λx H1 d n1 e1 f1 r1 w1=>?_;have R1:=R.step e1 f1;refine hb C M H1 n1 ρ Z _ _ R1 w1 λy H2 e n2 e2 f2 r2 w2=>?_;have R2':=R1.step e2 f2;exact hA _ M H2 d e x y _ _ R2'.dom R2'.vM ((r1.tpOf R.dom R.vM).pres (R1.pres e2) e2 R.uV) (r2.tpOf R1.dom R1.vM) w2 λv H3 z g vr p=>q v H3 z n2 ((e1.trans e2).trans g.ext) (f2.grow g) (VR.back (e1.trans e2) vr) p
def BL{op:Operator}{r:R2}{f:D->D->(D->Prop)->Prop}(ho:OpR X (binaryOp op) r)(hA:Er X.K κ r f)(ha:DE X a zU wa)(hb:DE X b zQ wb):DE X (.BinOp a op b pos) κ^AU f wa wb:=by
 let#[ta,ha1,ha2]:=ha;let#[tb,hb1,hb2]:=hb;exact#[_,Bn ho ha1 hb1,λC M H n ρ Z P Q R w q=>Di hA ha2 hb2 C M H n ρ Z P Q R w q]
def AW{r:R2}{f:D->D->(D->Prop)->Prop}(ho:IxR X r)(hA:Er X.K κ r f)(ha:DE X a zU wa)(hb:DE X b zQ wb)(hs:Rv b:=by intro _ _;rfl):DE X (.Subscript a b pos) κ^AU f wa wb:=by
 let#[ta,ha1,ha2]:=ha;let#[tb,hb1,hb2]:=hb;exact#[_,Do ho ha1 hb1 hs,λC M H n ρ Z P Q R w q=>Di hA ha2 hb2 C M H n ρ Z P Q R w q]
def M6{op:CmpOp}{r:R2}{f:D->D->(D->Prop)->Prop}(ho:OpR X (compareOp op) r)(hA:Er X.K .sh r f)(ha:DE X a zU wa)(hb:DE X b zQ wb)(hm:behindInMarks op b=o_):DE X (.Compare a [op] [b] pos) .sh^AU f wa wb:=by
 let#[ta,ha1,ha2]:=ha;let#[tb,hb1,hb2]:=hb;exact#[_,Wu ho ha1 hb1 hm,λC M H n ρ Z P Q R w q=>Di hA ha2 hb2 C M H n ρ Z P Q R w q]
def Ab(w:DW):Hj:=λn ρ P=>w n ρ λd n1=>match d with
 |.bl b=>P b n1
 |_=>False
def Lx{U:Ch->Prop}{K:Frag}{M:Ch->Prop}{H H':Hp}{v:V}{b:Bool}(h:VR K U M H H' κ v^.bl b):v=.bl b:=by
 cases κ with
 |sh=>exact h
 |tp=>exact h
 |fr=>let#[a,_,_,t]:=h;exact(t).elim
def Aj{op:CmpOp}{r:R2}{f:D->D->(D->Prop)->Prop}(ho:OpR X (compareOp op) r)(hA:Er X.K .sh r f)(ha:DE X a zU wa)(hb:DE X b zQ wb)(hm:behindInMarks op b=o_):DT X (.Compare a [op] [b] pos)^Ab^AU f wa wb:=by
 let#[ta,ha1,ha2]:=ha;let#[tb,hb1,hb2]:=hb;refine#[_,F1 ho ha1 hb1 hm,λC M H n ρ Z P Q R w q=>?_];refine Di hA ha2 hb2 C M H n ρ Z _ _ R w λv H' d n' e f r p=>?_;cases d with
 |bl b=>exact#[b,Lx r,q b H' n' e f p]
 |_=>exact p.elim
def FY(h:DE X e κ wa)(he:∀whole,isTrue e X.env whole=(do let v ←whole;standAt e.pos;holding [v]^truthy v):=by intro _;rfl):DT X e^Ab wa:=by
 let#[t,h1,h2]:=h;refine#[_,ZA h1 he,λC M H n ρ Z P Q R w q=>?_];refine h2 C M H n ρ Z _ _ R w λv H' d n' e f r p=>?_;cases d with
 |bl b=>exact#[b,Lx r,q b H' n' e f p]
 |_=>exact p.elim
def HC(u v:Hj):Hj:=λn ρ P=>u n ρ λc n1=>if c=n_ then v n1 ρ P else P o_ n1
def Ig(u v:Hj):Hj:=λn ρ P=>u n ρ λc n1=>if c=n_ then P n_ n1 else v n1 ρ P
def Dn(u:Hj):Hj:=λn ρ P=>u n ρ λc n1=>P (!c) n1
variable {wA wB:Hj}{rest:p_ Expr}
def IM(h:DT X a wA):DTW X (.BoolOp .And [a] pos) wA:=by
 let#[t,h1,h2]:=h;exact#[t,Q2 h1,h2]
def G4(h:DT X a wA):DTW X (.BoolOp .Or [a] pos) wA:=by
 let#[t,h1,h2]:=h;exact#[t,Y_ h1,h2]
def Mt(ha:DT X a wA)(hb:DTW X (.BoolOp .And (b::rest) pos) wB):DTW X (.BoolOp .And (a::b::rest) pos)^HC wA wB:=by
 let#[t,h1,h2]:=ha;let#[u,g1,g2]:=hb;refine#[_,Um h1 g1,λC M H n ρ Z P Q R w q=>?_];refine h2 C M H n ρ Z _ _ R w λc H1 n1 e1 f1 p=>?_;cases c with
 |false=>exact q _ H1 n1 e1 f1 p
 |true=>exact g2 C M H1 n1 ρ Z P Q (R.step e1 f1) p λb H2 n2 e2 f2 p2=>q b H2 n2 (e1.trans e2) f2 p2
def LV(ha:DT X a wA)(hb:DTW X (.BoolOp .Or (b::rest) pos) wB):DTW X (.BoolOp .Or (a::b::rest) pos)^Ig wA wB:=by
 let#[t,h1,h2]:=ha;let#[u,g1,g2]:=hb;refine#[_,bG h1 g1,λC M H n ρ Z P Q R w q=>?_];refine h2 C M H n ρ Z _ _ R w λc H1 n1 e1 f1 p=>?_;cases c with
 |true=>exact q _ H1 n1 e1 f1 p
 |false=>exact g2 C M H1 n1 ρ Z P Q (R.step e1 f1) p λb H2 n2 e2 f2 p2=>q b H2 n2 (e1.trans e2) f2 p2
def DTW.dt(h:DTW X e wA):DT X e wA:=by
 let#[t,h1,h2]:=h;exact#[t,h1.pt,h2]
def EH(ha:DT X a wA):DT X (.UnaryOp .Not a pos)^Dn wA:=by
 let#[t,h1,h2]:=ha;exact#[_,ZC h1,λC M H n ρ Z P Q R w q=>h2 C M H n ρ Z _ _ R w λc H1 n1 e1 f1 p=>q _ H1 n1 e1 f1 p]
def aQ(u v:DW):DW:=λn ρ P=>u n ρ λc n1=>match c with
 |.bl n_=>v n1 ρ P
 |.bl o_=>P (.bl o_) n1
 |_=>False
def Zq{op}(h:DE X a κ wa):DE X (.BoolOp op [a] pos) κ wa:=by
 assumption
def Zs(ha:DE X a zU wa)(hb:DE X (.BoolOp .And (b::rest) pos) .sh wb):DE X (.BoolOp .And (a::b::rest) pos) .sh^aQ wa wb:=by
 let#[t,h1,h2]:=ha;let#[u,g1,g2]:=hb;refine#[_,ZO h1 g1,λC M H n ρ Z P Q R w q=>?_];refine h2 C M H n ρ Z _ _ R w λc H1 d n1 e1 f1 r1 p=>?_;cases d with
 | bl k=>
  refine#[k,Lx r1,?_];cases k with
  |false=>exact q _ H1 _ n1 e1 f1 (show VR _ _ M H H1 _ _^.bl _ from rfl) p
  |true=>
   exact g2 C M H1 n1 ρ Z P Q (R.step e1 f1) p λv H2 d n2 e2 f2 r2 p2=>q v H2 d n2 (e1.trans e2) f2 r2 p2
 |_=>exact p.elim
def aP(t:Hj)(u v:DW):DW:=λn ρ P=>t n ρ λc n1=>if c=n_ then u n1 ρ P else v n1 ρ P
def YX(hc:DT X c wA)(ha:DE X a κ wa)(hb:DE X b κ wb):DE X (.IfExp c a b pos) κ^aP wA wa wb:=by
 let#[t,h1,h2]:=hc;let#[u,g1,g2]:=ha;let#[u',k1,k2]:=hb;refine#[_,N9 h1 g1 k1,λC M H n ρ Z P Q R w q=>?_];refine h2 C M H n ρ Z _ _ R w λc H1 n1 e1 f1 p=>?_;cases c with
 |true=>exact g2 C M H1 n1 ρ Z P Q (R.step e1 f1) p λv H2 d n2 e2 f2 r2 p2=>q v H2 d n2 (e1.trans e2) f2 (VR.back e1 r2) p2
 |false=>exact k2 C M H1 n1 ρ Z P Q (R.step e1 f1) p λv H2 d n2 e2 f2 r2 p2=>q v H2 d n2 (e1.trans e2) f2 (VR.back e1 r2) p2
def AS:EX:=λn _ P=>P [] n
def AE(w:DW)(ws:EX):EX:=λn ρ P=>w n ρ λd n1=>ws n1 ρ λds n2=>P (d::ds) n2
variable {es:p_ Expr}{ws:EX}
def Ae:aI X [] AS:=#[_,Cf,λC M H n ρ Z P Q R w q=>q [] H [] n (Ext.refl _ _) R.feed .nil w]
def AQ:Ye X [] AS:=#[_,Cf,λC M H n ρ Z P Q R w q=>q [] H [] n (Ext.refl _ _) R.feed rfl w]
def AV(ha:DE X e κ wa)(hr:aI X es ws)(hs:starEach (e::es) X.env=(o_,eval e X.env)::starEach es X.env:=by rfl):aI X (e::es)^AE wa ws:=by
 let#[t,h1,h2]:=ha;let#[u,g1,g2]:=hr;refine#[_,Br h1 g1 hs,λC M H n ρ Z P Q R w q=>?_];refine h2 C M H n ρ Z _ _ R w λv H1 d n1 e1 f1 r1 p=>?_;have R1:=R.step e1 f1;exact g2 C M H1 n1 ρ Z _ _ R1 p λvs H2 ds n2 e2 f2 r2 p2=>q _ H2 _ n2 (e1.trans e2) f2 (.cons ((r1.tpOf R.dom R.vM).pres (R1.pres e2) e2 R.uV) r2) p2
def AB(ha:DE X e κ wa)(hr:Ye X es ws)(hk:κ≠.tp:=by intro z;cases z)(hs:starEach (e::es) X.env=(o_,eval e X.env)::starEach es X.env:=by rfl):Ye X (e::es)^AE wa ws:=by
 let#[t,h1,h2]:=ha;let#[u,g1,g2]:=hr;refine#[_,Br h1 g1 hs,λC M H n ρ Z P Q R w q=>?_];refine h2 C M H n ρ Z _ _ R w λv H1 d n1 e1 f1 r1 p=>?_;have R1:=R.step e1 f1;exact g2 C M H1 n1 ρ Z _ _ R1 p λvs H2 ds n2 e2 f2 r2 p2=>q _ H2 (d::ds) n2 (e1.trans e2) f2 #[v,vs,rfl,(r1.shOf R.dom hk).pres^R1.pres e2,r2] p2
def BA(ws:EX):DW:=λn ρ P=>ws n ρ λds n1=>ds.length<=sizeLine/\P (.tup ds) n1
def Cr(ws:EX):DW:=λn ρ P=>ws n ρ λds n1=>ds.length<=sizeLine/\P (.lst ds) n1
def FW{M:Ch->Prop}{H:Hp}{p:Ch}{o:HO}(h:H p=m_):Pres M H (λb=>M b\/b=p)^Aq H p o:=#[λb u e _ _=>by rw[AK^Ai e h];exact e,λb z=>z.elim .inl λz=>.inr^by grind,λb vs e=>by rw[AK^Ai e h];exact e,λb u e=>#[u,by rw[AK^Ai e h];exact e]]
def Am{H:Hp}{p:Ch}{o:HO}(h:H p=m_):Grow H^Aq H p o:=.inr #[p,o,h,rfl]
def Ao{x1}(h:Ye X es ws):DE X (.Tuple es x1 pos) .sh^BA ws:=by
 let#[t,h1,h2]:=h;refine#[_,ZH h1,λC M H n ρ Z P Q R w q=>?_];refine h2 C M H n ρ Z _ _ R w λvs H1 ds n1 e1 f1 r1 p=>?_;refine#[by rw[r1.length];exact p.1,λa ha=>?_];have g:Grow H1^Aq H1 a^.tup vs:=Am ha;refine q _ _ (.tup ds) n1 (e1.trans g.ext) (f1.grow g) #[a,vs,rfl,AM,r1.pres g.pres] p.2
def Bh(h:Ye X es ws):DE X (.List es pos) .fr^Cr ws:=by
 let#[t,h1,h2]:=h;refine#[_,Pz h1,λC M H n ρ Z P Q R w q=>?_];refine h2 C M H n ρ Z _ _ R w λvs H1 ds n1 e1 f1 r1 p=>?_;refine#[by rw[r1.length];exact p.1,λa ha=>?_];have g:Grow H1^Aq H1 a^.lst vs:=Am ha;exact q _ _ (.lst ds) n1 (e1.trans g.ext) (f1.grow g) (VR.back e1 #[a,rfl,ha,vs,AM,r1.pres^FW ha]) p.2
def CA(K:Frag)(κ:Kd)(r:p_ V->Hp->VK->Prop)(f:p_ D->(D->Prop)->Prop):Prop:=∀(U:Ch->Prop) (M:Ch->Prop) (H:Hp) (ds:p_ D) (vs:p_ V) (P:D->Prop) (Q:VK),(∀a,M a->∃o,H a=P3 o)->(∀a,U a->M a)->
 Paired (λv d=>AtT K U M H d v) vs ds->f ds P->(∀v H' z,Grow H H'->VR K U M H H' κ v z->P z->Q v H')->r vs H Q
def B0(f:p_ D->(D->Prop)->Prop)(ws:EX):DW:=λn ρ P=>ws n ρ λds n1=>f ds λz=>P z n1
def YZ{r:p_ V->Hp->VK->Prop}{f:p_ D->(D->Prop)->Prop}{t:TA}(hA:CA X.K κ r f)(h2:∀(C:Fm) (M:Ch->Prop) (H:Hp) (n:Sg) (ρ:p_ Slot) (Z:L2.St) (P:p_ D->Sg->Prop) (Q:p_ V->Hp->Prop),Rel X.K C M H n ρ Z->ws n ρ P->
   (∀vs H' ds n',Ext C.U H H'->FeedC X.K C.F M H' n'->Paired (λv d=>AtT X.K C.V M H' d v) vs ds->P ds n'->Q vs H')->t Z H Q)
  (C:Fm) (M:Ch->Prop) (H:Hp) (n:Sg) (ρ:p_ Slot) (Z:L2.St) (P:D->Sg->Prop) (Q:VK) (R:Rel X.K C M H n ρ Z) (w:B0 f ws n ρ P)
  (q:∀v H' d n',Ext C.U H H'->FeedC X.K C.F M H' n'->VR X.K C.V M H H' κ v d->P d n'->Q v H'):af r t Z H Q:=by
 refine h2 C M H n ρ Z _ _ R w λvs H1 ds n1 e1 f1 r1 p=>?_;have R1:=R.step e1 f1;exact hA _ M H1 ds vs _ _ R1.dom R1.vM r1 p λv H2 z g vr pz=>q v H2 z n1 (e1.trans g.ext) (f1.grow g) (VR.back e1 vr) pz
def Af{x:Str}{id:String}{p:Pos}{r:p_ V->Hp->VK->Prop}{f:p_ D->(D->Prop)->Prop}(hc:CallR X (.builtin id) r)(hA:CA X.K κ r f)(hg:Gl X x)(hm:X.mg x=m_)(hv:bootBuiltins x=P3^.builtin id)(ha:aI X (e::es) ws)
  (hn:x ≠ "__name__":=by decide) (hdb:(x==("__debug__":Str))=o_:=by decide)
  (he:starEach (e::es) X.env=(o_,eval e X.env)::starEach es X.env:=by rfl) (hpl:(backTo pos^starEach es X.env).any (·.1)=o_:=by rfl):DE X (.Call (.Name x p) (e::es) [] pos) κ^B0 f ws:=by
 let#[t,h1,h2]:=ha;exact#[_,F4 hc hg hm hv h1 hn hdb he hpl,λC M H n ρ Z P Q R w q=>YZ hA h2 C M H n ρ Z P Q R w q]
def Bu{x:Str}{T:String}{p:Pos}{r:p_ V->Hp->VK->Prop}{f:p_ D->(D->Prop)->Prop}(hc:CallR X (.type T) r)(hA:CA X.K κ r f)(hg:Gl X x)(hm:X.mg x=m_)(hv:bootBuiltins x=P3^.type T)(ha:aI X (e::es) ws)
  (hn:x ≠ "__name__":=by decide) (hdb:(x==("__debug__":Str))=o_:=by decide)
  (he:starEach (e::es) X.env=(o_,eval e X.env)::starEach es X.env:=by rfl) (hpl:(backTo pos^starEach es X.env).any (·.1)=o_:=by rfl):DE X (.Call (.Name x p) (e::es) [] pos) κ^B0 f ws:=by
 let#[t,h1,h2]:=ha;exact#[_,Gm hc hg hm hv h1 hn hdb he hpl,λC M H n ρ Z P Q R w q=>YZ hA h2 C M H n ρ Z P Q R w q]
end
end Dp
namespace L2
def dI(z:Str):It:=#[λi _=>i<z.cps.size,λi H x H'=>H'=H/\∃c,z.cps[i]?=P3 c/\x=.str #[#[ c]],λi _=>z.cps.size<=i]
def Nf{P:eT}{w:eY}{K:Frag}{tg:eS}(it:Ch)(z:Str)(t:Tok)(ty:String)(hty:ty="str_ascii_iterator"\/ty="str_iterator")
  (W:∀A':e_,A'.handled=m_->Walks P w A' it [it] [it] z.cps.size (SignAt z) λi h=>h.IsStrIter it ty z t i):Turn P w K tg (dI z) [it] it (λi h=>h.IsStrIter it ty z t i) where
 mem:=by simp
 obj:=λi h st b hb=>by
  have e:b=it:=by simpa using hb
  subst e;let#[o,e,c,d]:=st;exact#[o,e,λv z=>by rw[d]at z;cases z]
 keep:=λi h h' st k=>let #[o,ho,r]:=st;#[o,k it (by simp) o ho,r]
 item:=by
  intro X hP hw hK hc i zG s Z H E I hf st hg;subst hP hw hK;let#[f0,f1,f2,f3,f4,f5]:=hf it (by simp);refine(W X.A^I.ok.hd hc).item i s _ _ hg st λv h' tk hv st' kk=>?_;let#[c,u,hcu,rfl]:=hv;have I1:Inv X zG Z H {s with heap:=h',toks:=tk}:=I.turned (λb o hb e=>kk b o (by simpa using hb) e) f0 f1 f3 f4 f5;let#[o,e,cc,d]:=id st';exact#[_,rfl,RM (s:={s with heap:=h',toks:=tk}) e cc d (by rcases hty with rfl|rfl <;>decide) #[.str #[#[ c]],H,I1,#[_,rfl],#[rfl,c,hcu,rfl],st',λb hb=>(hf b hb).1]]
 done:=by
  intro X hP hw hK hc i zG s Z H E I hf st hg;subst hP hw hK;let#[f0,f1,f2,f3,f4,f5]:=hf it^by simp
  have hx:z.cps[i]?=m_:=by
   have:z.cps.size<=i:=hg
   simp[this]
  rcases hty with rfl|rfl
  .exact wpAny_pyNext_ascii_end (I.ok.hd hc) st hx λh' eb=>#[rfl,I.turned (t':=s.toks) (λb o hb e=>eb b o hb e) f0 f1 f3 f4 f5]
  .exact wpAny_pyNext_wide_end (I.ok.hd hc) st hx λh' eb=>#[rfl,I.turned (t':=s.toks) (λb o hb e=>eb b o hb e) f0 f1 f3 f4 f5]
 self:=λA i s Q E st h=>by
  rcases hty with rfl|rfl
  .exact wpAny_pyIter_striter_ascii st h
  .exact wpAny_pyIter_striter_wide st h
section
variable {X:Cx}{tg:Expr}
def cz(K:Frag)(tl:TE):TI:=λZ H R=>tl Z H λx H1=>
 (∃a,x=.ref a/\(∃xs,SqL K H1 a xs)/\R (dJ K a) H1)\/(∃a,x=.ref a/\(∃xs,SqT K H1 a xs)/\R (aG K a) H1)\/∃z,x=.str z/\R (dI z) H1
def Pw{l:eS}{tl:TE}(hl:PE X l tl):PI X tg l^cz X.K tl:=by
 intro zG s Z H R I h;refine BD (hl zG s Z H _ I h) λv s1 #[x,H1,I1,r1,q1]=>?_
 have hne:∀b,b∈[s1.heap.objs.size]->GX X zG H1 b:=λb hb=>by
  have e:b=s1.heap.objs.size:=by simpa using hb
  subst e;exact I1.fpOk (Op _)^I1.hok.fresh^Op _
 rcases q1 with⟨a,e,⟨xs,hq⟩,q⟩|⟨a,e,⟨xs,hq⟩,q⟩|⟨z,e,q⟩
 .subst e
  cases r1;let#[its,rv,p,hz]:=I1.list hq;refine gT p.isList ?_;exact#[s1.heap.objs.size,[s1.heap.objs.size],_,_,H1,rfl,I1.kept (t':=s1.toks) λb o e=>FM _ e,R0 a _,#[_,TM _ rfl,rfl,rfl],hne,q]
 .subst e
  cases r1;let#[its,rv,p,hz]:=I1.tuple hq;refine f9 (show s1.heap.IsTuple a its.toArray from p) ?_;exact#[s1.heap.objs.size,[s1.heap.objs.size],_,_,H1,rfl,I1.kept (t':=s1.toks) λb o e=>FM _ e,Ij a _,#[_,TM _ rfl,rfl,rfl],hne,q]
 .subst e
  let#[t,rfl]:=r1;cases ha:z.cps.all (·<128)
  .refine wpAny_pyIter_wide ha ?_
   exact#[s1.heap.objs.size,[s1.heap.objs.size],_,_,H1,rfl,I1.kept (t':=s1.toks) λb o e=>FM _ e,Nf _ z t "str_iterator" (.inr rfl) λA' hA=>Walks.strWide hA _ z t,#[_,TM _ rfl,rfl,rfl],hne,q]
  .refine wpAny_pyIter_ascii ha ?_
   exact#[s1.heap.objs.size,[s1.heap.objs.size],_,_,H1,rfl,I1.kept (t':=s1.toks) λb o e=>FM _ e,Nf _ z t "str_ascii_iterator" (.inl rfl) λA' hA=>Walks.strAscii hA _ z t,#[_,TM _ rfl,rfl,rfl],hne,q]
end
section
variable {X:Cx}
def KZ(bs:p_ Bool):((e8 bs.length).all λi=>(bs[i]?).getD n_)=bs.all id:=by
 induction bs with
 |nil=>rfl
 |cons b r ih=>
  rw[eo,List.range_succ_eq_map,List.all_cons,List.all_map]
  congr 1
def V5(hc:X.calm=n_):CallR X (.builtin "all") (λxs H Q=>∃(p:Ch) (bs:p_ Bool),xs=[.ref p]/\SqL X.K H p^bs.map V.bl/\Q (.bl^bs.all id) H):=by
 intro zG s Z H xs us Q I r h;let#[p,bs,rfl,hq,q]:=h;let#[u,rfl,rx]:=vals1 r;cases rx;let#[its,r',pl,hz]:=I.list hq;have hlen:=r'.length;have hl:s.heap.IsList p its.toArray:=pl.isList;have hlt:p<s.heap.objs.size:=by let#[_,e,_]:=id hl;exact Tk e
 refine call_all_walk^gT hl ?_
 refine#[s.heap.objs.size,[s.heap.objs.size,p],[s.heap.objs.size],its.toArray.size,_,_,λi=>(bs[i]?).getD n_,rfl,Walks.list (A:=X.A.in1) (I.ok.hd hc) _ p (eI hlt) its.toArray,
  #[#[_,TM _ rfl,rfl,rfl],hl.push _],λi v s' Q' E' hP hQ=>?_,λh' tk hk=>?_]
 .have hv:its[i]?=P3 v:=by simpa using hP
  have hb:∃b,bs[i]?=P3 b:=by
   have hi:i<its.length:=(Uf.mp hv).1;rw[Ev]at hlen;exact#[bs[i]'(by lk),No^by lk]
  let#[b,eb]:=hb;let#[u,eu,ru]:=r'.get (i:=i) (x:=.bl b) (by rw[ZB,eb];rfl);rw[hv]at eu;cases eu;cases ru;simp only[eb,Option.getD_some]at hQ;exact gy hQ
 .have e:((e8 its.toArray.size).all λi=>(bs[i]?).getD n_)=bs.all id:=by
   rw[eF,←hlen,Ev];exact KZ bs
  rw[e];exact#[.bl _,H,I.kept (t':=tk) λb x e=>hk b x (λhm=>by rw[Rs.mp hm]at e;exact fb _^Tk e)^FM _ e,rfl,q]
def Om:CallR X (.builtin "isinstance") (λxs H Q=>∃x T t b,xs=[x,.ty T]/\Fe X.K H x t/\PySem.W.kitOne X.K t^.type T=P3 b/\Q (.bl b) H):=by
 intro zG s Z H xs us Q I r h;let#[x,T,t,b,rfl,ty,e,q]:=h;let#[u,w',rfl,rx,rt]:=vals2 r;cases rt;exact S7 I rx ty e λtk=>#[.bl b,H,I.tok _,rfl,q]
def Si:OpR X (compareOp .LtE) (λx y H Q=>∃i j,x=.str i/\y=.str j/\Q (.bl (!(j.cps.toList<i.cps.toList))) H):=by
 intro zG s Z H x y v u Q I rx ry h;let#[i,j,rfl,rfl,q]:=h;let#[t,rfl]:=rx;let#[t',rfl]:=ry;exact PySem.P.le_str #[.bl _,H,I,rfl,q]
def Ip{ys:p_ Str}:∀{us:p_ Db},Vals (ys.map V.str) us->StrsAre us ys:=by
 induction ys with
 |nil=>intro us r;cases r;exact .nil
 | cons n ns ih=>
  intro us r;cases r with
  |cons r1 r2=>
   let#[t,e]:=r1;subst e;exact .cons n t^ih r2
def Y0:SlR X (λx lo hi H Q=>∃z,x=.str z/\z.length<=sizeLine/\Q (.str^Txt.slice z lo hi) H):=by
 intro zG s Z H x v vl vu lo hi sl Q I rx hs pl pu h;let#[z,rfl,hz,q]:=h;let#[t,rfl]:=rx;refine#["str",_,F.slot_str_getitem.lookup,io _ _ _,?_];have fin:∀t' k,EP X zG Z Q (.str _ t') {s with toks:=k}:=λt' k=>#[.str _,H,I.tok _,#[_,rfl],q];cases pl with
 |none=>
  cases pu with
  |none=>exact hZ (l:=m_) (u:=m_) (st:=m_) hs rfl (jT #[eR (Txt.slice_le z _ _) hz,λt' k=>fin t' k])
  |int j tj=>exact hZ (l:=m_) (u:=P3 (j,tj)) (st:=m_) hs rfl (jT #[eR (Txt.slice_le z _ _) hz,λt' k=>fin t' k])
 |int i ti=>
  cases pu with
  |none=>exact hZ (l:=P3 (i,ti)) (u:=m_) (st:=m_) hs rfl (jT #[eR (Txt.slice_le z _ _) hz,λt' k=>fin t' k])
  |int j tj=>exact hZ (l:=P3 (i,ti)) (u:=P3 (j,tj)) (st:=m_) hs rfl (jT #[eR (Txt.slice_le z _ _) hz,λt' k=>fin t' k])
def Sf(hu:X.A.units<cLine):OpR X (compareOp .NotEq) (λx y H Q=>∃a b xs,x=.ref a/\y=.ref b/\SqL X.K H a xs/\SqL X.K H b []/\Q (.bl (!xs.isEmpty)) H):=by
 intro zG s Z H x y v u Q I rx ry h;let#[a,b,xs,rfl,rfl,ha,hb,q]:=h;cases rx;cases ry;let#[its,r1,p1,_]:=I.list ha;let#[its2,r2,p2,_]:=I.list hb;cases r2;cases r1 with
 |nil=>exact SeqAt.RcNeAt.lists (e:=λ_=>n_) p1.isList p2.isList rfl hu (λj h1 h2=>absurd h1^by simp) _ _ _ _ #[.bl _,H,I,rfl,q]
 |cons r1 r2=>exact SeqAt.RcNeAt.lists_lengths p1.isList p2.isList (by simp) hu _ _ _ _ #[.bl _,H,I,rfl,q]
end
end L2
namespace Dp
open L2
def bz(K:Frag)(F:q_ (Ch×Ch))(U V' M:Ch->Prop)(H:Hp)(n:Sg)(ss:p_ Slot)(vs:p_ V):Prop:=
 (∀a,M a->∃o,H a=P3 o)/\(∀f,F=P3 f->U f.1)/\(∀a,U a->V' a)/\(∀a,V' a->M a)/\FeedC K F M H n/\Paired (EY K F V' M H) vs ss
abbrev W2:=p_ Slot->Sg->(D->Sg->Prop)->Prop
def R_(K:Frag)(κ:Kd)(W:W2)(np:Nat):Sp:=λvs H Q _=>vs.length=np/\∃(F:q_ (Ch×Ch)) (U V' M:Ch->Prop) (n:Sg) (ss:p_ Slot) (P:D->Sg->Prop),bz K F U V' M H n ss vs/\W ss n P /\
 ∀v H' d n',Ext U H H'->FeedC K F M H' n'->VR K V' M H H' κ v d->P d n'->Q v H'
def AL(w:DW):Sg->p_ Slot->(Slot->Sg->Prop)->Prop:=λn ρ P=>w n ρ λd n1=>P (.sh d) n1
def Bg(w:DW):Sg->p_ Slot->(Slot->Sg->Prop)->Prop:=λn ρ P=>w n ρ λd n1=>P (.br d) n1
def A3(i:Nat):Sg->p_ Slot->(Slot->Sg->Prop)->Prop:=λn ρ P=>match ρ[i]? with
 |some .fd=>P .fd n
 |_=>False
def AR:Ti:=λn _ P=>P [] n
def AD(w:Sg->p_ Slot->(Slot->Sg->Prop)->Prop)(ws:Ti):Ti:=λn ρ P=>w n ρ λs n1=>ws n1 ρ λss n2=>P (s::ss) n2
def AY(W:W2)(was:Ti):DW:=λn ρ P=>was n ρ λss n1=>W ss n1 P
section
variable {X:Cx}{a e:Expr}{es:p_ Expr}{κ zU:Kd}{wa:DW}{pos:Pos}{w1:Sg->p_ Slot->(Slot->Sg->Prop)->Prop}{was:Ti}
def AT(h:DE X e κ wa)(hk:κ≠.tp:=by intro z;cases z):cR X e^AL wa:=by
 let#[t,h1,h2]:=h;exact#[t,h1,λC M H n ρ Z P Q R w q=>h2 C M H n ρ Z _ _ R w λv H' d n' e f r p=>q v H' (.sh d) n' e f #[#[v,rfl,r.shOf R.dom hk],rfl] p]
def E_(h:DE X e κ wa):cR X e^Bg wa:=by
 let#[t,h1,h2]:=h;exact#[t,h1,λC M H n ρ Z P Q R w q=>h2 C M H n ρ Z _ _ R w λv H' d n' e f r p=>q v H' (.br d) n' e f #[#[v,rfl,r.tpOf R.dom R.vM],rfl] p]
def Bl(i:Nat){x:Str}{pos:Pos}(hN:X.N[i]?=P3 x:=by rfl)(hv:Z_ X.env.scope x:=by first|exact eC rfl|exact gc (eC rfl)|exact gc (gc rfl))(hd:(x==("__debug__":Str))=o_:=by decide)
  (hcd:(x==("__classdict__":Str))=o_:=by decide):cR X (.Name x pos)^A3 i:=by
 refine#[_,MO hN hv hd hcd,λC M H n ρ Z P Q R w q=>?_];unfold A3 at w
 split at w
 .rename_i hd
  let#[f,e1,h1]:=R.sl i _ hd;exact#[_,getD_some e1,q _ H .fd n (Ext.refl _ _) R.feed #[#[f,rfl,h1],rfl] w]
 grind
def AO:Xv X [] AR:=#[_,Cf,λC M H n ρ Z P Q R w q=>q [] H [] n (Ext.refl _ _) R.feed .nil w]
def AC(ha:cR X e w1)(hr:Xv X es was)(hs:starEach (e::es) X.env=(o_,eval e X.env)::starEach es X.env:=by rfl):Xv X (e::es)^AD w1 was:=by
 let#[t,h1,h2]:=ha;let#[u,g1,g2]:=hr;refine#[_,Br h1 g1 hs,λC M H n ρ Z P Q R w q=>?_];refine h2 C M H n ρ Z _ _ R w λv H1 d n1 e1 f1 r1 p=>?_;have R1:=R.step e1 f1;exact g2 C M H1 n1 ρ Z _ _ R1 p λvs H2 ds n2 e2 f2 r2 p2=>q _ H2 _ n2 (e1.trans e2) f2 (.cons #[r1.1.pres (R1.pres e2) (λ_ z=>z) e2 R.uV,r1.2] r2) p2
def Xg{k:Nat}{f:Ch}{fd:fL}{ps:p_ Str}{W:W2}{x:Str}{p:Pos}(G:FnOk X.prog X.w X.K X.mg X.base Fi k f fd ps^R_ X.K κ W ps.length)(hW:∀ss n P,W ss n P->ss.length=ps.length)
  (hr:Room k X.A) (hg:Gl X x) (hm:X.mg x=P3^.ref f) (hk:keepIn X.K^.ref f=n_) (hb:Binds X.K fd ps []) (ha:Xv X (e::es) was)
  (hdb:(x==("__debug__":Str))=o_:=by decide) (he:starEach (e::es) X.env=(o_,eval e X.env)::starEach es X.env:=by rfl) (hpl:(backTo pos^starEach es X.env).any (·.1)=o_:=by rfl):
  DE X (.Call (.Name x p) (e::es) [] pos) κ (AY W was):=by
 let#[t,h1,h2]:=ha;refine#[_,MP G hr hg hm hk hb .nil JO h1 hdb he hpl,λC M H n ρ Z P Q R w q=>?_];refine h2 C M H n ρ Z _ _ R w λvs H1 ss n1 e1 f1 r1 p=>?_;have R1:=R.step e1 f1;rw[e7];exact#[(Paired.length r1).trans^hW _ _ _ p,_,_,_,M,n1,ss,P,#[R1.dom,R1.fU,R1.uV,R1.vM,f1,r1],p,λv H2 d n2 e2 f2 r2 p2=>q v H2 d n2 (e1.trans e2) f2 (VR.back e1 r2) p2]
def cv(T:String)(d:D):Prop:=match d with
 |.str _=>T="str"
 |.int _=>T="int"
 |.lst _=>T="list"
 |_=>False
def VU{T:String}{K:Frag}{U:Ch->Prop}{M:Ch->Prop}{H:Hp}{d:D}{x:V}(h:cv T d)(hx:AtT K U M H d x):Ym K T x H:=by
 cases d with
 |str z=>let#[e,_]:=hx;subst e;exact h
 |int i=>cases(hx);exact h
 |lst ds=>let#[a,vs,e,_,hq,_]:=hx;subst e;exact .inl #[h,vs,.inl hq]
 |_=>exact(h).elim
def DO(X:Cx)(e:q_ eS)(w:Sg->p_ Slot->(q_ Int->Sg->Prop)->Prop):Prop:=∃t,PO X e t/\∀(C:Fm) (M:Ch->Prop) (H:Hp) (n:Sg) (ρ:p_ Slot) (Z:L2.St) (P:q_ Int->Sg->Prop) (Q:q_ Int->Hp->Prop),Rel X.K C M H n ρ Z->w n ρ P->
 (∀o H' n',Ext C.U H H'->FeedC X.K C.F M H' n'->P o n'->Q o H')->t Z H Q
def ID:Sg->p_ Slot->(q_ Int->Sg->Prop)->Prop:=λn _ P=>P m_ n
def Ql(w:DW):Sg->p_ Slot->(q_ Int->Sg->Prop)->Prop:=λn ρ P=>w n ρ λd n1=>match d with
 |.int i=>P (P3 i) n1
 |_=>False
def Mx:DO X m_ ID:=#[_,Q7,λC M H n ρ Z P Q R w q=>q _ H n (Ext.refl _ _) R.feed w]
def Vc{U:Ch->Prop}{K:Frag}{M:Ch->Prop}{H H':Hp}{v:V}{i:Int}(h:VR K U M H H' κ v^.int i):v=.int i:=by
 cases κ with
 |sh=>exact h
 |tp=>exact h
 |fr=>let#[a,_,_,t]:=h;exact(t).elim
def Mw(h:DE X e κ wa):DO X (P3 e)^Ql wa:=by
 let#[t,h1,h2]:=h;refine#[_,Q6 h1,λC M H n ρ Z P Q R w q=>?_];refine h2 C M H n ρ Z _ _ R w λv H1 d n1 e1 f1 r1 p=>?_;cases d with
 |int i=>exact#[i,Vc r1,q _ H1 n1 e1 f1 p]
 |_=>exact p.elim
def dY(K:Frag)(κ:Kd)(r:V->q_ Int->q_ Int->Hp->VK->Prop)(f:D->q_ Int->q_ Int->(D->Prop)->Prop):Prop:=∀(U:Ch->Prop) (M:Ch->Prop) (H:Hp) (d:D) (x:V) (lo hi:q_ Int) (P:D->Prop) (Q:VK),(∀a,M a->∃o,H a=P3 o)->(∀a,U a->M a)->
 AtT K U M H d x->f d lo hi P->(∀v H' z,Grow H H'->VR K U M H H' κ v z->P z->Q v H')->r x lo hi H Q
def cD(f:D->q_ Int->q_ Int->(D->Prop)->Prop)(w:DW)(wl wh:Sg->p_ Slot->(q_ Int->Sg->Prop)->Prop):DW:=λn ρ P=>w n ρ λd n1=>wl n1 ρ λlo n2=>wh n2 ρ λhi n3=>f d lo hi λz=>P z n3
def Vw{lo hi:q_ eS}{p2:Pos}{r:V->q_ Int->q_ Int->Hp->VK->Prop}{f:D->q_ Int->q_ Int->(D->Prop)->Prop}{wl wh:Sg->p_ Slot->(q_ Int->Sg->Prop)->Prop}(hr:SlR X r)(hA:dY X.K κ r f)(he:DE X e zU wa)(hl:DO X lo wl)(hh:DO X hi wh):
  DE X (.Subscript e (.Slice lo hi m_ p2) pos) κ (cD f wa wl wh):=by
 let#[t,h1,h2]:=he;let#[u,g1,g2]:=hl;let#[u',k1,k2]:=hh;refine#[_,N8 hr h1 g1 k1,λC M H n ρ Z P Q R w q=>?_];refine h2 C M H n ρ Z _ _ R w λv H1 d n1 e1 f1 r1 p=>?_;have R1:=R.step e1 f1;have tv:=r1.tpOf R.dom R.vM;refine g2 C M H1 n1 ρ Z _ _ R1 p λlo H2 n2 e2 f2 p2=>?_;have R2':=R1.step e2 f2;refine k2 C M H2 n2 ρ Z _ _ R2' p2 λhi H3 n3 e3 f3 p3=>?_;have R3:=R2'.step e3 f3;refine hA C.V M H3 d v lo hi _ _ R3.dom R3.vM ((tv.pres (R1.pres e2) e2 R.uV).pres (R2'.pres e3) e3 R.uV) p3 λv H4 z g vr pz=>?_;exact q v H4 z n3 (((e1.trans e2).trans e3).trans g.ext) (f3.grow g) (VR.back ((e1.trans e2).trans e3) vr) pz
end
structure E2 where
 nx:Sg->List Slot->Prop
 rt:D->Sg->Prop
 bk:Sg->List Slot->Prop:=λ_ _=>False
 ct:Sg->List Slot->Prop:=λ_ _=>False
abbrev Aa:=E2->Sg->p_ Slot->Prop
structure WG (K:Frag) (C:Fm) (κ:Kd) (D2:E2) (E:Ends):Prop where
 nx:∀M H n ρ Z,Rel K C M H n ρ Z->D2.nx n ρ->E.nx Z H
 rt:∀v H d n,Ext C.U C.H0 H->FeedC K C.F C.M0 H n->VR K C.V C.M0 C.H0 H κ v d->D2.rt d n->E.rt v H
 bk:∀M H n ρ Z,Rel K C M H n ρ Z->D2.bk n ρ->E.bk Z H
 ct:∀M H n ρ Z,Rel K C M H n ρ Z->D2.ct n ρ->E.ct Z H
def DS(X:Cx)(κ:Kd)(st:eZ)(w:Aa):Prop:=∃t,PS X st t/\∀(C:Fm) (M:Ch->Prop) (H:Hp) (n:Sg) (ρ:p_ Slot) (Z:L2.St) (D2:E2) (E:Ends),Rel X.K C M H n ρ Z->WG X.K C κ D2 E->w D2 n ρ->t E Z H
def Tj(X:Cx)(κ:Kd)(st:p_ eZ)(w:Aa):Prop:=∃t,PSs X st t/\∀(C:Fm) (M:Ch->Prop) (H:Hp) (n:Sg) (ρ:p_ Slot) (Z:L2.St) (D2:E2) (E:Ends),Rel X.K C M H n ρ Z->WG X.K C κ D2 E->w D2 n ρ->t E Z H
def Aw:Aa:=λD2 n ρ=>D2.nx n ρ
def AZ(u v:Aa):Aa:=λD2 n ρ=>u {D2 with nx:=v D2} n ρ
def CJ(w:DW):Aa:=λD2 n ρ=>w n ρ λ_ n1=>D2.nx n1 ρ
def Av(w:DW):Aa:=λD2 n ρ=>w n ρ λd n1=>D2.rt d n1
def BG(t:Hj)(u v:Aa):Aa:=λD2 n ρ=>t n ρ λc n1=>if c=n_ then u D2 n1 ρ else v D2 n1 ρ
def A2(i:Nat)(w:DW):Aa:=λD2 n ρ=>w n ρ λd n1=>D2.nx n1^ρ.set i^.sh d
section
variable {X:Cx}{κ zM:Kd}{st:Stmt}{rest:p_ Stmt}{u v:Aa}{wa:DW}{wA:Hj}{e c:Expr}{pos:Pos}
def Al:Tj X κ [] Aw:=#[_,ML,λC M H n ρ Z D2 E R L w=>L.nx M H n ρ Z R w]
def AF(h1:DS X κ st u)(h2:Tj X κ rest v):Tj X κ (st::rest)^AZ u v:=by
 let#[t,a1,a2]:=h1;let#[t',b1,b2]:=h2;exact#[_,BK a1 b1,λC M H n ρ Z D2 E R L w=>a2 C M H n ρ Z {D2 with nx:=v D2} _ R #[λM H n ρ Z R w=>b2 C M H n ρ Z D2 E R L w,L.rt,L.bk,L.ct] w]
def AJ(h1:DS X κ st u):Tj X κ [st] u:=by
 let#[t,a1,a2]:=h1;exact#[t,Cv a1,a2]
def By(h:DE X e zM wa)(hs:swapsWith e m_ pos.line X.env=pure o_:=by rfl):DS X κ (.Expr e pos)^CJ wa:=by
 let#[t,a1,a2]:=h;exact#[_,MN a1 hs,λC M H n ρ Z D2 E R L w=>a2 C M H n ρ Z _ _ R w λv H' d n' e1 f1 r1 p=>L.nx M H' n' ρ Z (R.step e1 f1) p]
def Y5{K:Frag}{C:Fm}{M:Ch->Prop}{H H':Hp}{n n':Sg}{ρ:p_ Slot}{Z:L2.St}{D2:E2}{E:Ends}{d:D}{v:V}(R:Rel K C M H n ρ Z)(L:WG K C κ D2 E)(e:Ext C.U H H')(f:FeedC K C.F M H' n')(r:VR K C.V M H H' κ v d)(hk:κ≠.tp)(p:D2.rt d n'):E.rt v H':=by
 have less:Pres M H' _ H':=Pres.less R.sub;refine L.rt v H' d n' (R.ext.trans e) (f.pres less (λ_ _ _ z=>z) λ_ _ z=>z) ?_ p;cases κ with
 |sh=>exact At.pres less r
 |tp=>grind
 |fr=>
  let#[a,e1,h1,h2]:=VR.back R.ext r;exact#[a,e1,h1,h2.pres (Pres.less λb z=>z.imp (R.sub b) id) λ_ z=>z]
def Ac(h:DE X e κ wa)(hk:κ≠.tp:=by intro z;cases z):DS X κ (.Return (P3 e) pos)^Av wa:=by
 let#[t,a1,a2]:=h;exact#[_,FP a1,λC M H n ρ Z D2 E R L w=>a2 C M H n ρ Z _ _ R w λv H' d n' e1 f1 r1 p=>Y5 R L e1 f1 r1 hk p]
def BC{a b:p_ eZ}(hc:DT X c wA)(ha:Tj X κ a u)(hb:Tj X κ b v):DS X κ (.If c a b pos)^BG wA u v:=by
 let#[t,a1,a2]:=hc;let#[t',b1,b2]:=ha;let#[t'',c1,c2]:=hb;refine#[_,Us a1 b1 c1,λC M H n ρ Z D2 E R L w=>?_];refine a2 C M H n ρ Z _ _ R w λb H1 n1 e1 f1 p=>?_;cases b with
 |true=>exact b2 C M H1 n1 ρ Z D2 E (R.step e1 f1) L p
 |false=>exact c2 C M H1 n1 ρ Z D2 E (R.step e1 f1) L p
def Ak{i:Nat}{x:Str}{pos':Pos}(hN:X.N.Nodup)(hi:X.N[i]?=P3 x)(hx:Loc X.env.scope x)(he:DE X e zM wa)(hk:zM≠.tp:=by intro z;cases z)(hs:swapsWith e (P3^.Name x pos') pos.line X.env=pure o_:=by rfl)
  (hf:X.fn x=n_\/X.env.scope.names.lookup x=P3 .local:=by first|exact .inl rfl|exact .inr rfl|assumption):DS X κ (.Assign [.Name x pos'] e pos)^A2 i wa:=by
 let#[t,a1,a2]:=he;exact#[_,D7 hN hi hx a1 hs hf,λC M H n ρ Z D2 E R L w=>a2 C M H n ρ Z _ _ R w λv H' d n' e1 f1 r1 p=>L.nx M H' n' _ _ ((R.step e1 f1).set^r1.shOf R.dom hk) p]
end
section
variable {X:Cx}{κ:Kd}{e:Expr}{wa:DW}{pos:Pos}
def Fj(i:Nat)(w:DW):Aa:=λD2 n ρ=>w n ρ λd n1=>D2.nx n1^ρ.set i^.ow d
def Dh{i:Nat}{x:Str}{pos':Pos}(hN:X.N.Nodup)(hi:X.N[i]?=P3 x)(hx:Loc X.env.scope x)(he:DE X e .fr wa)(hs:swapsWith e (P3^.Name x pos') pos.line X.env=pure o_:=by rfl)
  (hf:X.fn x=n_\/X.env.scope.names.lookup x=P3 .local:=by first|exact .inl rfl|exact .inr rfl|assumption):DS X κ (.Assign [.Name x pos'] e pos)^Fj i wa:=by
 let#[t,a1,a2]:=he;refine#[_,D7 hN hi hx a1 hs hf,λC M H n ρ Z D2 E R L w=>?_];refine a2 C M H n ρ Z _ _ R w λv H' d n' e1 f1 r1 p=>?_;let#[a,rfl,h1,h2]:=r1;exact L.nx _ H' n' _ _ (R.setOw e1 f1 h1 h2) p
def NZ(i:Nat):Aa:=λD2 n ρ=>∃d,ρ[i]?=P3^.ow d/\D2.rt d n
def RW{x:Str}{p:Pos}(i:Nat)(h:PE X (.Name x p)^Bv i):DS X .fr (.Return (P3^.Name x p) pos)^NZ i:=by
 refine#[_,FP h,λC M H n ρ Z D2 E R L #[d,hd,hw]=>?_];let#[a,e1,m,nv,t]:=R.sl i _ hd;exact#[_,getD_some e1,L.rt _ H d n R.ext (R.feed.pres (Pres.less R.sub) (λ_ _ _ z=>z) λ_ _ z=>z) #[a,rfl,(R.new i _ a hd rfl e1).2,t.pres (Pres.less λb z=>z.elim (R.sub b) λz=>by grind) λ_ z=>z] hw]
def Kw(K:Frag)(r:V->p_ V->Hp->VK->Prop)(f:D->p_ D->(D->D->Prop)->Prop):Prop:=∀(M:Ch->Prop) (H:Hp) (a:Ch) (d:D) (ds:p_ D) (vs:p_ V) (P:D->D->Prop) (Q:VK),M a->Tops K M H a d->Ats K M H ds vs->f d ds P->
 (∀o e z v,Tops K M (Aq H a o) a e->At K M (Aq H a o) z v->P e z->Q v^Aq H a o)->r (.ref a) vs H Q
def Rz(i:Nat)(T:String)(f:D->p_ D->(D->D->Prop)->Prop)(ws:EX):Aa:=λD2 n ρ=>∃d,ρ[i]?=P3^.ow d/\cv T d/\ws n ρ λds n1=>f d ds λe _=>D2.nx n1^ρ.set i^.ow e
def CI{M:Ch->Prop}{H:Hp}{a:Ch}{o u:HO}(m:M a)(e:H a=P3 u)(t:∀vs,u≠.tup vs:=by intro _ z;cases z):Pres M H M^Aq H a o:=#[λb o' q nb _=>by rw[AK λz=>nb^by simp_all];exact q,λ_ z=>.inl z,λb vs q=>by rw[AK λz=>by grind];exact q,λb o' q=>(iI (b=a)).elim (λz=>#[o,by rw[z,AM]]) λz=>#[o',by rw[AK z];exact q]]
def LW{x name:Str}{p apos cpos:Pos}{T id:String}{r:V->p_ V->Hp->VK->Prop}{f:D->p_ D->(D->D->Prop)->Prop}{es:p_ eS}{ws:EX}(i:Nat)(pa:iP T)(slot:PySem.Slot T name id)(hty:typeOf^.builtin id=pure^.type "method_descriptor")
  (hm:WK X id r) (hA:Kw X.K r f) (h:PE X (.Name x p)^Bv i) (ha:Ye X (e::es) ws)
  (hbase:attributeBase (.Name x p) name X.env^eval (.Name x p) X.env=eval (.Name x p) X.env:=by rfl)
  (hfew:((backTo cpos^starEach (e::es) X.env).all (λx=>!x.1)&&(backToKw cpos^keywordEach [] X.env).all (λx=>x.1.isSome)
   && decide ((e::es).length+([]:p_ iG).length+(if([]:p_ iG).isEmpty then 0 else 1)<30))=n_:=by rfl)
  (hline:(apos.endLine==cpos.line)=n_:=by rfl) (hs:starEach (e::es) X.env=(o_,eval e X.env)::starEach es X.env:=by rfl) (hplain:(backTo cpos^starEach es X.env).any (·.1)=o_:=by rfl)
  (hsw:swapsWith (.Call (.Attribute (.Name x p) name apos) (e::es) [] cpos) m_ pos.line X.env=pure o_:=by rfl):
  DS X κ (.Expr (.Call (.Attribute (.Name x p) name apos) (e::es) [] cpos) pos) (Rz i T f ws):=by
 let#[t,a1,a2]:=ha;refine#[_,MN (bH pa slot hty hm h a1 hbase hfew hline hs hplain) hsw,λC M H n ρ Z D2 E R L #[d,hd,hT,hw]=>?_];let#[a,e1,m,nv,tt]:=R.sl i _ hd;refine#[.ref a,getD_some e1,VU hT^tt.att nv,?_];refine a2 C M H n ρ Z _ _ R hw λvs H1 ds n1 ee f1 r1 p=>?_;have R1:=R.step ee f1;let#[a',e1',m',nv',tt']:=R1.sl i _ hd;rw[e1]at e1';cases e1';exact hA M H1 a d ds vs _ _ m' tt' r1 p λo d' z v t2 hz pp=>L.nx M _ n1 _ Z (R1.mut hd e1 t2) pp
def FX(d:D)(ds:p_ D)(P:D->D->Prop):Prop:=∃xs y,d=.lst xs/\ds=[y]/\xs.length<sizeLine/\P (.lst (xs++[y])) .non
def KC{K:Frag}:Kw K Q1 FX:=by
 intro M H a d ds vs P Q m t hv w q;let#[xs,y,rfl,rfl,hl,w]:=w;let#[us,h1,h2]:=t;let#[u,r,rfl,hu,hr]:=hv;cases(hr);exact#[a,us,u,rfl,rfl,h1,by rw[h2.length];exact hl,q _ (.lst _) .non _ #[_,AM,(h2.append^Ats.one hu).pres^CI m h1] rfl w]
end
def Yields(K:Frag)(M:Ch->Prop)(H:Hp)(J:It)(ds:p_ D):Prop:=∀(i:Nat) (M':Ch->Prop) (H':Hp),Pres M H M' H'->(∀a,M' a->∃o,H' a=P3 o)->
 (∀d,ds[i]?=P3 d->J.go i H'/\∀x H2,J.yld i H' x H2->Grow H' H2/\At K M' H2 d x)/\(ds.length<=i->J.stop i H')
def Rq(K:Frag)(U M:Ch->Prop)(H:Hp)(J:It)(ds:p_ D):Prop:=∀(i:Nat) (M':Ch->Prop) (H':Hp),Pres M H M' H'->Ext U H H'->(∀a,M' a->∃o,H' a=P3 o)->
 (∀d,ds[i]?=P3 d->J.go i H'/\∀x H2,J.yld i H' x H2->Grow H' H2/\At K M' H2 d x)/\(ds.length<=i->J.stop i H')
def Yields.e{K:Frag}{U M:Ch->Prop}{H:Hp}{J:It}{ds:p_ D}(h:Yields K M H J ds):Rq K U M H J ds:=λi M' H' p _ d=>h i M' H' p d
def aM(X:Cx)(tg iter:eS)(w:EX):Prop:=∃wi,PI X tg iter wi/\∀(C:Fm) (M:Ch->Prop) (H:Hp) (n:Sg) (ρ:p_ Slot) (Z:L2.St) (P:p_ D->Sg->Prop) (R:It->Hp->Prop),Rel X.K C M H n ρ Z->w n ρ P->
 (∀J H' ds n',Ext C.U H H'->FeedC X.K C.F M H' n'->Rq X.K C.U M H' J ds->P ds n'->R J H')->wi Z H R
def DI(X:Cx)(tg iter:eS)(w:EX):Prop:=∃wi,PI X tg iter wi/\∀(C:Fm) (M:Ch->Prop) (H:Hp) (n:Sg) (ρ:p_ Slot) (Z:L2.St) (P:p_ D->Sg->Prop) (R:It->Hp->Prop),Rel X.K C M H n ρ Z->w n ρ P->
 (∀J H' ds n',Ext C.U H H'->FeedC X.K C.F M H' n'->Yields X.K M H' J ds->P ds n'->R J H')->wi Z H R
def signs(x:Str):p_ D:=x.cps.toList.map λc=>.str #[#[ c]]
def BF(w:DW):EX:=λn ρ P=>w n ρ λd n1=>match d with
 |.lst ds=>P ds n1
 |.tup ds=>P ds n1
 |.str x=>P (signs x) n1
 |_=>False
def NX{K:Frag}{M:Ch->Prop}{H:Hp}{a:Ch}{vs:p_ V}{ds:p_ D}(h:NdL M H a vs)(hs:Ats K M H ds vs):Yields K M H (dJ K a) ds:=by
 intro i M' H' p _;have hq:SqL K H' a vs:=(h.pres p).sq;refine#[λd hd=>?_,λhl=>#[vs,hq,by rw[hs.length];exact hl]];let#[v,e,hv]:=(hs.pres p).get hd;refine#[#[vs,v,hq,e],λx H2 y=>?_];let#[e2,y]:=y;subst e2
 have:=e.symm.trans^y vs hq
 cases this;exact#[.refl,hv]
def Ic{K:Frag}{M:Ch->Prop}{H:Hp}{a:Ch}{vs:p_ V}{ds:p_ D}(h:NdT M H a vs)(hs:Ats K M H ds vs):Yields K M H (aG K a) ds:=by
 intro i M' H' p _;have hq:SqT K H' a vs:=(h.pres p).sq;refine#[λd hd=>?_,λhl=>#[vs,hq,by rw[hs.length];exact hl]];let#[v,e,hv]:=(hs.pres p).get hd;refine#[#[vs,v,hq,e],λx H2 y=>?_];let#[e2,y]:=y;subst e2
 have:=e.symm.trans^y vs hq
 cases this;exact#[.refl,hv]
def yields_str{K:Frag}{M:Ch->Prop}{H:Hp}{z:Str}:Yields K M H (dI z)^signs z:=by
 intro i M' H' p _;refine#[λd hd=>?_,λhl=>?_]
 .unfold signs at hd
  rw[ZB]at hd
  have hi:i<z.cps.size:=by
   cases q:z.cps.toList[i]? with
   |none=>simp_all
   |some c=>simpa using (Uf.mp q).1
  refine#[hi,λx H2 y=>?_];let#[e2,c,hc,rfl]:=y;subst e2
  have:z.cps.toList[i]?=P3 c:=by grind
  rw[this]at hd;have hd':D.str #[#[ c]]=d:=eE hd;subst hd';exact#[.refl,rfl,by rw[fA];show 1<=16777216;decide]
 .show z.cps.size<=i
  unfold signs at hl
  simp_all
def MC(lo:Int)(n:Nat):p_ D:=(e8 n).map fun(i:Nat)=>.int (lo+(i:Int))
def Lr{K:Frag}{M:Ch->Prop}{H:Hp}{lo:Int}{m:Nat}:Yields K M H (cO lo m)^MC lo m:=by
 intro i M' H' p _;refine#[λd hd=>?_,λhl=>?_]
 .unfold MC at hd
  rw[ZB]at hd
  have hi:=by
   cases q:(e8 m)[i]? with
   |none=>simp_all
   |some c=>simpa using (Uf.mp q).1
  rw[List.getElem?_range hi]at hd;have hd':=eE hd;subst hd';refine#[hi,λx H2 y=>?_];let#[e2,e3]:=y;subst e2;exact#[.refl,e3]
 .show m<=i
  unfold MC at hl
  simp_all
section
variable {X:Cx}{tg e e2:Expr}{κ:Kd}{wa:DW}{ws:EX}{p pos:Pos}
def Jr(h:DE X e κ wa)(hk:κ≠.tp:=by intro z;cases z):DI X tg e^BF wa:=by
 let#[t,a1,a2]:=h;refine#[_,Pw a1,λC M H n ρ Z P Rr R w q=>?_];refine a2 C M H n ρ Z _ _ R w λv H1 d n1 e1 f1 r1 p=>?_;have hv:=r1.shOf R.dom hk;cases d with
 |lst ds=>
  let#[a,vs,e,hn,hs]:=hv;exact .inl #[a,e,#[vs,hn.sq],q _ H1 ds n1 e1 f1 (NX hn hs) p]
 |tup ds=>
  let#[a,vs,e,hn,hs]:=hv;exact .inr^.inl #[a,e,#[vs,hn.sq],q _ H1 ds n1 e1 f1 (Ic hn hs) p]
 |str z=>exact .inr^.inr #[z,hv.1,q _ H1 _ n1 e1 f1 yields_str p]
 |_=>exact p.elim
def Tv(ws:EX):EX:=λn ρ P=>ws n ρ λds n1=>∃j:Int,ds=[.int j]/\(-(2 ^ 62)<=j/\j<2 ^ 62)/\P (MC 0 j.toNat) n1
def LY(hg:Gl X "range")(hm:X.mg "range"=m_)(ha:aI X [e] ws)(hs:starEach [e] X.env=[(o_,eval e X.env)]:=by rfl):DI X tg (.Call (.Name "range" p) [e] [] pos)^Tv ws:=by
 let#[t,a1,a2]:=ha;refine#[_,SY hg hm a1 hs,λC M H n ρ Z P Rr R w q=>?_];refine a2 C M H n ρ Z _ _ R w λvs H1 ds n1 e1 f1 r1 p=>?_;let#[j,rfl,hj,p]:=p;cases r1 with
 |cons r rr=>
  cases rr;exact#[j,by rw[r],hj.1,hj.2,q _ H1 _ n1 e1 f1 Lr p]
def DI.c(h:DI X tg e ws):aM X tg e ws:=by
 let#[wi,a1,a2]:=h;exact#[wi,a1,λC M H n ρ Z P Rr R w q=>a2 C M H n ρ Z P Rr R w λJ H' ds n' e1 f1 y p=>q J H' ds n' e1 f1 y.e p]
def Bk(h:DE X e κ wa):aM X tg e^BF wa:=by
 let#[t,a1,a2]:=h;refine#[_,Pw a1,λC M H n ρ Z P Rr R w q=>?_];refine a2 C M H n ρ Z _ _ R w λv H1 d n1 e1 f1 r1 p=>?_;have hv:AtT X.K C.V M H1 d v:=r1.tpOf R.dom R.vM;cases d with
 | lst ds=>
  let#[a,vs,e,nv,hr,hs]:=hv;refine .inl #[a,e,#[vs,.inl hr],q _ H1 ds n1 e1 f1 (λi M' H' pr ex _=>?_) p]
  have hq:SqL X.K H' a vs:=by
   rcases hr with hr|⟨o,hr⟩
   .exact .inl^.inl^ex.keep hr λz=>nv^R.uV a z
   .exact .inl^.inr #[o,ex.keep hr λz=>nv^R.uV a z]
  refine#[λd hd=>?_,λhl=>#[vs,hq,by rw[hs.length];exact hl]];let#[v,e,hv]:=(hs.pres pr).get hd;refine#[#[vs,v,hq,e],λx H2 y=>?_];let#[e2,y]:=y;subst e2
  have:P3 v=P3 x:=e.symm.trans^y vs hq
  cases this;exact#[.refl,hv]
 |tup ds=>
  let#[a,vs,e,hn,hs]:=hv;exact .inr^.inl #[a,e,#[vs,hn.sq],q _ H1 ds n1 e1 f1 (Ic hn hs).e p]
 |str z=>exact .inr^.inr #[z,hv.1,q _ H1 _ n1 e1 f1 yields_str.e p]
 |_=>exact p.elim
end
abbrev BW:=D->p_ Slot->(p_ Slot->Prop)->Prop
def DG(X:Cx)(tg:eS)(b:BW):Prop:=∃g,PG X tg g/\∀(C:Fm) (M:Ch->Prop) (H:Hp) (n:Sg) (ρ:p_ Slot) (Z:L2.St) (d:D) (v:V) (P:p_ Slot->Prop) (Q:L2.St->Hp->Prop),Rel X.K C M H n ρ Z->At X.K M H d v->b d ρ P->
 (∀zY zZ,Rel X.K C M H n zY zZ->P zY->Q zZ H)->g v Z H Q
def Ax(i:Nat):BW:=λd ρ P=>P^ρ.set i^.sh d
def Ap{X:Cx}{i:Nat}{x:Str}{pos:Pos}(hN:X.N.Nodup)(hi:X.N[i]?=P3 x)(hx:Loc X.env.scope x)(hf:X.fn x=n_\/X.env.scope.names.lookup x=P3 .local:=by first|exact .inl rfl|exact .inr rfl|assumption):DG X (.Name x pos)^Ax i:=
 #[_,F3 hN hi hx hf,λC M H n ρ Z d v P Q R h w q=>q _ _ (R.set h) w]
def Bj(b:BW)(body:Aa)(D2:E2):p_ D->Sg->p_ Slot->Prop
 |[],n,ρ=>D2.nx n ρ
 |d::ds,n,ρ=>b d ρ λzS=>body {D2 with nx:=Bj b body D2 ds,ct:=Bj b body D2 ds,bk:=D2.nx} n zS
def Ho(src:EX)(b:BW)(body:Aa):Aa:=λD2 n ρ=>src n ρ λds n1=>Bj b body D2 ds n1 ρ
def Rel.unpin{K:Frag}{C:Fm}{p:(Ch->Prop)×Hp}{M:Ch->Prop}{H:Hp}{n:Sg}{ρ:p_ Slot}{Z:L2.St}(R:Rel K {C with zG:=p::C.zG} M H n ρ Z):Rel K C M H n ρ Z:=
 #[R.len,R.sub,R.dom,R.ext,R.fU,R.uV,R.vM,R.feed,R.sl,λq hq=>R.pin q^TW _ hq,R.br0,R.new,R.two,R.kept]
def Rel.pinned{K:Frag}{C:Fm}{M:Ch->Prop}{H:Hp}{n:Sg}{ρ:p_ Slot}{Z:L2.St}(R:Rel K C M H n ρ Z):Rel K {C with zG:=(M,H)::C.zG} M H n ρ Z:=
 #[R.len,R.sub,R.dom,R.ext,R.fU,R.uV,R.vM,R.feed,R.sl,λq hq=>(XV.mp hq).elim (λe=>e▸Pres.refl M H)^R.pin q,R.br0,R.new,R.two,R.kept]
section
variable {X:Cx}{κ:Kd}{tg iter:Expr}{body:p_ Stmt}{src:EX}{b:BW}{wb:Aa}{pos:Pos}
def EI(hp:kO (model X.prog X.w) X.A X.env X.xe)(hc:X.calm=n_)(hi:DI X tg iter src)(hg:DG X tg b)(hb:Tj X κ body wb)
  (hs:∀x,foldedSetIterable iter X.env x=pure x:=by intro _;rfl):DS X κ (.For tg iter body [] pos)^Ho src b wb:=by
 let#[wi,a1,a2]:=hi;let#[g,g1,g2]:=hg;let#[tb,b1,b2]:=hb;refine#[_,MM hp hc a1 g1 b1 hs,λC M H n ρ Z D2 E R L w=>?_];refine a2 C M H n ρ Z _ _ R w λJ H1 ds n1 e1 f1 y w1=>?_;have R1:=R.step e1 f1;refine#[λi m zZ H'=>m=ds.length - i/\i<=ds.length/\∃M' n' zY,Rel X.K {C with zG:=(M,H1)::C.zG} M' H' n' zY zZ/\Bj b wb D2 (ds.drop i) n' zY,#[ds.length,by simp,eP _,M,n1,ρ,R1.pinned,w1],?_];rintro i m zZ H' ⟨rfl,hi,M',n',zY,R',w'⟩;have pr:Pres M H1 M' H':=R'.pin (M,H1) Re
 by_cases hlt:i<ds.length
 .have ed:ds.drop i=ds[i]::ds.drop (i+1):=gR hlt
  rw[ed]at w';let#[go,yl]:=(y i M' H' pr R'.dom).1 ds[i] (No hlt);refine .inr #[go,λzO H2=>∃M2 n2 zL,Rel X.K {C with zG:=(M,H1)::C.zG} M2 H2 n2 zL zO/\Bj b wb D2 (ds.drop (i+1)) n2 zL,λzO H2 #[M2,n2,zL,R2',w2]=>#[ds.length - (i+1),by lk,rfl,hlt,M2,n2,zL,R2',w2],λx H2 hy=>?_];let#[gr,hx]:=yl x H2 hy;have R2':=R'.step gr.ext^R'.feed.grow gr;refine g2 _ M' H2 n' zY zZ ds[i] x _ _ R2' hx w' λzP zV R3 w3=>?_;refine b2 _ M' H2 n' zP zV {D2 with nx:=Bj b wb D2^ds.drop (i+1),ct:=Bj b wb D2^ds.drop (i+1),bk:=D2.nx} _ R3 #[λM4 H4 n4 zT zR R4 w4=>#[M4,n4,zT,R4,w4],L.rt,λM4 H4 n4 zT zR R4 w4=>L.nx M4 H4 n4 zT zR R4.unpin w4,λM4 H4 n4 zT zR R4 w4=>#[M4,n4,zT,R4,w4]] w3
 .have e:i=ds.length:=by lk
  subst e;rw[iR]at w';exact .inl #[(y _ M' H' pr R'.dom).2 (Op _),L.nx M' H' n' zY zZ R'.unpin w']
end
def HR(b:BW)(tt:Hj)(te:DW)(P:p_ D->Sg->Prop):p_ D->p_ D->Sg->p_ Slot->Prop
 |[],acc,n,_=>P acc n
 |d::ds,acc,n,ρ=>b d ρ λzS=>tt n zS λc n1=>if c=n_ then te n1 zS λy n2=>HR b tt te P ds (acc++[y]) n2 zS else HR b tt te P ds acc n1 zS
def VL:Slot->Slot
 |.ow d=>.br d
 |.lt _ d=>.br d
 |s=>s
def Sy(s:Slot):(VL s).owns=o_:=by cases s <;>rfl
def DZ{js:p_^q_ Nat}{ρ:p_ Slot}{i:Nat}{s:Slot}(h:(js.map λo=>match o with|some i=>VL^(ρ[i]?).getD .no|none=>Slot.no)[i]?=P3 s):s.owns=o_:=by
 rw[ZB]at h;cases q:js[i]? with
 |none=>grind
 | some o=>
  rw[q]at h;cases o with
  |none=>
   rw[←eE h];rfl
  |some j=>
   rw[←eE h];exact Sy _
def GA(js:p_^q_ Nat)(ρ:p_ Slot):p_ Slot:=js.map λo=>match o with
 |some i=>VL^(ρ[i]?).getD .no
 |none=>.no
def B6(js:p_^q_ Nat)(src:EX)(b:BW)(tt:Hj)(te:DW):DW:=λn ρ P=>src n ρ λds n1=>ds.length<=10000000/\HR b tt te (λacc n2=>P (.lst acc) n2) ds [] n1^GA js ρ
def aL(X:Cx)(ifs:p_ eS)(w:Hj):Prop:=∃t,b8 X ifs t/\∀(C:Fm) (M:Ch->Prop) (H:Hp) (n:Sg) (ρ:p_ Slot) (Z:L2.St) (P:Bool->Sg->Prop) (Q:Bool->Hp->Prop),Rel X.K C M H n ρ Z->w n ρ P->
 (∀b H' n',Ext C.U H H'->FeedC X.K C.F M H' n'->P b n'->Q b H')->t Z H Q
def Hl:Hj:=λn _ P=>P n_ n
def CZ{X:Cx}:aL X [] Hl:=#[_,Wl,λC M H n ρ Z P Q R w q=>q _ H n (Ext.refl _ _) R.feed w]
def Eh{X:Cx}{c:eS}{w:Hj}(h:DT X c w):aL X [c] w:=by
 let#[t,h1,h2]:=h;exact#[t,Wj h1,h2]
def LM{js:p_^q_ Nat}{ρ:p_ Slot}{Z:L2.St}{i:Nat}{s:Slot}(hs:(GA js ρ)[i]?=P3 s):s=.no\/∃(j:Nat) (s':Slot),ρ[j]?=P3 s'/\s=VL s'/\((CF js Z)[i]?).getD m_=(Z[j]?).getD m_:=by
 unfold GA at hs;unfold CF;rw[ZB]at hs ⊢;cases q:js[i]? with
 |none=>simp_all
 | some o=>
  rw[q]at hs;cases o with
  |none=>simp_all
  | some j=>
   have e:VL _=s:=eE hs;cases q2:ρ[j]? with
   |none=>rw[q2]at e;exact .inl e.symm
   |some s'=>
    rw[q2]at e;exact .inr #[j,s',q2,e.symm,rfl]
def OK{K:Frag}{F:q_ (Ch×Ch)}{U U' M M':Ch->Prop}{H H':Hp}{js:p_^q_ Nat}{ρ:p_ Slot}{Z:L2.St}(hsl:∀(i:Nat) (s:Slot),ρ[i]?=P3 s->SlotOk K F U M H s^(Z[i]?).getD m_)
  (pr:Pres M H M' H') (br:∀d v,AtT K U M H d v->AtT K U' M' H' d v):∀(i:Nat) (s:Slot),(GA js ρ)[i]?=P3 s->SlotOk K F U' M' H' s^((CF js Z)[i]?).getD m_:=by
 intro i s hs
 rcases LM hs with rfl|⟨j,s',q,rfl,e⟩
 .trivial
 .rw[e]
  have h1:=hsl j s' q;cases s' with
  |no=>trivial
  |sh d=>let#[v,e1,h2]:=h1;exact#[v,e1,h2.pres pr]
  |ex a nm ks ds=>let#[e1,h2]:=h1;exact#[e1,h2.pres pr]
  |br d=>let#[v,e1,h2]:=h1;exact#[v,e1,br d v h2]
  |fd=>exact h1
  |ow d=>let#[a,e1,_,nv,t]:=h1;exact#[_,e1,br d _^t.att nv]
  |lt a d=>let#[e1,_,nv,t]:=h1;exact#[_,e1,br d _^t.att nv]
def RH{K:Frag}{F:q_ (Ch×Ch)}{U M:Ch->Prop}{H:Hp}{js:p_^q_ Nat}{ρ:p_ Slot}{Z:L2.St}(hsl:∀(i:Nat) (s:Slot),ρ[i]?=P3 s->SlotOk K F U M H s^(Z[i]?).getD m_){i:Nat}{d:D}{a:Ch}
  (hs:(GA js ρ)[i]?=P3^.br d) (ha:((CF js Z)[i]?).getD m_=P3^.ref a):∃o,H a=P3 o:=by
 rcases LM hs with z|⟨j,s',q,z,e⟩
 .cases z
 .rw[e]at ha
  have h1:=hsl j s' q;rw[ha]at h1;cases s' with
  |br d=>let#[v,e1,h2]:=h1;cases e1;exact h2.lies
  |ow d=>let#[b,e1,_,nv,t]:=h1;cases e1;exact(t.att nv).lies
  |lt b d=>let#[e1,_,nv,t]:=h1;cases e1;exact(t.att nv).lies
  |no=>cases z
  |sh d=>cases z
  |ex a nm ks ds=>cases z
  |fd=>cases z
section
variable {X:Cx}{zM:Kd}{tg elt iter:Expr}{ifs:p_ Expr}{sc:Scope}{pos:Pos}{src:EX}{b:BW}{tt:Hj}{te:DW}
def Xf(hc:X.calm=n_)(N':p_ Str)(js:p_^q_ Nat)(hi:aM X tg iter src)(hg:∀cl C s H fp,DG (A1 X sc N' cl C s H fp) tg b)(ht:∀cl C s H fp,aL (A1 X sc N' cl C s H fp) ifs tt)(he:∀cl C s H fp,DE (A1 X sc N' cl C s H fp) elt zM te)
  (hB:Hb sc X.env.scope X.N N' js=n_) (hk:zM≠.tp:=by intro z;cases z)
  (hs:∀x,foldedSetIterable iter X.env x=pure x:=by intro _;rfl):DE X (.ListComp elt [#[tg,iter,ifs,0]] sc pos) .fr^B6 js src b tt te:=by
 let#[wi,a1,a2]:=hi;refine#[_,Ws hc N' js a1 hB hs,λC M H n ρ Z P Q R w q=>?_];refine a2 C M H n ρ Z _ _ R w λJ H1 ds n1 e1 f1 y w1=>?_;let#[hlen,w1]:=w1;have R1:=R.step e1 f1;intro l hl hkl cl Ca s0 H0 fp;let#[g,g1,g2]:=hg cl Ca s0 H0 fp;let#[tc,c1,c2]:=ht cl Ca s0 H0 fp;let#[tx,x1,x2]:=he cl Ca s0 H0 fp
 have noU:¬C.U l:=λz=>by
  let#[o,z]:=R1.udom l z;rw[hl]at z;cases z
 generalize hM':(λb=>M b\/b=l)=M';have M'l:M' l:=by rw[←hM'];exact .inr rfl
 have M'of:∀b,M b->M' b:=λb z=>by rw[←hM'];exact .inl z
 have ofM':∀b,M' b->M b\/b=l:=λb z=>by rw[←hM']at z;exact z
 have inV:∀b,C.V b\/b=l->M' b:=λb z=>z.elim (λz=>M'of b^R1.vM b z) λz=>by rw[z];exact M'l
 have lenj:js.length=N'.length:=EL (CompOk.of hB).cap
 refine#[g,tc,tx,λi m zZ H'=>m=ds.length - i/\i<=ds.length/\∃n' zY acc vs,Rel X.K #[M',C.F,C.U,λb=>C.V b\/b=l,H1,[],[]] M' H' n' zY zZ/\H' l=P3^.lst vs/\Ats X.K M' H' acc vs/\acc.length<=i/\Pres M H1 M' H' /\
   HR b tt te (λacc n2=>P (.lst acc) n2) (ds.drop i) acc n' zY,g1,c1,x1,#[ds.length,by simp,eP _,n1,GA js ρ,[],[],?_],?_]
 .have gr:Grow H1^Aq H1 l^.lst []:=Am hl
  have pr:Pres M H1 M'^Aq H1 l^.lst []:=#[λb o e _ _=>gr.all b o e,λb z=>(ofM' b z).elim .inl λz=>.inr (by rw[z];exact hl),λb vs e=>gr.all b _ e,λb o e=>#[o,gr.all b o e]];refine#[#[?_,λa z=>z,λa z=>?_,gr.ext,R1.fU,λa z=>.inl^R1.uV a z,inV,f1.pres pr (λf o _ e=>gr.all f.1 o e) λa u e=>gr.all a _ e,?_,λp hp=>absurd hp^by simp,λi d a q z=>RH R1.sl q z,λi s a q o _=>absurd o (by rw[DZ q];decide),λi j s t a q o _ _ _ _=>absurd o (by rw[DZ q];decide),λp hp=>absurd hp^by simp],AM,rfl,eP _,pr,w1]
  .unfold GA CF
   rw[Ev,Ev]
  .rcases ofM' a z with z|z
   .let#[o,z]:=R1.dom a z
    exact#[o,gr.all a o z]
   .subst z
    exact#[_,AM]
  .refine OK R1.sl pr λd v h=>h.same pr (λa o _ e=>gr.all a o e) λa e n1 z=>z.elim n1 λz=>?_
   subst e;let#[o,w]:=h.lies;rw[z,hl]at w;cases w
 .rintro i m zZ H' ⟨rfl,hi,n',zY,acc,vs,R',hlv,hac,hal,pr,w'⟩
  by_cases hlt:i<ds.length
  .have ed:ds.drop i=ds[i]::ds.drop (i+1):=gR hlt
   rw[ed]at w';let#[go,yl]:=(y i M' H' pr R'.ext R'.dom).1 ds[i] (No hlt);refine .inr #[go,λx H2 hy=>?_];let#[gr,hx]:=yl x H2 hy;have R2':=R'.step gr.ext^R'.feed.grow gr;refine g2 _ M' H2 n' zY zZ ds[i] x _ _ R2' hx w' λzP zV R3 w3=>?_;refine c2 _ M' H2 n' zP zV _ _ R3 w3 λc H4 n4 e4 f4 w4=>?_;have R4:=R3.step e4 f4;have p4:Pres M' H' M' H4:=gr.pres.trans^R3.pres e4;have l4:H4 l=P3^.lst vs:=e4.keep (gr.all _ _ hlv) noU;cases c with
   |false=>exact#[ds.length - (i+1),by lk,rfl,hlt,n4,zP,acc,vs,R4,l4,hac.pres p4,by lk,pr.trans p4,w4]
   | true=>
    refine x2 _ M' H4 n4 zP zV _ _ R4 w4 λyv H5 d5 n5 e5 f5 r5 w5=>?_;have R5:=R4.step e5 f5;have p5:Pres M' H4 M' H5:=R4.pres e5;have l5:H5 l=P3^.lst vs:=e5.keep l4 noU;have hy5:=r5.shOf R4.dom hk;have a5:=(hac.pres p4).pres p5;have pu:Pres M' H5 M'^Aq H5 l^.lst (vs++[yv]):=CI M'l l5;have hvl:vs.length=acc.length:=hac.length;refine#[vs,l5,by rw[fA];lk,ds.length - (i+1),by lk,rfl,hlt,n5,zP,acc++[d5],vs++[yv],?_,AM,(a5.append^Ats.one hy5).pres pu,by rw[eV,fo];lk,(pr.trans p4).trans^p5.trans pu,w5];refine#[R5.len,R5.sub,λa z=>?_,λb o e=>?_,R5.fU,R5.uV,R5.vM,?_,λj s hs=>?_,λp hp=>absurd hp^by simp,R5.br0,R5.new,R5.two,λp hp=>absurd hp^by simp]
    .by_cases ha:a=l
     .subst ha;exact#[_,AM]
     .rw[AK ha];exact R5.dom a z
    .let#[o',q1,q2]:=R5.ext b o e
     by_cases hb:b=l
     .subst hb
      have e':H1 b=P3 o:=e;rw[hl]at e';cases e'
     .exact#[o',by rw[AK hb];exact q1,q2]
    .refine f5.pres pu (λf o hf e=>?_) λa u e=>by rw[AK λz=>by rw[z,l5]at e;cases e];exact e
     rw[AK λz=>noU^by rw[←z];exact R1.fU f hf];exact e
    .have hs5:=R5.sl j s hs
     cases s with
     |no=>trivial
     |sh d=>let#[v,e1,h2]:=hs5;exact#[v,e1,h2.pres pu]
     |ex a nm ks ds=>let#[e1,h2]:=hs5;exact#[e1,h2.pres pu]
     | br d=>
      let#[v,e1,h2]:=hs5;refine#[v,e1,h2.same pu (λa o z e=>?_) λ_ _ z=>z];subst z;let#[o3,w]:=R5.br0 j d a hs e1
      have hal:a≠l:=λz=>by
       have w':H1 a=P3 o3:=w;rw[z,hl]at w';cases w'
      rw[AK hal];exact e
     |ow d=>
      let#[a,e1,h2,_]:=hs5;exact absurd h2 (R5.new j _ a hs rfl e1).1
     |lt a d=>
      let#[e1,h2,_]:=hs5;exact absurd h2 (R5.new j _ a hs rfl e1).1
     |fd=>exact hs5
  .have e:i=ds.length:=by lk
   subst e;rw[iR]at w';refine .inl #[(y _ M' H' pr R'.ext R'.dom).2 (Op _),?_];have eb:Ext C.U H1 H':=R'.ext;have less:Pres M' H' M H':=Pres.less M'of;refine q _ H' (.lst acc) n' (e1.trans eb) (R'.feed.pres less (λ_ _ _ z=>z) λ_ _ z=>z) (VR.back e1 ?_) w';exact#[l,rfl,hl,vs,hlv,by rw[hM'];exact hac]
end
def SD{K:Frag}{F:q_ (Ch×Ch)}{U V' M:Ch->Prop}{H:Hp}{n:Sg}{ss:p_ Slot}{vs:p_ V}{N:p_ Str}(h:bz K F U V' M H n ss vs)(hl:vs.length<=N.length):
  Rel K #[M,F,U,V',H,[],[]] M H n (ss++UF (N.length - ss.length) .no) (L2.start N vs):=by
 let#[dom,fU,uV,vM,fd,pa]:=h;have el:vs.length=ss.length:=Paired.length pa
 have go:∀{vs:p_ V}{ss:p_ Slot}{i:Nat}{s:Slot},Paired (EY K F V' M H) vs ss->ss[i]?=P3 s->∃v,vs[i]?=P3 v/\EY K F V' M H v s:=by
  intro vs ss i s pa
  induction pa generalizing i with
  |nil=>intro e;simp at e
  | cons r t ih=>
   intro e;cases i with
   |zero=>simp at e;subst e;exact#[_,rfl,r]
   |succ i=>
    let#[v,e1,h1]:=ih (i:=i) (by simpa using e);exact#[v,by simpa using e1,h1]
 have at_:∀(i:Nat) (s:Slot),(ss++UF (N.length - ss.length) Slot.no)[i]?=P3 s->s=.no\/∃v,((L2.start N vs)[i]?).getD m_=P3 v/\EY K F V' M H v s:=by
  intro i s hs
  by_cases hi:i<ss.length
  .rw[g8 hi]at hs
   let#[v,e1,h1]:=go pa hs;refine .inr #[v,?_,h1];unfold L2.start;rw[g8 (by rw[Ev,el];exact hi),ZB,e1];rfl
  .rw[gu^by lk,iu]at hs
   split at hs
   .exact .inl (eE hs).symm
   .cases hs
 refine#[?_,λa z=>z,dom,Ext.refl _ _,fU,uV,vM,fd,λi s hs=>?_,λp hp=>absurd hp^by simp,λi d a hs ha=>?_,λi s a hs o _=>?_,λi j s t a hs o _ _ _ _=>?_,λp hp=>absurd hp^by simp]
 .unfold L2.start
  simp only[eV,Ev,kg];lk
 .rcases at_ i s hs with rfl|⟨v,e,h⟩
  .trivial
  .rw[e];exact h.1
 .rcases at_ i _ hs with z|⟨v,e,h⟩
  .cases z
  .rw[e]at ha
   cases ha;let#[v,e1,h1]:=h.1;cases e1;exact h1.lies
 .rcases at_ i s hs with rfl|⟨v,e,h⟩
  .cases o
  .rw[h.2]at o;cases o
 .rcases at_ i s hs with rfl|⟨v,e,h⟩
  .cases o
  .rw[h.2]at o;cases o
def dU{P:eT}{w:eY}{K:Frag}{mg:Str->q_ Db}{base:eK}{x qual:Str}{st:eZ}{f:Ch}{fd:fL}{N ps:p_ Str}{k:Nat}{κ:Kd}{W:W2}{wb:Aa}(F:Fun K x qual st f fd)(S:AX N ps^AI st)(hNp:ps.length<=N.length)
  (hb:∀(cdv:Db) (A:e_) (outer:p_ Env) (s:Go) (H:Hp) (E:XK),Room k^A.deeper^envOfC qual (AI st) s.heap.objs.size f cdv->Tj (Jt Fi P w K mg base N qual (AI st) f cdv A outer s H E).nox κ (BQ st) wb)
  (hW:∀ss n Pd,ss.length=ps.length->W ss n Pd->wb {nx:=λn _=>κ=.sh/\Pd .non n,rt:=Pd} n (ss++UF (N.length - ps.length) .no)):
  FnOk P w K mg base Fi (k+1) f fd ps (R_ K κ W ps.length):=by
 refine F.ok S (λvs H Q E h=>h.1) λcdv A outer s H vs Q E hr h=>?_;let#[hl,F0,U,V',M,n,ss,Pd,ra,hw,q]:=h;let#[t,t1,t2]:=hb cdv A outer s H E hr;refine#[t,t1,?_];have el:vs.length=ss.length:=Paired.length ra.2.2.2.2.2;have R:=SD (N:=N) ra (by lk);refine t2 #[M,F0,U,V',H,[],[]] M H n _ _ {nx:=λn _=>κ=.sh/\Pd .non n,rt:=Pd} _ R #[λM1 H1 n1 zS zJ R1 p=>?_,λv H1 d n1 e1 f1 r1 p=>q v H1 d n1 e1 f1 r1 p,λ_ _ _ _ _ _ z=>z.elim,λ_ _ _ _ _ _ z=>z.elim] ?_
 .let#[hk,p]:=p
  subst hk;exact q .non H1 .non n1 R1.ext (R1.feed.pres (Pres.less R1.sub) (λ_ _ _ z=>z) λ_ _ z=>z) rfl p
 grind
end Dp
namespace L2
section
variable {X:Cx}
def Inv.rdl{zG:p_ (Ch×Obj)}{Z:L2.St}{H:Hp}{s:Go}{l:Ch}{xs:p_ V}(I:Inv X zG Z H s)(h:Rd H l^.lst xs):xs.length<=sizeLine/\∃(its:p_ Db) (n:Nat),Vals xs its/\xs.length=its.length/\s.heap.get? l=P3 {cls:=.type "list",data:=.seq its.toArray n}:=by
 let#[z,its,n,r,e]:=h.ok I.hok;exact#[z,_,n,r,r.length,e]
def RB:OpR X (binaryOp .Add) (λx y H Q=>∃l b xs zs,x=.ref l/\y=.ref b/\Rd H l^.lst xs/\Rd H b^.lst zs/\xs.length+zs.length<=sizeLine/\∀p,H p=m_->Q (.ref p)^Aq H p^.lst (xs++zs)):=by
 intro zG s Z H x y v u Q I rx ry h;let#[l,b,xs,zs,rfl,rfl,hH,hB,hz,q]:=h;cases rx;cases ry;let#[z,its,n,r,hl,e]:=I.rdl hH;let#[z2,its2,n2,r2,hl2,e2]:=I.rdl hB;refine PySem.P.add_list e e2 ?_ (by grind);have ea:its.toArray++its2.toArray=(its++its2).toArray:=by simp
 rw[ea];exact#[.ref _,_,I.lnew (r.append r2)^by grind,rfl,q _ I.fresh]
end
end L2
namespace Dp
open L2
section
variable {K:Frag}
def AtT.int{U M:Ch->Prop}{H:Hp}{i:Int}{v:V}(h:AtT K U M H (.int i) v):v=.int i:=h
def AtT.bl{U M:Ch->Prop}{H:Hp}{i:Bool}{v:V}(h:AtT K U M H (.bl i) v):v=.bl i:=h
def AtT.str{U M:Ch->Prop}{H:Hp}{x:Str}{v:V}(h:AtT K U M H (.str x) v):v=.str x/\x.length<=sizeLine:=h
def AtT.tup{U M:Ch->Prop}{H:Hp}{ds:p_ D}{v:V}(h:AtT K U M H (.tup ds) v):∃a vs,v=.ref a/\NdT M H a vs/\Ats K M H ds vs:=h
def cL(g:Int->Int->(D->Prop)->Prop)(d e:D)(P:D->Prop):Prop:=match d,e with
 |.int i,.int j=>g i j P
 |_,_=>False
def Mr{g:Int->Int->(D->Prop)->Prop}{d e:D}{P:D->Prop}(w:cL g d e P):∃i j,d=.int i/\e=.int j/\g i j P:=by
 unfold cL at w
 split at w
 .grind
 grind
def f2(g:Int->Int->D):D->D->(D->Prop)->Prop:=cL λi j P=>P^g i j
def WJ(C:Int->Int->Prop)(g:Int->Int->D):D->D->(D->Prop)->Prop:=cL λi j P=>C i j/\P^g i j
def WB{g:Int->Int->Int}:Er K .sh (Hu λi j=>.int^g i j) (f2 λi j=>.int^g i j):=by
 intro U M H d e x y P Q dom vM hx hy w q;let#[i,j,rfl,rfl,w]:=Mr w;exact#[i,j,hx,hy,q _ H (.int _) .refl rfl w]
def Qa{g:Int->Int->Bool}:Er K .sh (Hu λi j=>.bl^g i j) (f2 λi j=>.bl^g i j):=by
 intro U M H d e x y P Q dom vM hx hy w q;let#[i,j,rfl,rfl,w]:=Mr w;exact#[i,j,hx,hy,q _ H (.bl _) .refl rfl w]
def G9{C:Int->Int->Prop}{g:Int->Int->Int}:Er K .sh (rI C λi j=>.int^g i j) (WJ C λi j=>.int^g i j):=by
 intro U M H d e x y P Q dom vM hx hy w q;let#[i,j,rfl,rfl,w]:=Mr w;exact#[i,j,hx,hy,w.1,q _ H (.int _) .refl rfl w.2]
def cI(g:Str->Str->(D->Prop)->Prop)(d e:D)(P:D->Prop):Prop:=match d,e with
 |.str i,.str j=>g i j P
 |_,_=>False
def RQ{g:Str->Str->(D->Prop)->Prop}{d e:D}{P:D->Prop}(w:cI g d e P):∃i j,d=.str i/\e=.str j/\g i j P:=by
 unfold cI at w
 split at w
 .grind
 grind
def V8{g:Str->Str->Bool}:Er K .sh (λx y H Q=>∃i j,x=.str i/\y=.str j/\Q (.bl^g i j) H) (cI λi j P=>P^.bl^g i j):=by
 intro U M H d e x y P Q dom vM hx hy w q;let#[i,j,rfl,rfl,w]:=RQ w;exact#[i,j,hx.1,hy.1,q _ H (.bl _) .refl rfl w]
def Tc:Er K .sh (λx y H Q=>∃i j,x=.str i/\y=.str j/\i.length+j.length<=sizeLine/\Q (.str (i++j)) H) (cI λi j P=>i.length+j.length<=sizeLine/\P^.str (i++j)):=by
 intro U M H d e x y P Q dom vM hx hy w q;let#[i,j,rfl,rfl,w]:=RQ w;exact#[i,j,hx.1,hy.1,w.1,q _ H (.str _) .refl #[rfl,by rw[Str.length_append i j];exact w.1] w.2]
def c7(g:p_ D->p_ D->(D->Prop)->Prop)(d e:D)(P:D->Prop):Prop:=match d,e with
 |.tup i,.tup j=>g i j P
 |_,_=>False
def cJ(g:p_ D->p_ D->(D->Prop)->Prop)(d e:D)(P:D->Prop):Prop:=match d,e with
 |.lst i,.lst j=>g i j P
 |_,_=>False
def XM{g:p_ D->p_ D->(D->Prop)->Prop}{d e:D}{P:D->Prop}(w:c7 g d e P):∃i j,d=.tup i/\e=.tup j/\g i j P:=by
 unfold c7 at w
 split at w
 .grind
 grind
def XN{g:p_ D->p_ D->(D->Prop)->Prop}{d e:D}{P:D->Prop}(w:cJ g d e P):∃i j,d=.lst i/\e=.lst j/\g i j P:=by
 unfold cJ at w
 split at w
 .grind
 grind
def DF{M:Ch->Prop}{H:Hp}{p:Ch}{vs:p_ V}{ds:p_ D}(dom:∀a,M a->∃o,H a=P3 o)(hp:H p=m_)(h:Ats K M H ds vs):At K M (Aq H p^.tup vs) (.tup ds)^.ref p:=#[p,vs,rfl,AM,h.pres (Am hp).pres]
def Bx{U M:Ch->Prop}{H:Hp}{p:Ch}{vs:p_ V}{ds:p_ D}(hp:H p=m_)(h:Ats K M H ds vs):VR K U M H (Aq H p^.lst vs) .fr (.ref p)^.lst ds:=
 #[p,rfl,hp,vs,AM,h.pres^FW hp]
def Tb:Er K .sh (Uk K) (c7 λi j P=>i≠[]/\i.length+j.length<=sizeLine/\P^.tup (i++j)):=by
 intro U M H d e x y P Q dom vM hx hy w q;let#[i,j,rfl,rfl,w]:=XM w;let#[a,vs,rfl,ha,hs]:=hx.tup;let#[b,us,rfl,hb,ht]:=hy.tup;have l1:=hs.length;have l2:=ht.length;refine#[a,b,vs,us,rfl,rfl,ha.sq,hb.sq,λz=>w.1 ?_,by simp_all,λz=>?_,λz p hp=>?_]
 .rw[z]at l1;exact iz.mp l1.symm
 .rw[z]at l2
  have:j=[]:=iz.mp l2.symm
  subst this;exact q _ H (.tup i) .refl #[a,vs,rfl,ha,hs]^by grind
 .exact q _ _ (.tup (i++j)) (Am hp) (DF dom hp^hs.append ht) w.2.2
def Lm:Er K .fr (λx y H Q=>∃l b xs zs,x=.ref l/\y=.ref b/\Rd H l^.lst xs/\Rd H b^.lst zs/\xs.length+zs.length<=sizeLine/\∀p,H p=m_->Q (.ref p)^Aq H p^.lst (xs++zs)) (cJ λi j P=>i.length+j.length<=sizeLine/\P^.lst (i++j)):=by
 intro U M H d e x y P Q dom vM hx hy w q;let#[i,j,rfl,rfl,w]:=XN w;let#[a,vs,rfl,_,ha,hs]:=hx;let#[b,us,rfl,_,hb,ht]:=hy;exact#[a,b,vs,us,rfl,rfl,ha,hb,by rw[hs.length,ht.length];exact w.1,λp hp=>q _ _ _ (Am hp) (Bx hp^hs.append ht) w.2]
def IA(neg:Bool)(d e:D)(P:D->Prop):Prop:=match d,e with
 |.bl i,.bl j=>P^.bl (if neg then !(i==j)else i==j)
 |.int i,.int j=>P^.bl (if neg then !(i==j)else i==j)
 |.str i,.str j=>P^.bl (if neg then !(i==j)else i==j)
 |_,_=>False
def RS{neg:Bool}{d e:D}{P:D->Prop}(w:IA neg d e P):(∃i j,d=.bl i/\e=.bl j/\P^.bl (if neg then !(i==j)else i==j))\/(∃i j,d=.int i/\e=.int j/\P^.bl (if neg then !(i==j)else i==j))\/∃i j,d=.str i/\e=.str j/\P^.bl (if neg then !(i==j)else i==j):=by
 unfold IA at w
 split at w
 .simp_all
 .simp_all
 .simp_all
 grind
def Ep:Er K .sh dS^IA o_:=by
 intro U M H d e x y P Q dom vM hx hy w q
 rcases RS w with⟨i,j,rfl,rfl,w⟩|⟨i,j,rfl,rfl,w⟩|⟨i,j,rfl,rfl,w⟩
 .rw[hx.bl,hy.bl];exact#[rfl,q _ H _ .refl (by rw[M5];rfl) w]
 .rw[hx.int,hy.int];exact#[rfl,q _ H _ .refl (by rw[IT];rfl) w]
 .rw[hx.str.1,hy.str.1];exact#[rfl,q _ H _ .refl (by rw[IS];rfl) w]
def Z2:Er K .sh dP^IA n_:=by
 intro U M H d e x y P Q dom vM hx hy w q
 rcases RS w with⟨i,j,rfl,rfl,w⟩|⟨i,j,rfl,rfl,w⟩|⟨i,j,rfl,rfl,w⟩
 .rw[hx.bl,hy.bl];exact#[rfl,q _ H _ .refl (by rw[M5];rfl) w]
 .rw[hx.int,hy.int];exact#[rfl,q _ H _ .refl (by rw[IT];rfl) w]
 .rw[hx.str.1,hy.str.1];exact#[rfl,q _ H _ .refl (by rw[IS];rfl) w]
def VW:D->Bool
 |.non=>n_
 |_=>o_
def OR{U M:Ch->Prop}{H:Hp}{d:D}{x:V}(h:AtT K U M H d x):decide (x=.non)=VW d:=by
 cases d with
 |non=>rw[h];rfl
 |bl b=>rw[h.bl];rfl
 |int i=>rw[h.int];rfl
 |str z=>rw[h.str.1];rfl
 |tup ds=>let#[a,vs,rfl,_]:=h.tup;rfl
 |lst ds=>let#[a,vs,rfl,_]:=h;rfl
 |dic ks ds=>let#[a,vs,rfl,_]:=h;rfl
 |fdi ks ds=>let#[a,vs,rfl,_]:=h;rfl
 |dit ks ds=>let#[a,vs,rfl,_]:=h;rfl
 |ob a=>let#[rfl,_]:=h;rfl
def Au(d e:D)(P:D->Prop):Prop:=match d,e with
 |.lst ds,.int i=>∃z,atI ds i=P3 z/\P z
 |.tup ds,.int i=>∃z,atI ds i=P3 z/\P z
 |.str x,.int i=>∃c,atI x.cps.toList i=P3 c/\P^.str #[#[ c]]
 |_,_=>False
def XO{d e:D}{P:D->Prop}(w:Au d e P):(∃ds i z,d=.lst ds/\e=.int i/\atI ds i=P3 z/\P z)\/(∃ds i z,d=.tup ds/\e=.int i/\atI ds i=P3 z/\P z)\/∃x i c,d=.str x/\e=.int i/\atI x.cps.toList i=P3 c/\P^.str #[#[ c]]:=by
 unfold Au at w
 split at w
 .simp_all
 .simp_all
 .simp_all
 grind
theorem Ats.atI{M:Ch->Prop}{H:Hp}{ds:p_ D}{vs:p_ V}{i:Int}{z:D}(h:Ats K M H ds vs)(e:atI ds i=P3 z):∃v,L2.atI vs i=P3 v/\At K M H z v:=by
 unfold L2.atI at e ⊢;rw[h.length];cases q:YO _ i with
 |none=>grind
 |some j=>
  rw[q]at e;exact h.get e
def Ag:Er K .sh (dQ K) Au:=by
 intro U M H d e x y P Q dom vM hx hy w q
 rcases XO w with⟨ds,i,z,rfl,rfl,hz,w⟩|⟨ds,i,z,rfl,rfl,hz,w⟩|⟨x,i,c,rfl,rfl,hc,w⟩
 .let#[a,vs,rfl,_,ha,hs]:=hx
  let#[v,hv,hAt]:=hs.atI hz;exact .inl #[a,vs,i,v,rfl,hy,.inl ha,hv,q v H z .refl hAt w]
 .let#[a,vs,rfl,ha,hs]:=hx.tup
  let#[v,hv,hAt]:=hs.atI hz;exact .inr^.inl #[a,vs,i,v,rfl,hy,ha.sq,hv,q v H z .refl hAt w]
 .exact .inr^.inr #[x,i,c,hx.str.1,hy,hx.str.2,hc,q _ H (.str _) .refl #[rfl,by show 1<=16777216;decide] w]
def cutD{α:Type}(xs:p_ α)(lo hi:q_ Int):p_ α:=(xs.drop^HT.sIx xs.length 0 lo).take (HT.sIx xs.length xs.length hi - HT.sIx xs.length 0 lo)
def Cw{R:V->D->Prop}{vs:p_ V}{d:D}(h:Paired R vs [d]):∃v,vs=[v]/\R v d:=by
 cases h with
 |cons r t=>cases t;grind
def cn:D->q_ Nat
 |.str x=>P3 x.length
 |.tup xs=>P3 xs.length
 |.lst xs=>P3 xs.length
 |_=>m_
def Cs(ds:p_ D)(P:D->Prop):Prop:=∃d n,ds=[d]/\cn d=P3 n/\P^.int (n:Int)
def DQ:CA K .sh (λxs H Q=>∃x n,xs=[x]/\aE K x H n/\Q (.int n) H) Cs:=by
 intro U M H ds vs P Q dom vM hp w q;let#[d,n,rfl,hn,w]:=w;let#[v,rfl,hx]:=Cw hp;refine#[v,n,rfl,?_,q _ H (.int _) .refl rfl w];cases d with
 |str z=>cases hn;rw[hx.str.1];exact#[hx.str.2,rfl]
 |tup xs=>
  cases hn;let#[a,us,rfl,ha,hs]:=hx.tup;exact .inr #[us,ha.sq,hs.length.symm]
 |lst xs=>
  cases hn;let#[a,us,rfl,_,ha,hs]:=hx;exact .inl #[us,.inl ha,hs.length.symm]
 |_=>cases hn
def allB:p_ D->q_^p_ Bool
 |[]=>P3 []
 |.bl b::r=>(allB r).map (b::·)
 |_::_=>m_
theorem Rl{M:Ch->Prop}{H:Hp}:∀{ds:p_ D}{vs:p_ V}{bs:p_ Bool},allB ds=P3 bs->Ats K M H ds vs->vs=bs.map V.bl
 |[],vs,bs,e,h=>by cases e;exact h
 |.bl b::r,vs,bs,e,h=>by
  let#[v,r',e1,h1,h2]:=h;let#[bs',e2,rfl]:=eq.mp e;rw[e1,Rl e2 h2,h1];rfl
 |.non::r,vs,bs,e,h=>by cases e
 |.int _::r,vs,bs,e,h=>by cases e
 |.str _::r,vs,bs,e,h=>by cases e
 |.tup _::r,vs,bs,e,h=>by cases e
 |.lst _::r,vs,bs,e,h=>by cases e
 |.dic _ _::r,vs,bs,e,h=>by cases e
 |.fdi _ _::r,vs,bs,e,h=>by cases e
 |.dit _ _::r,vs,bs,e,h=>by cases e
def be(ds:p_ D)(P:D->Prop):Prop:=∃xs bs,ds=[.lst xs]/\allB xs=P3 bs/\P^.bl^bs.all id
def bu:CA K .sh (λxs H Q=>∃(p:Ch) (bs:p_ Bool),xs=[.ref p]/\SqL K H p^bs.map V.bl/\Q (.bl^bs.all id) H) be:=by
 intro U M H ds vs P Q dom vM hp w q;let#[xs,bs,rfl,e,w]:=w;let#[v,rfl,hx]:=Cw hp;let#[a,us,rfl,_,ha,hs]:=hx
 have:=Rl e hs
 subst this;exact#[a,bs,rfl,.inl ha,q _ H (.bl _) .refl rfl w]
def QW:p_ D->q_^p_ Str
 |[]=>P3 []
 |.str b::r=>(QW r).map (b::·)
 |_::_=>m_
theorem Rj{M:Ch->Prop}{H:Hp}:∀{ds:p_ D}{vs:p_ V}{bs:p_ Str},QW ds=P3 bs->Ats K M H ds vs->vs=bs.map V.str
 |[],vs,bs,e,h=>by cases e;exact h
 |.str b::r,vs,bs,e,h=>by
  let#[v,r',e1,h1,h2]:=h;let#[bs',e2,rfl]:=eq.mp e;rw[e1,Rj e2 h2,h1.1];rfl
 |.non::r,vs,bs,e,h=>by cases e
 |.int _::r,vs,bs,e,h=>by cases e
 |.bl _::r,vs,bs,e,h=>by cases e
 |.tup _::r,vs,bs,e,h=>by cases e
 |.lst _::r,vs,bs,e,h=>by cases e
 |.dic _ _::r,vs,bs,e,h=>by cases e
 |.fdi _ _::r,vs,bs,e,h=>by cases e
 |.dit _ _::r,vs,bs,e,h=>by cases e
def QK(ds:p_ D)(P:D->Prop):Prop:=match ds with
 |[.lst xs]=>P^.lst xs
 |[.tup xs]=>P^.lst xs
 |_=>False
def Xp:CA K .fr (λxs H Q=>∃p ys,xs=[.ref p]/\(SqL K H p ys\/SqT K H p ys)/\∀l,H l=m_->Q (.ref l)^Aq H l^.lst ys) QK:=by
 intro U M H ds vs P Q dom vM hp w q;unfold QK at w
 split at w
 .let#[v,rfl,hx]:=Cw hp
  let#[a,us,rfl,_,ha,hs]:=hx;exact#[a,us,rfl,.inl^.inl ha,λl hl=>q _ _ _ (Am hl) (Bx hl hs) w]
 .let#[v,rfl,hx]:=Cw hp
  let#[a,us,rfl,ha,hs]:=hx.tup;exact#[a,us,rfl,.inr ha.sq,λl hl=>q _ _ _ (Am hl) (Bx hl hs) w]
 grind
end
def aR:D->String
 |.non=>"NoneType"
 |.bl _=>"bool"
 |.int _=>"int"
 |.str _=>"str"
 |.tup _=>"tuple"
 |.lst _=>"list"
 |.dic _ _=>"dict"
 |.fdi _ _=>"dict"
 |.dit _ _=>"dict"
 |.ob _=>""
def bQ:D->(String->Prop)->Prop
 |.ob _,_=>False
 |d,k=>k^aR d
def Ml{d:D}{k:String->Prop}(h:bQ d k):(∀a,d≠.ob a)/\k^aR d:=by
 cases d <;>first|exact h.elim|exact#[(λ_ z=>by cases z),h]
def bR(t T:String):Bool:=t==T||(t=="bool"&&T=="int")
def Yk(T:String)(wa:DW):DW:=λn ρ P=>wa n ρ λd n1=>bQ d λt=>P (.bl^bR t T) n1
structure aF (K:Frag) (T:String):Prop where
 ans:∀t∈["NoneType","bool","int","str","tuple","list","dict"],PySem.W.kitOne K (.type t)^.type T=P3^bR t T
def WO{K:Frag}{M U:Ch->Prop}{H:Hp}{d:D}{x:V}(h:AtT K U M H d x)(no:∀a,d≠.ob a):Fe K H x^.type^aR d:=by
 cases d with
 |non=>cases(h);exact .non
 |bl b=>cases h.bl;exact .bl b
 |int i=>cases h.int;exact .int i
 |str z=>cases h.str.1;exact .str z
 |tup ds=>
  let#[a,vs,rfl,ha,hs]:=h.tup;exact .tup ha
 |lst ds=>
  let#[a,vs,rfl,_,ha,hs]:=h
  rcases ha with ha|⟨o,ha⟩
  .exact .lst ha
  .exact .frz ha
 |dic ks ds=>
  let#[a,vs,rfl,_,ha,_]:=h;exact .dK ha
 |fdi ks ds=>
  let#[a,vs,rfl,#[o,_,ha],_]:=h;exact .dF ha
 |dit ks ds=>
  let#[a,vs,rfl,_,ha,_]:=h;exact .dT ha
 |ob a=>exact absurd rfl (no a)
def WP(d:D)(no:∀a,d≠.ob a):aR d∈["NoneType","bool","int","str","tuple","list","dict"]:=by cases d <;>first|exact absurd rfl (no _)|simp[aR]
def Vy{X:Cx}{a:eS}{κ:Kd}{wa:DW}{T:String}{Tn:Str}{p p2 pos:Pos}(kt:aF X.K T)(ha:DE X a κ wa)(hg:Gl X "isinstance")(hm:X.mg "isinstance"=m_)(hgT:Gl X Tn)(hmT:X.mg Tn=m_)(hvT:bootBuiltins Tn=P3^.type T)
  (hnT:Tn ≠ "__name__":=by decide) (hdT:(Tn==("__debug__":Str))=o_:=by decide)
  (he:starEach [a,.Name Tn p2] X.env=(o_,eval a X.env)::starEach [.Name Tn p2] X.env:=by rfl) (he2:starEach [.Name Tn p2] X.env=[(o_,eval (.Name Tn p2) X.env)]:=by rfl)
  (hpl:(backTo pos^starEach [.Name Tn p2] X.env).any (·.1)=o_:=by rfl):DE X (.Call (.Name "isinstance" p) [a,.Name Tn p2] [] pos) .sh^Yk T wa:=by
 let#[t,h1,h2]:=ha;have pT:PE X (.Name Tn p2)^tC^.ty T:=Ww hgT hmT hvT rfl hnT hdT;exact#[_,F4 Om hg hm (by decide +kernel) (Br h1 (Br pT Cf he2) he) (by cbv) (by cbv) he hpl,λC M H n ρ Z P Q R w q=>h2 C M H n ρ Z _ _ R w λv H1 d n1 e1 f1 r1 p=>#[v,T,_,_,rfl,WO (r1.tpOf R.dom R.vM) (Ml p).1,kt.ans _^WP d (Ml p).1,q _ H1 (.bl _) n1 e1 f1 rfl (Ml p).2]]
section
variable {K:Frag}{X:Cx}
def YT(d e:D)(P:D->Prop):Prop:=match d,e with
 |.int i,.int j=>P^.int (i+j)
 |.str i,.str j=>i.length+j.length<=sizeLine/\P^.str (i++j)
 |.tup i,.tup j=>i≠[]/\i.length+j.length<=sizeLine/\P^.tup (i++j)
 |.lst i,.lst j=>i.length+j.length<=sizeLine/\P^.lst (i++j)
 |_,_=>False
def bF:R2:=λx y H Q=>∃l b xs zs,x=.ref l/\y=.ref b/\Rd H l^.lst xs/\Rd H b^.lst zs/\xs.length+zs.length<=sizeLine/\∀p,H p=m_->Q (.ref p)^Aq H p^.lst (xs++zs)
def bE:R2:=λx y H Q=>∃i j,x=.str i/\y=.str j/\i.length+j.length<=sizeLine/\Q (.str (i++j)) H
def X8(g:Str->Str->Bool):R2:=λx y H Q=>∃i j,x=.str i/\y=.str j/\Q (.bl^g i j) H
def Ul(K:Frag):R2:=λx y H Q=>(Hu λi j=>.int (i+j)) x y H Q\/bE x y H Q\/Uk K x y H Q\/bF x y H Q
def op_addU:OpR X (binaryOp .Add)^Ul X.K:=op_add.or^(P1).or^op_catT.or^RB
def ND:Er X.K .sh (Ul X.K) YT:=λU M H d e x y P Q dom vM hx hy w q=>by
 unfold YT at w
 split at w
 .exact .inl^WB U M H _ _ x y P Q dom vM hx hy w q
 .exact .inr^.inl^Tc U M H _ _ x y P Q dom vM hx hy w q
 .exact .inr^.inr^.inl^Tb U M H _ _ x y P Q dom vM hx hy w q
 .exact .inr^.inr^.inr^Lm U M H _ _ x y P Q dom vM hx hy w λv H' z g r p=>q v H' z g (r.shOf dom^by grind) p
 grind
def bc(d e:D)(P:D->Prop):Prop:=match d,e with
 |.int i,.int j=>P^.bl (decide (i<j))
 |.str i,.str j=>P^.bl (decide (i.cps.toList<j.cps.toList))
 |_,_=>False
def Y7:R2:=λx y H Q=>(Hu λi j=>.bl (decide (i<j))) x y H Q\/X8 (λi j=>decide (i.cps.toList<j.cps.toList)) x y H Q
def op_ltU:OpR X (compareOp .Lt) Y7:=op_lt.or Sh
def Yc:Er X.K .sh Y7 bc:=λU M H d e x y P Q dom vM hx hy w q=>by
 unfold bc at w
 split at w
 .exact .inl^Qa U M H _ _ x y P Q dom vM hx hy w q
 .exact .inr^V8 U M H _ _ x y P Q dom vM hx hy w q
 grind
def Zl(d e:D)(P:D->Prop):Prop:=match d,e with
 |.int i,.int j=>P^.bl (decide (i<=j))
 |.str i,.str j=>P^.bl (!(decide (j.cps.toList<i.cps.toList)))
 |_,_=>False
def a9:R2:=λx y H Q=>(Hu λi j=>.bl (decide (i<=j))) x y H Q\/X8 (λi j=>!(decide (j.cps.toList<i.cps.toList))) x y H Q
def ZS:OpR X (compareOp .LtE) a9:=op_le.or Si
def bp:Er X.K .sh a9 Zl:=λU M H d e x y P Q dom vM hx hy w q=>by
 unfold Zl at w
 split at w
 .exact .inl^Qa U M H _ _ x y P Q dom vM hx hy w q
 .exact .inr^V8 U M H _ _ x y P Q dom vM hx hy w q
 grind
def bB:R2:=Hu λi j=>.bl (decide (j<i))
def ZT:OpR X (compareOp .Gt) bB:=YJ
def bq:Er X.K .sh bB (f2 λi j=>.bl (decide (j<i))):=Qa
def ao:V->q_ Int->q_ Int->Hp->VK->Prop:=λx lo hi H Q=>∃z,x=.str z/\z.length<=sizeLine/\Q (.str^Txt.slice z lo hi) H
def sl_U:SlR X ao:=Y0
def Got(P:eT)(w:eY)(K:Frag)(mg:Str->q_ Db)(base:eK)(x:Str)(k:Nat)(ps:p_ Str)(κ:Kd)(W:W2):Prop:=
 ∃f fd,FnOk P w K mg base Fi k f fd ps^R_ K κ W ps.length/\mg x=P3^.ref f/\keepIn K^.ref f=n_/\Binds K fd ps []/\∀ss n P,W ss n P->ss.length=ps.length
def V0{e:eS}{es:p_ eS}{k:Nat}{ps:p_ Str}{κ:Kd}{W:W2}{x:Str}{p pos:Pos}{was:Ti}(G:Got X.prog X.w X.K X.mg X.base x k ps κ W)
  (hr:Room k X.A) (hg:Gl X x) (ha:Xv X (e::es) was)
  (hdb:(x==("__debug__":Str))=o_:=by decide) (he:starEach (e::es) X.env=(o_,eval e X.env)::starEach es X.env:=by rfl) (hpl:(backTo pos^starEach es X.env).any (·.1)=o_:=by rfl):
  DE X (.Call (.Name x p) (e::es) [] pos) κ (AY W was):=by
 let#[f,fd,G,hm,hk,hb,hW]:=G;exact Xg G hW hr hg hm hk hb ha hdb he hpl
def XB:aF K "str":=#[λt ht=>by
 simp at ht
 rcases ht with rfl|rfl|rfl|rfl|rfl|rfl|rfl <;>kernel_rfl]
def kit_tuple:aF K "tuple":=#[λt ht=>by
 simp at ht
 rcases ht with rfl|rfl|rfl|rfl|rfl|rfl|rfl <;>kernel_rfl]
end
theorem Oz{α:Type}(p:α->Bool):∀l:p_ α,allB (l.map λc=>.bl^p c)=P3^l.map p
 |[]=>rfl
 |a::l=>by
  rw[eW];unfold allB;rw[Oz p l];rfl
def Np(K:Frag):Sp:=λvs H Q _=>∃a ns,vs=[V.ref a]/\(jj (α:=Int) ns<=63/\SqL K H a^ns.map V.int)/\∀H',Q (.bl n_) H'
def L3(K:Frag):Sp:=λvs H Q _=>∃a ns,vs=[V.ref a]/\(jj (α:=Int) ns<=63/\SqL K H a^ns.map V.int) /\
 ∀(c f:Ch) (H':Hp),c≠f->H' c=P3^.lst^ns.map V.int->H' f=P3^.lst [.ref c,.int 0,.int 0]->Q (.ref f) H'
def bh{ns:p_ Int}(h:ns.length<=63):Oh (ns.map V.int) m_^P3 63=ns.map V.int:=by
 have e:HT.sIx (ns.map V.int).length (ns.map V.int).length^P3 63=ns.length:=by
  rw[show(63:Int)=(63:Nat)from rfl,HT.sIx_nat,Ev,Nat.min_eq_right h]
 unfold Oh;rw[HT.sIx_none]
 grind
theorem LK{b:BW}{body:Aa}{D2:E2}(I:Nat->Sg->p_ Slot->Prop)(hend:∀n ρ,I 0 n ρ->D2.nx n ρ)
  (hstep:∀(k:Nat) (d:D) (n:Sg) (ρ:p_ Slot) (nx:Sg->p_ Slot->Prop),I (k+1) n ρ->(∀n' zY,I k n' zY->nx n' zY)->b d ρ λzS=>body {D2 with nx:=nx,ct:=nx,bk:=D2.nx} n zS):
  ∀(ds:p_ D) (n:Sg) (ρ:p_ Slot),I ds.length n ρ->Bj b body D2 ds n ρ
 |[],n,ρ,h=>hend n ρ h
 |d::ds,n,ρ,h=>hstep _ d n ρ _ h λn' zY h'=>LK I hend hstep ds n' _ h'
def bX{P:eT}{w:eY}{K:Frag}{mg:Str->q_ Db}{base:eK}{st s1:eZ}{rest:p_ eZ}{f:Ch}{fd:fL}{Nr:p_ Str}{k n0:Nat}{wb:Aa}(F:Fun K "law" "law" st f fd)
  (S:AX ("_law_script"::"_law_feed_here"::Nr) ["_law_script"]^AI st) (hbd:BQ st=s1::rest) (hn0:n0<=2 ^ 60)
  (h1:∀(cdv:Db) (A:e_) (outer:p_ Env) (s:Go) (H:Hp) (E:XK),Room k^A.deeper^envOfC "law" (AI st) s.heap.objs.size f cdv->
   PS (Jt Fi P w K mg base ("_law_script"::"_law_feed_here"::Nr) "law" (AI st) f cdv A outer s H E).nox s1 (Nl (Qs (L3 K) [] E0^Qr (Bv 0) R7)^HW 1))
  (h2:∀(cdv:Db) (A:e_) (outer:p_ Env) (s:Go) (H:Hp) (E:XK),Room k^A.deeper^envOfC "law" (AI st) s.heap.objs.size f cdv->
   Tj (Jt Fi P w K mg base ("_law_script"::"_law_feed_here"::Nr) "law" (AI st) f cdv A outer s H E).nox .sh rest wb)
  (hW:wb {nx:=λ_ _=>False,rt:=λd _=>d=.bl n_} #[n0,λ_=>m_] (.no::.fd::UF Nr.length .no)):FnOk P w K mg base Fi (k+1) f fd ["_law_script"]^Np K:=by
 refine F.ok S (λvs H Q E h=>?_) λcdv A outer s H vs Q E hr h=>?_
 .let#[a,ns,rfl,_]:=h
  rfl
 .let#[a,ns,rfl,#[hl,hS],q]:=h
  let#[t,t1,t2]:=h2 cdv A outer s H E hr;refine#[R6 (Nl (Qs (L3 K) [] E0^Qr (Bv 0) R7)^HW 1) t,by rw[hbd];exact BK (h1 cdv A outer s H E hr) t1,?_];refine#[_,rfl,a,ns,rfl,#[hl,hS],λc g H' hcg hc hg=>?_]
  have at_:∀(i:Nat) (sl:Slot),(Slot.no::Slot.fd::UF Nr.length Slot.no)[i]?=P3 sl->Slot.no=sl\/(Slot.fd=sl/\i=1):=by
   intro i sl hs
   match i,hs with
   |0,hs=>exact .inl^eE hs
   |1,hs=>exact .inr #[eE hs,rfl]
   |i+2,hs=>
    rw[i4,i4,iu]at hs
    split at hs
    .exact .inl^eE hs
    .cases hs
  have R:Rel K #[λb=>b=g,P3 (g,c),λb=>b=g,λb=>b=g,H',[],[]] (λb=>b=g) H' #[n0,λ_=>m_] (.no::.fd::UF Nr.length .no)^(start ("_law_script"::"_law_feed_here"::Nr) [V.ref a]).set 1^P3^.ref g:=by
   refine#[by simp[L2.start],λ_ z=>z,λb z=>#[_,(congrArg H' z).trans hg],Ext.refl _ _,λb z=>by rw[←eE z],λ_ z=>z,λ_ z=>z,#[λb z=>?_,λa c z=>by cases z],λi sl hs=>?_,λp hp=>absurd hp^by simp,λi d b hs _=>?_,λi sl b hs o _=>?_,λi j sl t b hs o _ _ _ _=>?_,λp hp=>absurd hp^by simp]
   .have e:(g,c)=b:=eE z
    subst e;exact#[0,0,ns,hg,hcg,#[hcg,hc],hl,by cbv,by show(0:Int)+(n0:Int)<=2 ^ 60;lk]
   .rcases at_ i sl hs with e|⟨e,rfl⟩
    .rw[←e];trivial
    .rw[←e]
     exact#[(g,c),by simp[L2.start],rfl]
   .rcases at_ i _ hs with e|⟨e,_⟩ <;>cases e
   .rcases at_ i sl hs with e|⟨e,_⟩ <;>(rw[←e]at o;cases o)
   .rcases at_ i sl hs with e|⟨e,_⟩ <;>(rw[←e]at o;cases o)
  refine t2 _ _ H' #[n0,λ_=>m_] _ _ {nx:=λ_ _=>False,rt:=λd _=>d=.bl n_} _ R #[λ_ _ _ _ _ _ z=>z.elim,λv H2 d n' _ _ r p=>?_,λ_ _ _ _ _ _ z=>z.elim,λ_ _ _ _ _ _ z=>z.elim] hW;have e:d=.bl n_:=p;subst e;have e2:v=.bl n_:=r;subst e2;exact q H2
end Dp
namespace L2
section
variable {X:Cx}
theorem B7:∀{us:p_ Db}{ys:p_ Str},StrsAre us ys->Vals (ys.map V.str) us
 |_,_,.nil=>.nil
 |_,_,.cons x t r=>.cons #[t,rfl]^B7 r
def Ue(K:Frag):p_ V->Hp->VK->Prop:=λxs H Q=>∃(p:Ch) (ss:p_ Str),xs=[.ref p]/\SqL K H p^ss.map V.str/\ss.length<64/\∀(ss':p_ Str) (l:Ch),ss'.Perm ss->sortedS ss'=n_->H l=m_->Q (.ref l)^Aq H l^.lst^ss'.map V.str
def J0:CallR X (.builtin "sorted")^Ue X.K:=by
 intro zG s Z H xs us Q I r h;let#[p,ss,rfl,hq,h64,q]:=h;let#[u,rfl,rx]:=vals1 r;cases rx;let#[its,r',pl,hz]:=I.list hq;have hlen:=r'.length;rw[Ev]at hlen;refine sorted_strs pl.isList (Ip r') (by lk) λout ss' a1 a2 a3=>?_;let#[e,he]:=sortedAll_at _ _ _;have hl':=a2.length_eq;have hn:=I.hok.fresh^fR _;refine#[.ref _,_,I.laid (λb o z=>sortedAll_old z) (fR _) (show ObjOk _ _ _ _ _^.lst _ from#[?_,_,e,B7 a1,?_]),rfl,q _ _ a2 a3 hn]
 .grind
 .exact he
def YB:R2:=λx y H Q=>∃z k,x=.str z/\y=.int k/\MulOk z k/\Q (.str^Txt.mul z k) H
def Wz:OpR X (binaryOp .Mult) YB:=by
 intro zG s Z H x y v u Q I rx ry h;let#[z,k,rfl,rfl,hm,q]:=h;let#[t,rfl]:=rx;let#[t',rfl]:=ry;exact SB.mul hm λt' k=>#[.str _,H,I.tok _,#[_,rfl],q]
end
end L2
namespace Dp
open L2
section
variable {K:Frag}
def Bt(ds:p_ D)(P:D->Prop):Prop:=match ds with
 |[.lst xs]=>P^.tup xs
 |[.tup xs]=>P^.tup xs
 |_=>False
def CO:CA K .sh (λxs H Q=>∃p ys,xs=[.ref p]/\((SqL K H p ys/\∀l,H l=m_->Q (.ref l)^Aq H l^.tup ys)\/(SqT K H p ys/\Q (.ref p) H))) Bt:=by
 intro U M H ds vs P Q dom vM hp w q;unfold Bt at w
 split at w
 .let#[v,rfl,hx]:=Cw hp
  let#[a,us,rfl,_,ha,hs]:=hx;exact#[a,us,rfl,.inl #[.inl ha,λl hl=>q _ _ (.tup _) (Am hl) (DF dom hl hs) w]]
 .let#[v,rfl,hx]:=Cw hp
  let#[a,us,rfl,ha,hs]:=hx.tup;exact#[a,us,rfl,.inr #[ha.sq,q _ H (.tup _) .refl #[a,us,rfl,ha,hs] w]]
 grind
theorem Ats.strs{M:Ch->Prop}{H:Hp}:∀{ss:p_ Str},(∀x∈ss,x.length<=sizeLine)->Ats K M H (ss.map D.str)^ss.map V.str
 |[],_=>rfl
 |x::r,h=>#[_,_,rfl,#[rfl,h x Re],Ats.strs λy hy=>h y^TW _ hy]
theorem Ats.strs_le{M:Ch->Prop}{H:Hp}:∀{ss:p_ Str}{vs:p_ V},Ats K M H (ss.map D.str) vs->∀x∈ss,x.length<=sizeLine
 |[],_,_=>λx hx=>by cases hx
 |y::r,vs,h=>λx hx=>by
  let#[v,t,e,h1,h2]:=h
  rcases XV.mp hx with rfl|hx
  .exact h1.2
  .exact Ats.strs_le h2 x hx
def QJ(ds:p_ D)(P:D->Prop):Prop:=∃(xs:p_ D) (ss:p_ Str),ds=[.lst xs]/\QW xs=P3 ss/\ss.length<64/\∀ss':p_ Str,ss'.Perm ss->sortedS ss'=n_->P^.lst^ss'.map .str
theorem Rk:∀{xs:p_ D}{ss:p_ Str},QW xs=P3 ss->xs=ss.map .str
 |[],ss,h=>by cases h;rfl
 |.str b::r,ss,h=>by
  let#[t,e,rfl]:=eq.mp h;rw[eW,←Rk e]
 |.non::r,ss,h=>by cases h
 |.int _::r,ss,h=>by cases h
 |.bl _::r,ss,h=>by cases h
 |.tup _::r,ss,h=>by cases h
 |.lst _::r,ss,h=>by cases h
 |.dic _ _::r,ss,h=>by cases h
 |.fdi _ _::r,ss,h=>by cases h
 |.dit _ _::r,ss,h=>by cases h
 |.ob _::r,ss,h=>by cases h
def Ro:CA K .fr (Ue K) QJ:=by
 intro U M H ds vs P Q dom vM hp w q;let#[xs,ss,rfl,e,h64,w]:=w;let#[v,rfl,hx]:=Cw hp;let#[a,us,rfl,_,ha,hs]:=hx
 have:=Rj e hs
 subst this;have e2:=Rk e;subst e2;exact#[a,ss,rfl,.inl ha,h64,λss' l h1 h2 hl=>q _ _ _ (Am hl) (Bx hl^Ats.strs λx hx=>hs.strs_le x^h1.mem_iff.mp hx)^w _ h1 h2]
def DH(d e:D)(P:D->Prop):Prop:=match d,e with
 |.int i,.int j=>CMul i j/\P^.int (i*j)
 |.str z,.int k=>MulOk z k/\(Txt.mul z k).length<=sizeLine/\P^.str^Txt.mul z k
 |_,_=>False
def YD:R2:=λx y H Q=>(rI CMul λi j=>.int (i*j)) x y H Q\/YB x y H Q
def F7{X:Cx}:OpR X (binaryOp .Mult) YD:=op_mul.or Wz
def J_:Er K .sh YD DH:=λU M H d e x y P Q dom vM hx hy w q=>by
 unfold DH at w
 split at w
 .exact .inl^G9 U M H _ _ x y P Q dom vM hx hy w q
 .rename_i z k
  exact .inr #[z,k,hx.1,hy,w.1,q _ H (.str _) .refl #[rfl,w.2.1] w.2.2]
 grind
end
section
variable {X:Cx}{e:Expr}{es:p_ Expr}{pos:Pos}
def cQ(X:Cx)(ts:p_ eS)(b:p_ D->p_ Slot->(p_ Slot->Prop)->Prop):Prop:=∃g,b9 X ts g/\∀(C:Fm) (M:Ch->Prop) (H:Hp) (n:Sg) (ρ:p_ Slot) (Z:L2.St) (ds:p_ D) (vs:p_ V) (P:p_ Slot->Prop) (Q:L2.St->Hp->Prop),Rel X.K C M H n ρ Z->Ats X.K M H ds vs->b ds ρ P->
 (∀zY zZ,Rel X.K C M H n zY zZ->P zY->Q zZ H)->g vs Z H Q
def FA:p_ D->p_ Slot->(p_ Slot->Prop)->Prop:=λds ρ P=>ds=[]/\P ρ
def BO(b:BW)(bs:p_ D->p_ Slot->(p_ Slot->Prop)->Prop):p_ D->p_ Slot->(p_ Slot->Prop)->Prop:=λds ρ P=>match ds with
 |d::r=>b d ρ λzS=>bs r zS P
 |[]=>False
def GI:cQ X [] FA:=#[_,Q8,λC M H n ρ Z ds vs P Q R h w q=>by
 let#[rfl,w]:=w;exact#[h,q ρ Z R w]]
def Bc{b:BW}{bs:p_ D->p_ Slot->(p_ Slot->Prop)->Prop}(h1:DG X e b)(h2:cQ X es bs)(hs:(assignEach (e::es) X.env).map (·.2)=assign e X.env::(assignEach es X.env).map (·.2):=by rfl):cQ X (e::es)^BO b bs:=by
 let#[g,a1,a2]:=h1;let#[g',b1,b2]:=h2;refine#[_,F2 a1 b1 hs,λC M H n ρ Z ds vs P Q R h w q=>?_];cases ds with
 |nil=>exact w.elim
 |cons d r=>
  let#[v,vr,e,hv,hr]:=h;exact#[v,vr,e,a2 C M H n ρ Z d v _ _ R hv w λzY zZ R' w'=>b2 C M H n _ _ r vr _ _ R' hr w' q]
def Ko(k:Nat)(bs:p_ D->p_ Slot->(p_ Slot->Prop)->Prop):BW:=λd ρ P=>match d with
 |.tup ds=>ds.length=k/\bs ds ρ P
 |_=>False
def Js{bs:p_ D->p_ Slot->(p_ Slot->Prop)->Prop}{k:Nat}{j:Nat}(hc:X.calm=n_)(h:cQ X es bs)(hn:(assignEach es X.env).length=k:=by rfl)(hst:(assignEach es X.env).findIdx? (·.1)=m_:=by rfl):DG X (.Tuple es j pos)^Ko k bs:=by
 let#[g,a1,a2]:=h;refine#[_,Uy hc a1 hn hst,λC M H n ρ Z d v P Q R h w q=>?_];cases d with
 |tup ds=>
  let#[a,vs,rfl,hq,hs]:=h;exact#[a,vs,rfl,hq.sq,by rw[hs.length];exact w.1,a2 C M H n ρ Z ds vs P Q R hs w.2 q]
 |_=>exact w.elim
end
end Dp
namespace L2
mutual
def RV(H:Hp):ii->V->Prop
 |.none,v=>v=.non
 |.bool b,v=>v=.bl b
 |.int i,v=>v=.int i
 |.str x,v=>v=.str x
 |.tuple xs,v=>∃a vs,v=.ref a/\H a=P3^.tup vs/\RVs H xs vs
 |.list xs,v=>∃a vs,v=.ref a/\Rd H a^.lst vs/\RVs H xs vs
 |.dict _,_=>False
def RVs(H:Hp):p_ ii->p_ V->Prop
 |[],vs=>vs=[]
 |x::xs,vs=>∃v r,vs=v::r/\RV H x v/\RVs H xs r
end
section
variable {X:Cx}{zG:p_ (Addr×Obj)}{Z:L2.St}{H:Hp}{s:Shared}
mutual
theorem RV.reads(I:Inv X zG Z H s):∀{d:ii}{v:V}{u:Db},RV H d v->RelV v u->∃as,Reads s.heap u d as
 |.none,v,u,h,r=>by
  cases(show v=.non from h);cases(show u=ej from r);exact#[_,.none]
 |.bool b,v,u,h,r=>by
  cases(show v=.bl b from h);cases(show u=iN b from r);exact#[_,.bool b]
 |.int i,v,u,h,r=>by
  cases(show v=.int i from h);let#[t,rfl]:=r;exact#[_,.int i t]
 |.str x,v,u,h,r=>by
  cases(show v=.str x from h);let#[t,rfl]:=r;exact#[_,.str x t]
 |.tuple xs,v,u,h,r=>by
  let#[a,vs,rfl,hq,hs]:=h;cases r;let#[its,rv,#[o,e,c,n,d],_]:=I.tuple (X:=X) (xs:=vs)^.inl^.inl hq;let#[as,ra]:=RVs.reads I hs rv;exact#[_,.tuple e c d ra]
 |.list xs,v,u,h,r=>by
  let#[a,vs,rfl,hq,hs]:=h;cases r;let#[its,rv,pl,_]:=I.list (X:=X) (xs:=vs)^.inl hq;let#[o,e,c,n,d]:=pl.isList;let#[as,ra]:=RVs.reads I hs rv;exact#[_,.list e c d ra]
 |.dict _,v,u,h,r=>h.elim
theorem RVs.reads(I:Inv X zG Z H s):∀{ds:p_ ii}{vs:p_ V}{us:p_ Db},RVs H ds vs->Vals vs us->∃as,ReadsAll s.heap us ds as
 |[],vs,us,h,r=>by
  cases(show vs=[]from h);cases r;exact#[_,.nil]
 | d::ds,vs,us,h,r=>by
  let#[v,w,rfl,h1,h2]:=h;cases r with
  |cons r1 r2=>
   let#[as,a1]:=RV.reads I h1 r1;let#[bs,a2]:=RVs.reads I h2 r2;exact#[_,.cons a1 a2]
end
end
theorem RV.noDict{H:Hp}:∀(d:ii) (v:V),RV H d v->d.hasDict=o_
 | d,v,h=>by
  have go:∀(n:Nat),(∀(d:ii) (v:V),sizeOf d<=n->RV H d v->d.hasDict=o_)/\∀(ds:p_ ii) (vs:p_ V),sizeOf ds<=n->RVs H ds vs->j5 ds=o_:=by
   intro n
   induction n with
   |zero=>
    refine#[λd v h _=>?_,λds vs h _=>?_]
    .cases d <;>simp at h
    .cases ds <;>simp at h
   | succ n ih=>
    refine#[λd v h hr=>?_,λds vs h hr=>?_]
    .cases d with
     |tuple xs=>
      let#[a,vs,_,_,hs]:=hr;simp only[iJ]
      grind
     |list xs=>
      let#[a,vs,_,_,hs]:=hr;simp only[iJ]
      grind
     |dict kvs=>exact(show False from hr).elim
     |none=>simp only[iJ]
     |bool b=>simp only[iJ]
     |int i=>simp only[iJ]
     |str x=>simp only[iJ]
    .cases ds with
     |nil=>simp only[j5]
     |cons x xs=>
      let#[v,w,_,h1,h2]:=hr;simp only[j5,ih.1 x v (by simp at h;lk) h1,ih.2 xs w (by simp at h;lk) h2,Bool.or_false]
  exact(go^sizeOf d).1 d v (Op _) h
section
variable {X:Cx}
def YA:p_ V->Hp->VK->Prop:=λxs H Q=>∃x d,xs=[x]/\RV H d x/\d.showable=n_/\d.depth<=100/\d.shown.length<=sizeLine/\Q (.str d.shown) H
def Ek{k:Nat}(hr:Room k X.A):CallR X (.builtin "repr") YA:=by
 intro zG s Z H xs us Q I r h;let#[x,d,rfl,hx,hs,hd,hz,q]:=h;let#[u,rfl,rx]:=vals1 r;have hu:=hr.un;cases d with
 |none=>
  cases(show x=.non from hx);cases(show u=ej from rx);exact PySem.P.repr_of_none #[.str _,H,I.tok _,#[_,rfl],q]
 |bool b=>
  cases(show x=.bl b from hx);cases(show u=iN b from rx);refine PySem.P.repr_of_bool #[.str _,H,I.tok _,#[_,rfl],?_]
  assumption
 |int i=>
  cases(show x=.int i from hx);let#[t,rfl]:=rx;refine PySem.P.repr_of_int (by simpa [PyData.showable]using hs) #[.str _,H,I.tok _,#[_,rfl],q]
 |str z=>
  cases(show x=.str z from hx);let#[t,rfl]:=rx;exact PySem.P.repr_of_str #[.str _,H,I.tok _,#[_,rfl],q] hz
 |tuple ds=>
  let#[as,ra]:=RV.reads I hx rx;let#[a,vs,rfl,_]:=id hx;cases rx;refine repr_of_reads' ra hs (PyData.noDict_hsm^RV.noDict _ _ hx) hr.gd (by lk) (λ_ _ e=>e) (λh' u tk hk=>#[.str _,H,I.kept (t':=tk) hk,#[_,rfl],q]) hz
 |list ds=>
  let#[as,ra]:=RV.reads I hx rx;let#[a,vs,rfl,_]:=id hx;cases rx;refine repr_of_reads' ra hs (PyData.noDict_hsm^RV.noDict _ _ hx) hr.gd (by lk) (λ_ _ e=>e) (λh' u tk hk=>#[.str _,H,I.kept (t':=tk) hk,#[_,rfl],q]) hz
 |dict _=>exact(show False from hx).elim
def bC:R2:=λx y H Q=>∃d e,RV H d x/\RV H e y/\d.canLay0=n_/\e.canLay0=n_/\d.depth<=100/\Q (.bl^iS d e) H
def MS{k:Nat}(hr:Room k X.A):OpR X (compareOp .Eq) bC:=by
 intro zG s Z H x y v u Q I rx ry h;let#[d,e,hx,hy,h1,h2,hd,q]:=h;let#[as,ra]:=RV.reads I hx rx;let#[bs,rb]:=RV.reads I hy ry;have hu:=hr.un;have hm:min _ e.depth<=d.depth:=Nat.min_le_left _ _;exact PySem.SeqAt.compareEq_reads ra rb h1 h2 (by lk) #[.bl _,H,I,rfl,q]
def Y9(neg:Bool):R2:=λx y H Q=>∃d es,RV H d x/\(RV H (.list es) y\/RV H (.tuple es) y)/\d.canLay0=n_/\g0 es=n_/\d.depth<=100/\Q (.bl (if neg then !(es.any λy=>iS y d)else es.any λy=>iS y d)) H
def U_{k:Nat}(hr:Room k X.A):OpR X (compareOp .In)^Y9 o_:=by
 intro zG s Z H x y v u Q I rx ry h;let#[d,es,hx,hy,h1,h2,hd,q]:=h;let#[as,ra]:=RV.reads I hx rx;have hu:=hr.un;have hm:min (gH es) _<=d.depth:=kG _ _
 rcases hy with hy|hy
 .let#[bs,rb]:=RV.reads I hy ry
  exact PySem.SeqAt.in_list_reads rb ra h2 h1 (by lk) #[.bl _,H,I,rfl,q]
 .let#[bs,rb]:=RV.reads I hy ry
  exact PySem.SeqAt.in_tuple_reads rb ra h2 h1 (by lk) #[.bl _,H,I,rfl,q]
def C9{k:Nat}(hr:Room k X.A):OpR X (compareOp .NotIn)^Y9 n_:=by
 intro zG s Z H x y v u Q I rx ry h;let#[d,es,hx,hy,h1,h2,hd,q]:=h;let#[as,ra]:=RV.reads I hx rx;have hu:=hr.un;have hm:min (gH es) _<=d.depth:=kG _ _
 rcases hy with hy|hy
 .let#[bs,rb]:=RV.reads I hy ry
  exact PySem.SeqAt.notIn_list_reads rb ra h2 h1 (by lk) #[.bl _,H,I,rfl,q]
 .let#[bs,rb]:=RV.reads I hy ry
  exact PySem.SeqAt.notIn_tuple_reads rb ra h2 h1 (by lk) #[.bl _,H,I,rfl,q]
end
end L2
namespace Dp
open L2
mutual
def toPy:D->ii
 |.non=>.none
 |.bl b=>.bool b
 |.int i=>.int i
 |.str x=>.str x
 |.tup ds=>.tuple^BJ ds
 |.lst ds=>.list^BJ ds
 |.dic _ _=>.dict []
 |.fdi _ _=>.dict []
 |.dit _ _=>.dict []
 |.ob _=>.dict []
def BJ:p_ D->p_ ii
 |[]=>[]
 |d::ds=>toPy d::BJ ds
end
mutual
def E7:D->Bool
 |.tup ds=>C2 ds
 |.lst ds=>C2 ds
 |.dic _ _=>o_
 |.fdi _ _=>o_
 |.dit _ _=>o_
 |.ob _=>o_
 |_=>n_
def C2:p_ D->Bool
 |[]=>n_
 |d::ds=>E7 d&&C2 ds
end
def EZ(ds:p_ D):BJ ds=ds.map toPy:=by
 induction ds with
 |nil=>rfl
 |cons d r ih=>rw[BJ,ih,eW]
section
variable {K:Frag}{M:Addr->Prop}{H:Hp}
mutual
theorem At.rv:∀{d:D}{v:V},At K M H d v->E7 d=n_->RV H (toPy d) v
 |.non,v,h,_=>h
 |.bl b,v,h,_=>h
 |.int i,v,h,_=>h
 |.str x,v,h,_=>h.1
 |.tup ds,v,h,n=>by
  let#[a,vs,e,hn,hs]:=h;exact#[a,vs,e,hn,Ats.rv hs n]
 |.lst ds,v,h,n=>by
  let#[a,vs,e,hn,hs]:=h;exact#[a,vs,e,.inl hn.2,Ats.rv hs n]
 |.dic ks ds,v,h,n=>by cases n
 |.fdi ks ds,v,h,n=>by cases n
 |.dit ks ds,v,h,n=>by cases n
 |.ob _,v,h,n=>by cases n
theorem Ats.rv:∀{ds:p_ D}{vs:p_ V},Ats K M H ds vs->C2 ds=n_->RVs H (BJ ds) vs
 |[],vs,h,_=>h
 |d::ds,vs,h,n=>by
  let#[v,r,e,h1,h2]:=h;have n':(E7 d&&C2 ds)=n_:=n;rw[eh]at n';exact#[v,r,e,At.rv h1 n'.1,Ats.rv h2 n'.2]
end
def AtT.rv{U:Ch->Prop}{d:D}{v:V}(h:AtT K U M H d v)(n:E7 d=n_):RV H (toPy d) v:=by
 cases d with
 |lst ds=>
  let#[a,vs,e,_,hq,hs]:=h;exact#[a,vs,e,hq,Ats.rv hs n]
 |dic ks ds=>cases n
 |fdi ks ds=>cases n
 |dit ks ds=>cases n
 |ob a=>cases n
 |non=>exact h
 |bl b=>exact h
 |int i=>exact h
 |str x=>exact h.1
 |tup ds=>exact At.rv h n
def Qv(d:D):Prop:=E7 d=n_/\(toPy d).showable=n_/\(toPy d).depth<=100/\(toPy d).shown.length<=sizeLine
def Y2(d:D):Str:=(toPy d).shown
def OV(ds:p_ D)(P:D->Prop):Prop:=∃d,ds=[d]/\Qv d/\P^.str^Y2 d
def NC:CA K .sh YA OV:=by
 intro U M H ds vs P Q dom vM hp w q;let#[d,rfl,hd,w]:=w;let#[v,rfl,hx]:=Cw hp;exact#[v,_,rfl,hx.rv hd.1,hd.2.1,hd.2.2.1,hd.2.2.2,q _ H (.str _) .refl #[rfl,hd.2.2.2] w]
def Ci(d:D):Prop:=E7 d=n_/\(toPy d).canLay0=n_/\(toPy d).depth<=100
def Eo(d e:D):Bool:=iS (toPy d)^toPy e
def Vn(d e:D)(P:D->Prop):Prop:=Ci d/\Ci e/\P^.bl^Eo d e
def Rp:Er K .sh bC Vn:=λU M H d e x y P Q dom vM hx hy w q=>
 #[_,_,hx.rv w.1.1,hy.rv w.2.1.1,w.1.2.1,w.2.1.2.1,w.1.2.2,q _ H (.bl _) .refl rfl w.2.2]
def Iw:D->q_^p_ D
 |.lst ds=>P3 ds
 |.tup ds=>P3 ds
 |_=>m_
def Mq(neg:Bool)(d e:D)(P:D->Prop):Prop:=Ci d/\Ci e/\∃es,Iw e=P3 es/\P^.bl (if neg then !(es.any λy=>Eo y d)else es.any λy=>Eo y d)
def KA{neg:Bool}:Er K .sh (Y9 neg)^Mq neg:=λU M H d e x y P Q dom vM hx hy w q=>by
 let#[h1,h2,es,he,w]:=w;have any_eq:∀es:p_ D,(es.map _).any (λy=>iS y _)=es.any λy=>Eo y d:=λes=>by rw[List.any_map];rfl
 cases e with
 |lst ds=>
  cases he;refine#[_,_,hx.rv h1.1,.inl^hy.rv h2.1,h1.2.1,by simpa [toPy,PyData.canLay0]using h2.2.1,h1.2.2,?_];rw[EZ,any_eq];exact q _ H (.bl _) .refl rfl w
 |tup ds=>
  cases he;refine#[_,_,hx.rv h1.1,.inr^hy.rv h2.1,h1.2.1,by simpa [toPy,PyData.canLay0]using h2.2.1,h1.2.2,?_];rw[EZ,any_eq];exact q _ H (.bl _) .refl rfl w
 |_=>cases he
def bZ(d e:D)(P:D->Prop):Prop:=Ci d/\Ci e/\P^.bl (!Eo d e)
end
end Dp
namespace L2
def aw:R2:=λx y H Q=>∃d e,RV H d x/\RV H e y/\d.canLay0=n_/\e.canLay0=n_/\d.depth<=100/\Q (.bl (!PyData.eqv d e)) H
def ZP{X:Cx}{k:Nat}(hr:Room k X.A):OpR X (compareOp .NotEq) aw:=by
 intro zG s Z H x y v u Q I rx ry h;let#[d,e,hx,hy,h1,h2,hd,q]:=h;let#[as,ra]:=RV.reads I hx rx;let#[bs,rb]:=RV.reads I hy ry;have hu:=hr.un;have hm:min _ e.depth<=d.depth:=Nat.min_le_left _ _;exact PySem.SeqAt.compareNe_reads ra rb h1 h2 (by lk) #[.bl _,H,I,rfl,q]
end L2
namespace Dp
open L2
def bn{K:Frag}:Er K .sh aw bZ:=λU M H d e x y P Q dom vM hx hy w q=>
 #[_,_,hx.rv w.1.1,hy.rv w.2.1.1,w.1.2.1,w.2.1.2.1,w.1.2.2,q _ H (.bl _) .refl rfl w.2.2]
end Dp
namespace L2
def kOf:Key->V
 |.inl i=>.int i
 |.inr x=>.str x
def cH:Key->Key->Bool
 |.inl i,.inl j=>decide (i<j)
 |.inr x,.inr y=>decide (x.cps.toList<y.cps.toList)
 |_,_=>o_
def K_:Key->Key->Bool
 |.inl _,.inl _=>n_
 |.inr _,.inr _=>n_
 |_,_=>o_
def Gs:p_ Key->p_ Key->Bool
 |[],[]=>o_
 |[],_::_=>n_
 |_::_,[]=>o_
 |x::xs,y::ys=>if x=y then Gs xs ys else cH x y
def Bm:p_ Key->p_ Key->Bool
 |x::xs,y::ys=>K_ x y&&Bm xs ys
 |_,_=>n_
def Vq{A:e_}{s:Go}{x y:Key}{u v:Db}(rx:RelV (kOf x) u)(ry:RelV (kOf y) v):∃e,SeqAt.EqAt A s u v e/\(e=n_↔x=y):=by
 cases x with
 |inl i=>
  cases y with
  |inl j=>exact#[_,Ms rx ry rfl rfl,by simp[kOf,bg]]
  |inr z=>exact#[_,Ms rx ry rfl rfl,by simp[kOf,bg]]
 |inr z=>
  cases y with
  |inl j=>exact#[_,Ms rx ry rfl rfl,by simp[kOf,bg]]
  |inr z'=>exact#[_,Ms rx ry rfl rfl,by simp[kOf,bg]]
def UX(A:e_)(s:Go){x y:Key}{u v:Db}(rx:RelV (kOf x) u)(ry:RelV (kOf y) v)(hs:K_ x y=n_)(prog:eT)(w:eY)(E:Db->Go->Prop)(Q:Db->Go->Prop)(h:Q (.bool^cH x y) s):
  wpAny (model prog w) A (richCompare .Lt u v) Q E s:=by
 cases x with
 | inl i=>
  cases y with
  |inl j=>
   let#[t,rfl]:=rx;let#[t',rfl]:=ry;exact kX h
  |inr z=>cases hs
 | inr z=>
  cases y with
  |inl j=>cases hs
  |inr z'=>
   let#[t,rfl]:=rx;let#[t',rfl]:=ry;exact PySem.P.lt_str h
section
open PySem.SeqAt
open PySem.AutoSeq1 (wpAny_loadPart')
open PySem.MeetsSeq PySem.MeetsSeq2 PySem.MeetsSeq3
def Es(l b:Ch)(items items2:Array Db)(n n2:Nat)(dd dd2:q_ Ch)(sl sl2:Array^q_ Db)(ns ms:p_ Key)(hi:Vals (ns.map kOf) items.toList)(hj:Vals (ms.map kOf) items2.toList)(hsame:Bm ns ms=n_):
  Meets (gs.«tuple.__lt__» #[[.ref l,.ref b],[]])
   (λ_ R s=>s.heap.get? l=P3 {cls:=.type "tuple",dict:=dd,data:=.seq items n,slots:=sl}/\s.heap.get? b=P3 {cls:=.type "tuple",dict:=dd2,data:=.seq items2 n2,slots:=sl2} /\
    R (.ok^.ret^.bool^Gs ns ms) s):=
 .of_wp λprog w A R s h=>by
  let#[hp,g,d,tk,os]:=s;let#[hl,hb,h]:=h
  have f2:=AutoSeq1.sub_tuple_tuple;have z1:items.size=ns.length:=by have:=hi.length;rw[Ev]at this;rw[this];simp
  have z2:items2.size=ms.length:=by have:=hj.length;rw[Ev]at this;rw[this];simp
  wp_walk using h9 hl,h9 hb,wpAny_forIn_list _ (λrest b s'=>b.1=m_/\s'=#[hp,g,d,tk,os]/\∃(vs ws:p_ Db) (ns' ms':p_ Key),rest=vs.zip ws /\
   Vals (ns'.map kOf) vs/\Vals (ms'.map kOf) ws/\Bm ns' ms'=n_/\ns'.length+items2.size=ms'.length+items.size/\R (.ok^.ret^.bool^Gs ns' ms') #[hp,g,d,tk,os]) _
  case turn=>
   rintro⟨y,x⟩ rest b s' ⟨hb',rfl,vs,ws,ns',ms',hz,hvi,hwi,hsm,hlen,hR⟩;cases ns' with
   |nil=>cases hvi;rw[List.zip_nil_left]at hz;cases hz
   | cons a ns'=>
    cases ms' with
    |nil=>cases hwi;rw[List.zip_nil_right]at hz;cases hz
    | cons c ms'=>
     rw[eW]at hvi hwi;cases hvi with
     | cons ra hvi'=>
      cases hwi with
      | cons rc hwi'=>
       rw[gm]at hz;injection hz with hyx hrest
       injection hyx with hy hx
       subst hy hx;have hR':R (.ok^.ret^.bool (if a=c then Gs ns' ms' else cH a c)) #[hp,g,d,tk,os]:=hR;have hsm':(K_ a c&&Bm ns' ms')=n_:=hsm;rw[eh]at hsm';simp only[eo]at hlen;let#[e,he,hiff]:=Vq (A:=A.in1) (s:=#[hp,g,d,tk,os]) ra rc;refine Cn^he prog w _ _ ?_;cases e with
       |true=>
        rw[if_pos (hiff.mp rfl)]at hR'
        wp_walk
        exact#[rfl,rfl,_,_,_,_,hrest,hvi',hwi',hsm'.2,by lk,hR']
       |false=>
        rw[if_neg λq=>absurd (hiff.mpr q) eO]at hR';have hri:=UX A.in1 #[hp,g,d,tk,os] ra rc hsm'.1 prog w
        wp_walk using hri
        exact#[_,rfl,by simpa using hR']
  case fin=>
   rintro⟨b1,b2⟩ s' ⟨hb',rfl,vs,ws,ns',ms',hz,hvi,hwi,hsm,hlen,hR⟩;simp only at hb';subst hb'
   have hv:Gs ns' ms'=decide (items.size<items2.size):=by
    cases ns' with
    | nil=>
     cases ms' with
     |nil=>
      simp only[f6]at hlen;exact(decide_eq_false^by lk).symm
     |cons c u=>
      simp only[f6,eo]at hlen;exact(decide_eq_true^by lk).symm
    | cons a t=>
     cases ms' with
     |nil=>
      simp only[f6,eo]at hlen;exact(decide_eq_false^by lk).symm
     |cons c u=>
      rw[eW]at hvi hwi;cases hvi;cases hwi;rw[gm]at hz;cases hz
   rw[hv]at hR
   wp_walk
   exact#[_,rfl,by simpa [Builtin.Tuple.tupleCompareSizes]using hR]
  case h=>
   exact#[rfl,rfl,items.toList,items2.toList,ns,ms,rfl,hi,hj,hsame,by lk,h]
end
section
variable {X:Cx}
def ay(K:Frag):R2:=λx y H Q=>∃a b ns ms,x=.ref a/\y=.ref b/\SqT K H a^ns.map kOf/\SqT K H b^ms.map kOf/\Bm ns ms=n_/\Q (.bl^Gs ns ms) H
def ZR(hu:X.A.units<cLine):OpR X (compareOp .Lt)^ay X.K:=by
 intro zG s Z H x y v u Q I rx ry h;let#[a,b,ns,ms,rfl,rfl,ha,hb,hsm,q]:=h;cases rx;cases ry;let#[its,r1,p1,_]:=I.tuple ha;let#[its2,r2,p2,_]:=I.tuple hb;let#[#[cls,dd,data,sl],ho,hc,n,hd]:=id p1;let#[#[cls2,dd2,data2,sl2],ho2,hc2,n2,hd2]:=id p2;subst hc hd hc2 hd2
 exact richCompare_meets_room (op:=.Lt) #[_,ho,rfl] #[_,ho2,rfl] PySem.F.slot_tuple_lt PySem.F.entry_tuple_lt (PySem.F.args_tuple_lt_2 _ _) (Es a b _ _ n n2 dd _ sl _ ns ms r1 r2 hsm)
  #[ho,ho2,#[(λx=>nomatch x),#[.bl _,H,I,rfl,q]]] hu
end
def ItAt(κ:Bool)(h:eK)(it l:Ch)(k:Nat):Prop:=match κ with
 |true=>h.IsListIter it l k
 |false=>h.IsTupleIter it l k
def SqAt(κ:Bool)(h:eK)(l:Ch)(items:Array Db):Prop:=match κ with
 |true=>h.IsList l items
 |false=>h.IsTuple l items
section
variable {κ:Bool}{h h':Heap}{it l b:Addr}{k:Nat}{items:Array Value}
def ItAt.mv(x:ItAt κ h it l k)(e:∀o,h.get? it=P3 o->h'.get? it=P3 o):ItAt κ h' it l k:=by
 cases κ with
 |true=>let#[o,ho,r]:=x;exact#[o,e o ho,r]
 |false=>let#[o,ho,r]:=x;exact#[o,e o ho,r]
def SqAt.mv(x:SqAt κ h l items)(e:∀o,h.get? l=P3 o->h'.get? l=P3 o):SqAt κ h' l items:=by
 cases κ with
 |true=>let#[o,ho,r]:=x;exact#[o,e o ho,r]
 |false=>let#[o,ho,r]:=x;exact#[o,e o ho,r]
def ItAt.eb(x:ItAt κ h it l k)(hs:kY b h h')(n:it≠b):ItAt κ h' it l k:=x.mv λo e=>hs it o n e
def SqAt.eb(x:SqAt κ h l items)(hs:kY b h h')(n:l≠b):SqAt κ h' l items:=x.mv λo e=>hs l o n e
def ItAt.lies(x:ItAt κ h it l k):∃o,h.get? it=P3 o/\∀v,o.data≠.cell v:=by
 cases κ with
 |true=>let#[o,ho,_,d]:=x;simp_all
 |false=>let#[o,ho,_,d]:=x;simp_all
def SqAt.lies(x:SqAt κ h l items):∃o,h.get? l=P3 o:=by
 cases κ with
 |true=>let#[o,ho,_]:=x;grind
 |false=>let#[o,ho,_]:=x;grind
end
section
variable {prog:Program}{w:World}{A:Around}{E:Value->Shared->Prop}{s:Shared}
def G5{κ:Bool}{it l:Ch}{i:Nat}{items:Array Db}{x:Db}{Q:Db->Go->Prop}(hit:ItAt κ s.heap it l i)(hl:SqAt κ s.heap l items)(hx:items[i]?=P3 x)
  (hQ:∀h',ItAt κ h' it l (i+1)->gj it s.heap h'->Q x {s with heap:=h'}):wpAny (model prog w) A (fh^.ref it) Q E s:=by
 cases κ with
 |true=>exact wpAny_nextOf_list_item hit hl hx hQ
 |false=>
  have hit':s.heap.IsTupleIter it l i:=hit;have hl':s.heap.IsTuple l items:=hl;let#[o,ho,hc,hd]:=id hit';let#[ol,hol,_,nl,hdl]:=hl'
  unfold fh;refine Cn^fS (name:=fX "__next__") hit'.typeIs gv^ft gv hit'.typeIs jm ?_^jf _;show wpAny (model prog w) _ (field (.ref it) 0 >>=_) _ _ s;refine Cn (fq ho hd (x:=.ref l) rfl ?_)
  show wpAny (model prog w) _ (if(eJ l==ej)=n_ then _ else _) _ _ s;rw[if_neg (show ¬((eJ l==ej)=n_)from eO)]
  show wpAny (model prog w) _ (field (.ref it) 1 >>=_) _ _ s;refine Cn (fq ho hd (x:=.int i 0) rfl ?_)
  show wpAny (model prog w) _ (seqItems?^.ref l >>=_) _ _ s;refine Cn^fw hol hdl ?_;simp only[gz,hx]
  refine Cn^jg ho hd (by simp)^On #[x,rfl,On^hQ _ (show Heap.IsTupleIter _ it l (i+1)from ?_) (ge ..)];exact#[_,fm _ ho^Obj.isFreed_of_fields^ij hd _,(Obj.cls_mapFields ..).trans hc,by(rw[ij hd];simp[rawInt])]
def OY{κ:Bool}{it l:Ch}{i:Nat}{items:Array Db}{Q:Db->Go->Prop}(hh:A.handled=m_)(hit:ItAt κ s.heap it l i)(hl:SqAt κ s.heap l items)(hx:items[i]?=m_)
  (hE:∀h' e,kY it s.heap h'->(∃o,h'.get? e=P3 o/\o.cls=.type "StopIteration")->E (.ref e) {s with heap:=h'}):wpAny (model prog w) A (fh^.ref it) Q E s:=by
 cases κ with
 |true=>exact wpAny_nextOf_list_end hh hit hl hx hE
 |false=>
  have hit':=hit;have hl':s.heap.IsTuple l items:=hl;let#[o,ho,hc,hd]:=id hit';let#[ol,hol,_,nl,hdl]:=hl'
  refine Cn^fS hit'.typeIs gv^ft gv hit'.typeIs jm ?_^jf _;show wpAny (model prog w) _ (field (.ref it) 0 >>=_) _ _ s;refine Cn (fq ho hd (x:=.ref l) rfl ?_)
  refine Cn (fq ho hd (x:=.int i 0) rfl ?_);refine Cn^fw hol hdl ?_;simp only[gz,hx]
  refine Cn^iq^Cn^jg ho hd (by simp) ?_;refine Cn ?_;refine Cn (m:=firstArgMember _ _)^kZ (a:=ej) (by first|rfl|omega) ?_;refine fi ?_^by size_fits
  simp only[raiseNew];refine Cn^wpAny_handled ?_;first|grind|rw[hh]
  refine Cn^On^wpAny_throw ?_;exact hE _ _ (((ge ..).extBut.push _).push _) #[_,TM _ rfl,rfl]
structure aJ (z TI TO i1 i2 l1 l2:Ch):Prop where
 TIz:TI≠z
 TOz:TO≠z
 i1z:i1≠z
 i2z:i2≠z
 TOi1:TO≠i1
 TOi2:TO≠i2
 i12:i1≠i2
 l1z:l1≠z
 l1TO:l1≠TO
 l1i1:l1≠i1
 l1i2:l1≠i2
 l2z:l2≠z
 l2TO:l2≠TO
 l2i1:l2≠i1
 l2i2:l2≠i2
def Tr{zX zW:Bool}{z TI TO i1 i2 l1 l2:Ch}{k:Nat}{xs ys:Array Db}{x y a b:Db}{Q:Db->Go->Prop}(D:aJ z TI TO i1 i2 l1 l2)
  (hz:iF s.heap z TI TO .none) (hTI:gA s.heap TI (.ref i1)^.ref i2) (hTO:gA s.heap TO a b) (h1:ItAt zX s.heap i1 l1 k) (h2:ItAt zW s.heap i2 l2 k) (hl1:SqAt zX s.heap l1 xs) (hl2:SqAt zW s.heap l2 ys) (hx:xs[k]?=P3 x) (hy:ys[k]?=P3 y)
  (hQ:∀h',iF h' z TI TO^rawInt s.heap.objs.size->gA h' TO x y->ItAt zX h' i1 l1 (k+1)->ItAt zW h' i2 l2 (k+1)->gA h' s.heap.objs.size x y->h'.objs.size=s.heap.objs.size+1->(∀c o,c≠z->c≠TO->c≠i1->c≠i2->s.heap.get? c=P3 o->h'.get? c=P3 o)->Q (.ref s.heap.objs.size) {s with heap:=h'}):
  wpAny (model prog w) A (gs.«zip.__next__» #[[.ref z],[]]) (λfin s'=>∃v,fin=.done^.ret v/\Q v s') E s:=by
 show wpAny (model prog w) A (field (.ref z) 2 >>=_) _ _ _;refine Cn (fq hz rfl (x:=.bool o_) rfl ?_)
 show wpAny (model prog w) A (field (.ref z) 3 >>=_) _ _ _;refine Cn (fq hz rfl (x:=.ref TI) rfl ?_);refine Cn (fw hTI rfl ?_)
 show wpAny (model prog w) A (gC^.ref z >>=_) _ _ _;refine Cn ?_;unfold gC
 refine Cn (fq hz rfl (x:=.none) rfl (On ?_));simp only[if_true];refine Cn^iq ?_;refine Cn (fq hz rfl (x:=.ref TO) rfl ?_)
 refine Cn^gn hz (by simp) λha hza hsa=>?_;replace hza:iF ha z TI TO .ellipsis:=hza;refine Cn ?_;simp only[List.zipIdx_cons,List.zipIdx_nil,jS,kh]
 refine Cn^Cn^ju ?_;show wpAny (model prog w) _ (fh^.ref i1 >>=_) _ _ _
 refine Cn^G5 (h1.eb hsa.extBut D.i1z) (hl1.eb hsa.extBut D.l1z) hx λhb h1b hsb=>On ?_;have hTOb:gA hb TO a b:=hsb.extBut _ _ D.TOi1^hsa.extBut _ _ D.TOz hTO;refine Cn (fw hTOb rfl ?_);refine Cn (jU hTOb λhc hTOc hsc=>?_)
 replace hTOc:gA hc TO x b:=hTOc;refine Cn^gi^On ?_;refine Cn^Cn^ju ?_;show wpAny (model prog w) _ (fh^.ref i2 >>=_) _ _ _
 refine Cn^G5 (((h2.eb hsa.extBut D.i2z).eb hsb.extBut D.i12.symm).eb hsc.extBut D.TOi2.symm) (((hl2.eb hsa.extBut D.l2z).eb hsb.extBut D.l2i1).eb hsc.extBut D.l2TO) hy λhd h2d hsd=>On ?_;have hTOd:gA hd TO x b:=hsd.extBut _ _ D.TOi2 hTOc;refine Cn (fw hTOd rfl ?_);refine Cn (jU hTOd λhe hTOe hse=>?_)
 replace hTOe:gA he TO x y:=hTOe;refine Cn^gi^On^On ?_;refine Cn (fw hTOe rfl ?_);refine Cn^wpAny_newTuple ?_
 have hsz:he.objs.size=s.heap.objs.size:=by rw[hse.1,hsd.1,hsc.1,hsb.1,hsa.1]
 have hze:iF he z TI TO .ellipsis:=hse.extBut _ _ D.TOz.symm^hsd.extBut _ _ D.i2z.symm^hsc.extBut _ _ D.TOz.symm^hsb.extBut _ _ D.i1z.symm hza;have hke:∀c o,c≠z->c≠TO->c≠i1->c≠i2->s.heap.get? c=P3 o->he.get? c=P3 o:=λc o c1 c2 c3 c4 e=>hse.extBut _ _ c2^hsd.extBut _ _ c4^hsc.extBut _ _ c2^hsb.extBut _ _ c3^hsa.extBut _ _ c1 e;have h1e:ItAt zX he i1 l1 (k+1):=((h1b.eb hsc.extBut D.TOi1.symm).eb hsd.extBut D.i12).eb hse.extBut D.TOi1.symm;have h2e:ItAt zW he i2 l2 (k+1):=h2d.eb hse.extBut D.TOi2.symm;have hzlt:z<he.objs.size:=Tk hze;show wpAny (model prog w) _ (ik (.ref z)^.ref he.objs.size >>=_) _ _ _;refine Cn ?_;unfold ik
 have hzf:iF (he.push {cls:=.type "tuple",data:=.seq #[ x,y]}) z TI TO .ellipsis:=FM _ hze;refine Cn^gn hzf (by simp) λhg hzg hsg=>?_;replace hzg:iF hg z TI TO^rawInt he.objs.size:=hzg;refine gn hzg (by simp) λhi hzi hsi=>?_;replace hzi:iF hi z TI TO^rawInt he.objs.size:=hzi;have up:∀c o,c≠z->he.get? c=P3 o->hi.get? c=P3 o:=λc o c1 e=>hsi.extBut _ _ c1^hsg.extBut _ _ c1^FM _ e;have hTi:gA hi he.objs.size x y:=hsi.extBut _ _ (jP hzlt)^hsg.extBut _ _ (jP hzlt) (TM _ rfl);have hzs:hi.objs.size=he.objs.size+1:=by rw[hsi.1,hsg.1,fW]
 rw[hsz]at hzi hTi hzs;refine On #[_,rfl,?_];show Q (.ref he.objs.size) _;rw[hsz]
 exact hQ hi hzi (up _ _ D.TOz hTOe) (h1e.mv λo e=>up _ o D.i1z e) (h2e.mv λo e=>up _ o D.i2z e) hTi hzs λc o c1 c2 c3 c4 e=>up c o c1^hke c o c1 c2 c3 c4 e
def WM{zX zW:Bool}{z TI TO i1 i2 l1 l2:Ch}{k:Nat}{xs ys:Array Db}{a b:Db}{Q:Fin->Go->Prop}(hh:A.handled=m_)(D:aJ z TI TO i1 i2 l1 l2)
  (hz:iF s.heap z TI TO .none) (hTI:gA s.heap TI (.ref i1)^.ref i2) (hTO:gA s.heap TO a b) (h1:ItAt zX s.heap i1 l1 k) (h2:ItAt zW s.heap i2 l2 k) (hl1:SqAt zX s.heap l1 xs) (hl2:SqAt zW s.heap l2 ys) (hend:xs[k]?=m_\/ys[k]?=m_)
  (hE:∀h' e,(∀c o,c≠z->c≠TO->c≠i1->c≠i2->s.heap.get? c=P3 o->h'.get? c=P3 o)->(∃o,h'.get? e=P3 o/\o.cls=.type "StopIteration")->E (.ref e) {s with heap:=h'}):
  wpAny (model prog w) A (gs.«zip.__next__» #[[.ref z],[]]) Q E s:=by
 show wpAny (model prog w) A (field (.ref z) 2 >>=_) _ _ _;refine Cn (fq hz rfl (x:=.bool o_) rfl ?_)
 show wpAny (model prog w) A (field (.ref z) 3 >>=_) _ _ _;refine Cn (fq hz rfl (x:=.ref TI) rfl ?_);refine Cn (fw hTI rfl ?_)
 show wpAny (model prog w) A (gC^.ref z >>=_) _ _ _;refine Cn ?_;unfold gC
 refine Cn (fq hz rfl (x:=.none) rfl (On ?_));simp only[if_true];refine Cn^iq ?_;refine Cn (fq hz rfl (x:=.ref TO) rfl ?_)
 refine Cn^gn hz (by simp) λha hza hsa=>?_;replace hza:iF ha z TI TO .ellipsis:=hza;refine Cn ?_;simp only[List.zipIdx_cons,List.zipIdx_nil,jS,kh]
 refine Cn^Cn^ju ?_;show wpAny (model prog w) _ (fh^.ref i1 >>=_) _ _ _
 cases hx:xs[k]? with
 |none=>
  refine Cn^OY hh (h1.eb hsa.extBut D.i1z) (hl1.eb hsa.extBut D.l1z) hx λhb e hsb he=>?_;let#[oe,hoe,hce]:=he;have hzb:iF hb z TI TO .ellipsis:=hsb _ _ D.i1z.symm hza;have hez:e≠z:=λx=>by subst x;rw[hzb]at hoe;cases hoe;simp at hce
  exact gn hzb (by simp) λhc _ hsc=>hE hc e (λc o c1 _ c3 _ x=>hsc.extBut _ _ c1^hsb _ _ c3^hsa.extBut _ _ c1 x) #[oe,hsc.extBut _ _ hez hoe,hce]
 | some x=>
  have hy:ys[k]?=m_:=by
   rcases hend with h|h
   .rw[hx]at h;cases h
   .exact h
  refine Cn^G5 (h1.eb hsa.extBut D.i1z) (hl1.eb hsa.extBut D.l1z) hx λhb h1b hsb=>On ?_;have hTOb:gA hb TO a b:=hsb.extBut _ _ D.TOi1^hsa.extBut _ _ D.TOz hTO;refine Cn (fw hTOb rfl ?_);refine Cn^jU hTOb λhc hTOc hsc=>?_
  refine Cn^gi^On ?_;refine Cn^Cn^ju ?_;show wpAny (model prog w) _ (fh^.ref i2 >>=_) _ _ _
  refine Cn^OY hh (((h2.eb hsa.extBut D.i2z).eb hsb.extBut D.i12.symm).eb hsc.extBut D.TOi2.symm) (((hl2.eb hsa.extBut D.l2z).eb hsb.extBut D.l2i1).eb hsc.extBut D.l2TO) hy λhd e hsd he=>?_;let#[oe,hoe,hce]:=he;have hzd:iF hd z TI TO .ellipsis:=hsd _ _ D.i2z.symm^hsc.extBut _ _ D.TOz.symm^hsb.extBut _ _ D.i1z.symm hza;have hez:e≠z:=λx=>by subst x;rw[hzd]at hoe;cases hoe;simp at hce
  exact gn hzd (by simp) λhf _ hsf=>hE hf e (λc o c1 c2 c3 c4 x=>hsf.extBut _ _ c1^hsd _ _ c4^hsc.extBut _ _ c2^hsb.extBut _ _ c3^hsa.extBut _ _ c1 x) #[oe,hsf.extBut _ _ hez hoe,hce]
end
def Zg(κ:Bool):String:=match κ with
 |true=>"list_iterator"
 |false=>"tuple_iterator"
def VT(κ:Bool)(l:Ch):Obj:={cls:=.type^Zg κ,data:=.fields #[ .ref l,.int 0 0]}
abbrev zA(zX:Bool)(h:eK)(l1:Ch):eK:=h.push^VT zX l1
abbrev zB(zX zW:Bool)(h:eK)(l1 l2:Ch):eK:=(zA zX h l1).push^VT zW l2
abbrev zC(zX zW:Bool)(h:eK)(l1 l2:Ch):eK:=(zB zX zW h l1 l2).push {cls:=.type "tuple",data:=.seq #[ .ref h.objs.size,.ref (zA zX h l1).objs.size]}
abbrev zD(zX zW:Bool)(h:eK)(l1 l2:Ch):eK:=(zC zX zW h l1 l2).push {cls:=.type "tuple",data:=.seq #[ .none,.none]}
abbrev zE(zX zW:Bool)(h:eK)(l1 l2:Ch):eK:=(zD zX zW h l1 l2).push {cls:=.type "zip",data:=.fields #[ .none,.bool o_,.bool o_,.ref (zB zX zW h l1 l2).objs.size,.ref (zC zX zW h l1 l2).objs.size]}
def W8(zX zW:Bool)(l1 l2:Ch)(xs ys:Array Db):Meets (gs.«zip.__new__» #[[.type "zip",.ref l1,.ref l2],[]])
  (λ_ R s=>SqAt zX s.heap l1 xs/\SqAt zW s.heap l2 ys/\R (.ok^.ret^.ref (zD zX zW s.heap l1 l2).objs.size) {s with heap:=zE zX zW s.heap l1 l2}):=
 .of_wp λprog w A R s h=>by
  let#[hp,g,d,tk,os]:=s;let#[hl1,hl2,h]:=h
  have hsub:=sub_zip;have hL2:SqAt zW (zA zX hp l1) l2 ys:=hl2.mv λo e=>FM _ e;cases zX with
  | true=>
   have g1:Heap.IsList (jB #[hp,g,d,tk,os]) l1 xs:=hl1;cases zW with
   |true=>
    have g2:Heap.IsList (jB #[hp.push {cls:=.type "list_iterator",data:=.fields #[ .ref l1,.int 0 0]},g,d,tk,os]) l2 ys:=hL2
    wp_walk using gT g1,gT g2
    exact#[_,rfl,h]
   |false=>
    have g2:k6 (jB #[hp.push {cls:=.type "list_iterator",data:=.fields #[ .ref l1,.int 0 0]},g,d,tk,os]) l2 ys:=hL2
    wp_walk using gT g1,f9 g2
    exact#[_,rfl,h]
  | false=>
   have g1:k6 (jB #[hp,g,d,tk,os]) l1 xs:=hl1;cases zW with
   |true=>
    have g2:Heap.IsList (jB #[hp.push {cls:=.type "tuple_iterator",data:=.fields #[ .ref l1,.int 0 0]},g,d,tk,os]) l2 ys:=hL2
    wp_walk using f9 g1,gT g2
    exact#[_,rfl,h]
   |false=>
    have g2:k6 (jB #[hp.push {cls:=.type "tuple_iterator",data:=.fields #[ .ref l1,.int 0 0]},g,d,tk,os]) l2 ys:=hL2
    wp_walk using f9 g1,f9 g2
    exact#[_,rfl,h]
def OQ(κ:Bool)(h:eK)(l:Ch):ItAt κ (h.push^VT κ l) h.objs.size l 0:=by
 cases κ with
 |true=>exact#[_,TM _ rfl,rfl,rfl]
 |false=>exact#[_,TM _ rfl,rfl,rfl]
section
variable {prog:Program}{w:World}{A:Around}{E:Value->Shared->Prop}{s:Shared}
def M_{zX zW:Bool}{l1 l2:Ch}{xs ys:Array Db}{Q:Db->Go->Prop}(hl1:SqAt zX s.heap l1 xs)(hl2:SqAt zW s.heap l2 ys)
  (h:∀h',iF h' (s.heap.objs.size+4) (s.heap.objs.size+2) (s.heap.objs.size+3) .none->gA h' (s.heap.objs.size+2) (.ref s.heap.objs.size)^.ref (s.heap.objs.size+1)->gA h' (s.heap.objs.size+3) .none .none->
   ItAt zX h' s.heap.objs.size l1 0->ItAt zW h' (s.heap.objs.size+1) l2 0->(∀c o,s.heap.get? c=P3 o->h'.get? c=P3 o)->Q (.ref (s.heap.objs.size+4)) {s with heap:=h'}):
  wpAny (model prog w) A (call (.type "zip") [.ref l1,.ref l2]) Q E s:=by
 refine callType_new F.called_zip (by cbv) (F.typeCall_zip_2 _ _) (F.newCall_zip_2 _ _) (λobj=>F.args_object_init_3 obj _ _) F.entry_zip_new (W8 zX zW l1 l2 xs ys) #[hl1,hl2,?_];have z1:(zA zX s.heap l1).objs.size=s.heap.objs.size+1:=fW ..;have z2:(zB zX zW s.heap l1 l2).objs.size=s.heap.objs.size+2:=by rw[fW,z1]
 have z3:(zC zX zW s.heap l1 l2).objs.size=s.heap.objs.size+3:=by rw[fW,z2]
 have z4:(zD zX zW s.heap l1 l2).objs.size=s.heap.objs.size+4:=by rw[fW,z3]
 have g5:(zE zX zW s.heap l1 l2).get? (zD zX zW s.heap l1 l2).objs.size=P3 _:=TM _ rfl;have g4:(zE zX zW s.heap l1 l2).get? (zC zX zW s.heap l1 l2).objs.size=P3 _:=FM _ (TM _ rfl);have g3:(zE zX zW s.heap l1 l2).get? (zB zX zW s.heap l1 l2).objs.size=P3 _:=FM _^FM _ (TM _ rfl);have i2:ItAt zW (zE zX zW s.heap l1 l2) (zA zX s.heap l1).objs.size l2 0:=(OQ zW (zA zX s.heap l1) l2).mv λo e=>FM _^FM _^FM _ e;have i1:ItAt zX (zE zX zW s.heap l1 l2) s.heap.objs.size l1 0:=(OQ zX s.heap l1).mv λo e=>FM _^FM _^FM _^FM _ e;rw[z4]at g5;rw[z3]at g4;rw[z2]at g3;rw[z1]at i2;have fin:=h (zE zX zW s.heap l1 l2) (by rw[iF,g5,z2,z3]) (by rw[gA,g3,z1]) g4 i1 i2 λc o e=>FM _^FM _^FM _^FM _^FM _ e;refine#[#[_,by rw[z4];exact g5,rfl],?_];rw[z4];exact fin
def Kh{zX zW:Bool}{z TI TO i1 i2 l1 l2:Ch}{k:Nat}{xs ys:Array Db}{x y a b:Db}{Q:q_ Db->Go->Prop}(D:aJ z TI TO i1 i2 l1 l2)
  (hz:iF s.heap z TI TO .none) (hTI:gA s.heap TI (.ref i1)^.ref i2) (hTO:gA s.heap TO a b) (h1:ItAt zX s.heap i1 l1 k) (h2:ItAt zW s.heap i2 l2 k) (hl1:SqAt zX s.heap l1 xs) (hl2:SqAt zW s.heap l2 ys) (hx:xs[k]?=P3 x) (hy:ys[k]?=P3 y)
  (hQ:∀h',iF h' z TI TO^rawInt s.heap.objs.size->gA h' TO x y->ItAt zX h' i1 l1 (k+1)->ItAt zW h' i2 l2 (k+1)->gA h' s.heap.objs.size x y->h'.objs.size=s.heap.objs.size+1->(∀c o,c≠z->c≠TO->c≠i1->c≠i2->s.heap.get? c=P3 o->h'.get? c=P3 o)->Q (P3^.ref s.heap.objs.size) {s with heap:=h'}):
  wpAny (model prog w) A (pyNext^.ref z) Q E s:=by
 have hT:s.TypeIs (.ref z) "zip":=#[_,hz,rfl];unfold pyNext
 exact Cn (jD (fS (name:=fX "__next__") hT jV (ft jV hT F.entry_zip_next
  (Tr D hz hTI hTO h1 h2 hl1 hl2 hx hy λh' a1 a2 a3 a4 a5 a6 a7=>On^hQ h' a1 a2 a3 a4 a5 a6 a7) (F.args_zip_next_1 _))))
def Mf{zX zW:Bool}{z TI TO i1 i2 l1 l2:Ch}{k:Nat}{xs ys:Array Db}{a b:Db}{Q:q_ Db->Go->Prop}(hh:A.handled=m_)(D:aJ z TI TO i1 i2 l1 l2)
  (hz:iF s.heap z TI TO .none) (hTI:gA s.heap TI (.ref i1)^.ref i2) (hTO:gA s.heap TO a b) (h1:ItAt zX s.heap i1 l1 k) (h2:ItAt zW s.heap i2 l2 k) (hl1:SqAt zX s.heap l1 xs) (hl2:SqAt zW s.heap l2 ys) (hend:xs[k]?=m_\/ys[k]?=m_)
  (hQ:∀h',(∀c o,c≠z->c≠TO->c≠i1->c≠i2->s.heap.get? c=P3 o->h'.get? c=P3 o)->Q m_ {s with heap:=h'}):wpAny (model prog w) A (pyNext^.ref z) Q E s:=by
 have hT:s.TypeIs (.ref z) "zip":=#[_,hz,rfl];unfold pyNext;refine Cn^jD^fS (name:=fX "__next__") hT jV^ft jV hT F.entry_zip_next (WM hh D hz hTI hTO h1 h2 hl1 hl2 hend λh' e hk he=>?_)^F.args_zip_next_1 _;let#[o,ho,hc]:=he;exact Cn^jG (T:="StopIteration") (b:=n_) #[o,ho,hc] isSubtype_stop^On^hQ _ hk
end
section
variable {X:Cx}{zG:p_ (Addr×Obj)}{Z:L2.St}{H:Hp}{s:Shared}{h':Heap}
def Inv.turnedL{t':Nat}{ch:p_ Ch}(I:Inv X zG Z H s)(hf:∀b∈ch,GX X zG H b)(k:∀b o,b∉ch->s.heap.get? b=P3 o->h'.get? b=P3 o):Inv X zG Z H {s with heap:=h',toks:=t'}:=by
 have nit:∀b u,H b=P3 u->b∉ch:=λb u e z=>by rw[(hf b z).1]at e;cases e
 refine I.step (λb hb=>?_) (λb o _ _ hc e _=>k b o hc e) (λb o _ _ hc e _=>#[_,k b o hc e]) (λ_ _ _ _ n=>n) (λb o hc e=>#[o,k b o hc e]) (λ_ _ e=>e) (λ_ _ _ e=>e) (λb ps e=>#[#[],by rw[e];simp]) (λm hm=>?_) (λb u e=>(I.hok b u e).stay (λc v hc q=>k c v (hc.elim (λz=>by grind) λz=>nit c _ z) q) (λ_ q=>q) λ_ _ q=>q) I.bare
 .let#[f0,f1,f2,f3,f4,f5]:=hf b hb
  exact#[f3,f1,f4,f5]
 .let#[o,es,ep,ho,r]:=hm
  exact#[o,es,ep,k _ o (λz=>(hf _ z).2.1 rfl) ho,r]
def Inv.turnLaid{t':Nat}{ch:p_ Ch}{a:Ch}{o:HO}(I:Inv X zG Z H s)(hf:∀b∈ch,GX X zG H b)(k:∀b o,b∉ch->s.heap.get? b=P3 o->h'.get? b=P3 o)(ha:s.heap.objs.size<=a)(new:ObjOk X.prog X.w (Aq H a o) h' a o):
  Inv X zG Z (Aq H a o) {s with heap:=h',toks:=t'}:=by
 have nit:∀b u,H b=P3 u->b∉ch:=λb u e z=>by rw[(hf b z).1]at e;cases e
 have hn:H a=m_:=I.hok.fresh ha;have up:∀b u,H b=P3 u->Aq H a o b=P3 u:=λb u e=>by rw[AK^Ai e hn];exact e
 refine I.step (g':=s.gens) (d':=s.drawn) (ch:=ch) (λb hb=>?_) (λb o _ _ hc e _=>k b o hc e) (λb o _ _ hc e _=>#[o.slots,k b o hc e]) (λb u _ e n=>?_) (λb o hc e=>#[o,k b o hc e]) (λb xs e=>up _ _ e) (λb o u e=>up _ _ e) (λb ps e=>#[#[],by rw[up _ _ e];simp]) (λm hm=>?_) (λb u e=>?_) I.bare
 .let#[f0,f1,f2,f3,f4,f5]:=hf b hb
  exact#[f3,f1,f4,f5]
 .rw[AK^eI^eg (Tk e) ha];exact n
 .let#[o,es,ep,ho,r]:=hm
  exact#[o,es,ep,k _ o (λz=>(hf _ z).2.1 rfl) ho,r]
 .by_cases hb:b=a
  .subst hb;rw[AM]at e;cases e;exact new
  .rw[AK hb]at e
   exact(I.hok b u e).stay (λc v hc q=>k c v (hc.elim (λz=>by grind) λz=>nit c _ z) q) (λc q=>up _ _ q) λc xs q=>up _ _ q
end
def SqK(κ:Bool)(K:Frag)(H:Hp)(a:Ch)(xs:p_ V):Prop:=match κ with
 |true=>SqL K H a xs
 |false=>SqT K H a xs
def SqK.at{κ:Bool}{X:Cx}{zG:p_ (Ch×Obj)}{Z:L2.St}{H:Hp}{s:Go}{a:Ch}{xs:p_ V}(I:Inv X zG Z H s)(h:SqK κ X.K H a xs):∃its:p_ Db,Vals xs its/\SqAt κ s.heap a its.toArray:=by
 cases κ with
 |true=>let#[its,r,pl,_]:=I.list h;exact#[_,r,pl.isList]
 |false=>let#[its,r,p,_]:=I.tuple h;exact#[_,r,p]
def aK (K:Frag) (zX zW:Bool) (a b:Ch) (xs ys:p_ V):It:=
  #[λi H=>SqK zX K H a xs ∧ SqK zW K H b ys ∧ i < xs.length ∧ i < ys.length,λi H x H'=>∃ T p q,x=.ref T ∧ H T=m_ ∧ H'=Aq H T^.tup [p,q] ∧ xs[i]?=P3 p ∧ ys[i]?=P3 q,
   λi H=>SqK zX K H a xs ∧ SqK zW K H b ys ∧ (xs.length ≤ i ∨ ys.length ≤ i)]
structure bv (zX zW:Bool) (z TI TO i1 i2 a b:Ch) (k:Nat) (h:eK):Prop where
 z:iF h z TI TO .none
 ti:gA h TI (.ref i1) (.ref i2)
 to:∃a b,gA h TO a b
 i1:ItAt zX h i1 a k
 i2:ItAt zW h i2 b k
def T_{P:eT}{w:eY}{K:Frag}{es:p_ eS}{j:Nat}{pos:Pos}(zX zW:Bool)(z TI TO i1 i2 a b:Ch)(xs ys:p_ V)(D:aJ z TI TO i1 i2 a b)(hTI:TI∉[z,TO,i1,i2]):
  Turn P w K (.Tuple es j pos) (aK K zX zW a b xs ys) [z,TI,TO,i1,i2] z (bv zX zW z TI TO i1 i2 a b) where
 mem:=by simp
 obj:=λi h st c hc=>by
  simp only[XV,ei,or_false]at hc
  rcases hc with rfl|rfl|rfl|rfl|rfl
  .exact#[_,st.z,λv q=>by cases q]
  .exact#[_,st.ti,λv q=>by cases q]
  .let#[a,b,e]:=st.to
   exact#[_,e,λv q=>by cases q]
  .exact st.i1.lies
  .exact st.i2.lies
 keep:=λi h h' st k=>by
  let#[p,q,e]:=st.to;exact#[k z (by simp) _ st.z,k TI (by simp) _ st.ti,#[p,q,k TO (by simp) _ e],st.i1.mv λo e=>k i1 (by simp) o e,st.i2.mv λo e=>k i2 (by simp) o e]
 item:=by
  intro X hP hw hK hc i zG s Z H E I hf st hg;subst hP hw hK;let#[ha,hb,hi,hj]:=hg;let#[us,r1,q1]:=ha.at I;let#[ws,r2,q2]:=hb.at I;let#[u,hu,ru]:=r1.get^No hi;let#[v,hv,rv]:=r2.get^No hj;let#[p,q,e]:=st.to;refine Kh D st.z st.ti e st.i1 st.i2 q1 q2 (x:=u) (y:=v) (by simpa using hu) (by simpa using hv) λh' a1 a2 a3 a4 a5 a6 a7=>#[_,rfl,?_];refine wpAny_letOwnedTupleGo_zip a1 λh2 b1 b2=>?_;have hT:H s.heap.objs.size=m_:=I.hok.fresh^Op _
  have kk:∀c o,c∉[z,TO,i1,i2]->s.heap.get? c=P3 o->h2.get? c=P3 o:=λc o hc e=>by
   simp only[XV,ei,or_false,not_or]at hc;exact b2.extBut _ _ hc.1^a7 c o hc.1 hc.2.1 hc.2.2.1 hc.2.2.2 e
  have I2:Inv X zG Z (Aq H s.heap.objs.size^.tup [xs[i],ys[i]]) {s with heap:=h2}:=by
   refine I.turnLaid (t':=s.toks) (ch:=[z,TO,i1,i2]) (λc hc=>hf c ?_) kk (Op _) ?_
   .simp only[XV,ei,or_false]at hc ⊢
    rcases hc with rfl|rfl|rfl|rfl <;>simp
   .have nT:s.heap.objs.size≠z:=jP^Tk st.z
    exact#[by show 2<=sizeLine;decide,[u,v],.cons ru^.cons rv .nil,#[_,b2.extBut _ _ nT a5,rfl,_,rfl,rfl,rfl]]
  have ti2:gA h2 TI (.ref i1)^.ref i2:=kk _ _ hTI st.ti;refine#[.ref s.heap.objs.size,_,I2,rfl,#[_,_,_,rfl,hT,rfl,No hi,No hj],#[b1,ti2,#[_,_,b2.extBut _ _ D.TOz a2],a3.eb b2.extBut D.i1z,a4.eb b2.extBut D.i2z],λc hc=>?_];have hcn:H c=m_:=(hf c hc).1
  have hlt:c≠s.heap.objs.size:=λz=>by
   obtain⟨o,ho,_⟩:∃o,s.heap.get? c=P3 o/\True:=by
    simp only[XV,ei,or_false]at hc
    rcases hc with rfl|rfl|rfl|rfl|rfl
    .exact#[_,st.z,trivial]
    .exact#[_,st.ti,trivial]
    .exact#[_,e,trivial]
    .let#[o,q,_]:=st.i1.lies;exact#[o,q,trivial]
    .let#[o,q,_]:=st.i2.lies;exact#[o,q,trivial]
   rw[z]at ho;exact fb _^Tk ho
  rw[AK hlt];exact hcn
 done:=by
  intro X hP hw hK hc i zG s Z H E I hf st hg;subst hP hw hK;let#[ha,hb,hi]:=hg;let#[us,r1,q1]:=ha.at I;let#[ws,r2,q2]:=hb.at I;let#[p,q,e]:=st.to;have l1:=r1.length;have l2:=r2.length;refine Mf (I.ok.hd hc) D st.z st.ti e st.i1 st.i2 q1 q2 (hi.imp (λhi=>by simp;lk) λhi=>by simp;lk) λh' kk=>#[rfl,?_];refine I.turnedL (t':=s.toks) (ch:=[z,TO,i1,i2]) (λc hc=>hf c ?_) λc o hc e=>?_
  .simp only[XV,ei,or_false]at hc ⊢
   rcases hc with rfl|rfl|rfl|rfl <;>simp
  .simp only[XV,ei,or_false,not_or]at hc
   exact kk c o hc.1 hc.2.1 hc.2.2.1 hc.2.2.2 e
 self:=λA i s Q E st h=>wpAny_pyIter_zip st.z h
section
variable {X:Cx}
def Yi(n a b:Nat)(h1:a<n)(h2:b<n):aJ (n+4) (n+2) (n+3) n (n+1) a b:=by
 constructor <;>(grind)
def Yh(n:Nat):(n+2)∉[n+4,n+3,n,n+1]:=by
 grind
def Yj(n c:Nat)(h:c∈[n+4,n+2,n+3,n,n+1]):n<=c:=by
 grind
def cw(K:Frag)(ta:TA):TI:=λZ H R=>ta Z H λvs H1=>∃zX zW a b xs ys,vs=[.ref a,.ref b]/\SqK zX K H1 a xs/\SqK zW K H1 b ys/\R (aK K zX zW a b xs ys) H1
def ZG{e1 e2:eS}{es:p_ eS}{j:Nat}{tpos:Pos}{ta:TA}{p pos:Pos}(hg:Gl X "zip")(hm:X.mg "zip"=m_)(ha:PA X [e1,e2] ta)(hs:starEach [e1,e2] X.env=[(o_,eval e1 X.env),(o_,eval e2 X.env)]:=by rfl)(hs2:starEach [e2] X.env=[(o_,eval e2 X.env)]:=by rfl):
  PI X (.Tuple es j tpos) (.Call (.Name "zip" p) [e1,e2] [] pos) (cw X.K ta):=by
 intro zG s Z H R I h;refine Call_ (EA I hg hm boot_zip^gG (BD (ha pos zG s Z H _ I h) λus s1 #[vs,H1,I1,r1,q1]=>?_) (by rw[hs,hs2])^by rw[hs2];rfl);let#[zX,zW,a,b,xs,ys,e,h1,h2,q]:=q1;subst e;let#[u,v,rfl,ru,rv]:=vals2 r1;cases ru;cases rv;let#[us,r1',q1]:=h1.at I1;let#[ws,r2',q2]:=h2.at I1;have la:a<s1.heap.objs.size:=by let#[o,e]:=q1.lies;exact Tk e
 have lb:b<s1.heap.objs.size:=by let#[o,e]:=q2.lies;exact Tk e
 refine M_ q1 q2 λh' hz hTI hTO hi1 hi2 hk=>?_;refine wpAny_pyIter_zip hz ?_;have D:=Yi s1.heap.objs.size a b la lb;refine#[s1.heap.objs.size+4,[s1.heap.objs.size+4,s1.heap.objs.size+2,s1.heap.objs.size+3,s1.heap.objs.size,s1.heap.objs.size+1],_,aK X.K zX zW a b xs ys,H1,rfl,I1.kept (t':=s1.toks) hk,T_ zX zW _ _ _ _ _ a b xs ys D^Yh s1.heap.objs.size,#[hz,hTI,#[_,_,hTO],hi1,hi2],λc hc=>?_,q];have hge:s1.heap.objs.size<=c:=Yj s1.heap.objs.size c hc;exact I1.fpOk hge^I1.hok.fresh hge
end
end L2
namespace Dp
open L2
def Hk(ds es:p_ D):p_ D:=gL (λd e=>.tup [d,e]) ds es
section
variable {K:Frag}
def UK{U V' M:Ch->Prop}{H:Hp}{d:D}{v:V}{ds:p_ D}(h:AtT K V' M H d v)(e:Iw d=P3 ds)(uV:∀a,U a->V' a)(vM:∀a,V' a->M a):∃κ a vs,v=.ref a/\Ats K M H ds vs/\∀M' H',Pres M H M' H'->Ext U H H'->SqK κ K H' a vs:=by
 cases d with
 |lst xs=>
  cases e;let#[a,vs,e1,n1,hq,hs]:=h;refine#[n_,a,vs,e1,hs,λM' H' _ ex=>?_]
  rcases hq with hq|⟨o,hq⟩
  .exact .inl^.inl^ex.keep hq λz=>n1^uV a z
  .exact .inl^.inr #[o,ex.keep hq λz=>n1^uV a z]
 |tup xs=>
  cases e;let#[a,vs,e1,hq,hs]:=h;exact#[o_,a,vs,e1,hs,λM' H' pr _=>(hq.pres pr).sq]
 |_=>cases e
def UL{M:Ch->Prop}{H:Hp}{d:D}{v:V}{ds:p_ D}(h:At K M H d v)(e:Iw d=P3 ds):∃κ a vs,v=.ref a/\Ats K M H ds vs/\∀M' H',Pres M H M' H'->SqK κ K H' a vs:=by
 cases d with
 |lst xs=>
  cases e;let#[a,vs,e1,hq,hs]:=h;exact#[n_,a,vs,e1,hs,λM' H' pr=>(hq.pres pr).sq]
 |tup xs=>
  cases e;let#[a,vs,e1,hq,hs]:=h;exact#[o_,a,vs,e1,hs,λM' H' pr=>(hq.pres pr).sq]
 |_=>cases e
def PD{M:Ch->Prop}{H:Hp}{zX zW:Bool}{a b:Ch}{vs us:p_ V}{ds es:p_ D}(hs:Ats K M H ds vs)(ht:Ats K M H es us){i:Nat}{M':Ch->Prop}{H':Hp}(pr:Pres M H M' H')(h1:SqK zX K H' a vs)(h2:SqK zW K H' b us)(dom:∀a,M' a->∃o,H' a=P3 o):
  (∀d,(Hk ds es)[i]?=P3 d->(aK K zX zW a b vs us).go i H'/\∀x H2,(aK K zX zW a b vs us).yld i H' x H2->Grow H' H2/\At K M' H2 d x)/\((Hk ds es).length<=i->(aK K zX zW a b vs us).stop i H'):=by
 have l1:=hs.length;have l2:=ht.length;refine#[λd hd=>?_,λhl=>#[h1,h2,?_]]
 .unfold Hk at hd
  rw[ki]at hd;cases q1:ds[i]? with
  |none=>rw[q1]at hd;simp at hd
  | some d1=>
   cases q2:es[i]? with
   |none=>rw[q1,q2]at hd;simp at hd
   |some d2=>
    rw[q1,q2]at hd;have hd':D.tup [d1,d2]=d:=eE hd;have i1:i<ds.length:=(Uf.mp q1).1;have i2:i<es.length:=(Uf.mp q2).1;refine#[#[h1,h2,by lk,by lk],λx H2 y=>?_];let#[T,p,q,rfl,hT,rfl,e1,e2]:=y;let#[v1,f1,a1]:=(hs.pres pr).get q1;let#[v2,f2,a2]:=(ht.pres pr).get q2;rw[e1]at f1;rw[e2]at f2;cases f1;cases f2;subst hd';exact#[Am hT,DF dom hT #[p,[q],rfl,a1,q,[],rfl,a2,rfl]]
 .unfold Hk at hl
  grind
end
section
variable {X:Cx}{e1 e2:Expr}{es:p_ Expr}{j:Nat}{tpos p pos:Pos}{ws:EX}
def aN(ws:EX):EX:=λn ρ P=>ws n ρ λds n1=>∃d e xs ys,ds=[d,e]/\Iw d=P3 xs/\Iw e=P3 ys/\P (Hk xs ys) n1
def Zp(hg:Gl X "zip")(hm:X.mg "zip"=m_)(ha:Ye X [e1,e2] ws)(hs:starEach [e1,e2] X.env=[(o_,eval e1 X.env),(o_,eval e2 X.env)]:=by rfl)(hs2:starEach [e2] X.env=[(o_,eval e2 X.env)]:=by rfl):
  DI X (.Tuple es j tpos) (.Call (.Name "zip" p) [e1,e2] [] pos) (aN ws):=by
 let#[t,a1,a2]:=ha;refine#[_,ZG hg hm a1 hs hs2,λC M H n ρ Z P Rr R w q=>?_];refine a2 C M H n ρ Z _ _ R w λvs H1 ds n1 ee f1 r1 p=>?_;let#[d,e,xs,ys,rfl,hd,he,p]:=p;let#[v,r,rfl,r1,v',r',rfl,r2,rr]:=r1;cases(show r'=[]from rr);let#[zX,a,us,rfl,h1,s1]:=UL r1 hd;let#[zW,b,us',rfl,h2,s2]:=UL r2 he;exact#[zX,zW,a,b,us,us',rfl,s1 M H1^Pres.refl _ _,s2 M H1^Pres.refl _ _,q _ H1 _ n1 ee f1 (λi M' H' pr dom=>PD h1 h2 pr (s1 M' H' pr) (s2 M' H' pr) dom) p]
def cr:D->q_ Key
 |.int i=>P3^.inl i
 |.str x=>P3^.inr x
 |_=>m_
def LP:p_ D->q_^p_ Key
 |[]=>P3 []
 |d::ds=>match cr d,LP ds with
  |some k,P3 ks=>P3 (k::ks)
  |_,_=>m_
theorem GC{K:Frag}{M:Ch->Prop}{H:Hp}:∀{ds:p_ D}{vs:p_ V}{ks:p_ Key},LP ds=P3 ks->Ats K M H ds vs->vs=ks.map kOf
 |[],vs,ks,e,h=>by cases e;exact h
 | d::ds,vs,ks,e,h=>by
  let#[v,r,e1,h1,h2]:=h;unfold LP at e
  split at e
  .rename_i k ks' hk hks
   cases e;rw[e1,GC hks h2]
   congr 1
   cases d with
   |int i=>cases hk;exact h1
   |str x=>cases hk;exact h1.1
   |_=>cases hk
  .cases e
def H_(d e:D)(P:D->Prop):Prop:=match d,e with
 |.int i,.int j=>P^.bl (decide (i<j))
 |.str i,.str j=>P^.bl (decide (i.cps.toList<j.cps.toList))
 |.tup xs,.tup ys=>∃ks ls,LP xs=P3 ks/\LP ys=P3 ls/\Bm ks ls=n_/\P^.bl^Gs ks ls
 |_,_=>False
def az(K:Frag):R2:=λx y H Q=>Y7 x y H Q\/ay K x y H Q
def JQ{k:Nat}(hr:Room k X.A):OpR X (compareOp .Lt)^az X.K:=op_ltU.or^ZR hr.units0
def O1:Er X.K .sh (az X.K) H_:=λU M H d e x y P Q dom vM hx hy w q=>by
 unfold H_ at w
 split at w
 .exact .inl^Yc U M H _ _ x y P Q dom vM hx hy w q
 .exact .inl^Yc U M H _ _ x y P Q dom vM hx hy w q
 .let#[ks,ls,h1,h2,h3,w]:=w
  let#[a,vs,rfl,ha,hs]:=hx.tup;let#[b,us,rfl,hb,ht]:=hy.tup;have e1:=GC h1 hs;have e2:=GC h2 ht;subst e1 e2;exact .inr #[a,b,ks,ls,rfl,rfl,ha.sq,hb.sq,h3,q _ H (.bl _) .refl rfl w]
 grind
end
end Dp
namespace L2
section
variable {prog:Program}{w:World}{A:Around}{E:Value->Shared->Prop}{s:Shared}
def Ng{t sl:Ch}{items:Array Db}{vl vu:Db}{lo hi:q_ Int}{Q:Db->Go->Prop}(ht:IsTup s.heap t items)(hs:s.heap.IsSliceOf sl vl vu .none)(pl:jR vl lo)(pu:jR vu hi)
  (hw:HT.sIx items.size 0 lo=0/\HT.sIx items.size items.size hi=items.size) (h:Q (.ref t) s):wpAny (model prog w) A (getItem (.ref t)^.ref sl) Q E s:=by
 let#[os,hos,hcs,hds]:=id hs;have hTs:s.TypeIs (.ref sl) "slice":=#[os,hos,hcs];unfold getItem
 (try with_reducible refine fc ?_);(first|refine Cn^On ?_|skip)
 refine Cn^wpAny_sequenceKey ht.typeIs (by cbv)^Cn^fS (name:=fX "__getitem__") ht.typeIs fT^ft fT ht.typeIs entry_tuple_getitem ?_^args_tuple_getitem _ _;show wpAny (model prog w) _ (jt^.ref t >>=_) _ _ s;refine Cn^tupleItemsOf_ ht^Cn^ie hTs ?_;rw[if_pos^by cbv]
 refine Cn^HT.sliceApplied_gen hs pl pu ?_;have hyes:(((HT.sIx items.size 0 lo:Nat):Int)==0&&(1:Int)==1&&(HT.sIx items.size items.size hi - HT.sIx items.size 0 lo)==items.size)=n_:=by rw[hw.1,hw.2];simp
 show wpAny (model prog w) _ (if(((HT.sIx items.size 0 lo:Nat):Int)==0&&(1:Int)==1&&(HT.sIx items.size items.size hi - HT.sIx items.size 0 lo)==items.size)=n_ then _ else _) _ _ s;rw[if_pos hyes];refine Cn (m:=jv _) ?_;unfold jv;refine Cn^ie ht.typeIs^On ?_;show wpAny (model prog w) _ (if((fN "tuple"==fN "tuple")=n_)then _ else _) _ _ s;rw[if_pos^by cbv]
 first
  |grind
  |exact Cn^iq^On #[_,rfl,On h]
  |grind
end
section
variable {X:Cx}
def X9(K:Frag):V->q_ Int->q_ Int->Hp->VK->Prop:=λx lo hi H Q=>∃a xs,x=.ref a/\SqT K H a xs/\(HT.sIx xs.length 0 lo=0/\HT.sIx xs.length xs.length hi=xs.length)/\Q (.ref a) H
def WX:SlR X^X9 X.K:=by
 intro zG s Z H x v vl vu lo hi sl Q I rx hs pl pu h;let#[a,xs,rfl,hx,hw,q]:=h;cases rx;let#[its,r,ht,hz]:=I.tuple hx;have hlen:=r.length.symm;exact#[_,_,fT.lookup,ht.typeIs,Ng ht hs pl pu (by grind) #[.ref a,H,I,rfl,q]]
end
section
variable {X:Cx}
def Uj(K:Frag):R2:=λx y H Q=>∃a b ys,x=.ref a/\y=.ref b/\SqT K H a []/\SqT K H b ys/\Q (.ref b) H
def VB:OpR X (binaryOp .Add)^Uj X.K:=by
 intro zG s Z H x y v u Q I rx ry h;let#[a,b,ys,rfl,rfl,ha,hb,q]:=h;cases rx;cases ry;let#[its,r1,p1,_]:=I.tuple ha;let#[its2,r2,p2,_]:=I.tuple hb;cases r1;let#[#[cls,dd,data,sl],ho,hc,n,hd]:=id p1;let#[#[cls2,dd2,data2,sl2],ho2,hc2,n2,hd2]:=id p2;subst hc hd hc2 hd2;exact concat_meets #[_,ho,rfl] #[_,ho2,rfl] kE seq_tuple_add PySem.F.slot_tuple_add PySem.F.entry_tuple_add (PySem.F.args_tuple_add_2 _ _) (tuple_addW0 a b _ _ n n2 dd _ sl _^by simp) #[ho,ho2,#[.ref b,H,I,rfl,q]]
def bI(b:Bool):Int:=if b=n_ then 1 else 0
def cF(g:Int->Int->Int):R2:=λx y H Q=>∃k j,x=.bl k/\y=.int j/\Q (.int^g (bI k) j) H
def dR(g:Int->Int->Int):R2:=λx y H Q=>∃i k,x=.int i/\y=.bl k/\Q (.int^g i^bI k) H
def op_add_bi:OpR X (binaryOp .Add) (cF λi j=>i+j):=by
 intro zG s Z H x y v u Q I rx ry h;let#[k,j,rfl,rfl,q]:=h;cases rx;let#[t,rfl]:=ry;exact PySem.IntBool.add_bool_int #[.int _,H,I.tok _,#[_,rfl],q]
def op_sub_bi:OpR X (binaryOp .Sub) (cF λi j=>i - j):=by
 intro zG s Z H x y v u Q I rx ry h;let#[k,j,rfl,rfl,q]:=h;cases rx;let#[t,rfl]:=ry;exact PySem.IntBool.sub_bool_int #[.int _,H,I.tok _,#[_,rfl],q]
def Se:OpR X (binaryOp .Sub) (dR λi j=>i - j):=by
 intro zG s Z H x y v u Q I rx ry h;let#[i,k,rfl,rfl,q]:=h;let#[t,rfl]:=rx;cases ry;exact PySem.IntBool.sub_int_bool #[.int _,H,I.tok _,#[_,rfl],q]
end
end L2
namespace Dp
open L2
section
variable {K:Frag}{X:Cx}
def BU(d e:D)(P:D->Prop):Prop:=match d,e with
 |.int i,.int j=>P^.int (i+j)
 |.bl k,.int j=>P^.int (bI k+j)
 |.str i,.str j=>i.length+j.length<=sizeLine/\P^.str (i++j)
 |.tup i,.tup j=>i.length+j.length<=sizeLine/\P^.tup (i++j)
 |.lst i,.lst j=>i.length+j.length<=sizeLine/\P^.lst (i++j)
 |_,_=>False
def YI(K:Frag):R2:=λx y H Q=>Ul K x y H Q\/(cF λi j=>i+j) x y H Q\/Uj K x y H Q
def Ba:OpR X (binaryOp .Add)^YI X.K:=op_addU.or^op_add_bi.or VB
def B3:Er X.K .sh (YI X.K) BU:=λU M H d e x y P Q dom vM hx hy w q=>by
 unfold BU at w
 split at w
 .exact .inl^ND U M H (.int _) (.int _) x y P Q dom vM hx hy w q
 .rename_i k j
  exact .inr^.inl #[k,j,hx,hy,q _ H (.int _) .refl rfl w]
 .exact .inl^ND U M H _ (.str _) x y P Q dom vM hx hy w q
 .rename_i i j
  cases i with
  |nil=>
   let#[a,vs,rfl,ha,hs]:=hx.tup;let#[b,us,rfl,hb,ht]:=hy.tup;cases(hs);exact .inr^.inr #[a,b,us,rfl,rfl,ha.sq,hb.sq,q _ H (.tup j) .refl #[b,us,rfl,hb,ht]^by grind]
  |cons i0 i=>exact .inl^ND U M H _ (.tup j) x y P Q dom vM hx hy #[(by grind),w] q
 .exact .inl^ND U M H (.lst _) (.lst _) x y P Q dom vM hx hy w q
 grind
def Dq(d e:D)(P:D->Prop):Prop:=match d,e with
 |.int i,.int j=>P^.int (i - j)
 |.bl k,.int j=>P^.int (bI k - j)
 |.int i,.bl k=>P^.int (i - bI k)
 |_,_=>False
def X7:R2:=λx y H Q=>(Hu λi j=>.int (i - j)) x y H Q\/(cF λi j=>i - j) x y H Q\/(dR λi j=>i - j) x y H Q
def F6:OpR X (binaryOp .Sub) X7:=op_sub.or^op_sub_bi.or Se
def J9:Er K .sh X7 Dq:=λU M H d e x y P Q dom vM hx hy w q=>by
 unfold Dq at w
 split at w
 .exact .inl^WB U M H _ _ x y P Q dom vM hx hy w q
 .rename_i k j
  exact .inr^.inl #[k,j,hx,hy,q _ H (.int _) .refl rfl w]
 .rename_i i k
  exact .inr^.inr #[i,k,hx,hy,q _ H (.int _) .refl rfl w]
 grind
def Vk(d:D)(lo hi:q_ Int)(P:D->Prop):Prop:=match d with
 |.str z=>P^.str^Txt.slice z lo hi
 |.lst xs=>P^.lst^cutD xs lo hi
 |.tup xs=>P^.tup^cutD xs lo hi
 |_=>False
def av(K:Frag):V->q_ Int->q_ Int->Hp->VK->Prop:=λx lo hi H Q=>ao x lo hi H Q\/ar K x lo hi H Q\/aq K x lo hi H Q\/X9 K x lo hi H Q
def Y1:SlR X^av X.K:=sl_U.or^sl_list.or^sl_tup.or WX
def Rc{M:Ch->Prop}{H:Hp}{ds:p_ D}{vs:p_ V}(lo hi:q_ Int)(h:Ats K M H ds vs):Ats K M H (cutD ds lo hi)^Oh vs lo hi:=by
 unfold cutD Oh;rw[h.length];exact(h.drop _).take _
def V9:dY K .sh (av K) Vk:=by
 intro U M H d x lo hi P Q dom vM hx w q;unfold Vk at w
 split at w
 .rename_i z
  exact .inl #[z,hx.str.1,hx.str.2,q _ H (.str^Txt.slice z lo hi) .refl #[rfl,eR (Txt.slice_le z lo hi) hx.str.2] w]
 .rename_i xs
  let#[a,vs,rfl,_,ha,hs]:=hx;exact .inr^.inl #[a,vs,rfl,.inl ha,λp hp=>q _ _ (.lst _) (Am hp) ((Bx (U:=U) hp^Rc lo hi hs).shOf dom^by grind) w]
 .rename_i xs
  let#[a,vs,rfl,ha,hs]:=hx.tup
  by_cases hw:HT.sIx vs.length 0 lo=0/\HT.sIx vs.length vs.length hi=vs.length
  .refine .inr^.inr^.inr #[a,vs,rfl,ha.sq,hw,?_]
   have e:cutD xs lo hi=xs:=by
    unfold cutD;rw[←hs.length,hw.1,hw.2,List.drop_zero,Nat.sub_zero,hs.length,kH]
   rw[e]at w;exact q _ H (.tup xs) .refl #[a,vs,rfl,ha,hs] w
  .exact .inr^.inr^.inl #[a,vs,rfl,ha.sq,hw,λp hp=>q _ _ (.tup _) (Am hp) (DF dom hp^Rc lo hi hs) w]
 grind
def bd:D->D->(D->Prop)->Prop:=cJ λi j P=>i.length+j.length<=sizeLine/\P^.lst (i++j)
end
end Dp
namespace Nt
open L2 Dp
def BR:W2:=λss n P=>∃m:Int,ss=[.fd,.sh^.int m]/\1<=m/\m<1073741824/\1<=n.n/\∀r:Int,0<=r->r<m->P (.int r) (n - 1)
end Nt
namespace K70
open L2 Dp Nt
def top(i:Nat):eZ:=PySem.Challenge.pw_thinnet_k70_two_keepers.main.body.getD i^.Pass #[0,0,0,0]
def DC(j:Nat)(s:eZ):eZ:=match s with
 |.ClassDef _ _ _ b _ _ _ _ _ _ _=>b.getD j^.Pass #[0,0,0,0]
 |_=>.Pass #[0,0,0,0]
abbrev LC:eZ:=top 9
abbrev JA:eZ:=top 10
abbrev FO:eZ:=top 11
abbrev UO:eZ:=top 12
abbrev LA:eZ:=top 13
abbrev JC:eZ:=top 14
abbrev HE:eZ:=top 16
abbrev Qw:eZ:=top 17
abbrev HF:eZ:=top 19
abbrev Fn:eZ:=top 20
abbrev Fo:eZ:=top 21
abbrev X4:eZ:=top 22
abbrev Nv:eZ:=top 24
abbrev HG:eZ:=top 26
abbrev JB:eZ:=top 27
abbrev LB:eZ:=top 28
abbrev D1:eZ:=top 32
abbrev Cu:eZ:=top 33
abbrev Ft:eZ:=top 34
abbrev Eu:eZ:=top 35
abbrev Ex:eZ:=top 36
abbrev Fp:eZ:=top 37
abbrev HI:eZ:=top 38
abbrev Fs:eZ:=top 39
abbrev Fq:eZ:=top 40
abbrev Dz:eZ:=top 41
abbrev Ew:eZ:=top 42
abbrev HJ:eZ:=top 43
abbrev LD:eZ:=top 44
abbrev C7:eZ:=DC 1^top 30
abbrev E3:eZ:=DC 5^top 30
abbrev Cd:eZ:=DC 2^top 30
abbrev Fx:eZ:=DC 11^top 30
abbrev HL:eZ:=DC 6^top 30
abbrev CB:eZ:=DC 3^top 30
abbrev Fw:eZ:=DC 7^top 30
abbrev CK:eZ:=DC 4^top 30
abbrev Ez:eZ:=DC 8^top 30
abbrev HH:eZ:=top 45
abbrev HK:eZ:=top 46
abbrev D4:eZ:=DC 12^top 30
abbrev Fv:eZ:=DC 9^top 30
abbrev Ey:eZ:=DC 10^top 30
abbrev Et:eZ:=top 47
abbrev C6:eZ:=top 48
abbrev A6:eZ:=DC 0^top 30
abbrev JD:eZ:=top 49
structure Txt (K:Frag) (mg:Str->Option Db):Prop where
 Gam:mg "all"=m_
 Gaf:mg "isinstance"=m_
 Gaa:mg "len"=m_
 Gai:mg "list"=m_
 Gak:mg "max"=m_
 Gah:mg "min"=m_
 Gaj:mg "range"=m_
 Gag:mg "repr"=m_
 Gal:mg "reversed"=m_
 Gab:mg "sorted"=m_
 Gan:mg "str"=m_
 Gac:mg "tuple"=m_
 Gao:mg "zip"=m_
 Gad:∃t,mg "MOST_PLACES"=P3 (.int 24 t)
 Gae:∃t,mg "MOST_TIES"=P3^.int 60 t
section
variable {P:Program}{w:World}{K:Frag}{mg:Str->q_ Value}{base:Heap}
def k8:AX ["_law_feed_here","_law_many","_law_digit","_law_at","_law_cell","_law_first"] ["_law_feed_here","_law_many"]^AI Cu:=#[rfl,rfl,rfl,by decide +kernel,rfl,by decide +kernel,by decide +kernel]
def W3{f:Ch}{fd:fL}(F:Fun K "_law_next" "_law_next" Cu f fd)(ml:mg "len"=m_):FnOk P w K mg base Fi 1 f fd ["_law_feed_here","_law_many"]^R_ K .sh BR 2:=by
 refine F.ok k8 (λvs H Q E h=>h.1) λcdv A outer s H vs Q E hr h=>?_;let#[hl,F0,U,V',M,n,ss,Pd,ra,#[m,rfl,hm1,hm2,hn,hP],q]:=h;let#[dom,fU,uV,vM,fd0,pa]:=ra;cases pa with
 |cons r1 pa=>
 cases pa with
 |cons r2 pa=>
 cases pa;let#[#[f0,c],e0,hF]:=r1.1;cases e0;let#[v2,e2,h2]:=r2.1;cases e2;cases(show _=V.int m from h2);let#[a,r,cells,hf,hcf,hc,hcl,ha0,han]:=fd0.1 (f0,c) hF
 have fin:∀(a' r' z:Int) (H':Hp),(∀b o,H b=P3 o->b≠f0->H' b=P3 o)->H' f0=P3^.lst [.ref c,.int a',.int r']->0<=a'->a'<=a+1->0<=z->z<m->Q (.int z) H':=by
  intro a' r' z H' hk' hf' h0 h1 hz0 hz1;refine q (.int z) H' (.int z) (n - 1) (λb o e=>?_) #[λg hg=>?_,λb k hk=>(fd0.2 b k hk).to (λ_ _ z=>z) (λb vs e=>hk' b _ e λz=>by rw[z,hf]at e;cases e) (λb o e=>if z:b=f0 then#[_,z▸hf']else#[o,hk' b o e z]) λu e=>hk' b _ e λz=>by rw[z,hf]at e;cases e] rfl (hP z hz0 hz1)
  .by_cases hb:b=f0
   .subst hb
    exact#[_,hf',λnu _=>absurd (fU (b,c) hF) nu,λvs z=>by rw[z,hf]at e;cases e]
   .exact#[o,hk' b o e hb,λ_ _=>rfl,λ_ _=>rfl]
  .have:g=(f0,c):=eE^hg.symm.trans hF
   subst this;exact#[a',r',cells,hf',hcf,#[hc.1,hk' c _ hc.2 hcf],hcl,h0,by have e:(n - 1:Sg).n=n.n - 1:=rfl;lk]
 have hu:(A.deeper^envOfC "_law_next" (AI Cu) s.heap.objs.size f cdv).units<cLine:=hr.units0;have hsq:∀{H':Hp}{xs:p_ V},H' f0=P3^.lst xs->SqL K H' f0 xs:=λh=>SqL.of h;have ed:∀z:Int,0<=z % m/\z % m<m:=λz=>#[kQ _^by lk,jn _^by lk]
 refine#[_,BK (Us (F1 YJ (Do ix_list (pv 0) Az λ_ _=>rfl) Az^An _)
   (BK (D7 (i:=2) k8.nd rfl (eC rfl) (Bn DX (Do ix_list (pv 0) Az λ_ _=>rfl)^pv 1))
   (BK (Ps (Bn MR (Do ix_list (pv 0) Az λ_ _=>rfl)^pv 1)^Px (pv 0) Az set_list)
   (Cv^FP^pv 2))) ML)
  (BK (D7 (i:=3) k8.nd rfl (eC rfl) (Do ix_list (pv 0) Az λ_ _=>rfl))
  (BK (Ps (Bn op_add (pv 3) Az)^Px (pv 0) Az set_list)
  (BK (D7 (i:=4) k8.nd rfl (eC rfl) (N9 (F1 (Sf hu) (Do ix_list (pv 0) Az λ_ _=>rfl) (Pz Cf)^An _)
   (Do ix_list (Do ix_list (pv 0) Az λ_ _=>rfl) (Bn DX (pv 3) (F4 BM rfl ml PySem.boot_len (Br (Do ix_list (pv 0) Az λ_ _=>rfl) Cf))) λ_ _=>rfl) Az))
  (BK (Us (PW.pt^Um (F1 bM (pv 4) (Bn MQ Az Az)^An _)^Q2^F1 op_lt (pv 3) (F4 BM rfl ml PySem.boot_len (Br (Do ix_list (pv 0) Az λ_ _=>rfl) Cf))^An _)
   (BK (Ps (Bn MR (pv 4)^pv 1)^Px (pv 0) Az set_list)
   (Cv^FP^Bn DX (pv 4)^pv 1)) ML)
  (BK (D7 (i:=5) k8.nd rfl (eC rfl) (Bn DX (Bn op_mul (Bn op_add (Bn op_add (Bn op_add (Bn DX (pv 4) Az)^Bn op_mul (Bn op_mul Az^pv 3)^pv 3)^Bn op_mul Az^pv 3) Az) Az) Az))
  (Cv^FP^Bn DX (Bn MR (Bn DX (Bn op_mul (Bn op_add (pv 5)^Bn op_mul Az^pv 3) Az) Az) Az)^pv 1)))))),?_]
 refine#[_,rfl,f0,_,2,_,rfl,rfl,hsq hf,rfl,_,_,rfl,rfl,_,rfl,?_];refine ED (λc1=>?_) λc1=>?_
 .refine#[_,rfl,f0,_,2,_,rfl,rfl,hsq hf,rfl,_,rfl,_,_,rfl,rfl,(by show(0:Int)<m;lk),?_]
  refine#[_,rfl,f0,_,2,_,rfl,rfl,hsq hf,rfl,_,rfl,_,_,rfl,rfl,#[(by show(0:Int)<m;lk),hm2],_,rfl,f0,_,2,2,rfl,rfl,hf,rfl,?_];refine#[_,rfl,?_];exact fin a _ _ _ (λb o e hb=>by rw[AK hb];exact e) AM ha0 (by lk) (ed _).1 (ed _).2
 ·-- at=feed[1];feed[1]=at+1
  refine#[_,rfl,f0,_,1,_,rfl,rfl,hsq hf,rfl,?_];refine#[_,rfl,_,_,rfl,rfl,_,rfl,f0,_,1,1,rfl,rfl,hf,rfl,?_];generalize hH1:Aq H f0^.lst^[V.ref c,V.int a,V.int r].set 1^V.int (a+1)=H1;have f1:H1 f0=P3^.lst [.ref c,.int (a+1),.int r]:=by rw[←hH1];exact AM
  have k1:∀b o,H b=P3 o->b≠f0->H1 b=P3 o:=λb o e hb=>by rw[←hH1,AK hb];exact e
  have c1':H1 c=P3^.lst^cells.map V.int:=k1 c _ hc.2 hcf
  have rest:∀(z:Int) (H2:Hp),(∀b o,H1 b=P3 o->H2 b=P3 o)->
    (R6 (aY (ai (UC^C3 (Hu λi j=>V.bl (decide (j<=i))) (Bv 4)^C3 (rI PC λi j=>V.int (i ^ j.toNat)) (tC^V.int 10)^tC^V.int 18)^UC^C3 (Hu λi j=>V.bl (decide (i<j))) (Bv 3)^af (λxs H Q=>∃x n,xs=[x]/\aE K x H n/\Q (V.int n) H)^Qr (C3 (Y8 K) (Bv 0)^tC^V.int 0) R7) (R6 (Nl (C3 (rI Xw λi j=>V.int (i / j)) (Bv 4)^Bv 1)^bU (Bv 0) (tC^V.int 2) X_)^WU^C3 (rI (λ_ j=>0<j) λi j=>V.int (i % j)) (Bv 4)^Bv 1) X2)^R6 (Nl (C3 (rI (λ_ j=>0<j) λi j=>V.int (i % j)) (C3 (rI CMul λi j=>V.int (i*j)) (C3 (Hu λi j=>V.int (i+j)) (C3 (Hu λi j=>V.int (i+j)) (C3 (Hu λi j=>V.int (i+j)) (C3 (rI (λ_ j=>0<j) λi j=>V.int (i % j)) (Bv 4)^tC^V.int 1000003)^C3 (rI CMul λi j=>V.int (i*j)) (C3 (rI CMul λi j=>V.int (i*j)) (tC^V.int 41)^Bv 3)^Bv 3)^C3 (rI CMul λi j=>V.int (i*j)) (tC^V.int 17)^Bv 3)^tC^V.int 3)^tC^V.int 51749)^tC^V.int 999917)^HW 5)^WU^C3 (rI (λ_ j=>0<j) λi j=>V.int (i % j)) (C3 (rI Xw λi j=>V.int (i / j)) (C3 (rI (λ_ j=>0<j) λi j=>V.int (i % j)) (C3 (rI CMul λi j=>V.int (i*j)) (C3 (Hu λi j=>V.int (i+j)) (Bv 5)^C3 (rI CMul λi j=>V.int (i*j)) (tC^V.int 8111)^Bv 3)^tC^V.int 39373)^tC^V.int 2097143)^tC^V.int 3)^Bv 1)
     {nx:=λ_ H'=>Q .non H',rt:=Q} [P3^.ref f0,P3^.int m,m_,P3^.int a,P3^.int z,m_] H2:=by
   intro z H2 k2;have f2:=k2 _ _ f1;have c2:=k2 _ _ c1'
   have lastWay:∀H3:Hp,H3=H2->(R6 (Nl (C3 (rI (λ_ j=>0<j) λi j=>V.int (i % j)) (C3 (rI CMul λi j=>V.int (i*j)) (C3 (Hu λi j=>V.int (i+j)) (C3 (Hu λi j=>V.int (i+j)) (C3 (Hu λi j=>V.int (i+j)) (C3 (rI (λ_ j=>0<j) λi j=>V.int (i % j)) (Bv 4)^tC^V.int 1000003)^C3 (rI CMul λi j=>V.int (i*j)) (C3 (rI CMul λi j=>V.int (i*j)) (tC^V.int 41)^Bv 3)^Bv 3)^C3 (rI CMul λi j=>V.int (i*j)) (tC^V.int 17)^Bv 3)^tC^V.int 3)^tC^V.int 51749)^tC^V.int 999917)^HW 5)^WU^C3 (rI (λ_ j=>0<j) λi j=>V.int (i % j)) (C3 (rI Xw λi j=>V.int (i / j)) (C3 (rI (λ_ j=>0<j) λi j=>V.int (i % j)) (C3 (rI CMul λi j=>V.int (i*j)) (C3 (Hu λi j=>V.int (i+j)) (Bv 5)^C3 (rI CMul λi j=>V.int (i*j)) (tC^V.int 8111)^Bv 3)^tC^V.int 39373)^tC^V.int 2097143)^tC^V.int 3)^Bv 1)
     {nx:=λ_ H'=>Q .non H',rt:=Q} [P3^.ref f0,P3^.int m,m_,P3^.int a,P3^.int z,m_] H3:=by
    intro H3 e3;subst e3;have hb:CMul (41*a) a:=.inr #[by lk,by lk];refine#[_,rfl,_,_,rfl,rfl,(by show(0:Int)<1000003;decide),_,rfl,_,_,rfl,rfl,.inl #[by cbv,by cbv],_,rfl,_,_,rfl,rfl,hb,_,_,rfl,rfl,_,rfl,_,_,rfl,rfl,.inl #[by cbv,by cbv],_,_,rfl,rfl,_,_,rfl,rfl,_,_,rfl,rfl,.inr #[by cbv,by cbv],_,_,rfl,rfl,(by show(0:Int)<999917;decide),?_];refine#[_,rfl,_,rfl,_,_,rfl,rfl,.inl #[by cbv,by cbv],_,_,rfl,rfl,_,_,rfl,rfl,.inr #[by cbv,by cbv],_,_,rfl,rfl,(by show(0:Int)<2097143;decide),_,_,rfl,rfl,#[by cbv,by cbv],_,rfl,_,_,rfl,rfl,(by show(0:Int)<m;lk),?_];exact fin (a+1) r _ _ (λb o e hb=>k2 b o^k1 b o e hb) f2 (by lk) (by lk) (ed _).1 (ed _).2
   refine#[_,rfl,_,_,rfl,rfl,#[by cbv,by cbv,by cbv],_,_,rfl,rfl,_,rfl,?_];refine ED (λc3=>?_) λc3=>?_
   .refine#[_,rfl,_,rfl,f0,_,0,_,rfl,rfl,hsq f2,rfl,_,_,rfl,.inl #[_,SqL.of c2,rfl],_,_,rfl,rfl,_,rfl,?_]
    refine ED (λc4=>?_) λc4=>lastWay H2 rfl;refine#[_,rfl,_,rfl,_,_,rfl,rfl,#[(by show(0:Int)<m;lk),hm2],_,rfl,f0,_,2,2,rfl,rfl,f2,rfl,?_];refine#[_,rfl,_,rfl,_,_,rfl,rfl,(by show(0:Int)<m;lk),?_];exact fin (a+1) _ _ _ (λb o e hb=>by rw[AK hb];exact k2 b o^k1 b o e hb) AM (by lk) (by lk) (ed _).1 (ed _).2
   .refine ED (λc4=>absurd c4^by simp) λ_=>lastWay H2 rfl
  refine#[_,rfl,f0,_,0,_,rfl,rfl,hsq f1,rfl,(by show 0<=sizeLine;decide),λp hp=>?_];have kp:∀b o,H1 b=P3 o->Aq H1 p (.lst []) b=P3 o:=λb o e=>by rw[AK^Ai e hp];exact e
  refine#[c,p,_,rfl,rfl,SqL.of^kp _ _ c1',SqL.of AM,_,rfl,?_];cases cells with
  |nil=>exact Ck^rest 0 _ kp
  | cons z0 cs=>
   refine EC ?_;have hlen:(((z0::cs).map V.int).length:Int)=(cs.length:Int)+1:=by simp
   have hpos:(0:Int)<(((z0::cs).map V.int).length:Int):=by lk
   obtain⟨z,hz⟩:∃z,atI ((z0::cs).map V.int) (a % (((z0::cs).map V.int).length:Int))=P3^.int z:=by
    have h1:=kQ a (show(((z0::cs).map V.int).length:Int)≠0 by lk);have h2:=jn a hpos;generalize a % (((z0::cs).map V.int).length:Int)=j at h1 h2;obtain⟨k,rfl⟩:∃k:Nat,j=(k:Int):=#[j.toNat,by lk];have hk:k<(z0::cs).length:=by rw[Ev]at h2;lk
    refine#[(z0::cs)[k],AH ?_];rw[ZB,No hk];rfl
   refine#[_,rfl,f0,_,0,_,rfl,rfl,hsq^kp _ _ f1,rfl,_,rfl,_,rfl,f0,_,0,_,rfl,rfl,hsq^kp _ _ f1,rfl,_,_,rfl,.inl #[_,SqL.of^kp _ _ c1',rfl],_,_,rfl,rfl,hpos,c,_,_,_,rfl,rfl,SqL.of^kp _ _ c1',hz,?_];exact rest z _ kp
end
end K70
namespace Nt
open L2 Dp
def cs(x:Str):p_ Nat:=x.cps.toList
def Zv{x y:Str}(h:cs x=cs y):x=y:=by
 let#[a]:=x;unfold cs at h
 simp_all
def Ga(x:Str):Prop:=1<=x.length/\x.length<=8/\∀c∈cs x,97<=c/\c<=122
def rising(xs:p_ Str):Prop:=xs.Pairwise λx y=>cs x<cs y
def VI(a b:p_ Nat):ltCps a b=decide (a<b):=ltCps_eq a b
theorem HQ:∀(l:p_ Str) (p:Str),risingS p l=n_->(p::l).Pairwise λa b=>¬cs b<cs a
 |[],p,_=>kM _ _
 |x::r,p,h=>by
  have h':(!ltCps _ _&&risingS x r)=n_:=h;rw[eh,j6,VI,decide_eq_false_iff_not]at h';have ih:=HQ r x h'.2;refine fM.mpr #[λy hy=>?_,ih]
  rcases XV.mp hy with rfl|hy
  .exact h'.1
  .exact List.le_trans h'.1^(fM.mp ih).1 y hy
def C1{l:p_ Str}(h:sortedS l=n_)(nd:l.Nodup):rising l:=by
 have hp:l.Pairwise λa b=>¬cs b<cs a:=by
  cases l with
  |nil=>simp_all
  |cons x r=>exact HQ r x h
 exact(hp.and nd).imp λ{a b} #[h1,h2]=>Classical.byContradiction λh3=>h2^Zv^List.le_antisymm h1 h3
def Fy(lo:Int)(n:Nat):(MC lo n).length=n:=by unfold MC;grind
def UQ{lo:Int}{n:Nat}{d:D}(h:d∈MC lo n):∃k:Nat,k<n/\d=.int (lo+k):=by
 let#[k,hk,rfl]:=Sc.mp h;exact#[k,gO.mp hk,rfl]
end Nt
namespace Dp
open L2
section
variable {X:Cx}
def TK{k:Nat}{ps:p_ Str}{κ:Kd}{W:W2}{x:Str}{p pos:Pos}(G:Got X.prog X.w X.K X.mg X.base x k ps κ W)
  (hr:Room k X.A) (hg:Gl X x) (hdb:(x==("__debug__":Str))=o_:=by decide):DE X (.Call (.Name x p) [] [] pos) κ^AY W AR:=by
 let#[f,fd,G,hm,hk,hb,hW]:=G;refine#[_,U4 G hr hg hm hk hb .nil JO hdb,λC M H n ρ Z P Q R w q=>?_];show R_ X.K κ W ps.length ([]++[]) H Q E0;rw[e7];refine#[hW _ _ _ w,C.F,C.U,C.V,M,n,[],P,#[R.dom,R.fU,R.uV,R.vM,R.feed,.nil],w,λv H2 d n2 e2 f2 r2 p2=>?_];exact q v H2 d n2 e2 f2 r2 p2
end
end Dp
namespace L2
section
variable {X:Cx}{tg elt iter:Expr}{ifs:p_ Expr}{sc:Scope}{pos spos pos':Pos}{N':p_ Str}{js:p_^q_ Nat}{wi:TI}{i:Nat}{x:Str}
def Wg(hc:X.calm=n_)(N':p_ Str)(js:p_^q_ Nat)(hi:PI X tg iter wi)
  (hB:Hb sc X.env.scope X.N N' js=n_) (hN:X.N.Nodup) (hix:X.N[i]?=P3 x) (hx:Loc X.env.scope x)
  (hsw:swapsWith (.ListComp elt [#[tg,iter,ifs,0]] sc pos) (P3^.Name x pos') spos.line X.env=pure n_)
  (hs:∀x,foldedSetIterable iter X.env x=pure x:=by intro _;rfl)
  (hf:X.fn x=n_\/X.env.scope.names.lookup x=P3 .local:=by first|exact .inl rfl|exact .inr rfl|assumption):
  PS X (.Assign [.Name x pos'] (.ListComp elt [#[tg,iter,ifs,0]] sc pos) spos) (Nl (UD X sc N' js tg elt ifs wi)^HW i):=by
 intro zG s Z H D I h;have O:CompOk X sc N' js:=CompOk.of hB;let#[cl,hclos,hcl,hcl2]:=Jv (scope:=sc) (env:=X.env) λx hx=>I.ok.has x^O.free x hx;rw[exec_Assign_Name_used _ _ _ _ hsw];refine Cn^wpAny_standAt^Cn ?_;show wpAny _ _ (do let _ ←comprehension (.ListComp elt [#[tg,iter,ifs,0]] sc pos) sc X.env _ (newList []) o_ (eval iter X.env)^P3^assign (.Name x pos') X.env) _ _ s
 refine Cn (fV (wpAny_comprehension_free (Q:=λ_ s'=>SP X zG D .next s') (use:=P3^assign (.Name x pos') X.env) rfl hs hclos O.kind O.names (BD (hi zG s Z H _ I h) λv s1 h1=>BD h1 λitv s2 h2=>?_))
  (λ_ s' hq=>On^On hq) λ_ _ e=>e)
 let#[it,fp,tn,J,H2,e,I2,T,st2,f2,hq]:=h2;subst e
 have kfree:X.K.lookup s2.heap.objs.size=m_:=by
  cases q:X.K.lookup s2.heap.objs.size with
  |none=>rfl
  |some o=>exact absurd (Tk^I2.kIn _ _ q)^fb _
 let#[g,tt,te,W,hg,ht,he,#[m0,w0],hW]:=hq s2.heap.objs.size (I2.hok.fresh^Op _) kfree cl (s2.heap.objs.size+1) s2 H2 fp;refine fi^wpAny_newFunctionEnv O.cell (by intro y hy;simp at hy) (λh₁ hns₁ hsb₁=>?_) O.kind
 dsimp only at hns₁ hsb₁ ⊢
 generalize hH2:s2.heap.push {cls:=.type "list",dict:=m_,data:=.seq ([]:p_ Db).toArray}=Hh at hns₁ hsb₁ ⊢;have hCe:Hh.objs.size=s2.heap.objs.size+1:=by rw[←hH2,fW]
 have hlt:∀b∈fp,b<s2.heap.objs.size:=λb hb=>by
  let#[o,e,_]:=T.obj _ _ st2 b hb;exact Tk e
 have old:∀b o,s2.heap.get? b=P3 o->h₁.get? b=P3 o:=λb o e=>hsb₁.extBut b o (by rw[hCe];exact eI^gE^Tk e)^FM _ (hH2▸FM _ e);have hD:∃n,h₁.get? s2.heap.objs.size=P3 {cls:=.type "list",data:=.seq #[] n}:=#[_,hsb₁.extBut _ _ (by rw[hCe];exact eI^gf _)^FM _ (hH2▸TM _ rfl)]
 have I3:∀tk,Inv (A1 X sc N' cl (s2.heap.objs.size+1) s2 H2 fp) [] (CF js Z) (Aq H2 s2.heap.objs.size^.lst []) {s2 with heap:=h₁,toks:=tk}:=λtk=>
  OS I2 hc O hcl hcl2 f2 (λb hb=>let #[o,e,_]:=T.obj _ _ st2 b hb;#[o,e]) (by rw[←hCe];exact hns₁) old hD
 have st3:tn 0 h₁:=T.keep _ _ _ st2 λb hb o e=>old b o e
 have fr3:∀b∈fp,Aq H2 s2.heap.objs.size (.lst []) b=m_:=λb hb=>by
  rw[AK^eI^hlt b hb];exact(f2 b hb).1
 have loop:∀tk,codeAny (model X.prog X.w) X.A (.compLoop (.ListComp elt [#[tg,iter,ifs,0]] sc pos) 0 (.ref it) (.ref s2.heap.objs.size)^compEnvC sc cl (s2.heap.objs.size+1) X.env)
   (compPost (model X.prog X.w) X.A X.xe (P3^assign (.Name x pos') X.env) (λ_ s'=>SP X zG D .next s') (.ref s2.heap.objs.size) (s2.heap.objs.size+1)) {s2 with heap:=h₁,toks:=tk}:=λtk=>by
  refine La (W:=W) (m0:=m0) (Q:=λv H1=>HW i v Z H1 λzO H2=>D.nx zO H2) I2 f2 hlt (fR _) T hg ht he hW (λzZ H' s' J' q'=>?_) (I3 tk) st3 fr3 w0;let#[m,hn,_]:=J'.loc;have hCn:H' (s2.heap.objs.size+1)=m_:=J'.free;have I4:Inv X zG Z H' s':=Je (h':=s'.heap) I2 f2 (fR _) J' λb _=>rfl;let#[g1,g2,g3,g4,g5,g6]:=I2.fpOk (b:=s2.heap.objs.size+1) (fR _) hCn;show wpAny (model X.prog X.w) X.A (assign (.Name x pos') X.env^.ref s2.heap.objs.size) (λ_ s''=>∃m,s''.heap.Ns (s2.heap.objs.size+1) m/\∀h',gj (s2.heap.objs.size+1) s''.heap h'->SP X zG D .next {s'' with heap:=h'}) X.xe s';refine wpAny_assign_Name (K7 (v:=.ref s2.heap.objs.size) I4 hN hix hx rfl (λs5 I5 #[a,hsame,ha]=>?_) hf)
  have na:s2.heap.objs.size+1≠a:=by
   rcases ha with rfl|ha
   .exact g2
   .exact λz=>g5 _ _ ha z.symm
  refine#[m,hn.sameBut hsame na,λh' hs'=>?_];exact#[_,H',I5.turned (t':=s5.toks) (it:=s2.heap.objs.size+1) (λb o hb e=>hs'.extBut b o hb e) hCn g2 g4 g5 g6,q']
 rw[show(newEnv sc Hh.objs.size X.env.globals cl X.env.qual m_ .none (P3 X.env) builtinsNs).locals=s2.heap.objs.size+1 from hCe];show codeAny (model X.prog X.w) X.A (.compStart (.ListComp elt [#[tg,iter,ifs,0]] sc pos) 0 (.ref it) (.ref s2.heap.objs.size)^compEnvC sc cl (s2.heap.objs.size+1) X.env) _ _;exact codeAny_compStart_list (loop _)^T.self _ 0 _ _ _ st3^loop _
end
end L2
namespace Dp
open L2
section
variable {X:Cx}{zM:Kd}{tg elt iter:Expr}{ifs:p_ Expr}{sc:Scope}{pos:Pos}{src:EX}{b:BW}{tt:Hj}{te:DW}
def V3(hc:X.calm=n_)(N':p_ Str)(js:p_^q_ Nat)(hi:aM X tg iter src)(hg:∀cl C s H fp,DG (A1 X sc N' cl C s H fp) tg b)(ht:∀cl C s H fp,aL (A1 X sc N' cl C s H fp) ifs tt)(he:∀cl C s H fp,DE (A1 X sc N' cl C s H fp) elt zM te)
  (hB:Hb sc X.env.scope X.N N' js=n_) (hk:zM≠.tp:=by intro z;cases z)
  (hs:∀x,foldedSetIterable iter X.env x=pure x:=by intro _;rfl):∃wi,PI X tg iter wi/\∀(C:Fm) (M:Ch->Prop) (H:Hp) (n:Sg) (ρ:p_ Slot) (Z:L2.St) (P:D->Sg->Prop) (Q:VK),Rel X.K C M H n ρ Z->B6 js src b tt te n ρ P->
   (∀v H' d n',Ext C.U H H'->FeedC X.K C.F M H' n'->VR X.K C.V M H H' .fr v d->P d n'->Q v H')->UD X sc N' js tg elt ifs wi Z H Q:=by
 let#[wi,a1,a2]:=hi;refine#[wi,a1,λC M H n ρ Z P Q R w q=>?_];refine a2 C M H n ρ Z _ _ R w λJ H1 ds n1 e1 f1 y w1=>?_;let#[hlen,w1]:=w1;have R1:=R.step e1 f1;intro l hl hkl cl Ca s0 H0 fp;let#[g,g1,g2]:=hg cl Ca s0 H0 fp;let#[tc,c1,c2]:=ht cl Ca s0 H0 fp;let#[tx,x1,x2]:=he cl Ca s0 H0 fp
 have noU:¬C.U l:=λz=>by
  let#[o,z]:=R1.udom l z;rw[hl]at z;cases z
 generalize hM':(λb=>M b\/b=l)=M';have M'l:M' l:=by rw[←hM'];exact .inr rfl
 have M'of:∀b,M b->M' b:=λb z=>by rw[←hM'];exact .inl z
 have ofM':∀b,M' b->M b\/b=l:=λb z=>by rw[←hM']at z;exact z
 have inV:∀b,C.V b\/b=l->M' b:=λb z=>z.elim (λz=>M'of b^R1.vM b z) λz=>by rw[z];exact M'l
 have lenj:js.length=N'.length:=EL (CompOk.of hB).cap
 refine#[g,tc,tx,λi m zZ H'=>m=ds.length - i/\i<=ds.length/\∃n' zY acc vs,Rel X.K #[M',C.F,C.U,λb=>C.V b\/b=l,H1,[],[]] M' H' n' zY zZ/\H' l=P3^.lst vs/\Ats X.K M' H' acc vs/\acc.length<=i/\Pres M H1 M' H' /\
   HR b tt te (λacc n2=>P (.lst acc) n2) (ds.drop i) acc n' zY,g1,c1,x1,#[ds.length,by simp,eP _,n1,GA js ρ,[],[],?_],?_]
 .have gr:Grow H1^Aq H1 l^.lst []:=Am hl
  have pr:Pres M H1 M'^Aq H1 l^.lst []:=#[λb o e _ _=>gr.all b o e,λb z=>(ofM' b z).elim .inl λz=>.inr (by rw[z];exact hl),λb vs e=>gr.all b _ e,λb o e=>#[o,gr.all b o e]];refine#[#[?_,λa z=>z,λa z=>?_,gr.ext,R1.fU,λa z=>.inl^R1.uV a z,inV,f1.pres pr (λf o _ e=>gr.all f.1 o e) λa u e=>gr.all a _ e,?_,λp hp=>absurd hp^by simp,λi d a q z=>RH R1.sl q z,λi s a q o _=>absurd o (by rw[DZ q];decide),λi j s t a q o _ _ _ _=>absurd o (by rw[DZ q];decide),λp hp=>absurd hp^by simp],AM,rfl,eP _,pr,w1]
  .unfold GA CF
   rw[Ev,Ev]
  .rcases ofM' a z with z|z
   .let#[o,z]:=R1.dom a z
    exact#[o,gr.all a o z]
   .subst z
    exact#[_,AM]
  .refine OK R1.sl pr λd v h=>h.same pr (λa o _ e=>gr.all a o e) λa e n1 z=>z.elim n1 λz=>?_
   subst e;let#[o,w]:=h.lies;rw[z,hl]at w;cases w
 .rintro i m zZ H' ⟨rfl,hi,n',zY,acc,vs,R',hlv,hac,hal,pr,w'⟩
  by_cases hlt:i<ds.length
  .have ed:ds.drop i=ds[i]::ds.drop (i+1):=gR hlt
   rw[ed]at w';let#[go,yl]:=(y i M' H' pr R'.ext R'.dom).1 ds[i] (No hlt);refine .inr #[go,λx H2 hy=>?_];let#[gr,hx]:=yl x H2 hy;have R2':=R'.step gr.ext^R'.feed.grow gr;refine g2 _ M' H2 n' zY zZ ds[i] x _ _ R2' hx w' λzP zV R3 w3=>?_;refine c2 _ M' H2 n' zP zV _ _ R3 w3 λc H4 n4 e4 f4 w4=>?_;have R4:=R3.step e4 f4;have p4:Pres M' H' M' H4:=gr.pres.trans^R3.pres e4;have l4:H4 l=P3^.lst vs:=e4.keep (gr.all _ _ hlv) noU;cases c with
   |false=>exact#[ds.length - (i+1),by lk,rfl,hlt,n4,zP,acc,vs,R4,l4,hac.pres p4,by lk,pr.trans p4,w4]
   | true=>
    refine x2 _ M' H4 n4 zP zV _ _ R4 w4 λyv H5 d5 n5 e5 f5 r5 w5=>?_;have R5:=R4.step e5 f5;have p5:Pres M' H4 M' H5:=R4.pres e5;have l5:H5 l=P3^.lst vs:=e5.keep l4 noU;have hy5:=r5.shOf R4.dom hk;have a5:=(hac.pres p4).pres p5;have pu:Pres M' H5 M'^Aq H5 l^.lst (vs++[yv]):=CI M'l l5;have hvl:vs.length=acc.length:=hac.length;refine#[vs,l5,by rw[fA];lk,ds.length - (i+1),by lk,rfl,hlt,n5,zP,acc++[d5],vs++[yv],?_,AM,(a5.append^Ats.one hy5).pres pu,by rw[eV,fo];lk,(pr.trans p4).trans^p5.trans pu,w5];refine#[R5.len,R5.sub,λa z=>?_,λb o e=>?_,R5.fU,R5.uV,R5.vM,?_,λj s hs=>?_,λp hp=>absurd hp^by simp,R5.br0,R5.new,R5.two,λp hp=>absurd hp^by simp]
    .by_cases ha:a=l
     .subst ha;exact#[_,AM]
     .rw[AK ha];exact R5.dom a z
    .let#[o',q1,q2]:=R5.ext b o e
     by_cases hb:b=l
     .subst hb
      have e':H1 b=P3 o:=e;rw[hl]at e';cases e'
     .exact#[o',by rw[AK hb];exact q1,q2]
    .refine f5.pres pu (λf o hf e=>?_) λa u e=>by rw[AK λz=>by rw[z,l5]at e;cases e];exact e
     rw[AK λz=>noU^by rw[←z];exact R1.fU f hf];exact e
    .have hs5:=R5.sl j s hs
     cases s with
     |no=>trivial
     |sh d=>let#[v,e1,h2]:=hs5;exact#[v,e1,h2.pres pu]
     |ex a nm ks ds=>let#[e1,h2]:=hs5;exact#[e1,h2.pres pu]
     | br d=>
      let#[v,e1,h2]:=hs5;refine#[v,e1,h2.same pu (λa o z e=>?_) λ_ _ z=>z];subst z;let#[o3,w]:=R5.br0 j d a hs e1
      have hal:a≠l:=λz=>by
       have w':H1 a=P3 o3:=w;rw[z,hl]at w';cases w'
      rw[AK hal];exact e
     |ow d=>
      let#[a,e1,h2,_]:=hs5;exact absurd h2 (R5.new j _ a hs rfl e1).1
     |lt a d=>
      let#[e1,h2,_]:=hs5;exact absurd h2 (R5.new j _ a hs rfl e1).1
     |fd=>exact hs5
  .have e:i=ds.length:=by lk
   subst e;rw[iR]at w';refine .inl #[(y _ M' H' pr R'.ext R'.dom).2 (Op _),?_];have eb:Ext C.U H1 H':=R'.ext;have less:Pres M' H' M H':=Pres.less M'of;refine q _ H' (.lst acc) n' (e1.trans eb) (R'.feed.pres less (λ_ _ _ z=>z) λ_ _ z=>z) (VR.back e1 ?_) w';exact#[l,rfl,hl,vs,hlv,by rw[hM'];exact hac]
def Mu{κ:Kd}{i:Nat}{x:Str}{pos' spos:Pos}(hN:X.N.Nodup)(hix:X.N[i]?=P3 x)(hx:Loc X.env.scope x)(hc:X.calm=n_)(N':p_ Str)(js:p_^q_ Nat)(hi:aM X tg iter src)(hg:∀cl C s H fp,DG (A1 X sc N' cl C s H fp) tg b)(ht:∀cl C s H fp,aL (A1 X sc N' cl C s H fp) ifs tt)(he:∀cl C s H fp,DE (A1 X sc N' cl C s H fp) elt zM te)
  (hB:Hb sc X.env.scope X.N N' js=n_) (hsw:swapsWith (.ListComp elt [#[tg,iter,ifs,0]] sc pos) (P3^.Name x pos') spos.line X.env=pure n_:=by rfl) (hk:zM≠.tp:=by intro z;cases z)
  (hs:∀x,foldedSetIterable iter X.env x=pure x:=by intro _;rfl)
  (hf:X.fn x=n_\/X.env.scope.names.lookup x=P3 .local:=by first|exact .inl rfl|exact .inr rfl|assumption):DS X κ (.Assign [.Name x pos'] (.ListComp elt [#[tg,iter,ifs,0]] sc pos) spos)^A2 i^B6 js src b tt te:=by
 let#[wi,a1,a2]:=V3 hc N' js hi hg ht he hB hk hs;exact#[_,Wg hc N' js a1 hB hN hix hx hsw hs hf,λC M H n ρ Z D2 E R L w=>a2 C M H n ρ Z _ _ R w λv H' d n' e1 f1 r1 p=>L.nx M H' n' _ _ ((R.step e1 f1).set^r1.shOf R.dom^by grind) p]
end
abbrev Fu(K:Frag)(x:Str)(st:eZ)(f:Ch)(fd:fL):Prop:=Fun K x x st f fd
def Fh{P:eT}{w:eY}{K:Frag}{mg:Str->q_ Db}{base:eK}{x:Str}{st:eZ}{f:Ch}{fd:fL}{N ps:p_ Str}{k:Nat}{κ:Kd}{W:W2}{wb:Aa}(F:Fu K x st f fd)(S:AX N ps^AI st)
  (hb:∀{cdv:Db}{A:e_}{outer:p_ Env}{s:Go}{H:Hp}{E:XK},Room k^A.deeper^envOfC x (AI st) s.heap.objs.size f cdv->Tj (Jt Fi P w K mg base N x (AI st) f cdv A outer s H E).nox κ (BQ st) wb)
  (hW:∀{ss n Pd},W ss n Pd->wb {nx:=λn _=>κ=.sh/\Pd .non n,rt:=Pd} n (ss++UF (N.length - ps.length) .no)) (hNp:ps.length<=N.length:=by decide):
  FnOk P w K mg base Fi (k+1) f fd ps (R_ K κ W ps.length):=dU F S hNp (λ_ _ _ _ _ _ h=>hb h) λ_ _ _ _ h=>hW h
section
variable {X:Cx}
def cg{m:Nat}(hr:Room m X.A){e:eS}{es:p_ eS}{k:Nat}{ps:p_ Str}{κ:Kd}{W:W2}{x:Str}{p pos:Pos}{was:Ti}(G:Got X.prog X.w X.K X.mg X.base x k ps κ W)(ha:Xv X (e::es) was)(hk:k<=m:=by decide)(hg:Gl X x:=by rfl)
  (hdb:(x==("__debug__":Str))=o_:=by decide) (he:starEach (e::es) X.env=(o_,eval e X.env)::starEach es X.env:=by rfl) (hpl:(backTo pos^starEach es X.env).any (·.1)=o_:=by rfl):DE X (.Call (.Name x p) (e::es) [] pos) κ^AY W was:=V0 G (hr.mono hk) hg ha hdb he hpl
variable {tg iter elt:Expr}{ifs:p_ Expr}{sc:Scope}{pos:Pos}{b:BW}{tt:Hj}{te:DW}{zM:Kd}{src:EX}
def Tp(N':p_ Str)(js:p_^q_ Nat)(hi:aM X tg iter src)(hg:∀{cl C s H fp},DG (A1 X sc N' cl C s H fp) tg b)(ht:∀{cl C s H fp},aL (A1 X sc N' cl C s H fp) ifs tt)(he:∀{cl C s H fp},DE (A1 X sc N' cl C s H fp) elt zM te)
  (hB:Hb sc X.env.scope X.N N' js=n_) (hc:X.calm=n_:=by rfl) (hk:zM≠.tp:=by intro z;cases z) (hs:∀x,foldedSetIterable iter X.env x=pure x:=by intro _;rfl):DE X (.ListComp elt [#[tg,iter,ifs,0]] sc pos) .fr^B6 js src b tt te:=Xf hc N' js hi (λ_ _ _ _ _=>hg) (λ_ _ _ _ _=>ht) (λ_ _ _ _ _=>he) hB hk hs
end
def TC{P:eT}{w:eY}{K:Frag}{mg:Str->q_ Db}{base:eK}{x q:Str}{st:eZ}{f:Ch}{fd:fL}{N ps:p_ Str}{k:Nat}{κ:Kd}{W:W2}{wb:Aa}(F:Fun K x q st f fd)(S:AX N ps^AI st)
  (hb:∀{cdv:Db}{A:e_}{outer:p_ Env}{s:Go}{H:Hp}{E:XK},Room k^A.deeper^envOfC q (AI st) s.heap.objs.size f cdv->Tj (Jt Fi P w K mg base N q (AI st) f cdv A outer s H E).nox κ (BQ st) wb)
  (hW:∀{ss n Pd},W ss n Pd->wb {nx:=λn _=>κ=.sh/\Pd .non n,rt:=Pd} n (ss++UF (N.length - ps.length) .no)) (hNp:ps.length<=N.length:=by decide):
  FnOk P w K mg base Fi (k+1) f fd ps (R_ K κ W ps.length):=dU F S hNp (λ_ _ _ _ _ _ h=>hb h) λ_ _ _ _ h=>hW h
end Dp
namespace Nt
open L2 Dp
theorem LH{α β:Type}{f:α->β}:∀{l:p_ α},l.Nodup->(∀a∈l,∀b∈l,f a=f b->a=b)->(l.map f).Nodup
 |[],_,_=>fF
 |a::l,h,hf=>by
  rw[eQ]at h;rw[eW,eQ];refine#[λhm=>?_,LH h.2 λx hx y hy=>hf x (TW _ hx) y^TW _ hy];let#[b,hb,e]:=Sc.mp hm;exact h.1 (hf a Re b (TW _ hb) e.symm▸hb)
def J7(ss:p_ Str):QW^ss.map .str=P3 ss:=by
 induction ss with
 |nil=>rfl
 |cons y r ih=>
  rw[eW];unfold QW
  grind
structure A5 where
 a:Str
 b:Str
 len:Int
structure Net where
 ps:List Str
 ts:List A5
def As(t:A5):D:=.tup [.str t.a,.str t.b,.int t.len]
def enc(N:Net):D:=.tup [.tup^N.ps.map .str,.tup^N.ts.map As]
def Bp(s t:A5):Prop:=cs s.a<cs t.a\/(s.a=t.a/\cs s.b<cs t.b)
structure Net.Ok (N:Net):Prop where
 names:∀x∈N.ps,Ga x
 rise:rising N.ps
 tin:∀t∈N.ts,t.a∈N.ps/\t.b∈N.ps/\cs t.a<cs t.b/\1<=t.len/\t.len<=1000000
 trise:N.ts.Pairwise Bp
structure Ix where
 i:Nat
 j:Nat
 len:Int
abbrev EE(Pd:D->Sg->Prop):E2:={nx:=λn _=>Kd.sh=.sh/\Pd .non n,rt:=Pd}
theorem B5{b:BW}{te:DW}{P:p_ D->Sg->Prop}(g:D->D)(I:p_ Slot->Prop):∀(ds acc:p_ D) (n:Sg) (ρ:p_ Slot),
  (∀d∈ds,∀(ρ:p_ Slot) (n:Sg) (nx:D->Sg->p_ Slot->Prop),I ρ->(∀zY,I zY->nx (g d) n zY)->b d ρ λzS=>te n zS λy n2=>nx y n2 zS)->I ρ->P (acc++ds.map g) n->HR b Hl te P ds acc n ρ
 |[],acc,n,ρ,_,_,h=>by rw[k7,e7]at h;exact h
 |d::ds,acc,n,ρ,ht,hρ,h=>ht d Re ρ n _ hρ λzY hρ'=>
  B5 g I ds _ n _ (λd hd=>ht d^TW _ hd) hρ' (by simp_all)
section
def c_{α:Type}(xs:p_ α):Dp.cutD xs (P3 1) m_=xs.drop 1:=by
 unfold Dp.cutD;rw[HT.sIx_none,show 1=((1:Nat):Int)from rfl,HT.sIx_nat]
 by_cases h:1<=xs.length
 .rw[Nat.min_eq_left h]
  exact List.take_of_length_le^by simp_all
 grind
end
def strsOf(xs:p_ D):p_ Str:=(QW xs).getD []
def Zy{α:Type}(p:α->Bool)(l:p_ α):(l.map p).all id=l.all p:=by simp_all
def Nn{x:Str}(h:∀c∈cs x,c<1114112):PyData.strOk x=n_:=by
 unfold PyData.strOk;rw[←Array.all_toList,jF];intro c hc;exact decide_eq_true^h c hc
def CN{x:Str}(h:Ga x):Ci^.str x:=#[rfl,Nn λc hc=>by have:=h.2.2 c hc;lk,eP _]
def OM{ps:p_ Str}(h:∀p∈ps,Ga p):C2^ps.map .str=n_/\g0^BJ^ps.map .str=n_/\gH^BJ^ps.map .str=0:=by
 induction ps with
 |nil=>exact#[rfl,rfl,rfl]
 | cons p r ih=>
  let#[h1,h2,h3]:=ih λq hq=>h q^TW _ hq;refine#[by assumption,?_,?_]
  .rw[eW,BJ,g0,h2,Bool.and_true]
   exact(CN^h p Re).2.1
  assumption
def Gv{ps:p_ Str}(h:∀p∈ps,Ga p):Ci^.tup^ps.map .str:=by
 let#[h1,h2,h3]:=OM h;refine#[h1,h2,?_];show gH _+1<=100
 simp_all
def Io(ps:p_ Str):strsOf^ps.map .str=ps:=by unfold strsOf;rw[J7];rfl
mutual
def G1(B:Nat):D->Prop
 |.int i=>i.natAbs<=B
 |.str x=>∀c∈cs x,c<1114112
 |.tup ds=>Jj B ds
 |.lst ds=>Jj B ds
 |.dic _ _=>False
 |.fdi _ _=>False
 |.dit _ _=>False
 |.ob _=>False
 |_=>True
def Jj(B:Nat):p_ D->Prop
 |[]=>True
 |d::ds=>G1 B d/\Jj B ds
end
mutual
def R8:D->Nat
 |.int _=>200
 |.str x=>x.length
 |.tup ds=>PZ ds
 |.lst ds=>PZ ds
 |_=>0
def PZ:p_ D->Nat
 |[]=>0
 |d::ds=>R8 d+1+PZ ds
end
mutual
def TF:D->Nat
 |.tup ds=>LX ds+1
 |.lst ds=>LX ds+1
 |_=>0
def LX:p_ D->Nat
 |[]=>0
 |d::ds=>max (TF d)^LX ds
end
theorem fines_iff{B:Nat}:∀{ds:p_ D},Jj B ds↔∀d∈ds,G1 B d
 |[]=>#[(λ_ d h=>by cases h),λ_=>trivial]
 | d::ds=>by
  have ih:=@fines_iff B ds;constructor
  .rintro⟨h1,h2⟩ e he
   rcases XV.mp he with rfl|he
   .exact h1
   .exact ih.mp h2 e he
  .exact λh=>#[h d Re,ih.mpr λe he=>h e^TW _ he]
theorem dps_le{k:Nat}:∀{ds:p_ D},LX ds<=k↔∀d∈ds,TF d<=k
 |[]=>#[(λ_ d h=>by cases h),λ_=>eP _]
 | d::ds=>by
  have ih:=@dps_le k ds;show max (TF d)^LX ds<=k↔_;rw[Nat.max_le,ih];constructor
  .rintro⟨h1,h2⟩ e he
   rcases XV.mp he with rfl|he
   .exact h1
   .exact h2 e he
  .exact λh=>#[h d Re,λe he=>h e^TW _ he]
theorem Qt:∀(xs:p_ D),xs.length<=PZ xs
 |[]=>eP _
 |d::xs=>by
  have:=Qt xs
  show xs.length+1<=R8 d+1+PZ xs;lk
mutual
theorem Mo{B:Nat}(hB:B<10 ^ 45):∀{d:D},G1 B d->E7 d=n_/\(toPy d).showable=n_/\(toPy d).canLay0=n_/\(toPy d).depth=TF d/\(toPy d).leavesShort 60=n_/\(toPy d).weight<=R8 d
 |.non,_=>#[rfl,rfl,rfl,rfl,rfl,Op _]
 |.bl b,_=>#[rfl,rfl,rfl,rfl,rfl,Op _]
 | .int i,h=>by
  have h':i.natAbs<=B:=h;have hlt:i.natAbs<10 ^ 45:=gP h' hB;have h2:i.natAbs<2 ^ 150:=Nat.lt_trans hlt^by cbv
  have hl:i.natAbs.log2<150:=by
   by_cases h0:i.natAbs=0
   .rw[h0];decide
   .exact(Nat.log2_lt h0).mpr h2
  refine#[rfl,?_,rfl,rfl,?_,?_]
  .show decide (i.natAbs.log2<1920)=n_
   exact decide_eq_true^by lk
  .show decide ((PyData.shown^.int i).length<=60)=n_
   refine decide_eq_true ?_
   have:=int_text_length_le10 (a:=i) (k:=45) (by cbv) hlt
   show(fX^toString i).length<=60;rw[PySem.ofString_length];lk
  .show(if i==0 then 0 else i.natAbs.log2+1)<=200
   split <;>lk
 |.str x,h=>by
  have h':∀c∈cs x,c<1114112:=h;refine#[rfl,rfl,Nn h',rfl,?_,Op _];show(x.cps.toList.all λc=>decide (c<16 ^ 8))=n_;rw[jF];intro c hc;exact decide_eq_true^Nat.lt_trans (h' c hc)^by cbv
 |.tup ds,h=>by
  let#[h1,h2,h3,h4,h5,h6]:=Ji hB (ds:=ds) h;refine#[h1,h2,h3,?_,h5,h6];show gH^BJ ds+1=LX ds+1;rw[h4]
 |.lst ds,h=>by
  let#[h1,h2,h3,h4,h5,h6]:=Ji hB (ds:=ds) h;refine#[h1,h2,h3,?_,h5,h6];show gH^BJ ds+1=LX ds+1;rw[h4]
 |.dic ks ds,h=>(show False from h).elim
 |.fdi ks ds,h=>(show False from h).elim
 |.dit ks ds,h=>(show False from h).elim
 |.ob _,h=>(show False from h).elim
theorem Ji{B:Nat}(hB:B<10 ^ 45):∀{ds:p_ D},Jj B ds->C2 ds=n_/\PyData.showableAll^BJ ds=n_/\g0^BJ ds=n_/\gH^BJ ds=LX ds/\kj 60^BJ ds=n_/\PyData.weightAll^BJ ds<=PZ ds
 |[],_=>#[rfl,rfl,rfl,rfl,rfl,Op _]
 | d::ds,h=>by
  let#[h1,h2,h3,h4,h5,h6]:=Mo hB (d:=d) h.1;let#[g1,g2,g3,g4,g5,g6]:=Ji hB (ds:=ds) h.2;refine#[?_,?_,?_,?_,?_,?_]
  .show(E7 d&&C2 ds)=n_
   rw[h1,g1];rfl
  .show((toPy d).showable&&PyData.showableAll^BJ ds)=n_
   rw[h2,g2];rfl
  .show((toPy d).canLay0&&g0^BJ ds)=n_
   rw[h3,g3];rfl
  .show max (toPy d).depth^gH^BJ ds=max (TF d)^LX ds
   rw[h4,g4]
  .show((toPy d).leavesShort 60&&kj 60^BJ ds)=n_
   rw[h5,g5];rfl
  .show(toPy d).weight+1+PyData.weightAll^BJ ds<=R8 d+1+PZ ds
   omega
end
def UI{B:Nat}{d:D}(hB:B<10 ^ 45)(h:G1 B d)(hd:TF d<=100)(hs:R8 d<=270000):Qv d:=by
 let#[h1,h2,h3,h4,h5,h6]:=Mo hB h;refine#[h1,h2,by rw[h4];exact hd,?_]
 have:=PyData.shown_le 60 (by cbv) (toPy d) h5
 rw[PySem.sizeLine_eq]
 have:62*(toPy d).weight<=62*270000:=Nat.mul_le_mul_left _^by lk
 omega
def WY{B:Nat}{d:D}(hB:B<10 ^ 45)(h:G1 B d)(hd:TF d<=100)(hs:R8 d<=200000):Qv d:=UI hB h hd^by lk
def Ja{B:Nat}{d:D}(hB:B<10 ^ 45)(h:G1 B d)(hd:TF d<=100):Ci d:=by
 let#[h1,h2,h3,h4,h5,h6]:=Mo hB h;exact#[h1,h3,by rw[h4];exact hd]
def item(d:D):Prop:=G1 1000001 d/\R8 d<=450/\TF d<=1
theorem Lz{k:Nat}:∀{ds:p_ D},(∀d∈ds,R8 d+1<=k)->PZ ds<=k*ds.length
 |[],_=>eP _
 |d::ds,h=>by
  have h2:=Lz λe he=>h e^TW _ he;show R8 d+1+PZ ds<=k*(ds.length+1)
  grind
def GF{B:Nat}{xs:p_ D}(h:∀d∈xs,G1 B d):G1 B^.tup xs:=fines_iff.mpr h
def item_str{x:Str}(h1:x.length<=8)(h2:∀c∈cs x,c<1114112):item^.str x:=#[h2,by show x.length<=450;lk,eP _]
def DB{x:Str}(h:Ga x):item^.str x:=item_str h.2.1 λc hc=>by have:=h.2.2 c hc;lk
def VS{a b:Str}{l:Int}(ha:item^.str a)(hb:item^.str b)(la:a.length<=8)(lb:b.length<=8)(hl:l.natAbs<=1000001):item^.tup [.str a,.str b,.int l]:=by
 refine#[GF λd hd=>?_,?_,?_]
 .simp at hd
  rcases hd with rfl|rfl|rfl
  .exact ha.1
  .exact hb.1
  .exact hl
 .show a.length+1+(b.length+1+(200+1+0))<=450
  omega
 .show max 0^max 0^max 0 0+1<=1
  decide
def Jc{N:Net}(ok:N.Ok):∀d∈N.ts.map As,item d:=λd hd=>by
 let#[t,ht,rfl]:=Sc.mp hd;let#[h1,h2,_,h3,h4]:=ok.tin t ht;have n1:=ok.names _ h1;have n2:=ok.names _ h2;exact VS (DB n1) (DB n2) n1.2.1 n2.2.1^by lk
def XE{N:Net}(ok:N.Ok):∀d∈N.ps.map D.str,item d:=λd hd=>by
 let#[x,hx,rfl]:=Sc.mp hd;exact DB^ok.names x hx
def Yn{xs ys:p_ D}(hx:∀d∈xs,item d)(hy:∀d∈ys,item d)(lx:xs.length<=26)(ly:ys.length<=80):G1 1000001^.tup [.tup xs,.tup ys]/\R8^.tup [.tup xs,.tup ys]<=48000/\TF^.tup [.tup xs,.tup ys]<=3:=by
 have s1:=Lz λd hd=>kF (hx d hd).2.1;have s2:=Lz λd hd=>kF (hy d hd).2.1;have d1:=dps_le.mpr λd hd=>(hx d hd).2.2;have d2:=dps_le.mpr λd hd=>(hy d hd).2.2;refine#[GF λd hd=>?_,?_,?_]
 .simp at hd
  rcases hd with rfl|rfl
  .exact GF λd hd=>(hx d hd).1
  .exact GF λd hd=>(hy d hd).1
 .show PZ xs+1+(PZ ys+1+0)<=48000
  omega
 .show max (LX xs+1)^max (LX ys+1) 0+1<=3
  omega
def BP(x:Str):¬cs x<cs x:=ir _
def z2:2<=sizeLine:=by cbv
def z3:3<=sizeLine:=by cbv
def z0:0<=sizeLine:=eP _
def dW:PC 10 6:=#[by cbv,by cbv,by cbv]
end Nt
namespace L2
def bD:R2:=λy x H Q=>∃a o,x=.ref a/\DGet H a y o/\Q (.bl o.isSome) H
def YH:R2:=λy x H Q=>∃a o,x=.ref a/\DGet H a y o/\Q (.bl (!o.isSome)) H
def Uh:R2:=λx y H Q=>∃a v,x=.ref a/\DGet H a y^P3 v/\Q v H
def VA{X:Cx}{k:Nat}(hr:Room k X.A):OpR X (compareOp .In) bD:=by
 intro zG s Z H y x iv u Q I ry rx #[a,ov,ex,g,q];subst ex;obtain rfl:u=eJ a:=rx;exact c9 (GD hr) I g ry λs3 I3=>#[.bl _,H,I3,rfl,q]
def Ec{X:Cx}{k:Nat}(hr:Room k X.A):OpR X (compareOp .NotIn) YH:=by
 intro zG s Z H y x iv u Q I ry rx #[a,ov,ex,g,q];subst ex;obtain rfl:u=eJ a:=rx;exact Xi (GD hr) I g ry λs3 I3=>#[.bl _,H,I3,rfl,q]
end L2
namespace Dp
open L2
def BS:p_ Key->p_ D->Key->q_ D
 |k0::ks,d::ds,k=>if k0=k then P3 d else BS ks ds k
 |_,_,_=>m_
section
variable {K:Frag}{X:Cx}
theorem Fl{M:Ch->Prop}{H:Hp}{k:Key}:∀{ks:p_ Key}{ds:p_ D}{vs:p_ V},Ats K M H ds vs->
  match BS ks ds k with
  |some z=>∃v,CW (ks.zip vs) k=P3 v/\At K M H z v
  |none=>CW (ks.zip vs) k=m_
 |[],ds,vs,h=>by exact rfl
 |k0::ks,[],vs,h=>by cases h;exact rfl
 | k0::ks,d::ds,vs,h=>by
  let#[v,r,rfl,h1,h2]:=h;have ih:=Fl (k:=k) (ks:=ks) h2;unfold BS
  by_cases e:k0=k
  .rw[if_pos e]
   refine#[v,?_,h1];show CW ((k0,v)::ks.zip r) k=P3 v;rw[C4 e]
  .have:CW ((k0,v)::ks.zip r) k=CW _ k:=C5 e
   simp_all
def keyOf:D->q_ Key
 |.int i=>P3^.inl i
 |.str x=>P3^.inr x
 |_=>m_
def Cj{U M:Ch->Prop}{H:Hp}{d:D}{v:V}{k:Key}(e:keyOf d=P3 k)(h:AtT K U M H d v):v=kV k:=by
 cases d with
 |int i=>cases e;exact h
 |str x=>cases e;exact h.str.1
 |_=>cases e
def Jq:D->q_ (p_ Key×p_ D)
 |.dic ks ds=>P3 (ks,ds)
 |.fdi ks ds=>P3 (ks,ds)
 |_=>m_
def Jp{U M:Ch->Prop}{H:Hp}{d:D}{x:V}{ks:p_ Key}{ds:p_ D}(e:Jq d=P3 (ks,ds))(h:AtT K U M H d x):∃a vs,x=.ref a/\Rd H a^.dK^ks.zip vs/\Ats K M H ds vs:=by
 cases d with
 |dic k2 d2=>cases e;let#[a,vs,rfl,_,ha,_,hs]:=h;exact#[a,vs,rfl,.inl ha,hs]
 |fdi k2 d2=>cases e;let#[a,vs,rfl,#[o,_,ha],_,hs]:=h;exact#[a,vs,rfl,.inr #[o,ha],hs]
 |_=>cases e
def IQ{H:Hp}{a:Ch}{kvs:p_ (Key×V)}{k:Key}(e:Rd H a^.dK kvs):DGet H a (kV k)^CW kvs k:=.inl #[_,k,e,rfl,rfl]
def IB(neg:Bool)(e d:D)(P:D->Prop):Prop:=∃ks ds k,Jq d=P3 (ks,ds)/\keyOf e=P3 k/\P^.bl (if neg then !(BS ks ds k).isSome else(BS ks ds k).isSome)
def A4(d e:D)(P:D->Prop):Prop:=∃ks ds k z,Jq d=P3 (ks,ds)/\keyOf e=P3 k/\BS ks ds k=P3 z/\P z
def Yd:Er K .sh bD^IB o_:=λU M H e d y x P Q dom vM hy hx w q=>by
 let#[ks,ds,k,hd,he,w]:=w;let#[a,vs,rfl,ha,hs]:=Jp hd hx;refine#[a,_,rfl,by rw[Cj he hy];exact IQ ha,q _ H (.bl _) .refl rfl ?_];have h:=Fl (k:=k) (ks:=ks) hs;cases c:BS ks ds k with
 |none=>simp_all
 |some z=>rw[c]at h w;let#[v,h1,_]:=h;simp_all
def GQ:Er K .sh YH^IB n_:=λU M H e d y x P Q dom vM hy hx w q=>by
 let#[ks,ds,k,hd,he,w]:=w;let#[a,vs,rfl,ha,hs]:=Jp hd hx;refine#[a,_,rfl,by rw[Cj he hy];exact IQ ha,q _ H (.bl _) .refl rfl ?_];have h:=Fl (k:=k) (ks:=ks) hs;cases c:BS ks ds k with
 |none=>simp_all
 |some z=>rw[c]at h w;let#[v,h1,_]:=h;simp_all
def Z5:Er K .sh Uh A4:=λU M H d e x y P Q dom vM hx hy w q=>by
 let#[ks,ds,k,z,hd,he,hz,w]:=w;let#[a,vs,rfl,ha,hs]:=Jp hd hx;have h:=Fl (k:=k) (ks:=ks) hs;rw[hz]at h;let#[v,h1,h2]:=h;exact#[a,v,rfl,by rw[Cj he hy,←h1];exact IQ ha,q v H z .refl h2 w]
variable {a b:Expr}{zU zQ:Kd}{wa wb:DW}{pos:Pos}
def A8{k:Nat}(hr:Room k X.A)(ha:DE X a zU wa)(hb:DE X b zQ wb)(hs:Xt b:=by intro _ _;rfl):DE X (.Subscript a b pos) .sh^AU A4 wa wb:=by
 let#[ta,ha1,ha2]:=ha;let#[tb,hb1,hb2]:=hb;exact#[_,II (GD hr) ha1 hb1 hs,λC M H n ρ Z P Q R w q=>Di Z5 ha2 hb2 C M H n ρ Z P Q R w q]
end
def Tz(i:Nat)(w:DW):Aa:=λD2 n ρ=>∃a:Int,ρ[i]?=P3^.sh^.int a/\w n ρ λd n1=>∃b:Int,d=.int b/\D2.nx n1^ρ.set i^.sh^.int (a+b)
def XZ{X:Cx}{κ zM:Kd}{e:eS}{wa:DW}{pos:Pos}{i:Nat}{x:Str}{pos':Pos}(hN:X.N.Nodup)(hi:X.N[i]?=P3 x)(hx:Loc X.env.scope x)(he:DE X e zM wa)
  (hf:X.fn x=n_\/X.env.scope.names.lookup x=P3 .local:=by first|exact .inl rfl|exact .inr rfl|assumption):DS X κ (.AugAssign (.Name x pos') .Add e pos)^Tz i wa:=by
 let#[t,a1,a2]:=he;refine#[_,ZE hN hi hx a1 Zh hf,λC M H n ρ Z D2 E R L w=>?_];let#[a,ha,w]:=w;let#[v,e1,h1]:=R.sl i _ ha;cases(h1);refine#[_,getD_some e1,a2 C M H n ρ Z _ _ R w λv H' d n' e1 f1 r1 p=>?_];let#[b,rfl,p]:=p;exact#[a,b,rfl,Vc r1,L.nx M H' n' _ _ ((R.step e1 f1).set (d:=.int _) rfl) p]
end Dp
namespace So
open PySem.W
section
variable {O:KeyOrd}{key:Nat->O.α}{N:Nat}{cmp:Nat->Nat->(Bool->Shared->Prop)->Shared->Prop}{s:Shared}{p p0:Array Nat}
def KN(O:KeyOrd)(key:Nat->O.α)(p:Array Nat)(i:Nat):O.α:=key^p.getD i 0
def Srt(O:KeyOrd)(key:Nat->O.α)(p:Array Nat)(k:Nat):Prop:=∀i j,i<=j->j<k->O.kle (KN O key p i)^KN O key p j
def b_(O:KeyOrd)(key:Nat->O.α)(p:Array Nat)(k:Nat):Prop:=∀i j,i<=j->j<k->O.kle (KN O key p j)^KN O key p i
def Yg(O:KeyOrd)(key:Nat->O.α)(N:Nat)(cmp:Nat->Nat->(Bool->Go->Prop)->Go->Prop)(s:Go):Prop:=∀(i j:Nat) (C:Bool->Go->Prop),i<N->j<N->C (O.blt (key i)^key j) s->cmp i j C s
def Bd(N:Nat)(p:Array Nat):Prop:=0<N/\∀x∈p,x<N
def XJ(p:Array Nat)(i:Nat):p.getD i 0=(p[i]?).getD 0:=by
 simp
def Bd.get(h:Bd N p)(i:Nat):p.getD i 0<N:=by
 rw[XJ];cases e:p[i]? with
 |none=>exact h.1
 |some x=>exact h.2 x^Array.mem_of_getElem? e
def Bd.perm{p':Array Nat}(h:Bd N p)(hp:p'.Perm p):Bd N p':=#[h.1,λx hx=>h.2 x^hp.mem_iff.mp hx]
def EW{p q:Array Nat}{i j:Nat}(h:p[i]?=q[j]?):KN O key p i=KN O key q j:=by
 unfold KN
 simp_all
def Lq{src d:Nat}(hs:src<p.size)(hd:d<=src)(k:Nat):
  KN O key (bubble p src d) k=if k=src - d then KN O key p src else if src - d<k/\k<=src then KN O key p (k - 1)else KN O key p k:=by
 have e:=getElem?_bubble hs d hd k
 by_cases h1:k=src - d
 .rw[if_pos h1]at e ⊢;exact EW e
 .rw[if_neg h1]at e ⊢
  by_cases h2:src - d<k/\k<=src
  .rw[if_pos h2]at e ⊢;exact EW e
  .rw[if_neg h2]at e ⊢;exact EW e
def HB{i j:Nat}(hj:j<=p.size)(k:Nat):KN O key (kas_rev p i j) k=if i<=k/\k<j then KN O key p (i+j - 1 - k)else KN O key p k:=by
 have e:=getElem?_mirror_all (i:=i) hj k
 by_cases h1:i<=k/\k<j
 .rw[if_pos h1]at e ⊢;exact EW e
 .rw[if_neg h1]at e ⊢;exact EW e
def Be{i j:Nat}(hj:j<=p.size)(heq:∀k,i<=k->k<j->KN O key p k=KN O key p (j - 1))(k:Nat):KN O key (kas_rev p i j) k=KN O key p k:=by
 rw[HB hj]
 grind
def B8(p:Array Nat)(i j:Nat):(kas_rev p i j).Perm p:=mirror_perm _ _ _ _
def yes{α:Type}{T₁ T₂:KasT α}{Q:α->Go->Prop}(h:T₁.kasWp cmp Q s):(if n_=n_ then T₁ else T₂).kasWp cmp Q s:=by grind
def no{α:Type}{T₁ T₂:KasT α}{Q:α->Go->Prop}(h:T₂.kasWp cmp Q s):(if o_=n_ then T₁ else T₂).kasWp cmp Q s:=by grind
theorem QV(hC:Yg O key N cmp s)(hb:Bd N p){nrem:Nat}{G:Nat->Go->Prop}:∀(f n:Nat),1<=n->n+f=nrem->Srt O key p n->
  (∀m,n<=m->m<=nrem->Srt O key p m->(m=nrem\/O.klt (KN O key p m)^KN O key p (m - 1))->G m s)->(kas_asc p f n).kasWp cmp G s
 |0,n,_,e,hs,h=>h n (Op _) (by lk) hs^.inl^by lk
 | f+1,n,h1,e,hs,h=>by
  show cmp (p.getD n 0) (p.getD (n - 1) 0) (λc s'=>(if c=n_ then KasT.ret n else kas_asc p f (n+1)).kasWp cmp G s') s;refine hC _ _ _ (hb.get n) (hb.get _) ?_;cases hless:O.blt (key^p.getD n 0)^key^p.getD (n - 1) 0 with
  |true=>exact yes^h n (Op _) (by lk) hs^.inr hless
  | false=>
   refine no^QV hC hb f (n+1) (by lk) (by lk) (λi j hij hj=>?_) λm m1 m2 m3 m4=>h m (by lk) m2 m3 m4
   by_cases hjx:j<n
   .exact hs i j hij hjx
   .have hj':j=n:=by lk
    subst hj'
    by_cases hi':i=j
    .subst hi';exact f7 _
    .exact jH (hs i (j - 1) (by lk)^by lk) hless
theorem IR(hC:Yg O key N cmp s){nrem:Nat}{G:Array Nat×Nat×Nat->Go->Prop}:∀(f:Nat) (p:Array Nat) (n q:Nat),p.Perm p0->Bd N p->nrem<=p.size->1<=n->n+f=nrem->b_ O key p n->q+1<=n->
  (∀i,n - (q+1)<=i->i<n->KN O key p i=KN O key p (n - 1))->
  (∀p' m q',p'.Perm p0->Bd N p'->p'.size=p.size->n<=m->m<=nrem->b_ O key p' m->q'+1<=m->(∀i,m - (q'+1)<=i->i<m->KN O key p' i=KN O key p' (m - 1))->G (p',m,q') s)->(kas_desc f p n q).kasWp cmp G s
 |0,p,n,q,hp,hb,hz,h1,e,hs,hq,he,h=>h p n q hp hb rfl (Op _) (by lk) hs hq he
 | f+1,p,n,q,hp,hb,hz,h1,e,hs,hq,he,h=>by
  show cmp (p.getD n 0) (p.getD (n - 1) 0) (λc s'=>(if c=n_ then(if q > 0 then kas_desc f (kas_rev p (n - (q+1)) n) (n+1) 0 else kas_desc f p (n+1) 0)
   else .ask (p.getD (n - 1) 0) (p.getD n 0) λd=>if d=n_ then .ret (p,n,q)else kas_desc f p (n+1) (q+1)).kasWp cmp G s') s
  refine hC _ _ _ (hb.get n) (hb.get _) ?_;cases hless:O.blt (key^p.getD n 0)^key^p.getD (n - 1) 0 with
  | true=>
   have hl:O.klt (KN O key p n)^KN O key p (n - 1):=hless
   have step1:∀xs:Array Nat,(∀k,KN O key xs k=KN O key p k)->b_ O key xs (n+1):=by
    intro xs hk i j hij hj;rw[hk,hk]
    by_cases hjx:j<n
    .exact hs i j hij hjx
    .have hj':j=n:=by lk
     subst hj'
     by_cases hi':i=j
     .subst hi';exact f7 _
     .exact jH (i8 hl)^hs i (j - 1) (by lk)^by lk
   refine yes ?_;have hsz:n<=p.size:=by lk
   by_cases hq0:q > 0
   .rw[if_pos hq0]
    refine IR hC f _ (n+1) 0 ((B8 _ _ _).trans hp) (hb.perm^B8 _ _ _) (by rw[kas_rev_size];exact hz) (by lk) (by lk) (step1 _^Be hsz he) (by lk) (λi a b=>by congr 1;lk) λp' m q' a1 a2 a3 a4 a5 a6 a7 a8=>h p' m q' a1 a2 (a3.trans^kas_rev_size _ _) (by lk) a5 a6 a7 a8
   .rw[if_neg hq0]
    exact IR hC f _ (n+1) 0 hp hb hz (by lk) (by lk) (step1 _ λ_=>rfl) (by lk) (λi a b=>by congr 1;lk) λp' m q' a1 a2 a3 a4 a5 a6 a7 a8=>h p' m q' a1 a2 a3 (by lk) a5 a6 a7 a8
  | false=>
   refine no ?_;show cmp (p.getD (n - 1) 0) (p.getD n 0) (λd s'=>(if d=n_ then KasT.ret (p,n,q)else kas_desc f p (n+1) (q+1)).kasWp cmp G s') s;refine hC _ _ _ (hb.get _) (hb.get n) ?_;cases hlarger:O.blt (key^p.getD (n - 1) 0)^key^p.getD n 0 with
   |true=>exact yes (h p n q hp hb rfl (Op _) (by lk) hs hq he)
   | false=>
    have heqx:KN O key p n=KN O key p (n - 1):=kr (O:=O) hlarger hless;refine no^IR hC f p (n+1) (q+1) hp hb hz (by lk) (by lk) (λi j hij hj=>?_) (by lk) (λi a b=>?_) λp' m q' a1 a2 a3 a4 a5 a6 a7 a8=>h p' m q' a1 a2 a3 (by lk) a5 a6 a7 a8
    .by_cases hjx:j<n
     .exact hs i j hij hjx
     .have hj':j=n:=by lk
      subst hj'
      by_cases hi':i=j
      .subst hi';exact f7 _
      .rw[heqx];exact hs i (j - 1) (by lk)^by lk
    .rw[show n+1 - 1=n by lk]
     by_cases hix:i=n
     .subst hix;rfl
     .rw[heqx];exact he i (by lk)^by lk
def Nk(hC:Yg O key N cmp s){n nrem:Nat}{G:Nat×Array Nat->Go->Prop}(hp:p.Perm p0)(hb:Bd N p)(hz:nrem<=p.size)(h1:1<=n)(hn:n<=nrem)(hs:b_ O key p n)
  (h:∀m p',p'.Perm p0->Bd N p'->p'.size=p.size->1<=m->m<=nrem->Srt O key p' m->G (m,p') s):(kas_tail3 n nrem p).kasWp cmp G s:=by
 unfold kas_tail3;rw[KasT.kasWp_bind];have hsz:n<=p.size:=by lk
 refine QV hC (hb.perm^B8 _ _ _) _ n h1 (by lk) (λi j hij hj=>?_) λm m1 m2 m3 _=>h m _ ((B8 _ _ _).trans hp) (hb.perm^B8 _ _ _) (kas_rev_size _ _) (by lk) m2 m3;rw[HB hsz,HB hsz,if_pos^by lk,if_pos^by lk];exact hs _ _ (by lk)^by lk
def HX(hC:Yg O key N cmp s){n nrem:Nat}{G:Nat×Array Nat->Go->Prop}(hp:p.Perm p0)(hb:Bd N p)(hz:nrem<=p.size)(hn:n+1<=nrem)(hs:b_ O key p (n+1))
  (h:∀m p',p'.Perm p0->Bd N p'->p'.size=p.size->1<=m->m<=nrem->Srt O key p' m->G (m,p') s):(kas_descPart n nrem p).kasWp cmp G s:=by
 unfold kas_descPart;rw[KasT.kasWp_bind];refine IR (p0:=p0) hC (nrem - (n+1)) p (n+1) 0 hp hb hz (by lk) (by lk) hs (by lk) (λi a b=>by grind) λp' m q' a1 a2 a3 a4 a5 a6 a7 a8=>?_;have hsz:m<=p'.size:=by lk
 show(if q' > 0 then kas_tail3 m nrem^kas_rev p' (m - (q'+1)) m else kas_tail3 m nrem p').kasWp cmp G s
 by_cases hq0:q' > 0
 .rw[if_pos hq0]
  refine Nk hC ((B8 _ _ _).trans a1) (a2.perm^B8 _ _ _) (by rw[kas_rev_size];lk) (by lk) a5 (λi j hij hj=>?_) λm' p'' b1 b2 b3 b4 b5 b6=>h m' p'' b1 b2 (b3.trans^(kas_rev_size _ _).trans a3) b4 b5 b6;rw[Be hsz a8,Be hsz a8];exact a6 i j hij hj
 .rw[if_neg hq0]
  exact Nk hC a1 a2 (by lk) (by lk) a5 a6 λm' p'' b1 b2 b3 b4 b5 b6=>h m' p'' b1 b2 (b3.trans a3) b4 b5 b6
def V2(hC:Yg O key N cmp s){nrem:Nat}{G:Nat×Array Nat->Go->Prop}(hp:p.Perm p0)(hb:Bd N p)(hz:nrem<=p.size)(h1:1<=nrem)
  (h:∀m p',p'.Perm p0->Bd N p'->p'.size=p.size->1<=m->m<=nrem->Srt O key p' m->G (m,p') s):(kas_count nrem p).kasWp cmp G s:=by
 unfold kas_count;rw[KasT.kasWp_bind];refine QV (nrem:=nrem) hC hb (nrem - 1) 1 (Op _) (by lk) (λi j hij hj=>by have:i=j:=(by lk);subst this;exact f7 _) λn hn1 hn2 hsn hor=>?_
 by_cases hnn:n=nrem
 .rw[if_pos^by simpa using hnn]
  exact h n p hp hb rfl hn1 hn2 hsn
 .rw [if_neg^by simpa using hnn]
  have hlt:O.klt (KN O key p n)^KN O key p (n - 1):=hor.resolve_left hnn
  by_cases hgt:n > 1
  .rw[if_pos hgt]
   show cmp (p.getD 0 0) (p.getD (n - 1) 0) (λc s'=>(if c=n_ then KasT.ret (n,p)else kas_descPart n nrem^kas_rev p 0 n).kasWp cmp G s') s;refine hC _ _ _ (hb.get _) (hb.get _) ?_;cases hrose:O.blt (key^p.getD 0 0)^key^p.getD (n - 1) 0 with
   |true=>exact yes (h n p hp hb rfl hn1 hn2 hsn)
   | false=>
    have hrose':O.kle (KN O key p (n - 1))^KN O key p 0:=hrose;have hsz:n<=p.size:=by lk
    have hall:∀k,0<=k->k<n->KN O key p k=KN O key p (n - 1):=by
     intro k _ hk;have a1:=hsn 0 k (by lk) hk;have a2:=hsn k (n - 1) (by lk) (by lk);exact kr a2^jH hrose' a1
    refine no^HX hC ((B8 _ _ _).trans hp) (hb.perm^B8 _ _ _) (by rw[kas_rev_size];exact hz) (by lk) (λi j hij hj=>?_) λm' p'' b1 b2 b3 b4 b5 b6=>h m' p'' b1 b2 (b3.trans^kas_rev_size _ _) b4 b5 b6;rw[Be hsz hall,Be hsz hall]
    by_cases hjn:j<n
    .rw[hall i (by lk)^by lk,hall j (by lk) hjn];exact f7 _
    .have hj':j=n:=by lk
     subst hj'
     by_cases hi':i=j
     .subst hi';exact f7 _
     .rw[hall i (by lk)^by lk];exact i8 hlt
  .rw[if_neg hgt]
   have hn1':n=1:=by lk
   subst hn1';refine HX hC hp hb hz (by lk) (λi j hij hj=>?_) h
   by_cases hi':i=j
   .subst hi';exact f7 _
   .have hi0:i=0:=by lk
    have hj1:j=1:=by lk
    subst hi0;subst hj1
    exact i8 hlt
theorem JL(hC:Yg O key N cmp s)(hb:Bd N p){k:Nat}(hs:Srt O key p k){G:Nat->Go->Prop}
  (h:∀l,l<=k->(∀i,i<l->O.kle (KN O key p i)^KN O key p k)->(∀i,l<=i->i<k->O.klt (KN O key p k)^KN O key p i)->G l s):∀(f l r:Nat),l<=r->r<=k->r - l<=f->
  (∀i,i<l->O.kle (KN O key p i)^KN O key p k)->(∀i,r<=i->i<k->O.klt (KN O key p k)^KN O key p i)->(kas_place p k f l r).kasWp cmp G s
 |0,l,r,hlr,hrk,hm,hlo,hhi=>by
  have:l=r:=by lk
  subst this;exact h l hrk hlo hhi
 | f+1,l,r,hlr,hrk,hm,hlo,hhi=>by
  unfold kas_place
  by_cases hge:l≥r
  .rw[if_pos hge]
   have:l=r:=by lk
   subst this;exact h l hrk hlo hhi
  .rw[if_neg hge]
   refine hC _ _ _ (hb.get _) (hb.get _) ?_;cases hless:O.blt (key^p.getD k 0)^key^p.getD ((l+r) / 2) 0 with
   |true=>
    have hl:O.klt (KN O key p k)^KN O key p ((l+r) / 2):=hless;exact yes^JL hC hb hs h f l ((l+r) / 2) (by lk) (by lk) (by lk) hlo λi h1 h2=>KeyOrd.klt_of_klt_of_kle hl^hs _ _ h1 h2
   |false=>
    have hl:O.kle (KN O key p ((l+r) / 2))^KN O key p k:=hless;exact no^JL hC hb hs h f ((l+r) / 2+1) r (by lk) (by lk) (by lk) (λi h1=>jH (hs i ((l+r) / 2) (by lk)^by lk) hl) hhi
theorem Di(hC:Yg O key N cmp s){n:Nat}{G:Array Nat->Go->Prop}(h:∀p',p'.Perm p0->Srt O key p' n->G p' s):∀(f:Nat) (p:Array Nat) (k:Nat),p.Perm p0->Bd N p->n<=p.size->k+f=n->Srt O key p k->(kas_bin f p k).kasWp cmp G s
 |0,p,k,hp,hb,hz,e,hs=>h p hp^by rw[←e];exact hs
 | f+1,p,k,hp,hb,hz,e,hs=>by
  rw[show kas_bin (f+1) p k=(kas_place p k k 0 k).bind λl=>kas_bin f (bubble p k (k - l)) (k+1)from rfl,KasT.kasWp_bind];refine JL hC hb hs (λl hlk hlo hhi=>?_) k 0 k (eP _) (Op _) (by lk) (λi hi=>by lk) λi a b=>by lk
  have hks:k<p.size:=by lk
  refine Di hC h f _ (k+1) ((bubble_perm _ _ _).trans hp) (hb.perm^bubble_perm _ _ _) (by rw[bubble_size];exact hz) (by lk) λi j hij hj=>?_;rw[Lq hks^by lk,Lq hks^by lk,show k - (k - l)=l by lk]
  by_cases hi1:i=l
  .rw[if_pos hi1]
   by_cases hj1:j=l
   .rw[if_pos hj1];exact f7 _
   .rw[if_neg hj1,if_pos^by lk]
    exact i8^hhi (j - 1) (by lk)^by lk
  .rw [if_neg hi1]
   by_cases hi2:l<i/\i<=k
   .rw[if_pos hi2,if_neg^by lk,if_pos^by lk]
    exact hs (i - 1) (j - 1) (by lk)^by lk
   .rw[if_neg hi2]
    by_cases hj1:j=l
    .rw[if_pos hj1];exact hlo i^by lk
    .rw[if_neg hj1]
     by_cases hj2:l<j/\j<=k
     .rw[if_pos hj2]
      exact hs i (j - 1) (by lk)^by lk
     .rw[if_neg hj2]
      exact hs i j hij^by lk
def sort_ok{n:Nat}(h1:1<=n)(hC:Yg O key n cmp s){G:Array Nat->Go->Prop}(h:∀p,p.Perm^eX^e8 n->Srt O key p n->G p s):(kas_sort n).kasWp cmp G s:=by
 unfold kas_sort;rw[KasT.kasWp_bind];have hb:Bd n^eX^e8 n:=#[h1,λx hx=>by grind];have hsz:(eX^e8 n).size=n:=by simp
 refine V2 hC (kR _) hb (by lk) h1 λm p' a1 a2 a3 a4 a5 a6=>?_
 by_cases hlt:m<n
 .rw[if_pos hlt,show max m 1=m by lk]
  exact Di hC h _ p' m a1 a2 (by lk) (by lk) a6
 .rw[if_neg hlt]
  exact h p' a1^by grind
end
end So
namespace L2
open PySem.W
def ZX:Key->Key->Bool
 |.inl i,.inl j=>decide (i<j)
 |.inr x,.inr y=>decide (x.cps.toList<y.cps.toList)
 |.inl _,.inr _=>n_
 |.inr _,.inl _=>o_
def Bb:p_ Key->p_ Key->Bool
 |[],[]=>o_
 |[],_::_=>n_
 |_::_,[]=>o_
 |x::xs,y::ys=>if x=y then Bb xs ys else ZX x y
theorem QC:∀x:Key,ZX x x=o_
 |.inl i=>decide_eq_false^Int.lt_irrefl i
 |.inr x=>decide_eq_false^ir _
theorem Sw:∀x y z:Key,ZX x y=n_->ZX y z=n_->ZX x z=n_
 |.inl i,.inl j,.inl k,h1,h2=>decide_eq_true^Int.lt_trans (of_decide_eq_true h1)^of_decide_eq_true h2
 |.inr i,.inr j,.inr k,h1,h2=>decide_eq_true^iU (of_decide_eq_true h1)^of_decide_eq_true h2
 |.inl i,.inl j,.inr k,_,_=>rfl
 |.inl i,.inr j,.inr k,_,_=>rfl
 |.inl i,.inr j,.inl k,_,h=>by cases h
 |.inr i,.inl j,_,h,_=>by cases h
 |.inr i,.inr j,.inl k,_,h=>by cases h
theorem LJ:∀x y:Key,ZX x y=o_->ZX y x=o_->x=y
 |.inl i,.inl j,h1,h2=>congrArg _^by have a:=of_decide_eq_false h1;have b:=of_decide_eq_false h2;lk
 |.inr x,.inr y,h1,h2=>by
  have e:=List.le_antisymm (of_decide_eq_false h2)^of_decide_eq_false h1;let#[u]:=x
  simp_all
 |.inl i,.inr j,h,_=>by cases h
 |.inr i,.inl j,_,h=>by cases h
theorem CM:∀x:p_ Key,Bb x x=o_
 |[]=>rfl
 |x::xs=>by unfold Bb;rw[if_pos rfl];exact CM xs
theorem Cg:∀x y z:p_ Key,Bb x y=n_->Bb y z=n_->Bb x z=n_
 |[],[],_,h,_=>by cases h
 |[],_::_,[],_,h=>by cases h
 |[],_::_,_::_,_,_=>rfl
 |_::_,[],_,h,_=>by cases h
 |_::_,_::_,[],_,h=>by cases h
 | x::xs,y::ys,z::zs,h1,h2=>by
  unfold Bb at h1 h2 ⊢
  by_cases e1:x=y
  .subst e1
   rw[if_pos rfl]at h1
   by_cases e2:x=z
   .subst e2
    rw[if_pos rfl]at h2 ⊢;exact Cg xs ys zs h1 h2
   grind
  .rw[if_neg e1]at h1
   by_cases e2:y=z
   .grind
   .rw[if_neg e2]at h2
    have h3:=Sw x y z h1 h2
    by_cases e3:x=z
    .subst e3
     rw[QC]at h3;cases h3
    grind
theorem CG:∀x y:p_ Key,Bb x y=o_->Bb y x=o_->x=y
 |[],[],_,_=>rfl
 |[],_::_,h,_=>by cases h
 |_::_,[],_,h=>by cases h
 | x::xs,y::ys,h1,h2=>by
  unfold Bb at h1 h2
  by_cases e:x=y
  .subst e
   rw[if_pos rfl]at h1 h2;rw[CG xs ys h1 h2]
  .rw[if_neg e]at h1
   rw[if_neg λz=>e z.symm]at h2;exact absurd (LJ x y h1 h2) e
def Sd:KeyOrd:=#[p_ Key,Bb,CM,Cg,λa b c h=>by
 cases h1:Bb a b with
 |true=>exact .inl rfl
 |false=>
  cases h2:Bb b a with
  |true=>exact .inr^Cg b a c h2 h
  |false=>rw[←CG a b h1 h2];exact .inr h,CG]
theorem Mi:∀x y:p_ Key,Bm x y=n_->Gs x y=Bb x y
 |[],[],_=>rfl
 |[],_::_,_=>rfl
 |_::_,[],_=>rfl
 | x::xs,y::ys,h=>by
  have h':(K_ x y&&Bm xs ys)=n_:=h;rw[eh]at h';unfold Gs Bb
  by_cases e:x=y
  .rw[if_pos e,if_pos e];exact Mi xs ys h'.2
  .rw[if_neg e,if_neg e]
   cases x with
   |inl i=>cases y with
    |inl j=>rfl
    |inr z=>cases h'.1
   |inr i=>cases y with
    |inl j=>cases h'.1
    |inr z=>rfl
section
variable {prog:Program}{w:World}{A:Around}{E:Value->Shared->Prop}{s:Shared}
theorem VO{b:Bool}{Q:Bool->Go->Prop}{nx ny:Nat}:∀(ns ms:p_ Key) (us ws:p_ Db) (i:Nat),Vals (ns.map kOf) us->Vals (ms.map kOf) ws->Bm ns ms=n_->ns.length+ny=ms.length+nx->Q (Gs ns ms) s->
  KatLex prog w A b (decide (nx<ny)) Q (us.zip ws) i s
 |[],[],us,ws,i,h1,h2,_,hl,q=>by
  cases h1;cases h2;refine kat_nil ?_;rw[show decide (nx<ny)=o_ from decide_eq_false^by simp only[f6]at hl;lk];exact q
 |[],m::ms,us,ws,i,h1,h2,_,hl,q=>by
  cases h1;rw[List.zip_nil_left];refine kat_nil ?_;rw[show decide (nx<ny)=n_ from decide_eq_true^by simp only[f6,eo]at hl;lk];exact q
 |n::ns,[],us,ws,i,h1,h2,_,hl,q=>by
  cases h2;rw[List.zip_nil_right];refine kat_nil ?_;rw[show decide (nx<ny)=o_ from decide_eq_false^by simp only[f6,eo]at hl;lk];exact q
 | n::ns,m::ms,us,ws,i,h1,h2,hs,hl,q=>by
  have hs':(K_ n m&&Bm ns ms)=n_:=hs;rw[eh]at hs';have q':Q (if n=m then Gs ns ms else cH n m) s:=q;cases h1 with
  | @cons _ u _ ur r1 t1=>
   cases h2 with
   | @cons _ v _ vr r2 t2=>
    rw[gm];have ih:n=m->KatLex prog w A b (decide (nx<ny)) Q (ur.zip vr) (i+1) s:=λe=>VO ns ms ur vr (i+1) t1 t2 hs'.2 (by simp only[eo]at hl;lk) (by rw[if_pos e]at q';exact q');cases n with
    | inl x=>
     cases m with
     |inr y=>cases hs'.1
     | inl y=>
      let#[tu,rfl]:=r1;let#[tv,rfl]:=r2;refine kat_cons^wpAny_eqBool_int ?_
      by_cases e:x=y
      .rw[show(x==y)=n_ by simpa using e]
       exact kat_yes^ih^by rw[e]
      .rw[show(x==y)=o_ by simpa using e]
       refine kat_no ?_;rw[if_neg λz=>e^Sum.inl.inj z]at q';cases hf:(b&&i==0)with
       |true=>exact oneLt_int q'
       |false=>exact kat_one _ _^kX (show PySem.W.BoolBack Q (.bool (decide (x<y))) s from q')
    | inr x=>
     cases m with
     |inl y=>cases hs'.1
     | inr y=>
      let#[tu,rfl]:=r1;let#[tv,rfl]:=r2;refine kat_cons^wpAny_eqBool_str ?_
      by_cases e:x=y
      .rw[show decide (x=y)=n_ by simpa using e]
       exact kat_yes^ih^by rw[e]
      .rw[show decide (x=y)=o_ by simpa using e]
       refine kat_no ?_;rw[if_neg λz=>e^hG z]at q';cases hf:(b&&i==0)with
       |true=>exact oneLt_str q'
       |false=>exact kat_one _ _^PySem.P.lt_str (show PySem.W.BoolBack Q (.bool (decide (x.cps.toList<y.cps.toList))) s from q')
structure Ru (h:eK) (ks:List Db) (keys:List^List Key):Prop where
 at_:∀(i:Nat) (ns:List Key),keys[i]?=P3 ns->∃a o its n,ks[i]?=P3^.ref a/\h.get? a=P3 o/\o.cls=.type "tuple"/\o.data=.seq its n/\Vals (ns.map kOf) its.toList
 len:ks.length=keys.length
 same:∀x∈keys,∀y∈keys,Bm x y=n_
 ne:∀x∈keys,x≠[]
def cE:Key->String
 |.inl _=>"int"
 |.inr _=>"str"
theorem firsts{h:eK}:∀(ks:p_ Db) (keys:p_^p_ Key) (T:String),ks.length=keys.length->(∀(i:Nat) (ns:p_ Key),keys[i]?=P3 ns->∃a o its n,ks[i]?=P3^.ref a/\h.get? a=P3 o/\o.cls=.type "tuple"/\o.data=.seq its n/\Vals (ns.map kOf) its.toList)->
  (∀x∈keys,∃k r,x=k::r/\cE k=T)->∃fs:p_ Db,KatTups h ks fs/\fs.length=keys.length/\∀v∈fs,typeOf v=pure^.type T
 |[],[],T,_,_,_=>#[[],trivial,rfl,λv hv=>by cases hv]
 |[],_::_,T,hl,_,_=>by cases hl
 |_::_,[],T,hl,_,_=>by cases hl
 | k::ks,x::keys,T,hl,h1,h2=>by
  let#[fs,g1,g2,g3]:=firsts ks keys T (by simpa using hl) (λi ns e=>by
   let#[a,o,its,n,e1,r]:=h1 (i+1) ns (by simpa using e);exact#[a,o,its,n,by simpa using e1,r]) λy hy=>h2 y^TW _ hy
  let#[a,o,its,n,e1,e2,e3,e4,e5]:=h1 0 x rfl;have e1:k=.ref a:=by simpa using e1
  subst e1;let#[k,r,rfl,hk]:=h2 x Re;rw[eW]at e5;cases hits:its.toList with
  |nil=>rw[hits]at e5;cases e5
  | cons f tl=>
   rw[hits]at e5;cases e5 with
   | cons r1 r2=>
    refine#[f::fs,KatTups.cons e2 e3 e4 (by rw[←iK,hits];rfl) g1,by rw[eo,eo,g2],λv hv=>?_]
    rcases XV.mp hv with rfl|hv
    .cases k with
     |inl i=>let#[t,rfl]:=r1;subst hk;rfl
     |inr i=>let#[t,rfl]:=r1;subst hk;rfl
    .exact g3 v hv
def K5{ks:p_ Db}{keys:p_^p_ Key}(K:Ru s.heap ks keys)(h2:2<=ks.length){G:Array Nat->Go->Prop}(h:∀p,p.Perm^eX^e8 ks.length->So.Srt Sd (λi=>keys.getD i []) p ks.length->G p s):
  wpAny (model prog w) A (keyKind' ks.toArray) (λκ s'=>(kas_sort ks.length).kasWp (kas_ask prog w A κ ks) G s') (λ_ _=>False) s:=by
 obtain⟨x0,xr,hx⟩:∃x0 xr,keys=x0::xr:=by
  cases e:keys with
  |nil=>have:=K.len;rw[e]at this;simp only[f6]at this;lk
  |cons x r=>exact#[x,r,rfl]
 have m0:x0∈keys:=by rw[hx];exact Re
 obtain⟨k0,r0,e0⟩:∃k r,x0=k::r:=by
  cases e:x0 with
  |nil=>exact absurd e^K.ne x0 m0
  |cons k r=>exact#[k,r,rfl]
 have hty:∀x∈keys,∃k r,x=k::r/\cE k=cE k0:=λx hm=>by
  cases e:x with
  |nil=>exact absurd e^K.ne x hm
  | cons k r=>
   refine#[k,r,rfl,?_];have hsm:=K.same x hm x0 m0;rw[e,e0]at hsm;have hsm:(K_ k k0&&Bm r r0)=n_:=hsm;rw[eh]at hsm;cases k with
   |inl i=>cases k0 with
    |inl j=>rfl
    |inr j=>cases hsm.1
   |inr i=>cases k0 with
    |inl j=>cases hsm.1
    |inr j=>rfl
 let#[fs,g1,g2,g3]:=firsts ks keys (cE k0) K.len K.at_ hty;refine kat_kind g1 (by rw[g2,←K.len];lk) (λv hv=>by rw[g3 v hv];exact Looks.now) (by simp) ?_;refine So.sort_ok (O:=Sd) (key:=λi=>keys.getD i []) (by lk) (λi j C hi hj hC=>?_) h;have hi':i<keys.length:=by rw[←K.len];exact hi
 have hj':j<keys.length:=by rw[←K.len];exact hj
 let#[a,o,its,n,e1,e2,e3,e4,e5]:=K.at_ i keys[i] (No hi');let#[a',o',its',n',e1',e2',e3',e4',e5']:=K.at_ j keys[j] (No hj');unfold kas_ask;rw[show ks.getD i ej=.ref a by rw[eU,e1];rfl,show ks.getD j ej=.ref a' by rw[eU,e1'];rfl];have hsm:=K.same _ (fe hi') _^fe hj';refine kat_lt e2 e4 e2' e4' (VO keys[i] keys[j] _ _ 0 e5 e5' hsm ?_ ?_)
 .have l1:=e5.length
  have l2:=e5'.length;have l3:(keys[i].map kOf).length=keys[i].length:=Ev ..;have l4:(keys[j].map kOf).length=keys[j].length:=Ev ..;have l5:its.toList.length=its.size:=fD;have l6:its'.toList.length=its'.size:=fD;lk
 .rw[Mi _ _ hsm]
  have g1:keys.getD i []=keys[i]:=by rw[eU,No hi'];rfl
  have g2:keys.getD j []=keys[j]:=by rw[eU,No hj'];rfl
  have hC':C (Bb (keys.getD i [])^keys.getD j []) s:=hC;rw[g1,g2]at hC';exact hC'
def CY{v:Db}{kw:p_ (Str×Db)}{Q:Db->Go->Prop}(ha1:argsOk "sorted" #[[v],kw])(ha2:∀x,argsOk "list.sort" #[[.ref x],kw])
  (hc:wpAny (model prog w) A.in1 (collect v) (λvs s1=>vs.length<=sizeLine/\wpAny (model prog w) A.in1.in1 (gs.«list.sort» #[[.ref s1.heap.objs.size],kw]) (λfin s'=>fin=.done^.ret .none/\Q (.ref s1.heap.objs.size) s') E {s1 with heap:=s1.heap.push^seqObj "list" vs.toArray 0}) E s):
  wpAny (model prog w) A (call (.builtin "sorted") [v] kw) Q E s:=call_function_entry_kw kind_sorted plain_sorted entry_sorted ha1^Cn^On^Cn^fV hc (λvs s1 h=>Cn^jw (Cn^fc^wpAny_call_entry_kw PyProof.Rows.slot_list_sort #[_,TM _ rfl,rfl] PyProof.Rows.entry_list_sort (fV h.2 (λfin s' hf=>#[_,hf.1,On #[_,rfl,hf.2]]) λ_ _ x=>x)^ha2 _) h.1) λ_ _ x=>x
def Ct(h:eK)(D:Ch)(vs:p_ Db):eK:=((h.update D^fH λ_=>(#[]:Array Db)).push^seqObj "tuple" vs.toArray 0).push^seqObj "list" #[] 0
def Gh{h:eK}{D:Ch}{vs:p_ Db}{b:Ch}{o:Obj}(hb:b≠D)(e:h.get? b=P3 o):(Ct h D vs).get? b=P3 o:=
 FM _ (FM _^(eG _ _^fB hb).trans e)
def Ir{h:eK}{D:Ch}{vs:p_ Db}{n:Nat}(ho:h.get? D=P3^seqObj "list" vs.toArray n):∃e1,(Ct h D vs).get? D=P3^seqObj "list" #[] e1/\(h.update D^fH λ_=>(#[]:Array Db)).get? D=P3^seqObj "list" #[] e1:=by
 obtain⟨e1,ho1⟩:∃e1,(h.update D _).get? D=P3^seqObj _ _ e1:=#[_,h_ ho _];exact#[e1,FM _^FM _ ho1,ho1]
def OG{D:Ch}{vs:p_ Db}{n:Nat}{P:PySem.Fin->Go->Prop}{G:Array Nat->Prop}(ho:s.heap.get? D=P3^seqObj "list" vs.toArray n)(h64:vs.length<64)
  (hk:2<=vs.length->wpAny (model prog w) A (keyKind' vs.toArray) (λκ s'=>(kas_sort vs.length).kasWp (kas_ask prog w A κ vs) (λp s''=>s''={s with heap:=Ct s.heap D vs}/\G p) s') (λ_ _=>False) {s with heap:=Ct s.heap D vs})
  (h1:vs.length<2->G^eX^e8 vs.length) (hfin:∀(p:Array Nat) (h':eK) (c:Nat),p.size=vs.length->G p->(∀b o,b≠D->s.heap.get? b=P3 o->h'.get? b=P3 o)->h'.get? D=P3^seqObj "list" (eX^p.toList.map λi=>vs.getD i ej) c->P (.done^.ret .none) {s with heap:=h'}):
  wpAny (model prog w) A (gs.«list.sort» #[[.ref D],[]]) P E s:=by
 let#[e1,ho6,ho1]:=Ir ho
 have fin:∀(p:Array Nat),p.size=vs.length->G p->P (.done^.ret .none) {s with heap:=(Ct s.heap D vs).update D^fH λ_=>eX^p.toList.map λi=>vs.getD i ej}:=λp hp hg=>by
  obtain⟨c2,hc2⟩:∃c2,((Ct s.heap D vs).update D^fH λ_=>eX^p.toList.map λi=>vs.getD i ej).get? D=P3^seqObj "list" (eX^p.toList.map λi=>vs.getD i ej) c2:=#[_,h_ ho6 λ_=>eX^p.toList.map λi=>vs.getD i ej];exact hfin p _ c2 hp hg (λb o hb e=>(eG _ _^fB hb).trans^Gh hb e) hc2
 rw[list_sort_plain];refine Cn (jW ho rfl ?_);refine Cn (gw ho rfl ?_ (by rw[eF,fA];lk) (eP _));refine Cn (jk ho1 rfl ?_);refine Cn (wpAny_newTuple ?_^by show vs.length<=_;rw[fA];lk);refine Cn^jw ?_^eP _;refine fc ?_;show wpAny (model prog w) A _ P E {s with heap:=Ct s.heap D vs}
 dsimp only
 by_cases h2:vs.length<2
 .have h2':vs.toArray.size<2:=by rw[eF];exact h2
  rw[if_pos h2',if_pos h2'];refine Cn^On ?_;rw[StateT.run_pure];refine Cn^On ?_
  dsimp only
  refine Cn (jk ho6 rfl ?_);have hsz:(eX^e8 vs.length).size=vs.length:=by simp
  have hout:(arrOf^SortSt.mk' general' (vs.toArray.zip vs.toArray) #[] 7 m_).map (·.2)=eX ((eX^e8 vs.length).toList.map λi=>vs.getD i ej):=by
   refine kat_snds rfl ?_;have e:=kas_range^vs.toArray.zip vs.toArray;rw[show(vs.toArray.zip vs.toArray).size=vs.length by simp]at e;exact e.symm
  rw[hout];refine Cn (gw ho6 rfl ?_ (eP _) (by rw[eF,Ev,fD,hsz,fA];lk));simp only[bne_self_eq_false,fG,if_false];exact On^fin _ hsz^h1 h2
 .have h2':¬vs.toArray.size<2:=by rw[eF];exact h2
  rw[if_neg h2',if_neg h2'];refine Cn^fV (hk^by lk) (λκ s0 hk=>?_) λ_ _ x=>x.elim
  refine Cn (fV (kat_run (Q:=λst' s'=>∃p:Array Nat,p.size=vs.length/\arrOf st'=p.map^kas_item^vs.toArray.zip vs.toArray/\failedOf st'=m_/\s'={s with heap:=Ct s.heap D vs}/\G p)
   rfl (by lk) h64 (λp' st' s' a1 a2 a3 a4=>#[p',a1,a2,a3,a4]) hk) ?_ λ_ _ e=>e)
  rintro⟨⟨⟩,st'⟩ s' ⟨p,hp,har,hf,rfl,hg⟩
  dsimp only
  have hout:=kat_snds rfl har;have hsz:(eX^p.toList.map λi=>vs.getD i ej).size=vs.length:=by rw[eF,Ev,fD,hp]
  rw[hout];refine Cn (jk ho6 rfl ?_);refine Cn (gw ho6 rfl ?_ (eP _) (eR (jQ hsz)^by rw[fA];lk));rw[hf];simp only[bne_self_eq_false,fG,if_false];exact On^fin p hp hg
def Sx{D:Ch}{f:Db}{vs:p_ Db}{n:Nat}{P:PySem.Fin->Go->Prop}(ho:s.heap.get? D=P3^seqObj "list" vs.toArray n)(h64:vs.length<64)(J:p_ Db->Go->Prop)(kS:Ch)(hkS:kS=s.heap.objs.size+1)
  (h0:∀e1,(Ct s.heap D vs).get? D=P3^seqObj "list" #[] e1->J [] {s with heap:=Ct s.heap D vs})
  (hstep:∀(ks:p_ Db) (s':Go) (e:Nat) (v:Db),J ks s'->s'.heap.get? kS=P3^seqObj "list" ks.toArray e->vs[ks.length]?=P3 v->wpAny (model prog w) A (call f [v]) (λk s''=>s''.heap.get? kS=P3^seqObj "list" ks.toArray e/\J (ks++[k]) {s'' with heap:=s''.heap.update kS (fH (·.push k))}) (λ_ _=>False) s')
  (hend:∀(e1:Nat),(Ct s.heap D vs).get? D=P3^seqObj "list" #[] e1->∀(ks:p_ Db) (s':Go),J ks s'->ks.length=vs.length->s'.heap.get? D=P3^seqObj "list" #[] e1/\∃G:Array Nat->Prop,
   (2<=vs.length->wpAny (model prog w) A (keyKind' ks.toArray) (λκ s2=>(kas_sort vs.length).kasWp (kas_ask prog w A κ ks) (λp s''=>s''=s'/\G p) s2) (λ_ _=>False) s')/\(vs.length<2->G^eX^e8 vs.length) /\
   ∀(p:Array Nat) (h':eK) (c:Nat),p.size=vs.length->G p->(∀b o,b≠D->b≠kS->s'.heap.get? b=P3 o->h'.get? b=P3 o)->h'.get? D=P3^seqObj "list" (eX^p.toList.map λi=>vs.getD i ej) c->(∃o,h'.get? kS=P3 o)->P (.done^.ret .none) {s' with heap:=h'}):
  wpAny (model prog w) A (ksk_tree D f o_) P E s:=by
 let#[e1,ho6,ho1]:=Ir ho;have hsz1:((s.heap.update D^fH λ_=>(#[]:Array Db)).push^seqObj "tuple" vs.toArray 0).objs.size=kS:=by rw[size_push',Heap.size_update,hkS]
 have hD:D<s.heap.objs.size:=Tk ho;have hDk:D≠kS:=by rw[hkS];exact eI^gE hD
 have hk0:(Ct s.heap D vs).get? kS=P3^seqObj "list" #[] 0:=by rw[←hsz1];exact TM _ rfl
 unfold ksk_tree;refine Cn (jW ho rfl ?_);refine Cn (gw ho rfl ?_ (by rw[eF,fA];lk) (eP _));refine Cn (jk ho1 rfl ?_);refine Cn (wpAny_newTuple ?_^by show vs.length<=_;rw[fA];lk);refine Cn^jw ?_^eP _;refine fc ?_;show wpAny (model prog w) A (ksk_rest D f o_ vs.toArray e1^.ref ((s.heap.update D^fH λ_=>(#[]:Array Db)).push^seqObj "tuple" vs.toArray 0).objs.size) P E {s with heap:=Ct s.heap D vs};rw[hsz1];unfold ksk_rest;refine Cn^iq ?_
 first
  |rw[List.forIn_toArray]
  |(rw[←Array.forIn_toList];simp only[List.toList_toArray])
  |rw[←Array.forIn_toList]
 refine Cn^ksk_fold (I:=λi s'=>∃ks e,jj ks=i/\J ks s'/\s'.heap.get? kS=P3^seqObj "list" ks.toArray e) vs 0 _ #[[],0,rfl,h0 e1 ho6,hk0] (λj x s' hx hI=>?_) λs' hI=>?_
 .let#[ks,e,hl,hJ,hk]:=hI
  have hj:j<vs.length:=(Uf.mp hx).1;have hl:ks.length=j:=by lk
  refine Cn^jD^fV (hstep ks s' e x hJ hk^by rw[hl];exact hx) (λk s'' hk2=>?_) λ_ _ hF=>hF.elim;have ea:(eX ks).push k=eX (ks++[k]):=by simp
  obtain⟨c2,hc2⟩:∃c2,(s''.heap.update kS (fH (·.push k))).get? kS=P3^seqObj "list" (eX (ks++[k])) c2:=#[_,by rw[←ea];exact h_ hk2.1 (·.push k)]
  try dsimp only
  refine Cn (gw hk2.1 rfl ?_ (by rw[eF,fA];lk) (eR (jQ (Array.size_push ..))^by rw[eF,fA];lk));exact On #[rfl,ks++[k],c2,by rw[eV,fo];lk,hk2.2,hc2]
 .let#[ks,e,hl,hJ,hk]:=hI
  have hl:ks.length=vs.length:=by lk
  let#[hD',G,g2,g1,g3]:=hend e1 ho6 ks s' hJ hl
  try dsimp only
  refine Cn (jW hk rfl ?_)
  have tail:∀(st:SortSt) (p:Array Nat),p.size=vs.length->G p->(arrOf st).map (·.2)=eX (p.toList.map λi=>vs.getD i ej)->failedOf st=m_->wpAny (model prog w) A (ksk_tail D o_ e1 (.ref kS) st) P E s':=λst p hp hg hout hf=>by
   have hsz:(eX^p.toList.map λi=>vs.getD i ej).size=vs.length:=by rw[eF,Ev,fD,hp]
   obtain⟨ck,hck⟩:∃ck,(s'.heap.update kS^fH λ_=>(#[]:Array Db)).get? kS=P3^seqObj "list" #[] ck:=#[_,h_ hk λ_=>#[]];have hD2:(s'.heap.update kS^fH λ_=>(#[]:Array Db)).get? D=P3^seqObj "list" #[] e1:=(eG _ _^fB hDk).trans hD';obtain⟨c2,hc2⟩:∃c2,((s'.heap.update kS^fH λ_=>(#[]:Array Db)).update D^fH λ_=>eX^p.toList.map λi=>vs.getD i ej).get? D=P3^seqObj "list" (eX^p.toList.map λi=>vs.getD i ej) c2:=#[_,h_ hD2 λ_=>eX^p.toList.map λi=>vs.getD i ej];unfold ksk_tail
   try dsimp only
   rw[hout];refine Cn (gw hk rfl ?_ (by rw[eF,fA];lk) (eP _));refine Cn^gi ?_;refine Cn (jk hD2 rfl ?_);refine Cn (gw hD2 rfl ?_ (eP _) (eR (jQ hsz)^by rw[fA];lk));rw[hf];simp only[bne_self_eq_false,fG,if_false];refine On^g3 p _ c2 hp hg (λb o hb1 hb2 e=>(eG _ _^fB hb1).trans^(eG _ _^fB hb2).trans e) hc2 #[_,(eG _ _ hDk).trans hck]
  unfold ksk_end
  try dsimp only
  simp only[fG,if_false]
  by_cases h2:vs.length<2
  .have h2':vs.toArray.size<2:=by rw[eF];exact h2
   rw[if_pos h2',if_pos h2'];refine Cn^On ?_;rw[StateT.run_pure];refine Cn^On ?_
   try dsimp only
   refine tail _ (eX^e8 vs.length) (by simp) (g1 h2) (kat_snds hl ?_) rfl;have er:=kas_range^ks.toArray.zip vs.toArray;rw[show(ks.toArray.zip vs.toArray).size=vs.length by simp[hl]]at er;exact er.symm
  .have h2':¬vs.toArray.size<2:=by rw[eF];exact h2
   rw[if_neg h2',if_neg h2'];refine Cn^fV (g2^by lk) (λκ s0 hk=>?_) λ_ _ x=>x.elim
   refine Cn (fV (kat_run (Q:=λst' s2=>∃p:Array Nat,p.size=vs.length/\arrOf st'=p.map^kas_item^ks.toArray.zip vs.toArray/\failedOf st'=m_/\s2=s'/\G p)
    hl (by lk) h64 (λp' st' s2 a1 a2 a3 a4=>#[p',a1,a2,a3,a4]) hk) ?_ λ_ _ e=>e)
   rintro⟨⟨⟩,st'⟩ s2 ⟨p,hp,har,hf,rfl,hg⟩
   try dsimp only
   exact tail st' p hp hg (kat_snds hl har) hf
end
section
variable {X:Cx}{zG:p_ (Addr×Obj)}{Z:L2.St}{H:Hp}{s:Shared}{h':Heap}
structure Th (X:Cx) (zG:List (Ch×Obj)) (D:Ch):Prop where
 new:X.s₀.heap.objs.size<=D
 loc:D≠X.env.locals
 cell:∀x c,X.env.cells.lookup x=P3 c->c≠D
 pin:∀p∈X.pn++zG,p.1≠D
 fs:D∉X.fs
def Inv.mine(I:Inv X zG Z H s){D:Ch}(h:s.heap.objs.size<=D):Th X zG D:=by
 refine#[eR I.sz h,λz=>?_,λx c e z=>?_,λp hp z=>?_,I.nofs h]
 .have:=I.lt
  rw[←z]at this;exact absurd this^ip.mpr h
 .let#[v,o,ho,_]:=I.cell x c e
  have:=Tk ho
  rw[z]at this;exact absurd this^ip.mpr h
 .let#[e,_]:=I.pin p hp
  have:=Tk e
  rw[z]at this;exact absurd this^ip.mpr h
structure KeysAt (K:Frag) (H:Hp) (vs:List V) (keys:List^List Key):Prop where
 len:vs.length=keys.length
 at_:∀(i:Nat) (ns:List Key),keys[i]?=P3 ns->∃a,vs[i]?=P3^.ref a/\SqT K H a (ns.map kOf)
 same:∀x∈keys,∀y∈keys,Bm x y=n_
 ne:∀x∈keys,x≠[]
def Hf(keys:p_^p_ Key)(ix:p_ Nat):Prop:=ix.Perm^e8 keys.length/\∀i j,i<=j->j<keys.length->Bb (keys.getD (ix.getD j 0) [])^keys.getD (ix.getD i 0) []=o_
def KeysAt.tups{vs:p_ V}{us:p_ Db}{keys:p_^p_ Key}(I:Inv X zG Z H s)(r:Vals vs us)(k:KeysAt X.K H vs keys){h':eK}(hk:∀b o,s.heap.get? b=P3 o->h'.get? b=P3 o):Ru h' us keys:=by
 refine#[λi ns e=>?_,r.length.symm.trans k.len,k.same,k.ne];let#[a,e1,h1]:=k.at_ i ns e;let#[u,e2,r2]:=r.get e1;cases r2;let#[its,r3,#[o,ho,hc,n,hd],_]:=I.tuple h1;exact#[a,o,_,n,e2,hk a o ho,hc,hd,by grind]
theorem Ge:∀{vs:p_ V}{us:p_ Db},Vals vs us->∀i:Nat,RelV (vs.getD i .non)^us.getD i ej
 |_,_,.nil,i=>by simp[RelV]
 |_,_,.cons r t,0=>by simpa using r
 |_,_,.cons r t,i+1=>by simpa using Ge t i
theorem Ii{f:Nat->V}{g:Nat->Db}(h:∀i,RelV (f i)^g i):∀ix:p_ Nat,Vals (ix.map f)^ix.map g
 |[]=>.nil
 |i::ix=>.cons (h i)^Ii h ix
def getD_list(p:Array Nat)(i:Nat):p.getD i 0=p.toList.getD i 0:=by simp
def U7{keys:p_^p_ Key}{n:Nat}{p:Array Nat}(hn:keys.length=n)(h1:p.Perm^eX^e8 n)(h2:So.Srt Sd (λi=>keys.getD i []) p n):Hf keys p.toList:=by
 subst hn;refine#[Array.perm_iff_toList_perm.mp h1,λi j hij hj=>?_];have h:=h2 i j hij hj;unfold So.KN at h;rw[getD_list,getD_list]at h;exact h
def K8{A':e_}{E':Db->Go->Prop}{vs:p_ V}{us:p_ Db}{keys:p_^p_ Key}{Q:VK}(I:Inv X zG Z H s)(r:Vals vs us)(h64:vs.length<64)(k:KeysAt X.K H vs keys)
  (q:∀(ix:p_ Nat) (l:Ch),Hf keys ix->H l=m_->Q (.ref l)^Aq H l^.lst^ix.map λi=>vs.getD i .non):
  wpAny (model X.prog X.w) A' (gs.«list.sort» #[[.ref s.heap.objs.size],[]]) (λfin s'=>fin=.done^.ret .none/\EP X zG Z Q (.ref s.heap.objs.size) s') E' {s with heap:=s.heap.push^seqObj "list" us.toArray 0}:=by
 have hl:=r.length;have hkl:keys.length=us.length:=k.len.symm.trans hl;refine OG (G:=λp=>p.Perm _/\So.Srt Sd (λi=>keys.getD i []) p us.length) (n:=0) (TM _ rfl) (by lk) (λh2=>?_) (λh1=>#[kR _,λi j hij hj=>?_]) λp h' c hp hg hold hD=>#[rfl,?_]
 .refine K5 (keys:=keys) (k.tups I r λb o e=>?_) h2 λp a b=>#[rfl,a,b]
  exact Gh (eI^Tk e)^FM _ e
 .have:i=j:=by lk
  subst this;exact f7 _
 .have hf:H s.heap.objs.size=m_:=I.fresh
  have hix:(p.toList.map λi=>vs.getD i .non).length=us.length:=by grind
  refine#[.ref s.heap.objs.size,Aq H s.heap.objs.size^.lst _,I.laid (t':=s.toks) (λb o e=>hold b o (eI^Tk e)^FM _ e) (Op _) #[by rw[hix,←hl,fA];lk,_,c,Ii (Ge r) p.toList,hD],rfl,q _ _ (U7 hkl hg.1 hg.2) hf]
def Oi{prog:eT}{w:eY}{A:e_}{E:Db->Go->Prop}{s:Go}{l:Ch}{vs:p_ Db}{Q:p_ Db->Go->Prop}(hl:IsTup s.heap l vs.toArray)
  (h:Q vs {s with heap:=(s.heap.push^seqObj "list" #[] 0).update s.heap.objs.size (fH (·++vs.toArray))}) (hsz:vs.length<=sizeLine):
  wpAny (model prog w) A (collect^.ref l) Q E s:=by
 let#[o,ho,hc,n,hd]:=id hl;unfold collect;refine Cn^wpAny_runValue^f8 entry_proto_collect' ?_;show wpAny _ _ (do again (.builtin "list.__iadd__" #[[←newList [],.ref l],[]])) _ _ s;refine Cn^jw^On #[Code.quiet_builtin _ (by decide +kernel),f8 entry_list_iadd' ?_];show wpAny _ _ (gp (.ref s.heap.objs.size) (.ref l)^.ref s.heap.objs.size) _ _ {s with heap:=s.heap.push^seqObj "list" #[] 0};unfold gp;have ho':(s.heap.push^seqObj "list" #[] 0).get? l=P3 o:=FM _ ho;refine Cn^ie (T:="tuple") #[o,ho',hc] ?_;have ht:(fN "tuple"==fN "tuple")=n_:=by rfl
 rw[if_pos^by rw[ht];simp];refine Cn^jW ho' hd ?_;refine Cn (jW (xs:=#[]) (n:=0) (TM _ rfl) rfl ?_);rw[if_neg^by simp];refine Cn (gw (xs:=#[]) (n:=0) (TM _ rfl) rfl ?_ (eP _) (by show(#[]++vs.toArray).size<=sizeLine+1;simp only[Array.size_append,eF,f6];lk));refine On ?_
 show wpAny (model prog w) A (do
   let o ←load s.heap.objs.size
   match o.data with
   |.seq xs _=>pure xs.toList
   |_=>unsupported "internal:collect") Q E {s with heap:=(s.heap.push^seqObj "list" #[] 0).update s.heap.objs.size (fH (·++vs.toArray))}
 refine Cn^wpAny_load (h_ (TM _ rfl) _) ?_;show wpAny _ _ (pure ((#[]:Array Db)++vs.toArray).toList) Q E _;rw[show((#[]:Array Db)++vs.toArray).toList=vs by simp];exact On h
def Oj{h:eK}{g:Array Db->Array Db}{b:Ch}{o:Obj}(e:h.get? b=P3 o):((h.push^seqObj "list" #[] 0).update h.objs.size^fH g).get? b=P3 o:=
 (eG _ _^fB^eI^Tk e).trans (FM _ e)
def Ju{κ:Bool}{A':e_}{E':Db->Go->Prop}{p:Ch}{vs:p_ V}{Q:p_ Db->Go->Prop}(I:Inv X zG Z H s)(h:SqK κ X.K H p vs)(q:∀us s1,Vals vs us->vs.length<=sizeLine->Inv X zG Z H s1->Q us s1):
  wpAny (model X.prog X.w) A' (collect^.ref p) Q E' s:=by
 cases κ with
 |true=>
  let#[its,r,pl,hz]:=I.list h;exact collect_list pl.isList (q _ _ r hz^I.kept λb o e=>Oj e)^by rw[←r.length];exact hz
 |false=>
  let#[its,r,pl,hz]:=I.tuple h;exact Oi pl (q _ _ r hz^I.kept λb o e=>Oj e)^by rw[←r.length];exact hz
def Ud(K:Frag):p_ V->Hp->VK->Prop:=λxs H Q=>∃(κ:Bool) (p:Ch) (vs:p_ V) (keys:p_^p_ Key),xs=[.ref p]/\SqK κ K H p vs/\vs.length<64/\KeysAt K H vs keys /\
 ∀(ix:p_ Nat) (l:Ch),Hf keys ix->H l=m_->Q (.ref l)^Aq H l^.lst^ix.map λi=>vs.getD i .non
def Jz:CallR X (.builtin "sorted")^Ud X.K:=by
 intro zG s Z H xs us Q I r h;let#[κ,p,vs,keys,rfl,hq,h64,hk,q]:=h;let#[u,rfl,rx]:=vals1 r;cases rx;exact CY (args_sorted1 _) (λx=>args_list_sort _)^Ju I hq λus s1 r1 hz I1=>#[by rw[←r1.length];exact hz,K8 I1 r1 h64 hk q]
end
def FV(H:Hp)(L:p_ Ch)(f:Ch->Obj):Hp:=λb=>if b∈L then(H b).map^HO.frz^f b else H b
def DD{H:Hp}{L:p_ Ch}{f:Ch->Obj}{b:Ch}(h:b∉L):FV H L f b=H b:=by unfold FV;rw[if_neg h]
def RN{H:Hp}{L:p_ Ch}{f:Ch->Obj}{b:Ch}{o:HO}(h:b∈L)(e:H b=P3 o):FV H L f b=P3^.frz (f b) o:=by unfold FV;grind
section
variable {X:Cx}{zG:p_ (Addr×Obj)}{Z:L2.St}{H:Hp}{s:Shared}
def Inv.frz{L:p_ Ch}(I:Inv X zG Z H s)(hL:∀b∈L,∃kvs,H b=P3^.dK kvs):∃f,Inv X zG Z (FV H L f) s:=by
 have keep:∀(f:Ch->Obj) b o,H b=P3 o->(∀kvs,o≠.dK kvs)->FV H L f b=P3 o:=λf b o e n=>by
  rw[DD λhm=>by grind];exact e
 refine#[λb=>(s.heap.get? b).getD {cls:=.none,data:=.fields #[]},?_];refine I.step (g':=s.gens) (d':=s.drawn) (t':=s.toks) (h':=s.heap) (ch:=[]) (λ_ z=>nomatch z) (λ_ _ _ _ _ e _=>e) (λb o _ _ _ e _=>#[o.slots,e]) (λb o _ e n=>?_) (λb o _ e=>#[o,e]) (λb xs e=>keep _ b _ e λ_ z=>by cases z) (λb o u e=>keep _ b _ e λ_ z=>by cases z) (λb ps e=>#[#[],by grind]) (λ_ h=>h) (λb u e=>?_) I.bare
 .unfold FV
  simp_all
 .by_cases hb:b∈L
  .let#[kvs,e2]:=hL b hb
   rw[RN hb e2]at e;cases e;let#[z,y,vs,r,ob,es,ep,e3,c]:=(show ObjOk X.prog X.w H s.heap b^.dK kvs from I.hok b _ e2);exact#[by rw[e3];rfl,z,y,vs,r,ob,es,ep,e3,c]
  .rw[DD hb]at e
   exact(I.hok b u e).stay (λ_ _ _ q=>q) (λc q=>keep _ c _ q λ_ z=>by cases z) λc xs q=>keep _ c _ q λ_ z=>by cases z
def cW(t:TE):TE:=λZ H Q=>t Z H λv H1=>∃L:p_ Ch,(∀b∈L,∃kvs,H1 b=P3^.dK kvs)/\∀f:Ch->Obj,Q v^FV H1 L f
def ZJ{e:eS}{t:TE}(h:PE X e t):PE X e^cW t:=by
 intro zG s Z H Q I hq;refine BD (h _ s Z H _ I hq) λu s1 #[v,H1,I1,r,L,hL,q]=>?_;let#[f,I2]:=I1.frz hL;exact#[v,_,I2,r,q f]
end
end L2
namespace Nt
open L2 Dp
def C_(ts:p_ A5)(p:Str):p_ (Str×Int):=ts.flatMap λt=>(if t.a=p then [(t.b,t.len)]else [])++(if t.b=p then [(t.a,t.len)]else [])
def WI(ts:p_ A5)(p:Str):D:=.fdi ((C_ ts p).map λx=>.inr x.1)^(C_ ts p).map λx=>.int x.2
def Dy(N:Net):D:=.dic (N.ps.map .inr)^N.ps.map^WI N.ts
def NR:W2:=λss n P=>∃N:Net,ss=[.sh^enc N]/\N.Ok/\N.ps.length<=1000/\N.ts.length<=1000/\P (Dy N) n
def kv(x:Str×Int):Key×V:=(.inr x.1,.int x.2)
structure Stp (H:Hp) (d:Ch) (as:List (Str×Ch)) (tb:Str->List (Key×V)) (H':Hp):Prop where
 old:∀b o,H b=P3 o->H' b=P3 o
 new:H d=m_
 top:H' d=P3 (.dK^as.map λx=>(.inr x.1,.ref x.2))
 inn:∀x∈as,H x.2=m_/\x.2≠d/\H' x.2=P3 (.dK^tb x.1)
 ads:(as.map (·.2)).Nodup
 nms:(as.map (·.1)).Nodup
def IE{as:p_ (Str×Ch)}(hn:(as.map (·.1)).Nodup){p:Str}{a:Ch}(h:(p,a)∈as):CW (as.map λx=>((.inr x.1:Key),V.ref x.2))^.inr p=P3^.ref a:=by
 induction as with
 |nil=>cases h
 | cons x r ih=>
  rw[eW,eQ]at hn
  rcases XV.mp h with e|h
  .rw[←e]
   exact C4 rfl
  .exact(C5 λe=>hn.1^by rw[hG e];exact Sc.mpr #[_,h,rfl]).trans^ih hn.2 h
def Pr{as:p_ (Str×Ch)}{p:Str}{v:V}(h:p∉as.map (·.1)):putK (as.map λx=>((.inr x.1:Key),V.ref x.2)) (.inr p) v=(as.map λx=>((.inr x.1:Key),V.ref x.2))++[(.inr p,v)]:=by
 unfold putK
 simp_all
def Q4{xs:p_ (Str×Int)}{p:Str}{l:Int}(h:p∉xs.map (·.1)):putK (xs.map kv) (.inr p)^.int l=(xs++[(p,l)]).map kv:=by
 unfold putK;rw[if_neg,fI]
 .rfl
 .rw[hV]
  rintro⟨y,hy,e⟩;let#[x,hx,rfl]:=Sc.mp hy;exact h^Sc.mpr #[x,hx,hG^of_decide_eq_true e]
def Stp.more{H H':Hp}{d q:Ch}{as:p_ (Str×Ch)}{tb:Str->p_ (Key×V)}{p:Str}(s:Stp H d as tb H')(hq:H' q=m_)(hp:p∉as.map (·.1))(ht:tb p=[]):
  Stp H d (as++[(p,q)]) tb (Aq (Aq H' q^.dK []) d^.dK^putK (as.map λx=>((.inr x.1:Key),V.ref x.2)) (.inr p)^.ref q):=by
 have nq:q≠d:=λe=>by rw[e,s.top]at hq;cases hq
 have hHq:H q=m_:=by
  cases c:H q with
  |none=>rfl
  |some o=>rw[s.old q o c]at hq;cases hq
 refine#[λb o e=>?_,s.new,?_,λx hx=>?_,?_,?_]
 .have n1:b≠d:=λz=>by rw[z,s.new]at e;cases e
  have n2:b≠q:=λz=>by rw[z,hHq]at e;cases e
  rw[AK n1,AK n2];exact s.old b o e
 .rw[AM,Pr hp,fI];rfl
 .rcases eM.mp hx with hx|hx
  .let#[h1,h2,h3]:=s.inn x hx
   have n2:x.2≠q:=λz=>by rw[z,hq]at h3;cases h3
   exact#[h1,h2,by rw[AK h2,AK n2];exact h3]
  .rw[Rs.mp hx]
   exact#[hHq,nq,by rw[AK nq,AM,ht]]
 .rw[fI,fj]
  refine#[s.ads,eQ.mpr #[(λh=>by cases h),fF],λa ha b hb e=>?_];let#[x,hx,rfl]:=Sc.mp ha;have hb:b=q:=Rs.mp hb;let#[h1,h2,h3]:=s.inn x hx;rw[e,hb,hq]at h3;cases h3
 .rw[fI,fj]
  refine#[s.nms,eQ.mpr #[(λh=>by cases h),fF],λa ha b hb e=>?_];have hb:b=p:=Rs.mp hb;exact hp^by rw[←hb,←e];exact ha
def Sn{as:p_ (Str×Ch)}(hn:(as.map (·.1)).Nodup){p:Str}{a b:Ch}(h1:(p,a)∈as)(h2:(p,b)∈as):a=b:=by
 have:=(IE hn h1).symm.trans^IE hn h2
 grind
def Sm{as:p_ (Str×Ch)}(hn:(as.map (·.2)).Nodup){p q:Str}{a:Ch}(h1:(p,a)∈as)(h2:(q,a)∈as):p=q:=by
 induction as with
 |nil=>cases h1
 | cons x r ih=>
  rw[eW,eQ]at hn
  rcases XV.mp h1 with e1|g1
  .rcases XV.mp h2 with e2|g2
   .grind
   .exact absurd (Sc.mpr #[_,g2,by rw[←e1]]) hn.1
  .rcases XV.mp h2 with e2|g2
   .exact absurd (Sc.mpr #[_,g1,by rw[←e2]]) hn.1
   .exact ih hn.2 g1 g2
def Stp.put{H H':Hp}{d a:Ch}{as:p_ (Str×Ch)}{tb tb2:Str->p_ (Key×V)}{p:Str}{kvs:p_ (Key×V)}(s:Stp H d as tb H')(ha:(p,a)∈as)(h1:tb2 p=kvs)(h2:∀q,q≠p->tb2 q=tb q):
  Stp H d as tb2 (Aq H' a^.dK kvs):=by
 let#[i1,i2,i3]:=s.inn _ ha;refine#[λb o e=>?_,s.new,?_,λx hx=>?_,s.ads,s.nms]
 .have n1:b≠a:=λz=>by grind
  rw[AK n1];exact s.old b o e
 .rw[AK^fB i2]
  exact s.top
 .let#[g1,g2,g3]:=s.inn x hx
  refine#[g1,g2,?_]
  by_cases e:x.2=a
  .have:=Sm s.ads (show(x.1,a)∈as by grind) ha
   rw[e,AM,this,h1]
  .have:x.1≠p:=λz=>e^Sn s.nms (show(p,x.2)∈as by grind) ha
   rw[AK e,h2 _ this];exact g3
def OC(ts:p_ A5)(t:A5)(p:Str):C_ (ts++[t]) p=C_ ts p++((if t.a=p then [(t.b,t.len)]else [])++(if t.b=p then [(t.a,t.len)]else [])):=by
 unfold C_
 simp_all
def Mg{ts:p_ A5}{p q:Str}(h:q∈(C_ ts p).map (·.1)):∃t∈ts,(t.a=p/\t.b=q)\/(t.b=p/\t.a=q):=by
 let#[x,hx,rfl]:=Sc.mp h;let#[t,ht,hx]:=gN.mp hx;refine#[t,ht,?_]
 rcases eM.mp hx with hx|hx
 .simp_all
 simp_all
def RE(ts:p_ A5)(p:Str):(C_ ts p).length<=2*ts.length:=by
 induction ts with
 |nil=>exact eP _
 |cons t r ih=>
  unfold C_ at ih ⊢;rw[gU,eV,eV];have h1:(if t.a=p then [(t.b,t.len)]else []).length<=1:=by grind
  grind
def Vr{ts:p_ A5}{t:A5}(hp:(ts++[t]).Pairwise Bp)(hlt:∀s∈ts++[t],cs s.a<cs s.b):t.b∉(C_ ts t.a).map (·.1)/\t.a∉(C_ ts t.b).map (·.1):=by
 rw[List.pairwise_append]at hp
 have key:∀s∈ts,¬((s.a=t.a/\s.b=t.b)\/(s.b=t.a/\s.a=t.b)):=λs hs e=>by
  have h1:=hp.2.2 s hs t (Rs.mpr rfl);have h2:=hlt s^fK _ hs;have h3:=hlt t^eN _ (Rs.mpr rfl)
  rcases e with⟨e1,e2⟩|⟨e1,e2⟩
  .unfold Bp at h1
   grind
  grind
 refine#[λh=>?_,λh=>?_]
 .let#[s,hs,e]:=Mg h
  exact key s hs e
 .let#[s,hs,e]:=Mg h
  exact key s hs^e.elim (λz=>.inr #[z.2,z.1]) λz=>.inl #[z.2,z.1]
def MD{xs:p_ Str}(h:rising xs):xs.Nodup:=h.imp λ{a b} hlt e=>by grind
def P7{xs:p_ Str}(h:xs.Nodup){i:Nat}(hi:i<xs.length):xs[i]∉xs.take i:=by
 have e:xs=xs.take i++xs[i]::xs.drop (i+1):=by
  simp_all
 intro hm;rw[e,fj]at h;exact h.2.2 _ hm _ Re rfl
def Stp.at_{K:Frag}{M:Ch->Prop}{H H':Hp}{d:Ch}{as:p_ (Str×Ch)}{N:Net}(dom:∀a,M a->∃o,H a=P3 o)(s:Stp H d as (λp=>(C_ N.ts p).map kv) H')(hp:as.map (·.1)=N.ps)(f:Ch->Obj):At K M (FV H' (as.map (·.2)) f) (Dy N)^.ref d:=by
 have nd:∀b,H b=m_->¬M b:=λb e m=>by let#[o,h]:=dom b m;rw[h]at e;cases e
 have zip1:∀as:p_ (Str×Ch),(as.map λx=>((.inr x.1:Key),V.ref x.2))=((as.map (·.1)).map (.inr:Str->Key)).zip (as.map λx=>V.ref x.2):=λas=>by
  grind
 refine#[d,as.map λx=>.ref x.2,rfl,#[nd d s.new,by rw[DD (λhm=>by let#[x,hx,e]:=Sc.mp hm;exact(s.inn x hx).2.1 e),s.top,zip1,hp]],by rw[Ev,Ev],?_];rw[←hp]
 have go:∀bs:p_ (Str×Ch),(∀x∈bs,x∈as)->Ats K M (FV H' (as.map (·.2)) f) ((bs.map (·.1)).map^WI N.ts) (bs.map λx=>V.ref x.2):=λbs=>by
  induction bs with
  |nil=>intro _;rfl
  | cons x r ih=>
   intro hx;refine#[.ref x.2,r.map λx=>V.ref x.2,rfl,?_,ih λy hy=>hx y^TW _ hy];let#[g1,g2,g3]:=s.inn x^hx x Re
   have zip2:∀xs:p_ (Str×Int),xs.map kv=(xs.map λx=>(.inr x.1:Key)).zip (xs.map λx=>V.int x.2):=λxs=>by
    induction xs with
    |nil=>rfl
    |cons x r ih=>rw[eW,ih];rfl
   refine#[x.2,(C_ N.ts x.1).map λx=>V.int x.2,rfl,#[f x.2,nd _ g1,by rw[RN (Sc.mpr #[x,hx x Re,rfl]) g3,zip2]],by rw[Ev,Ev],?_];generalize C_ N.ts x.1=xs
   induction xs with
   |nil=>rfl
   |cons x r ih=>exact#[.int x.2,_,rfl,rfl,ih]
 exact go as λ_ h=>h
end Nt
namespace L2
open PySem.W
section
variable {X:Cx}{zG:p_ (Addr×Obj)}{Z:L2.St}{H:Hp}{s:Shared}{h':Heap}
def Inv.adopt2{D e:Ch}{o:HO}(I:Inv X zG Z H s)(m:Th X zG D)(hn:H D=m_)(m2:Th X zG e)(hn2:H e=m_)(hne:D≠e)(k:∀b u,b≠D->b≠e->s.heap.get? b=P3 u->h'.get? b=P3 u)(new:ObjOk X.prog X.w (Aq H D o) h' D o):Inv X zG Z (Aq H D o) {s with heap:=h'}:=by
 have nin:∀b,b∉[D,e]->b≠D/\b≠e:=λb hc=>#[λz=>hc (by rw[z];exact Re),λz=>hc^by rw[z];exact TW _ (Rs.mpr rfl)]
 refine I.step (g':=s.gens) (d':=s.drawn) (t':=s.toks) (ch:=[D,e]) (λb hb=>?_) (λb u _ _ hc q _=>k b u (nin b hc).1 (nin b hc).2 q) (λb u _ _ hc q _=>#[u.slots,k b u (nin b hc).1 (nin b hc).2 q]) (λb u hc q n=>?_)
  (λb u hc q=>#[u,k b u (nin b hc).1 (nin b hc).2 q]) (λb xs q=>?_) (λb u v q=>?_) (λb ps q=>#[#[],?_]) (λmm hm=>?_) (λb u q=>?_) I.bare
 .rcases XV.mp hb with rfl|hb
  .exact#[.inr m.new,m.loc,m.cell,m.pin]
  .rw[Rs.mp hb]
   exact#[.inr m2.new,m2.loc,m2.cell,m2.pin]
 .rw[AK (nin b hc).1];exact n
 .rw[AK^Ai q hn];exact q
 .rw[AK^Ai q hn];exact q
 .rw[AK^Ai q hn,q];simp
 .let#[u,es,ep,ho,r]:=hm
  exact#[u,es,ep,k _ u (fB m.loc) (fB m2.loc) ho,r]
 .by_cases hb:b=D
  .subst hb;rw[AM]at q;cases q;exact new
  .rw[AK hb]at q
   refine(I.hok b u q).stay (λc v hc q2=>k c v ?_ ?_ q2) (λc q2=>by rw[AK^Ai q2 hn];exact q2) λc xs q2=>by rw[AK^Ai q2 hn];exact q2
   .grind
   grind
def Yt(K:Frag)(sp:Sp)(te:TE):TE:=λZ H Q=>te Z H λx H1=>∃(κ:Bool) (l:Ch) (vs:p_ V) (keys:p_^p_ Key) (J:p_ V->Hp->Prop),x=.ref l/\SqK κ K H1 l vs/\vs.length<64/\J [] H1 /\
 (∀ks H2 v,J ks H2->vs[ks.length]?=P3 v->sp [v] H2 (λk H3=>J (ks++[k]) H3) E0) /\
 ∀ks H2,J ks H2->ks.length=vs.length->KeysAt K H2 ks keys/\∀(ix:p_ Nat) (l:Ch),Hf keys ix->H2 l=m_->Q (.ref l)^Aq H2 l^.lst^ix.map λi=>vs.getD i .non
def Uz{k:Nat}{f:Ch}{fd:fL}{pn fn:Str}{sp:Sp}{te:TE}{e:eS}{p fp kp pos:Pos}(F:FnOk X.prog X.w X.K X.mg X.base Fi k f fd [pn] sp)(hr:Room (k+2) X.A)(hg:Gl X "sorted")(hm:X.mg "sorted"=m_)
  (hgf:Gl X fn) (hmf:X.mg fn=P3^.ref f) (hb:Binds X.K fd [pn] []) (he:PE X e te) (hs:starEach [e] X.env=[(o_,eval e X.env)]:=by rfl) (hdf:(fn==("__debug__":Str))=o_:=by decide):
  PE X (.Call (.Name "sorted" p) [e] [#[P3 "key",.Name fn fp,kp]] pos) (Yt X.K sp te):=by
 intro zG s Z H Q I h;refine f_^EA I hg hm iD ?_
 refine callWith_kw (BD (Br he Cf hs pos zG s Z H (λvs H1=>∃x,vs=[x]/\∃(κ:Bool) (l:Ch) (vs:p_ V) (keys:p_^p_ Key) (J:p_ V->Hp->Prop),x=.ref l/\SqK κ X.K H1 l vs/\vs.length<64/\J [] H1 /\
   (∀ks H2 v,J ks H2->vs[ks.length]?=P3 v->sp [v] H2 (λk H3=>J (ks++[k]) H3) E0) /\
   ∀ks H2,J ks H2->ks.length=vs.length->KeysAt X.K H2 ks keys/\∀(ix:p_ Nat) (l:Ch),Hf keys ix->H2 l=m_->Q (.ref l)^Aq H2 l^.lst^ix.map λi=>vs.getD i .non) I ?first) λus s1 #[xs,H1,I1,r1,q1]=>kws_cons^GB I1 hgf hmf (kws_nil ?_) hdf) (by rw[hs];rfl)^by rw[hs];rfl
 case first=>
  show te Z H _;refine cast (congrArg (te Z H) ?_) h
  funext x H1
  refine propext #[λz=>#[x,rfl,z],fun#[y,e,z]=>?_];cases e;exact z
 let#[x,rfl,κ,l,vs,keys,J,rfl,hq,h64,j0,jstep,jend]:=q1;let#[u,rfl,ru]:=vals1 r1;cases ru;show wpAny (model X.prog X.w) X.A (call (.builtin "sorted") [.ref l] [(fX "key",.ref f)]) _ _ s1;refine CY (ksk_s1 _ _) (λx=>ksk_l1 _ _)^Ju I1 hq λus s2 r2 hz I2=>#[by rw[←r2.length];exact hz,?_];rw[ksk_t1];have hl:=r2.length;generalize hD:s2.heap.objs.size=D;have hsz3:(s2.heap.push^seqObj "list" us.toArray 0).objs.size=D+1:=by rw[size_push',hD]
 have hoD:(s2.heap.push^seqObj "list" us.toArray 0).get? D=P3^seqObj "list" us.toArray 0:=by rw[←hD];exact TM _ rfl
 have mD:Th X zG D:=I2.mine (by rw[hD];exact Op _);have mK:Th X zG (D+2):=I2.mine (by rw[hD];exact Nat.le_add_right _ _);have nD:H1 D=m_:=I2.hok.fresh (by rw[hD];exact Op _);have nK:H1 (D+2)=m_:=I2.hok.fresh (by rw[hD];exact Nat.le_add_right _ _);have hne:D≠D+2:=eI^gE^gf D;have nstk:∀b,Th X zG b->b∉RO X.stack:=λb m z=>(XV.mp^I2.stkSub b z).elim m.loc m.fs
 refine Sx (s:={s2 with heap:=s2.heap.push^seqObj "list" us.toArray 0}) (n:=0) hoD (by rw[←hl];exact h64)
  (λks s'=>∃kV H',Vals kV ks/\J kV H'/\Inv X zG Z H' s'/\H' D=m_/\H' (D+2)=m_/\s'.heap.get? D=(Ct (s2.heap.push^seqObj "list" us.toArray 0) D us).get? D) (D+2) (by show D+2=(s2.heap.push _).objs.size+1;rw[hsz3]) (λe1 he1=>?_) (λks s' e v hJ hk hv=>?_) λe1 he1 ks s' hJ hkl=>?_
 .refine#[[],H1,.nil,j0,?_,nD,nK,rfl]
  exact I2.kept (t':=s2.toks) λb o q=>Gh (by rw[←hD];exact eI^Tk q)^FM _ q
 .let#[kV,H',rk,hJ,I',n1,n2,hD']:=hJ
  have hi:ks.length<us.length:=(Uf.mp hv).1;have hvi:vs[kV.length]?=P3 (vs[kV.length]'(by rw[rk.length];lk)):=No _;let#[u',e2,ru]:=r2.get hvi;rw[rk.length,hv]at e2;cases e2;have hsp:=jstep kV H' _ hJ hvi;have E1:Env0 X.prog X.w X.K X.mg X.base X.A.in1.in1 X.stack s' H':=I'.env0.in1.in1;refine wpAny_call^ic (F.run X.A.in1.in1 X.stack s' H' #[[v],[]] [v] _ _ E0 (hr.in1).in1 E1 (by simpa using hb s' [v] I'.kIn rfl) (.cons ru .nil) hsp) λr s'' hq'=>?_;cases r with
  |error e=>exact fO hq'
  | ok fl=>
   cases fl with
   |next=>exact fO hq'
   |brk=>exact fO hq'
   |cont=>exact fO hq'
   | ret u=>
    let#[w',H3,os,bare,un,hok,rw',q3]:=id hq'
    obtain⟨oD,eD⟩:∃o,s'.heap.get? D=P3 o:=by
     let#[c,hc,_]:=Ir hoD;exact#[_,hD'.trans hc]
    have kD:s''.heap.get? D=P3 oD:=un.keep D oD eD n1 (nstk D mD) (by simp);have kK:s''.heap.get? (D+2)=P3^seqObj "list" ks.toArray e:=un.keep _ _ hk n2 (nstk _ mK) (by simp);have f1:H3 D=m_:=un.free D oD eD n1 (by simp);have f2:H3 (D+2)=m_:=un.free _ _ hk n2 (by simp);have I3:Inv X zG Z H3 s'':=I'.call' os un hok bare (λb z=>absurd z^by simp);refine#[kK,kV++[w'],H3,rk.append^.cons rw' .nil,q3,?_,f1,f2,?_]
    .exact I3.turned (t':=s''.toks) (λb o hb q=>(eG _ _^fB hb).trans q) f2 mK.loc (.inr mK.new) mK.cell mK.pin
    .show(s''.heap.update (D+2) _).get? D=_
     rw[eG _ _^fB hne,kD,←eD,hD']
 .let#[kV,H',rk,hJ,I',n1,n2,hD']:=hJ
  let#[hka,q]:=jend kV H' hJ (by rw[rk.length,hkl,hl]);have hkk:keys.length=us.length:=by rw[←hka.len,rk.length,hkl]
  refine#[hD'.trans he1,λp=>p.Perm^eX^e8 us.length/\So.Srt Sd (λi=>keys.getD i []) p us.length,λh2=>?_,λh1=>#[kR _,λi j hij hj=>?_],λp h' c hp hg hold hDn _=>#[rfl,?_]]
  .have ts:=K5 (prog:=X.prog) (w:=X.w) (A:=X.A.in1.in1) (keys:=keys) (hka.tups I' rk λb o e=>e) (by lk) (G:=λp s''=>s''=s'/\p.Perm^eX^e8 us.length/\So.Srt Sd (λi=>keys.getD i []) p us.length) λp a b=>#[rfl,by rw[←hkl];exact a,by rw[←hkl];exact b]
   rw[hkl]at ts;exact ts
  .have:i=j:=by lk
   subst this;exact f7 _
  .have hix:(p.toList.map λi=>vs.getD i .non).length=us.length:=by rw[Ev,fD,hp]
   refine#[.ref D,Aq H' D^.lst^p.toList.map λi=>vs.getD i .non,I'.adopt2 mD n1 mK n2 hne hold #[by rw[hix,←hl,fA];lk,_,c,Ii (Ge r2) p.toList,hDn],rfl,q _ _ (U7 hkk hg.1 hg.2) n1]
theorem JP{α β:Type}{F:α->β->Prop}:∀{l₁:p_ α}{l₂:p_ β}{j:Nat}{a:α}{b:β},Paired F l₁ l₂->l₁[j]?=P3 a->l₂[j]?=P3 b->F a b
 |_,_,_,_,_,.nil,h,_=>by simp at h
 |_,_,0,_,_,.cons r t,h1,h2=>by
  grind
 |_,_,j+1,_,_,.cons r t,h1,h2=>JP (j:=j) t (by simp_all)^by simp_all
theorem Gd:∀as:p_ Ch,Vals (as.map V.ref)^as.map eJ
 |[]=>.nil
 |a::as=>.cons rfl (Gd as)
end
end L2
namespace Dp
open L2
def CH:D->q_^p_ Key
 |.tup xs=>LP xs
 |_=>m_
def Hg(kf:D->q_^p_ Key)(xs:p_ D):Prop:=xs.Pairwise λa b=>∀ka kb,kf a=P3 ka->kf b=P3 kb->Bb kb ka=o_
def Keyed(kf:D->q_^p_ Key)(xs:p_ D):Prop:=(∀x∈xs,∃k,kf x=P3 k/\k≠[])/\∀x∈xs,∀y∈xs,∀ka kb,kf x=P3 ka->kf y=P3 kb->Bm ka kb=n_
def range_getD(xs:p_ D):(e8 xs.length).map (λi=>xs.getD i .non)=xs:=by
 apply kI
 .simp
 simp_all
def RA{kf:D->q_^p_ Key}{xs:p_ D}{keys:p_^p_ Key}{ix:p_ Nat}(hl:keys.length=xs.length)(hk:∀(i:Nat) (x:D),xs[i]?=P3 x->∃k,keys[i]?=P3 k/\kf x=P3 k)(h:Hf keys ix):
  (ix.map λi=>xs.getD i .non).Perm xs/\Hg kf (ix.map λi=>xs.getD i .non):=by
 let#[hp,hs]:=h;constructor
 .have:=hp.map λi=>xs.getD i D.non
  rw[hl,range_getD]at this;exact this
 .unfold Hg
  rw[j9];intro i j hi hj hij ka kb ea eb;rw[kJ]at ea eb;rw[Ev]at hi hj;have il:ix.length=keys.length:=by rw[hp.length_eq,i9]
  have g:∀i (h:i<ix.length) k,kf (xs.getD ix[i] .non)=P3 k->keys.getD (ix.getD i 0) []=k:=λi h k e=>by
   have hm:ix[i]<keys.length:=gO.mp^hp.mem_iff.mp^fe h;have hx:ix[i]<xs.length:=by rw[←hl];exact hm
   let#[k',e1,e2]:=hk ix[i] xs[ix[i]] (No hx);have e3:xs.getD ix[i] .non=xs[ix[i]]:=by rw[eU,No hx];rfl
   rw[e3,e2]at e;have e4:ix.getD i 0=ix[i]:=by rw[eU,No h];rfl
   rw[e4,eU,e1];exact eE e
  have:=hs i j (jN hij)^by rw[←il];exact hj
  rw[g i hi ka ea,g j hj kb eb]at this;exact this
theorem Ef{kf:D->q_^p_ Key}:∀{xs:p_ D},(∀x∈xs,∃k,kf x=P3 k/\k≠[])->∃keys:p_^p_ Key,keys.length=xs.length/\(∀(i:Nat) (x:D),xs[i]?=P3 x->∃k,keys[i]?=P3 k/\kf x=P3 k/\k≠[])
 |[],_=>#[[],rfl,λi x e=>by simp at e]
 | x::xs,h=>by
  let#[k,e1,e2]:=h x Re;let#[keys,l,g]:=Ef (xs:=xs) λy hy=>h y^TW _ hy;refine#[k::keys,by simp_all,λi y e=>?_];cases i with
  |zero=>
   simp_all
  |succ i=>
   simp_all
section
variable {K:Frag}{M:Addr->Prop}{H:Hp}
theorem Ats.getD:∀{ds:p_ D}{vs:p_ V},Ats K M H ds vs->∀i:Nat,At K M H (ds.getD i .non)^vs.getD i .non
 |[],vs,h,i=>by cases(h);simp[At]
 |d::ds,vs,h,0=>by
  let#[v,r,e,h1,h2]:=h
  grind
 |d::ds,vs,h,i+1=>by
  let#[v,r,e,h1,h2]:=h;subst e
  simpa using Ats.getD h2 i
theorem Ats.pick{ds:p_ D}{vs:p_ V}(h:Ats K M H ds vs):∀ix:p_ Nat,Ats K M H (ix.map λi=>ds.getD i .non)^ix.map λi=>vs.getD i .non
 |[]=>rfl
 |i::ix=>#[_,_,rfl,h.getD i,Ats.pick h ix]
def Gy{kf:D->q_^p_ Key}{ds:p_ D}{vs:p_ V}{keys:p_^p_ Key}(hkf:∀d k v,d∈ds->kf d=P3 k->At K M H d v->∃a,v=.ref a/\SqT K H a^k.map kOf)(hs:Ats K M H ds vs)(hK:Keyed kf ds)(hl:keys.length=ds.length)(hk:∀(i:Nat) (x:D),ds[i]?=P3 x->∃k,keys[i]?=P3 k/\kf x=P3 k/\k≠[]):KeysAt K H vs keys:=by
 have from_:∀(i:Nat) (ns:p_ Key),keys[i]?=P3 ns->∃x,ds[i]?=P3 x/\kf x=P3 ns/\ns≠[]:=λi ns e=>by
  have hi:i<ds.length:=by rw[←hl];exact(Uf.mp e).1
  let#[k,e1,e2,e3]:=hk i ds[i] (No hi);rw[e]at e1;cases e1;exact#[ds[i],No hi,e2,e3]
 refine#[hs.length.trans hl.symm,λi ns e=>?_,λx hx y hy=>?_,λx hx=>?_]
 .let#[d,e1,e2,_]:=from_ i ns e
  let#[v,e3,h3]:=hs.get e1;let#[a,rfl,h4]:=hkf d ns v (iO e1) e2 h3;exact#[a,e3,h4]
 .let#[i,hi]:=iL.mp hx
  let#[j,hj]:=iL.mp hy;let#[d,e1,e2,_]:=from_ i x hi;let#[d',e1',e2',_]:=from_ j y hj;exact hK.2 d (iO e1) d' (iO e1') x y e2 e2'
 .let#[i,hi]:=iL.mp hx
  let#[d,e1,e2,e3]:=from_ i x hi;exact e3
def Gz{d:D}{k:p_ Key}{v:V}(e:CH d=P3 k)(h:At K M H d v):∃a,v=.ref a/\SqT K H a^k.map kOf:=by
 cases d with
 |tup xs=>
  let#[a,vs,e1,hn,hs]:=h
  have:=GC (e) hs
  subst this;exact#[a,e1,hn.sq]
 |_=>cases e
def G2(ds:p_ D)(P:D->Prop):Prop:=∃d xs,ds=[d]/\Iw d=P3 xs/\xs.length<64/\Keyed CH xs/\∀xs':p_ D,xs'.Perm xs->Hg CH xs'->P^.lst xs'
def Rn:CA K .fr (Ud K) G2:=by
 intro U M H ds vs P Q dom vM hp w q;let#[d,xs,rfl,e,h64,hK,w]:=w;let#[v,rfl,hx]:=Cw hp;let#[κ,a,us,rfl,hs,sq]:=UK hx e (λ_ z=>z) vM;let#[keys,hl,hk]:=Ef hK.1;refine#[κ,a,us,_,rfl,sq M H (Pres.refl _ _)^Ext.refl _ _,by rw[hs.length];exact h64,Gy (λd k v _=>Gz) hs hK hl hk,λix l ho hn=>?_];let#[o1,o2]:=RA (kf:=CH) hl (λi x e=>by let#[k,a,b,_]:=hk i x e;simp_all) ho;exact q _ _ _ (Am hn) (Bx hn^hs.pick ix)^w _ o1 o2
end
section
variable {X:Cx}{a e:Expr}{zU:Kd}{wa:DW}{pos p fp kp:Pos}
def PK(W:W2)(wa:DW):DW:=λn ρ P=>wa n ρ λd n1=>∃(xs:p_ D) (rk:D->D),Iw d=P3 xs/\xs.length<64/\(∀x∈xs,∀Pd:D->Sg->Prop,Pd (rk x) n1->W [.sh x] n1 Pd)/\Keyed (λx=>CH^rk x) xs /\
 ∀xs':p_ D,xs'.Perm xs->Hg (λx=>CH^rk x) xs'->P (.lst xs') n1
def Ob{k:Nat}{fn pn:Str}{W:W2}(G:Got X.prog X.w X.K X.mg X.base fn k [pn] .sh W)(hr:Room (k+2) X.A)(hg:Gl X "sorted")(hm:X.mg "sorted"=m_)(hgf:Gl X fn)(he:DE X e zU wa)
  (hs:starEach [e] X.env=[(o_,eval e X.env)]:=by rfl) (hdf:(fn==("__debug__":Str))=o_:=by decide):DE X (.Call (.Name "sorted" p) [e] [#[P3 "key",.Name fn fp,kp]] pos) .fr^PK W wa:=by
 let#[f,fd,F,hmf,hkf,hb,hW]:=G;let#[t,h1,h2]:=he;refine#[_,Uz F hr hg hm hgf hmf hb h1 hs hdf,λC M H n ρ Z P Q R w q=>?_];refine h2 C M H n ρ Z _ _ R w λv H1 d n1 e1 f1 r1 p=>?_;let#[xs,rk,hd,h64,hw,hK,w]:=p;have R1:=R.step e1 f1;let#[κ,l,us,rfl,hs,sq]:=UK (U:=C.U) (r1.tpOf R.dom R.vM) hd R.uV R1.vM;let#[keys,hl,hk]:=Ef hK.1;have hlen:=hs.length;refine#[κ,l,us,keys,λks H2=>Ext C.U H1 H2/\FeedC X.K C.F M H2 n1/\ks.length<=xs.length/\∀(i:Nat) (k:V),ks[i]?=P3 k->∃x,xs[i]?=P3 x/\At X.K M H2 (rk x) k,rfl,sq M H1 (Pres.refl _ _)^Ext.refl _ _,by rw[hlen];exact h64,#[Ext.refl _ _,f1,eP _,λi k z=>absurd (show(m_:q_ V)=P3 k from z) λh=>nomatch h],λks H2 v hJ hv=>?_,λks H2 hJ hkl=>?_]
 .let#[ex,fd2,hle,hat]:=hJ
  have R2':=R1.step ex fd2;have hi:ks.length<xs.length:=by rw[←hlen];exact(Uf.mp hv).1
  have hxi:xs[ks.length]?=P3 xs[ks.length]:=No hi;let#[v',e2,hA]:=(hs.pres^R1.pres ex).get hxi;rw[hv]at e2;cases e2;refine#[rfl,C.F,C.U,C.V,M,n1,[.sh xs[ks.length]],λd n=>d=rk xs[ks.length]/\n=n1,#[R2'.dom,R2'.fU,R2'.uV,R2'.vM,fd2,.cons #[#[v,rfl,hA],rfl] .nil],hw _ (fe hi) _ #[rfl,rfl],λr H3 d n' ex3 f3 vr hd=>?_];let#[rfl,rfl]:=hd;refine#[ex.trans ex3,f3,by rw[eV,fo];lk,λi k hik=>?_]
  by_cases hlt:i<ks.length
  .rw[g8 hlt]at hik
   let#[x,h3,h4]:=hat i k hik;exact#[x,h3,h4.pres^R2'.pres ex3]
  .rw[gu^by lk]at hik
   have hi0:i=ks.length:=by
    have:=(Uf.mp hik).1
    rw[fo]at this;lk
   subst hi0;rw[Nat.sub_self]at hik;cases(show P3 r=P3 k from hik);exact#[_,hxi,vr]
 .let#[ex,fd2,hle,hat]:=hJ
  have R2':=R1.step ex fd2;have hkx:ks.length=xs.length:=by rw[hkl,hlen]
  have hs2:Ats X.K M H2 (xs.map rk) ks:=by
   have go:∀(xs:p_ D) (ks:p_ V),ks.length=xs.length->(∀(i:Nat) (k:V),ks[i]?=P3 k->∃x,xs[i]?=P3 x/\At X.K M H2 (rk x) k)->Ats X.K M H2 (xs.map rk) ks:=by
    intro xs
    induction xs with
    |nil=>intro ks h _;exact iz.mp h
    | cons x xs ih=>
     intro ks h hh;cases ks with
     |nil=>cases h
     | cons k ks=>
      let#[x',e3,h3]:=hh 0 k rfl;cases(show P3 x=P3 x' from e3)
      exact#[k,ks,rfl,h3,ih ks (by simpa using h) λi k' e4=>by
       let#[y,e5,h5]:=hh (i+1) k' (by simpa using e4);exact#[y,by simpa using e5,h5]]
   exact go xs ks hkx hat
  have hK2:Keyed CH^xs.map rk:=by
   refine#[λy hy=>?_,λy hy z hz ka kb ea eb=>?_]
   .let#[x,hx,rfl]:=Sc.mp hy
    exact hK.1 x hx
   .let#[x,hx,rfl]:=Sc.mp hy
    let#[x',hx',rfl]:=Sc.mp hz;exact hK.2 x hx x' hx' ka kb ea eb
  refine#[Gy (λd k v _=>Gz) hs2 hK2 (by rw[hl,Ev]) λi x e=>?_,λix l ho hn=>?_]
  .rw[ZB]at e
   let#[x',hx',rfl]:=eq.mp e;exact hk i x' hx'
  .let#[o1,o2]:=RA (kf:=λx=>CH^rk x) hl (λi x e=>by let#[k,a,b,_]:=hk i x e;exact#[k,a,b]) ho
   have g:Grow H2 (Aq H2 l^.lst^ix.map λi=>us.getD i .non):=Am hn;refine q _ _ (.lst^ix.map λi=>xs.getD i .non) n1 ((e1.trans ex).trans g.ext) (fd2.grow g) (VR.back (e1.trans ex) ?_)^w _ o1 o2;exact Bx hn^(hs.pres^R1.pres ex).pick ix
def YY:Key->D
 |.inl i=>.int i
 |.inr x=>.str x
def De:Key->Prop
 |.inl _=>True
 |.inr x=>x.length<=sizeLine
def V1{K:Frag}{M:Ch->Prop}{H:Hp}{k:Key}(h:De k):At K M H (YY k)^kOf k:=by
 cases k with
 |inl i=>exact rfl
 |inr x=>exact#[rfl,h]
end
end Dp
namespace L2
section
open PySem.MeetsSeq
open PySem.AutoSeq1 (wpAny_loadPart')
def US(l:Ch)(items:Array Db)(n:Nat)(x:Db)(e:Db->Bool)(j:Nat)(hj:j<items.size)(hit:e items[j]=n_)(hs1:items.size<=sizeLine)(prog:eT)(w:eY)(A:e_)(R:Result->Go->Prop)(hp:eK)(g:Array GenState)(d:Drawn)(tk:Nat)(os:_)
  (hl:hp.get? l=P3 {cls:=.type "list",dict:=m_,data:=.seq items n,slots:=#[]}) (he:∀y,y∈items->PySem.SeqAt.EqAt A.in1 #[hp,g,d,tk,os] y x^e y) (h:R (.ok^.ret .none) #[hp.update l^fH λxs=>xs.eraseIdxIfInBounds j,g,d,tk,os]):
  ∀k i:Nat,j - i=k->i<=j->(∀m (hm:m<items.size),i<=m->m<j->e items[m]=o_)->
   wpAny (model prog w) A.in1 (gs.«list.remove.loop» #[[.ref l,x,rawInt i],[]]) (λfin s'=>match fin with|.done f=>R (.ok f) s'|.again c'=>c'.quiet=n_/\codeAny (model prog w) A c' R s') (λe s'=>R (.error e) s') #[hp,g,d,tk,os]:=by
 intro k
 induction k with
 |zero=>
  intro i hk hij hno;have hij':i=j:=by lk
  subst hij'
  wp_walk using h9 hl
  have hi:items[((i:Nat):Int).toNat]?=P3 items[i]:=by simp[hj]
  rw[hi];refine Cn^he _ (Array.getElem_mem hj) prog w _ _ ?_;rw[hit];have hz':(items.eraseIdxIfInBounds i).size<=sizeLine+1:=eR (size_erased items _)^i_ hs1
  wp_walk using (iA hl rfl (hz:=hs1) (_hz':=hz')),h9 hl
  simpa using h
 | succ k ih=>
  intro i hk hij hno;have hlt:i<items.size:=by lk
  wp_walk using h9 hl
  have hi:items[((i:Nat):Int).toNat]?=P3 items[i]:=by simp[hlt]
  have hc:((i:Int)+1)=((i+1:Nat):Int):=by push_cast;rfl
  rw[hi];refine Cn^he _ (Array.getElem_mem hlt) prog w _ _ ?_;rw[hno i hlt (Op _)^by lk]
  wp_walk
  rw[hc]
  exact#[gM plain_remove_loop _,f8 entry_remove_loop (by
   rw[gS plain_remove_loop _];exact ih (i+1) (by lk) (by lk) λm hm h1 h2=>hno m hm (by lk) h2)]
def UT{prog:eT}{w:eY}{A:e_}{E:Db->Go->Prop}{s:Go}{Q:Db->Go->Prop}(l:Ch)(items:Array Db)(n:Nat)(x:Db)(e:Db->Bool)(j:Nat)(hj:j<items.size)(hit:e items[j]=n_)(hno:∀m (hm:m<items.size),m<j->e items[m]=o_)
  (hs1:items.size<=sizeLine) (hl:s.heap.get? l=P3 {cls:=.type "list",dict:=m_,data:=.seq items n,slots:=#[]}) (he:∀y,y∈items->PySem.SeqAt.EqAt A.in1 s y x^e y)
  (h:Q .none {s with heap:=s.heap.update l^fH λxs=>xs.eraseIdxIfInBounds j}):wpAny (model prog w) A (call (.builtin "list.remove") [.ref l,x]) Q E s:=by
 have key:wpAny (model prog w) A.in1 (gs.«list.remove» #[[.ref l,x],[]]) (λfin s'=>match fin with|.done f=>wants Q E (.ok f) s'|.again c'=>c'.quiet=n_/\codeAny (model prog w) A c' (wants Q E) s') (λe s'=>wants Q E (.error e) s') s:=by
  let#[hp,g,d,tk,os]:=s
  wp_walk using h9 hl
  exact#[gM plain_remove_loop _,f8 entry_remove_loop (US l _ n x e j hj hit hs1 _ w A _ hp g d tk os hl he h _ 0 rfl (eP _) (λm hm _ h2=>hno m hm h2))]
 exact wpAny_call^codeAny_call_builtin PySem.F.slot_list_remove.plain PySem.F.entry_list_remove^PySem.F.slot_list_remove.check _ _ _ _ _ _ _ _ #[_,hl,rfl] (PySem.F.args_list_remove_2 _ _) key
end
section
variable {X:Cx}
def Q0:V->p_ V->Hp->VK->Prop:=λx vs H Q=>∃(l:Ch) (xs:p_ V) (y:V) (ds:p_ ii) (d:ii) (j:Nat),x=.ref l/\vs=[y]/\H l=P3^.lst xs/\RVs H ds xs/\RV H d y/\g0 ds=n_/\d.canLay0=n_/\d.depth<=100 /\
 (∃dj,ds[j]?=P3 dj/\iS dj d=n_)/\(∀m dm,m<j->ds[m]?=P3 dm->iS dm d=o_)/\Q .non^Aq H l^.lst^xs.eraseIdx j
def LI{k:Nat}(hr:Room k X.A):WK X "list.remove" Q0:=by
 intro zG s Z H x vs v us Q I rx rv h;let#[l,xs,y,ds,d,j,rfl,rfl,hH,hds,hd,c1,c2,dd,#[dj,hj,hit],hno,q]:=h;cases rx;let#[u,rfl,ru]:=rv.one;let#[z,its,n,r,hl,e]:=I.lstM hH;let#[as,ra]:=RVs.reads I hds r;let#[bs,rb]:=RV.reads I hd ru;have hm:=PySem.SeqAt.readsAll_map ds its as c1 ra;have hlen:ds.length=its.length:=by rw[←hm,Ev]
 have hu:=hr.un;have hmin:min (gH ds) d.depth<=d.depth:=kG _ _
 have at_:∀m dm,ds[m]?=P3 dm->∀(h:m<its.toArray.size),PySem.SeqAt.readOf s.heap its.toArray[m]=dm:=λm dm e h=>by
  rw[←hm,ZB]at e;have h':m<its.length:=by simpa using h
  rw[No h']at e;have e:=eE e
  simpa using e
 have hjl:j<its.length:=by rw[←hlen];exact(Uf.mp hj).1
 refine UT l its.toArray n u (λy=>iS (PySem.SeqAt.readOf s.heap y) d) j (by rw[eF];exact hjl) (by rw[at_ j dj hj];exact hit) (λm hm' hlt=>?_) (by rw[eF];lk) e (PySem.SeqAt.items_eqAt (vs:=its.toArray) (by rw[List.toList_toArray];exact ra) rb c1 c2^by lk) ?_
 .have hml:m<ds.length:=by rw[hlen];simpa using hm'
  rw[at_ m ds[m] (No hml) hm'];exact hno m ds[m] hlt (No hml)
 .refine#[.non,_,I.lset (t':=s.toks) (its':=its.eraseIdx j) hH e ?_ (r.eraseIdx j) ?_,rfl,q]
  .show its.toArray.eraseIdxIfInBounds j=(its.eraseIdx j).toArray
   rw[List.eraseIdxIfInBounds_toArray]
  .have:=LO xs j
   omega
end
end L2
namespace Dp
open L2
def Zj(d:D)(ds:p_ D)(P:D->D->Prop):Prop:=∃(xs:p_ D) (y:D) (j:Nat),d=.lst xs/\ds=[y]/\Ci^.lst xs/\Ci y/\(∃x,xs[j]?=P3 x/\Eo x y=n_)/\(∀m x,m<j->xs[m]?=P3 x->Eo x y=o_)/\P (.lst^xs.eraseIdx j) .non
def Yb{K:Frag}:Kw K Q0 Zj:=by
 intro M H a d ds vs P Q m t hv w q;let#[xs,y,j,rfl,rfl,#[n1,l1,_],#[n2,l2,d2],#[x,hx,hit],hno,w]:=w;let#[us,h1,h2]:=t;let#[u,r,rfl,hu,hr]:=hv;cases(show r=[]from hr)
 have get:∀(m:Nat) (p:ii),(BJ xs)[m]?=P3 p->∃x,xs[m]?=P3 x/\p=toPy x:=λm p e=>by
  rw[EZ,ZB]at e;let#[x,e1,rfl]:=eq.mp e
  grind
 refine#[a,us,u,BJ xs,toPy y,j,rfl,rfl,h1,h2.rv n1,hu.rv n2,l1,l2,d2,#[toPy x,by rw[EZ,ZB,hx];rfl,hit],λm p hm e=>?_,q _ (.lst^xs.eraseIdx j) .non _ #[us.eraseIdx j,AM,?_] rfl w]
 .let#[x',e1,rfl]:=get m p e
  exact hno m x' hm e1
 .exact(h2.eraseIdx j).pres^CI m h1
def Ie(c:Hj)(wb:Aa):Aa:=λD2 n ρ=>∃W:Nat->Sg->p_ Slot->Prop,(∃m,W m n ρ)/\∀m n ρ,W m n ρ->
 c n ρ λb n1=>if b=n_ then ∃N:Sg->p_ Slot->Prop,(∀n' zY,N n' zY->∃m',m'<m/\W m' n' zY)/\wb {D2 with nx:=N,ct:=N,bk:=D2.nx} n1 ρ else D2.nx n1 ρ
section
variable {X:Cx}{κ:Kd}{c:Expr}{body:p_ Stmt}{wc:Hj}{wb:Aa}{pos:Pos}
def Jm(hp:kO (model X.prog X.w) X.A X.env X.xe)(hc:DT X c wc)(hb:Tj X κ body wb):DS X κ (.While c body [] pos)^Ie wc wb:=by
 let#[tc,c1,c2]:=hc;let#[tb,b1,b2]:=hb;refine#[_,Ur hp c1 b1,λC M H n ρ Z D2 E R L w=>?_];let#[W,#[m0,w0],turn]:=w;refine#[λm zZ H'=>∃M' n' zY,Rel X.K C M' H' n' zY zZ/\W m n' zY,#[m0,M,n,ρ,R,w0],?_];rintro m zZ H' ⟨M',n',zY,R',w'⟩;refine c2 C M' H' n' zY zZ _ _ R' (turn m n' zY w') λb H2 n2 e f p=>?_;have R2:=R'.step e f;cases b with
 | true=>
  rw[if_pos rfl]at p ⊢;let#[N,hN,p]:=p;refine#[λzV H3=>∃M3 n3 zP,Rel X.K C M3 H3 n3 zP zV/\N n3 zP,λzV H3 #[M3,n3,zP,R3,w3]=>?_,?_]
  .let#[m',hm,w4]:=hN n3 zP w3
   exact#[m',hm,M3,n3,zP,R3,w4]
  .exact b2 C M' H2 n2 zY zZ {D2 with nx:=N,ct:=N,bk:=D2.nx} _ R2 #[λM4 H4 n4 zT zR R4 w4=>#[M4,n4,zT,R4,w4],L.rt,λM4 H4 n4 zT zR R4 w4=>L.nx M4 H4 n4 zT zR R4 w4,λM4 H4 n4 zT zR R4 w4=>#[M4,n4,zT,R4,w4]] p
 |false=>
  rw[if_neg^by cbv]at p ⊢;exact L.nx M' H2 n2 zY zZ R2 p
def Gb{D2:E2}{n:Sg}{ρ:p_ Slot}(I:Nat->Sg->p_ Slot->Prop)(m0:Nat)(h0:I m0 n ρ)
  (hs:∀m n ρ (N:Sg->p_ Slot->Prop),I m n ρ->(∀m' n' zY,m'<m->I m' n' zY->N n' zY)->wc n ρ λb n1=>if b=n_ then wb {D2 with nx:=N,ct:=N,bk:=D2.nx} n1 ρ else D2.nx n1 ρ)
  (mono:∀n ρ (P Q:Bool->Sg->Prop),(∀b n1,P b n1->Q b n1)->wc n ρ P->wc n ρ Q):Ie wc wb D2 n ρ:=by
 refine#[I,#[m0,h0],λm n ρ h=>?_];refine mono n ρ _ _ (λb n1 p=>?_)^hs m n ρ (λn' zY=>∃m',m'<m/\I m' n' _) h λm' n' zY hm hi=>#[m',hm,hi];cases b with
 |true=>exact#[_,λ_ _ z=>z,p]
 |false=>exact p
end
end Dp
namespace Nt
open L2 Dp
def aU(s t:A5):Decidable (s=t):=
 if h:s.a=t.a/\s.b=t.b/\s.len=t.len then .isTrue (by let#[a,b,l]:=s;let#[a',b',l']:=t;let#[h1,h2,h3]:=h;simp only at h1 h2 h3;subst h1 h2 h3;rfl)else .isFalse λe=>h^by rw[e];exact#[rfl,rfl,rfl]
instance:DecidableEq A5:=aU
abbrev EF(Pd:D->Sg->Prop):E2:={nx:=λn _=>Kd.fr=.sh/\Pd .non n,rt:=Pd}
def Nw(t:A5):p_ Key:=[.inl t.len,.inr t.a,.inr t.b]
def Fb(ts:p_ A5):Prop:=ts.Pairwise λs t=>Bb (Nw t)^Nw s=o_
def X6:D->D
 |.tup [x,y,z]=>.tup [z,x,y]
 |d=>d
def cu(x:Str×Int):D:=.tup [.str x.1,.int x.2]
abbrev Ln:W2:=λss n P=>∃x y z:D,ss=[.sh^.tup [x,y,z]]/\P (.tup [z,x,y]) n
def EU:W2:=λss n P=>∃(d:D) (ts:p_ A5),ss=[.sh d]/\Iw d=P3^ts.map As/\ts.length<64/\∀ts':p_ A5,ts'.Perm ts->Fb ts'->P (.lst^ts'.map As) n
def TY:Aa:=(Av^BA^AE (AU Au (AA 0)^wC^D.int 2)^AE (AU Au (AA 0)^wC^D.int 0)^AE (AU Au (AA 0)^wC^D.int 1) AS)
def J1:Aa:=(Av^PK Ln^AA 0)
def UR{s t:A5}(h:Nw s=Nw t):s=t:=by
 let#[a,b,l]:=s;let#[a',b',l']:=t;unfold Nw at h
 grind
theorem Eb{α:Type}{R:α->α->Prop}(anti:∀a b,R a b->R b a->a=b):∀{l1 l2:p_ α},l1.Perm l2->l1.Pairwise R->l2.Pairwise R->l1=l2
 |[],l2,p,_,_=>(List.nil_perm.mp p).symm
 |a::l1,[],p,_,_=>absurd (List.perm_nil.mp p)^fg _ _
 | a::l1,b::l2,p,h1,h2=>by
  have e:a=b:=by
   rcases XV.mp^p.mem_iff.mp Re with e|h
   .exact e
   .rcases XV.mp^p.mem_iff.mpr^Re with e|h'
    .exact e.symm
    .exact anti a b ((fM.mp h1).1 b h')^(fM.mp h2).1 a h
  subst e;rw[Eb anti ((List.perm_cons a).mp p) (fM.mp h1).2 (fM.mp h2).2]
def N2{l1 l2:p_ A5}(p:l1.Perm l2)(h1:Fb l1)(h2:Fb l2):l1=l2:=Eb (λa b x y=>UR^CG _ _ y x) p h1 h2
def T4{α:Type}{f:α->D}{g:D->α}(hg:∀x,g^f x=x){xs:p_ D}{ts:p_ α}(h:xs.Perm^ts.map f):∃ts':p_ α,ts'.Perm ts/\xs=ts'.map f:=by
 refine#[xs.map g,?_,?_]
 .have:=h.map g
  rw[fY,show g∘f=id from funext hg,iV]at this;exact this
 .rw[fY]
  have:∀x∈xs,(f∘g) x=x:=λx hx=>by
   let#[t,_,rfl]:=Sc.mp^h.mem_iff.mp hx
   grind
  rw[gK this,List.map_id']
def Vv:D->A5
 |.tup [.str a,.str b,.int l]=>#[a,b,l]
 |_=>#["","",0]
section
variable {ss:p_ Slot}{n:Sg}{Pd:D->Sg->Prop}
def JF(h:Ln ss n Pd):TY (EE Pd) n (ss++UF 0 .no):=by
 let#[x,y,z,rfl,p]:=h;exact#[_,AH rfl,_,AH rfl,_,AH rfl,z3,p]
def U5{ts:p_ A5}(h:Hg (λx=>CH^X6 x)^ts.map As):Fb ts:=by
 unfold Hg at h;rw[jA]at h;exact h.imp λ{s t} z=>z _ _ rfl rfl
def HM(h:EU ss n Pd):J1 (EF Pd) n (ss++UF 0 .no):=by
 let#[d,ts,rfl,hd,h64,p]:=h;unfold J1;refine#[ts.map As,X6,hd,by rw[Ev];exact h64,λx hx Q hq=>?_,#[λx hx=>?_,λx hx y hy ka kb ea eb=>?_],λxs' hp ho=>?_]
 .let#[t,_,rfl]:=Sc.mp hx
  exact#[_,_,_,rfl,hq]
 .let#[t,_,rfl]:=Sc.mp hx
  exact#[Nw t,rfl,fg _ _]
 .let#[t,_,rfl]:=Sc.mp hx
  let#[u,_,rfl]:=Sc.mp hy;cases(show P3^Nw t=P3 ka from ea);cases(show P3^Nw u=P3 kb from eb);rfl
 .let#[ts',h1,rfl]:=T4 (g:=Vv) (λ_=>rfl) hp
  exact p ts' h1^U5 ho
def Mh{N:Net}(ok:N.Ok){x:Str}{p:Str×Int}(h:p∈C_ N.ts x):p.1∈N.ps/\1<=p.2/\p.2<=1000000/\∃t∈N.ts,t.len=p.2/\((t.a=x/\t.b=p.1)\/(t.b=x/\t.a=p.1)):=by
 let#[t,ht,h]:=gN.mp h;let#[m1,m2,m3,m4,m5]:=ok.tin t ht
 rcases eM.mp h with h|h
 .split at h
  .rename_i e
   rw[Rs.mp h];exact#[m2,m4,m5,t,ht,rfl,.inl #[e,rfl]]
  .cases h
 .split at h
  .rename_i e
   rw[Rs.mp h];exact#[m1,m4,m5,t,ht,rfl,.inr #[e,rfl]]
  .cases h
def RT(s t:A5):Eo (As s)^As t=n_↔s=t:=by
 let#[a,b,l]:=s;let#[a',b',l']:=t;show(a==a'&&(b==b'&&(l==l'&&n_)))=n_↔_
 simp_all
def Gu{xs:p_ D}(h:∀d∈xs,item d):Ci^.lst xs:=by
 have d1:=dps_le.mpr λd hd=>(h d hd).2.2;exact Ja (by cbv) (fines_iff.mpr λd hd=>(h d hd).1)^by show LX xs+1<=100;lk
theorem LS{α β:Type}(f:α->β):∀(l:p_ α) (i:Nat),(l.map f).eraseIdx i=(l.eraseIdx i).map f
 |[],i=>rfl
 |x::l,0=>rfl
 |x::l,i+1=>by
  show f x::(l.map f).eraseIdx i=f x::(l.eraseIdx i).map f;rw[LS f l i]
def XU{N:Net}(ok:N.Ok){x o:Str}{s t:A5}(hs:s∈N.ts)(ht:t∈N.ts)(e:Bp s t)(h1:(s.a=x/\s.b=o)\/(s.b=x/\s.a=o))(h2:(t.a=x/\t.b=o)\/(t.b=x/\t.a=o)):False:=by
 have ls:=(ok.tin s hs).2.2.1;have lt:=(ok.tin t ht).2.2.1;have irr:∀a,¬cs a<cs a:=λa=>ir _
 rcases h1 with⟨a1,b1⟩|⟨a1,b1⟩ <;>rcases h2 with⟨a2,b2⟩|⟨a2,b2⟩ <;>rw[a1,b1]at ls <;>rw[a2,b2]at lt
 .rcases e with e|⟨_,e⟩
  .rw[a1,a2]at e;exact irr _ e
  grind
 .grind
 .exact irr _^iU ls lt
 .rcases e with e|⟨_,e⟩
  .rw[b1,b2]at e;exact irr _ e
  grind
def Sq{N:Net}(ok:N.Ok)(x:Str):((C_ N.ts x).map (·.1)).Nodup:=by
 have go:∀ts:p_ A5,(∀t∈ts,t∈N.ts)->ts.Pairwise Bp->((C_ ts x).map (·.1)).Nodup:=by
  intro ts
  induction ts with
  |nil=>intro _ _;exact fF
  | cons t ts ih=>
   intro hin hp;have i1:=ih (λs hs=>hin s^TW _ hs) (fM.mp hp).2;have lt:=(ok.tin t^hin t Re).2.2.1
   have new:∀y,((t.a=x/\t.b=y)\/(t.b=x/\t.a=y))->y∉(C_ ts x).map (·.1):=λy hy hm=>by
    let#[s,hs,h]:=Mg hm;exact XU ok (hin t Re) (hin s^TW _ hs) ((fM.mp hp).1 s hs) hy h
   have e:C_ (t::ts) x=((if t.a=x then [(t.b,t.len)]else [])++(if t.b=x then [(t.a,t.len)]else []))++C_ ts x:=by
    unfold C_;rw[gU]
   rw[e]
   by_cases h1:t.a=x
   .have h2:¬t.b=x:=λz=>by rw[h1,z]at lt;exact ir _ lt
    rw[if_pos h1,if_neg h2,e7,jJ,eW,eQ];exact#[new _^.inl #[h1,rfl],i1]
   .rw[if_neg h1,fE]
    by_cases h2:t.b=x
    .rw[if_pos h2,jJ,eW,eQ]
     exact#[new _^.inr #[h2,rfl],i1]
    .rw[if_neg h2,fE]
     exact i1
 exact go N.ts (λ_ h=>h) ok.trise
end
def FK(t:A5):p_ Key:=[.inr t.a,.inr t.b,.inl t.len]
def Lc(ts:p_ A5):Prop:=ts.Pairwise λs t=>Bb (FK t)^FK s=o_
def Kj(s:A5):¬Bp s s:=by
 rintro(h|⟨_,h⟩) <;>exact BP _ h
def WR{s t:A5}(h:Bp s t):Bb (FK s)^FK t=n_:=by
 show(if gJ _=.inr _ then(if gJ _=.inr _ then(if jI _=.inl _ then o_ else decide _)else decide (cs _<cs _))else decide (cs _<cs _))=n_
 rcases h with h|⟨h,h'⟩
 .rw[if_neg λe=>BP s.a^by simp_all,decide_eq_true h]
 .rw[if_pos (by rw[h]),if_neg λe=>BP s.b^by grind,decide_eq_true h']
def Bo{ts:p_ A5}(h:ts.Pairwise Bp):ts.Nodup:=h.imp λ{s t} h e=>by rw[e]at h;exact Kj _ h
def sub_len{l m:p_ A5}(hl:l.Nodup)(hm:m.Nodup)(h:∀t∈l,t∈m):l.length<=m.length:=by
 have:l.Perm (m.filter λt=>decide (t∈l)):=(jx hl^hm.filter _).mpr λt=>by
  simp_all
 rw[this.length_eq];exact fP _ _
def Yz{N:Net}(ok:N.Ok){ts:p_ A5}(h:∀t∈ts,t∈N.ts)(hp:ts.Pairwise Bp):Net.Ok #[N.ps,ts]:=#[ok.names,ok.rise,λt ht=>ok.tin t^h t ht,hp]
end Nt
namespace L2
open PySem.W
end L2
namespace Dp
open L2
end Dp
namespace Nt
open L2 Dp
def look(ts:p_ A5)(x y:Str):q_ Int:=((C_ ts x).find? λz=>decide (z.1=y)).map (·.2)
def Mj(ts:p_ A5):Str->p_ Str->Int->q_ Int
 |_,[],s=>P3 s
 |x,y::r,s=>match look ts x y with
  |some l=>Mj ts y r (s+l)
  |none=>m_
def Hs:q_ Int->D
 |some i=>.int i
 |none=>.non
def EG:D->Bool
 |.str _=>n_
 |_=>o_
def ZY(N:Net):p_ Str->D
 |x::r=>if x∈N.ps then Hs^Mj N.ts x r 0 else .non
 |[]=>.non
def bO(N:Net):D->D
 |.tup xs=>if xs.all EG then ZY N^strsOf xs else .non
 |_=>.non
def bY(d:D):Prop:=G1 (10 ^ 40) d/\R8 d<=160000/\TF d<=50
abbrev Z9:W2:=λss n P=>∃(N:Net) (d:D),ss=[.sh^enc N,.sh d]/\N.Ok/\N.ps.length<=26/\N.ts.length<=60/\bY d/\P (bO N d) n
def Ot:Aa:=(AZ (BG (Ig (Dn^Ab^Yk "tuple"^AA 1)^Ab^AU (IA o_) (B0 Cs^AE (AA 1) AS)^wC^D.int 0) (Av^wC D.non) Aw)
 (AZ (BG (Dn^Ab^B0 be^AE (B6 [m_] (BF^AA 1) (Ax 0) Hl^Yk "str"^AA 0) AS) (Av^wC D.non) Aw)
 (AZ (A2 2^AY NR^AD (AL^AA 0) AR)
 (AZ (BG (Ab^AU (IB n_) (AU Au (AA 1)^wC^D.int 0)^AA 2) (Av^wC D.non) Aw)
 (AZ (A2 3^wC^D.int 0)
 (AZ (Ho (aN^AE (AA 1)^AE (cD Vk (AA 1) (Ql^wC^D.int 1) ID) AS) (Ko 2^BO (Ax 4)^BO (Ax 5) FA) (AZ (BG (Ab^AU (IB n_) (AA 5)^AU A4 (AA 2)^AA 4) (Av^wC D.non) Aw)
 (Tz 3^AU A4 (AU A4 (AA 2)^AA 4)^AA 5)))
 (Av^AA 3)))))))
theorem Nm:∀{xs:p_ D},xs.all EG=n_->∃ys:p_ Str,xs=ys.map .str
 |[],_=>#[[],rfl]
 |d::r,h=>by
  rw[List.all_cons,eh]at h;let#[ys,e]:=Nm h.2;cases d with
  |str x=>exact#[x::ys,by grind]
  |_=>cases h.1
def all_strs(ys:p_ Str):(ys.map D.str).all EG=n_:=by rw[List.all_map];exact jF.mpr λ_ _=>rfl
theorem Lu{g:Str->D}{x:Str}:∀{ps:p_ Str},BS (ps.map .inr) (ps.map g)^.inr x=if x∈ps then P3^g x else m_
 |[]=>rfl
 |p::ps=>by
  show(if gJ p=.inr x then P3 _ else BS _ _ _)=_;rw[Lu]
  grind
theorem Lv{y:Str}:∀{xs:p_ (Str×Int)},BS (xs.map λx=>.inr x.1) (xs.map λx=>.int x.2)^.inr y=((xs.find? λz=>decide (z.1=y)).map (·.2)).map .int
 |[]=>rfl
 |p::ps=>by
  show(if gJ _=.inr y then P3 _ else BS _ _ _)=_;rw[Lv]
  by_cases e:p.1=y
  .simp_all
  simp_all
def VM{N:Net}(ok:N.Ok){x y:Str}{l:Int}(h:look N.ts x y=P3 l):y∈N.ps/\1<=l/\l<=1000000:=by
 unfold look at h;cases c:(C_ N.ts x).find? λz=>decide (z.1=y)with
 |none=>grind
 |some z=>
  have h1:=List.find?_some c;let#[t,ht,hz]:=gN.mp^j_ c;let#[m1,m2,_,m3,m4]:=ok.tin t ht
  rcases eM.mp hz with hz|hz
  .simp_all
  simp_all
section
variable {ss:p_ Slot}{n:Sg}{Pd:D->Sg->Prop}
theorem OH{N:Net}(ok:N.Ok){D2:E2}{b0 b1:Slot}:∀(r:p_ Str) (x:Str) (s:Int) (s4 s5:Slot),x∈N.ps->(match Mj N.ts x r s with|some l=>∀s4 s5,D2.nx n [b0,b1,.sh^Dy N,.sh^.int l,s4,s5]|none=>D2.rt .non n)->
  Bj (Ko 2^BO (Ax 4)^BO (Ax 5) FA) (AZ (BG (Ab^AU (IB n_) (AA 5)^AU A4 (AA 2)^AA 4) (Av^wC D.non) Aw)^Tz 3^AU A4 (AU A4 (AA 2)^AA 4)^AA 5) D2 (Hk ((x::r).map .str)^r.map .str) n [b0,b1,.sh^Dy N,.sh^.int s,s4,s5]
 |[],x,s,s4,s5,hx,h=>h s4 s5
 | y::r,x,s,s4,s5,hx,h=>by
  have v1:BS (N.ps.map .inr) (N.ps.map^WI N.ts)^.inr x=P3^WI N.ts x:=by rw[Lu,if_pos hx]
  refine#[rfl,rfl,?_];refine#[_,_,.inr x,_,rfl,rfl,v1,_,_,.inr y,rfl,rfl,?_];rw[Lv];unfold Mj at h;have hl:((C_ N.ts x).find? λz=>decide (z.1=y)).map (·.2)=look N.ts x y:=rfl;rw[hl];cases c:look N.ts x y with
  |none=>rw[c]at h;exact EC h
  |some l=>
   rw[c]at h;have v2:BS ((C_ N.ts x).map λz=>.inr z.1) ((C_ N.ts x).map λz=>.int z.2)^.inr y=P3^.int l:=by rw[Lv,hl,c];rfl
   refine Ck #[s,rfl,_,_,.inr x,_,rfl,rfl,v1,_,_,.inr y,_,rfl,rfl,v2,l,rfl,?_];exact OH ok r y (s+l) _ _ (VM ok c).1 h
def MI(h0:Z9 ss n Pd):Ot (EE Pd) n (ss++UF 4 .no):=by
 let#[N,d,rfl,ok,lp,lt,fd,p]:=h0;cases d with
 | tup xs=>
  have hl:=Qt xs;have hz:PZ xs<=160000:=fd.2.1;have p':Pd (if xs.all EG then ZY N^strsOf xs else .non) n:=p;refine#[_,_,rfl,rfl,?_];show if((xs.length:Int)==0)=n_ then _ else _
  cases xs with
  |nil=>exact EC p'
  | cons x0 r0=>
   rw[show(((x0::r0).length:Int)==0)=o_ from beq_eq_false_iff_ne.mpr^by rw[eo];lk];refine Ck #[by lk,?_];refine B5 (λd=>.bl^EG d) (λρ=>∃s,ρ=[s]) _ _ _ _ ?_ #[_,rfl] ?_
   .rintro d hd ρ m nx ⟨s,rfl⟩ hnx
    have:=hnx [.sh d] #[_,rfl]
    have hf:=fines_iff.mp (show Jj _ _ from fd.1) d hd;cases d <;>first|exact this|exact hf.elim
   rw[fE];refine#[_,_,rfl,Oz EG (x0::r0),?_];rw[Zy];show if(!(x0::r0).all EG)=n_ then _ else _
   cases ha:(x0::r0).all EG with
   |false=>rw[ha]at p';exact EC p'
   | true=>
    rw[ha]at p';let#[ys,e]:=Nm ha;rw[e,Io]at p';cases ys with
    |nil=>cases e
    | cons y r=>
     rw[eW]at e;cases e;refine Ck #[N,rfl,ok,by lk,by lk,?_];refine#[.str y,AH (j:=0) rfl,_,_,.inr y,rfl,rfl,?_];show if(!(BS (N.ps.map .inr) (N.ps.map^WI N.ts)^.inr y).isSome)=n_ then _ else _
     rw[Lu];have p2:Pd (if y∈N.ps then Hs^Mj N.ts y r 0 else .non) n:=p'
     by_cases hy:y∈N.ps
     .rw[if_pos hy]at p2 ⊢
      refine Ck #[_,_,(y::r).map .str,r.map .str,rfl,rfl,by show P3^Dp.cutD (D.str y::r.map .str) (P3 1) m_=_;rw[c_];rfl,?_];refine OH ok r y 0 _ _ hy ?_;cases c:Mj N.ts y r 0 with
      |none=>rw[c]at p2;exact p2
      |some l=>rw[c]at p2;exact λ_ _=>p2
     .rw[if_neg hy]at p2 ⊢
      exact EC p2
 |ob a=>exact(show False from fd.1).elim
 |_=>exact p
theorem CL{b:BW}{tt:Hj}{te:DW}{P:p_ D->Sg->Prop}(c:D->Bool)(g:D->D)(I:p_ Slot->Prop):∀(ds acc:p_ D) (n:Sg) (ρ:p_ Slot),
  (∀d∈ds,∀(ρ:p_ Slot) (n:Sg) (nx:D->Sg->p_ Slot->Prop) (sk:Sg->p_ Slot->Prop),I ρ->(∀zY,I zY->c d=n_->nx (g d) n zY)->(∀zY,I zY->c d=o_->sk n zY)->b d ρ λzS=>tt n zS λc n1=>if c=n_ then te n1 zS λy n2=>nx y n2 zS else sk n1 zS)->I ρ->P (acc++(ds.filter c).map g) n->HR b tt te P ds acc n ρ
 |[],acc,n,ρ,_,_,h=>by rw[kT,k7,e7]at h;exact h
 |d::ds,acc,n,ρ,ht,hρ,h=>ht d Re ρ n _ _ hρ
  (λzY hρ' hc=>CL c g I ds _ n _ (λd hd=>ht d^TW _ hd) hρ'^by simp_all)
  (λzY hρ' hc=>CL c g I ds _ n _ (λd hd=>ht d^TW _ hd) hρ'^by grind)
end
def J3:Aa:=(Av^AY EU^AD (AL^B6 [P3 1,m_] (BF^AU Au (AA 0)^wC^D.int 1) (Ax 1) (Ab^AU (Mq n_) (AA 1)^AU Au (AA 0)^wC^D.int 1)^AA 1) AR)
def Q_{ts:p_ A5}(h:Hg CH^ts.map As):Lc ts:=by
 unfold Hg at h;rw[jA]at h;exact h.imp λ{s t} z=>z _ _ rfl rfl
def OL{N:Net}(ok:N.Ok){ts:p_ A5}(h:∀t∈ts,t∈N.ts):Ci^.tup^ts.map As/\Ci^.lst^ts.map As:=by
 have it:∀d∈ts.map As,item d:=λd hd=>by
  let#[t,ht,rfl]:=Sc.mp hd;exact Jc ok _^Sc.mpr #[t,h t ht,rfl]
 have d1:LX^ts.map As<=1:=dps_le.mpr λd hd=>(it d hd).2.2;exact#[Ja (B:=1000001) (by cbv) (fines_iff.mpr λd hd=>(it d hd).1) (by show LX^ts.map As+1<=100;lk),Gu it]
def RI{N:Net}(ok:N.Ok){t:A5}(h:t∈N.ts):Ci^As t:=by
 have it:=Jc ok _^Sc.mpr #[t,h,rfl];exact Ja (B:=1000001) (by cbv) it.1^by have:=it.2.2;lk
def Xm{ts:p_ A5}{t:A5}:((ts.map As).any λy=>Eo y^As t)=decide (t∈ts):=by
 rw[fC,hV,decide_eq_true_eq];constructor
 .rintro⟨d,hd,e⟩
  let#[s,hs,rfl]:=Sc.mp hd;rw[←(RT s t).mp e];exact hs
 .intro h
  exact#[As t,Sc.mpr #[t,h,rfl],(RT t t).mpr rfl]
def UB{s t:A5}(h:FK s=FK t):s=t:=by
 let#[a,b,l]:=s;let#[a',b',l']:=t;unfold FK at h;simp only[List.cons.injEq,Sum.inl.injEq,Sum.inr.injEq,and_true]at h;let#[rfl,rfl,rfl]:=h;rfl
def FL{l1 l2:p_ A5}(p:l1.Perm l2)(h1:Lc l1)(h2:Lc l2):l1=l2:=Eb (λa b x y=>UB^CG _ _ y x) p h1 h2
def Fa{ts:p_ A5}(h:ts.Pairwise Bp):Lc ts:=h.imp λ{s t} z=>by
 cases e:Bb (FK t)^FK s with
 |false=>rfl
 |true=>
  have:=Cg _ _ _ (WR z) e
  rw[CM]at this;cases this
def NN:W2:=λss n P=>∃l t b x:Int,ss=[.sh^.int l,.sh^.tup [.int t,.int b],.sh^.int x]/\1<=b/\b<=1000000/\1<=t/\t<=1000000/\P (.bl (decide (l*b<=x*t))) n
def Ou:Aa:=(Av^AU Zl (AU DH (AA 0)^AU Au (AA 1)^wC^D.int 1)^AU DH (AA 2)^AU Au (AA 1)^wC^D.int 0)
section
variable {ss:p_ Slot}{n:Sg}{Pd:D->Sg->Prop}
def dB{i j:Int}(h0:0<=j)(h1:j<=1000000):CMul i j:=.inr #[by lk,by lk]
def MJ(h:NN ss n Pd):Ou (EE Pd) n (ss++UF 0 .no):=by
 let#[l,t,b,x,rfl,b0,b1,t0,t1,p]:=h;exact#[_,AH rfl,dB (by lk) b1,_,AH rfl,dB (by lk) t1,p]
end
end Nt
namespace L2
open PySem.W
section
variable {prog:Program}{w:World}{A:Around}{E:Value->Shared->Prop}{R:Result->Shared->Prop}{I:Addr}{fp wr:p_ Addr}{n:Nat}{P:Nat->Value->Prop}{St:Nat->Heap->Prop}
def Yf(prog:eT)(w:eY)(A:e_)(op:CmpOp)(P:Nat->Db->Prop)(Cm:eK->Prop)(bt:Nat->Nat->Bool):Prop:=
 ∀i j vi vj (s:Go) (Q:Db->Go->Prop) (E:Db->Go->Prop),Cm s.heap->P i vi->P j vj->Q (.bool^bt i j) s->wpAny (model prog w) A (richCompare op vi vj) Q E s
def Su(W:Walks prog w A.in1 I fp wr n P St)(bt:Nat->Nat->Bool)(Cm:eK->Prop)(hcmp:Yf prog w A.in1 .Lt P Cm bt)(S:Ch)(hSf:S∉fp)(hmono:∀h h':eK,Cm h->(∀b o,b∉wr->b≠S->h.get? b=P3 o->h'.get? b=P3 o)->Cm h'):
  ∀(k j:Nat) (s:Go) (vb:Db) (c:Nat),n - (j+1)=k->j+1<=n->St (j+1) s.heap->Cm s.heap->P (argBest bt j) vb->
  s.heap.get? S=P3 {cls:=.type "list",dict:=m_,data:=.seq #[ vb,vb] c,slots:=#[]}->
  (∀v h' tk,P (argBest bt (n - 1)) v->(∀b o,b∉wr->b≠S->s.heap.get? b=P3 o->h'.get? b=P3 o)->R (.ok^.ret v) {s with heap:=h',toks:=tk})->
  codeAny (model prog w) A (.builtin "min.loop" #[[.ref I,.none,.ref S],[]]) R s:=by
 have hSw:S∉wr:=λh=>hSf^W.sub _ h;have hname:(toString "min"++toString ".loop":String)="min.loop":=by cbv
 intro k
 induction k with
 |zero=>
  intro j s vb c hk hj hst hcm hPb hS hR;have hin:j+1=n:=by lk
  refine f8 PySem.F.entry_min_loop ?_;rw[gS PySem.F.plain_min_loop _];show wpAny _ A.in1 (seqItems?^.ref S >>=_) _ _ s;refine Cn (fw hS rfl ?_);show wpAny _ A.in1 (tryCatch (pyNext^.ref I) _ >>=_) _ _ s;refine Cn^jh^W.done s _ _ (hin▸hst) λh' tk hk'=>?_;have hS':=hk' S _ hSw hS;show wpAny _ A.in1 (updateSeq S (λ_=>#[]) >>=_) _ _ _;refine Cn ?_;refine iA hS' rfl (Cn^gi^On ?_);refine hR vb _ tk (by rw[←hin];exact hPb) λb o hbw hbS e=>(eG _ _^fB hbS).trans^hk' b o hbw e
 | succ k ih=>
  intro j s vb c hk hj hst hcm hPb hS hR;have hlt:j+1<n:=by lk
  refine f8 PySem.F.entry_min_loop ?_;rw[gS PySem.F.plain_min_loop _];show wpAny _ A.in1 (seqItems?^.ref S >>=_) _ _ s;refine Cn (fw hS rfl ?_);show wpAny _ A.in1 (tryCatch (pyNext^.ref I) _ >>=_) _ _ s;refine Cn^jh^W.item (j+1) s _ _ hlt hst λv h' tk hP hst' hk'=>?_;have hS':=hk' S _ hSw hS;have hcm':Cm h':=hmono _ _ hcm λb o h1 _ e=>hk' b o h1 e;show wpAny _ A.in1 (tryCatch (holding [v,v] (richCompare .Lt v vb >>=_)) _ >>=_) _ _ _;refine Cn^jh^fc^Cn^hcmp (j+1) (argBest bt j) v vb _ _ _ hcm' hP hPb ?_;refine Cn^fc^gy ?_;refine Cn^gi^On ?_;cases hb:bt (j+1)^argBest bt j with
  | true=>
   simp only[if_true];refine Cn ?_;refine iA hS' rfl (Cn^gi ?_);rw[hname]
   refine On #[gM PySem.F.plain_min_loop _,ih (j+1) _ v _ (by lk) hlt (W.frame _ _ _ hst' λb hbf o e=>?_) (hmono _ _ hcm' λb o _ h2 e=>(eG _ _^fB h2).trans e) (by simp only[argBest,hb,if_true];exact hP) (fm _ hS' rfl)
    λv' h'' tk'' hP' hk''=>?_]
   .exact(eG _ _ λh:S=b=>hSf^by rw[h];exact hbf).trans e
   .exact hR v' h'' tk'' hP' λb o hbw hbS e=>hk'' b o hbw hbS^(eG _ _^fB hbS).trans^hk' b o hbw e
  |false=>
   simp only[fG,if_false];refine Cn^gi ?_;rw[hname];refine On #[gM PySem.F.plain_min_loop _,ih (j+1) _ vb c (by lk) hlt hst' hcm' (by simp only[argBest,hb,fG,if_false];exact hPb) hS' λv' h'' tk'' hP' hk''=>?_];exact hR v' h'' tk'' hP' λb o hbw hbS e=>hk'' b o hbw hbS^hk' b o hbw e
def P9(W:Walks prog w A.in1 I fp wr n P St)(bt:Nat->Nat->Bool)(Cm:eK->Prop)(hcmp:Yf prog w A.in1 .Lt P Cm bt)(S:Ch)(hSf:S∉fp)(hmono:∀h h':eK,Cm h->(∀b o,b∉wr->b≠S->h.get? b=P3 o->h'.get? b=P3 o)->Cm h')(hn:0<n){s:Go}{c:Nat}(hst:St 0 s.heap)(hcm:Cm s.heap)
  (hS:s.heap.get? S=P3 {cls:=.type "list",dict:=m_,data:=.seq #[] c,slots:=#[]})
  (hR:∀v h' tk,P (argBest bt (n - 1)) v->(∀b o,b∉wr->b≠S->s.heap.get? b=P3 o->h'.get? b=P3 o)->R (.ok^.ret v) {s with heap:=h',toks:=tk}):
  codeAny (model prog w) A (.builtin "min.loop" #[[.ref I,.none,.ref S],[]]) R s:=by
 have hSw:S∉wr:=λh=>hSf^W.sub _ h;have hname:(toString "min"++toString ".loop":String)="min.loop":=by cbv
 refine f8 PySem.F.entry_min_loop ?_;refine Cn (fw hS rfl ?_);refine Cn^jh^W.item 0 s _ _ hn hst λv h' tk hP hst' hk'=>?_;have hS':=hk' S _ hSw hS;have hcm':Cm h':=hmono _ _ hcm λb o h1 _ e=>hk' b o h1 e;show wpAny _ A.in1 (updateSeq S (λ_=>#[ v,v]) >>=_) _ _ _;refine Cn ?_;refine iA hS' rfl ?_;rw[hname];refine On #[gM PySem.F.plain_min_loop _,Su W bt Cm hcmp S hSf hmono _ 0 _ v _ rfl hn (W.frame _ _ _ hst' λb hbf o e=>?_) (hmono _ _ hcm' λb o _ h2 e=>(eG _ _^fB h2).trans e) hP (fm _ hS' rfl) λv' h'' tk'' hP' hk''=>?_]
 .exact(eG _ _ λh:S=b=>hSf^by grind).trans e
 .exact hR v' h'' tk'' hP' λb o hbw hbS e=>hk'' b o hbw hbS^(eG _ _^fB hbS).trans^hk' b o hbw e
def min_list{s:Go}{l:Ch}{items:Array Db}{Q:Db->Go->Prop}(bt:Nat->Nat->Bool)(hh:A.handled=m_)(hl:s.heap.IsList l items)(hn:0<items.size)
  (hcmp:∀i j vi vj (s':Go) (Q:Db->Go->Prop) (E:Db->Go->Prop),(∀b o,s.heap.get? b=P3 o->s'.heap.get? b=P3 o)->items[i]?=P3 vi->items[j]?=P3 vj->Q (.bool^bt i j) s'->wpAny (model prog w) A.in1 (richCompare .Lt vi vj) Q E s')
  (h:∀v h' tk,items[argBest bt (items.size - 1)]?=P3 v->(∀b o,s.heap.get? b=P3 o->h'.get? b=P3 o)->Q v {s with heap:=h',toks:=tk}):wpAny (model prog w) A (call (.builtin "min") [.ref l]) Q E s:=by
 have hname:(toString "min"++toString ".loop":String)="min.loop":=by cbv
 have hlt:l<s.heap.objs.size:=by let#[_,e,_]:=hl;exact Tk e
 refine call_function_tree PySem.F.kind_min PySem.F.plain_min PySem.F.entry_min (PySem.F.args_min1 _) ?_;show wpAny _ A.in1 (jo "min" ["key","default"] 0 #[[],[]] >>=_) _ _ s;refine Cn^kZ (show jo "min" ["key","default"] 0 #[[],[]]=pure [m_,m_]from rfl) ?_;refine Cn^On ?_;refine Cn^gT hl ?_;refine Cn^fi ?_;rw[hname];have W:=Walks.list (prog:=prog) (w:=w) (A:=A.in1) hh s.heap.objs.size l (eI hlt) items;have hs1:(s.heap.push {cls:=.type "list_iterator",data:=.fields #[ .ref l,.int 0 0]}).objs.size=s.heap.objs.size+1:=fW _ _;refine On #[gM PySem.F.plain_min_loop _,P9 W bt (λh'=>∀b o,s.heap.get? b=P3 o->h'.get? b=P3 o) (λi j vi vj s' Q E hc h1 h2 q=>hcmp i j vi vj s' Q E hc h1 h2 q) (s.heap.push {cls:=.type "list_iterator",data:=.fields #[ .ref l,.int 0 0]}).objs.size (λhm=>?_) (λh1 h2 hc hk b o e=>hk b o (λhm=>?_) ?_^hc b o e) hn #[#[_,FM _ (TM _ rfl),rfl,rfl],(hl.push _).push _] (λb o e=>FM _^FM _ e) (TM _ rfl) λv h' tk hP hk=>?_]
 .rw[hs1]at hm
  rcases XV.mp hm with e|hm
  .exact absurd e^Nat.succ_ne_self _
  .rw[←Rs.mp hm]at hlt
   exact absurd hlt^ip.mpr^fR _
 .rw[Rs.mp hm]at e
  exact absurd (Tk e)^fb _
 .rw[hs1]
  exact eI^gE^Tk e
 .refine h v h' tk hP λb o e=>hk b o (λhm=>?_) ?_^FM _^FM _ e
  .rw[Rs.mp hm]at e
   exact absurd (Tk e)^fb _
  .rw[hs1]
   exact eI^gE^Tk e
end
theorem J6(keys:p_^p_ Key):∀m:Nat,argBest (λi j=>Bb (keys.getD i [])^keys.getD j []) m<=m/\∀i,i<=m->Bb (keys.getD i [])^keys.getD (argBest (λi j=>Bb (keys.getD i [])^keys.getD j []) m) []=o_
 |0=>#[Op _,λi hi=>by
  have:i=0:=by lk
  subst this;exact CM _]
 | m+1=>by
  let#[h1,h2]:=J6 keys m;unfold argBest
  by_cases c:Bb (keys.getD (m+1) [])^keys.getD (argBest (λi j=>Bb (keys.getD i [])^keys.getD j []) m) []=n_
  .rw[if_pos c]
   refine#[Op _,λi hi=>?_]
   by_cases e:i=m+1
   .subst e;exact CM _
   .cases z:Bb (keys.getD i [])^keys.getD (m+1) [] with
    |false=>rfl
    |true=>
     have:=Cg _ _ _ z c
     rw[h2 i^by lk]at this;cases this
  grind
section
variable {X:Cx}
def YF(K:Frag):p_ V->Hp->VK->Prop:=λxs H Q=>∃(p:Ch) (vs:p_ V) (keys:p_^p_ Key),xs=[.ref p]/\SqL K H p vs/\0<vs.length/\KeysAt K H vs keys /\
 ∀j v,vs[j]?=P3 v->(∀i,i<vs.length->Bb (keys.getD i [])^keys.getD j []=o_)->Q v H
def TR{k:Nat}(hr:Room k X.A):CallR X (.builtin "min")^YF X.K:=by
 intro zG s Z H xs us Q I r h;let#[p,vs,keys,rfl,hq,hn,hk,q]:=h;let#[u,rfl,rx]:=vals1 r;cases rx;let#[its,r',pl,hz]:=I.list hq;have hl:=r'.length;have tk:=hk.tups I r' λb o e=>e;have hu:=hr.un;refine min_list (λi j=>Bb (keys.getD i [])^keys.getD j []) hr.hd pl.isList (by rw[eF];lk) (λi j vi vj s' Q' E' hold h1 h2 q'=>?_) λv h' tk' hv hold=>?_
 .have hi:i<keys.length:=by rw[←hk.len,hl];have:=(jy.mp h1).1;simpa using this
  have hj:j<keys.length:=by rw[←hk.len,hl];have:=(jy.mp h2).1;simpa using this
  let#[a,#[cls,dd,data,sl],xs,n,e1,e2,e3,e4,e5]:=tk.at_ i keys[i] (No hi);let#[a',#[cls',dd',data',sl'],xs',n',e1',e2',e3',e4',e5']:=tk.at_ j keys[j] (No hj);simp only at e3 e4 e3' e4';subst e3 e4 e3' e4';have e1:its.toArray[i]?=P3^.ref a:=by rw[←e1];simp
  have e1':its.toArray[j]?=P3^.ref a':=by rw[←e1'];simp
  rw[e1]at h1;rw[e1']at h2;cases h1;cases h2;have hsm:=hk.same _ (fe hi) _^fe hj;have g1:keys.getD i []=keys[i]:=by rw[eU,No hi];rfl
  have g2:keys.getD j []=keys[j]:=by rw[eU,No hj];rfl
  simp only[g1,g2]at q';rw[←Mi _ _ hsm]at q'
  exact richCompare_meets_room (op:=.Lt) #[_,hold _ _ e2,rfl] #[_,hold _ _ e2',rfl] PySem.F.slot_tuple_lt PySem.F.entry_tuple_lt (PySem.F.args_tuple_lt_2 _ _) (Es a a' xs xs' n n' dd dd' sl sl' keys[i] keys[j] e5 e5' hsm)
   #[hold _ _ e2,hold _ _ e2',show iN (Gs keys[i] keys[j])≠Value.notImplemented/\Q' (.bool (Gs keys[i] keys[j])) s' from#[(λx=>nomatch x),q']] (by show X.A.units+1<cLine;lk)
 .let#[b1,b2]:=J6 keys (its.toArray.size - 1)
  rw[eF]at hv b1 b2;have hj:argBest (λi j=>Bb (keys.getD i [])^keys.getD j []) (its.length - 1)<vs.length:=by lk
  let#[u,e1,ru]:=r'.get^No hj;have e2:its.toArray[argBest (λi j=>Bb (keys.getD i [])^keys.getD j []) (its.length - 1)]?=P3 u:=by rw[←e1];simp
  rw[e2]at hv;cases hv;exact#[_,H,I.kept (t':=tk') hold,ru,q _ _ (No hj) λi hi=>b2 i^by lk]
end
end L2
namespace Dp
open L2
def YS(ds:p_ D)(P:D->Prop):Prop:=∃xs,ds=[.lst xs]/\0<xs.length/\Keyed CH xs/\∀x∈xs,(∀y∈xs,∀kx ky,CH x=P3 kx->CH y=P3 ky->Bb ky kx=o_)->P x
def Z3{K:Frag}:CA K .sh (YF K) YS:=by
 intro U M H ds vs P Q dom vM hp w q;let#[xs,rfl,hn,hK,w]:=w;let#[v,rfl,hx]:=Cw hp;let#[a,us,rfl,_,hq,hs]:=hx;let#[keys,hl,hk]:=Ef hK.1;have hlen:=hs.length;refine#[a,us,keys,rfl,.inl hq,by lk,Gy (λd k v _=>Gz) hs hK hl hk,λj v hv hle=>?_];have hj:j<xs.length:=by rw[←hlen];exact(Uf.mp hv).1
 let#[v',e1,h1]:=hs.get^No hj;rw[hv]at e1;cases e1;refine q v H xs[j] .refl h1 (w _ (fe hj) λy hy kx ky ex ey=>?_);let#[i,hi]:=iL.mp hy;have hil:i<xs.length:=(Uf.mp hi).1;let#[k1,a1,b1,_]:=hk i y hi;let#[k2,a2,b2,_]:=hk j xs[j] (No hj)
 grind
end Dp
namespace L2
def dL(d:Ch)(o:Obj)(kvs:p_ (Key×V)):It:=
 #[λi H=>H d=P3^.frz o^.dK kvs/\i<kvs.length,λi H x H'=>∃T p,x=.ref T/\H T=m_/\kvs[i]?=P3 p/\H'=Aq H T^.tup [kV p.1,p.2],λi H=>H d=P3^.frz o^.dK kvs/\kvs.length<=i]
def Zd{P:eT}{w:eY}{k:Key}{u:Db}(h:(A_ P w).is k u=n_):RelV (kV k) u:=by
 rcases BH h with⟨i,t,rfl,rfl⟩|⟨x,t,rfl,rfl⟩
 .exact#[t,rfl]
 .exact#[t,rfl]
def Mz{X:Cx}{zG:p_ (Ch×Obj)}{Z:L2.St}{H:Hp}{s:Go}{d:Ch}{o:Obj}{kvs:p_ (Key×V)}{es:Array h7}{ep:Nat}(I:Inv X zG Z H s)(h:H d=P3^.frz o^.dK kvs)(hd:o.data=.dict es ep):
  ∃ws,KV kvs ws/\s.heap.DictAt (A_ X.prog X.w) d ws ep:=by
 let#[e0,_,_,ws,kv,o',es',ep',e1,e2,e3,e4]:=(I.hok d _ h);rw[e0]at e1;cases e1;rw[hd]at e3;cases e3;exact#[ws,kv,o,es,e0,e2,hd,e4]
def PU{P:eT}{w:eY}{K:Frag}{els:p_ eS}{j:Nat}{pos:Pos}(d it:Ch)(o:Obj)(kvs:p_ (Key×V))(es:Array h7)(ep:Nat)(hdat:o.data=.dict es ep):
  Turn P w K (.Tuple els j pos) (dL d o kvs) [it] it (λi h=>∃ok ov,IsItemIter h it d i kvs.length ep ok ov) where
 mem:=by simp
 obj:=λi h #[ok,ov,st] c hc=>by
  rw[Rs.mp hc];exact#[_,st,λv q=>by cases q]
 keep:=λi h h' #[ok,ov,st] k=>#[ok,ov,k it (by simp) _ st]
 item:=by
  intro X hP hw hK hc i zG s Z H E I hf st hg;subst hP hw hK;let#[hH,hi]:=hg;let#[ok,ov,st]:=st;let#[ws,kv,D]:=Mz I hH hdat
  have hl:=kv.length;have hiw:i<ws.length:=by lk
  rw[hl]at st;obtain⟨k,v,hkv⟩:∃k v,ws[i]=(k,v):=#[_,_,rfl];have hx:ws[i]?=P3 (k,v):=by rw[No hiw,hkv]
  have hp:kvs[i]?=P3 kvs[i]:=No hi;let#[ek,rv]:=JP kv hp hx;have ek:kvs[i].1=k:=ek;refine wpAny_pyNext_items_item st D hx λkey h' hkey hout htup hsz hold=>#[_,rfl,?_];refine wpAny_letOwnedTupleGo_items hout λh2 hit2 hsame=>?_;have hT:H s.heap.objs.size=m_:=I.hok.fresh^Op _;have nit:s.heap.objs.size≠it:=jP^Tk st
  have kk:∀c o,c∉[it]->s.heap.get? c=P3 o->h2.get? c=P3 o:=λc o hc e=>by
   have hc:c≠it:=λz=>hc (by rw[z];exact Rs.mpr rfl);exact(hsame.2 c hc).trans^hold c o hc e
  have I2:Inv X zG Z (Aq H s.heap.objs.size^.tup [kV kvs[i].1,kvs[i].2]) {s with heap:=h2}:=by
   refine I.turnLaid (t':=s.toks) (ch:=[it]) (λc hc=>hf c hc) kk (Op _) ?_;exact#[by show 2<=sizeLine;decide,[key,v],.cons (Zd^by rw[ek];exact hkey)^.cons rv .nil,#[_,(hsame.2 _ nit).trans htup,rfl,_,rfl,rfl,rfl]]
  refine#[.ref s.heap.objs.size,_,I2,rfl,#[_,_,rfl,hT,hp,rfl],#[key,v,by rw[hl];exact hit2],λc hc=>?_];rw[Rs.mp hc,AK^fB nit];exact(hf it^by simp).1
 done:=by
  intro X hP hw hK hc i zG s Z H E I hf st hg;subst hP hw hK;let#[hH,hi]:=hg;let#[ok,ov,st]:=st;let#[ws,kv,D]:=Mz I hH hdat
  have hl:=kv.length;rw[hl]at st;refine wpAny_pyNext_items_end (I.ok.hd hc) st D (iM^by lk) λh' ext=>#[rfl,?_];exact I.turnedL (t':=s.toks) (ch:=[it]) (λc hc=>hf c hc) λc o hc e=>ext c o (λz=>hc^by rw[z];exact Rs.mpr rfl) e
 self:=λA i s Q E #[ok,ov,st] h=>PySem.W.kcp_self st h
def Zi(to:TE):TI:=λZ H R=>to Z H λx H1=>∃d o kvs,x=.ref d/\H1 d=P3^.frz o^.dK kvs/\∀r,H1 r=m_->R (dL d o kvs)^Aq H1 r^.ext λh=>h.IsItemsView r d
def Ux{X:Cx}{e:eS}{els:p_ eS}{j:Nat}{tpos apos cpos:Pos}{to:TE}(ho:PE X e to)(hbase:attributeBase e "items" X.env^eval e X.env=eval e X.env:=by rfl)(hline:(apos.endLine==cpos.line)=n_:=by rfl):
  PI X (.Tuple els j tpos) (.Call (.Attribute e "items" apos) [] [] cpos) (Zi to):=by
 intro zG s Z H R I h;refine iw hbase hline^BD (ho zG s Z H _ I h) λv s1 #[x,H1,I1,r1,d,o,kvs,ex,hd,q]=>?_;subst ex;cases r1;let#[h1,h2,lo]:=QF I1^.inl #[kvs,.inr #[o,hd]];let#[_,_,ws,kv,D]:=E9 I1.hok^.inr #[o,hd];refine#["dict","dict.items",PySem.F.plainAttrs_dict,PySem.F.slot_dict_items,PySem.F.type_dict_items,h1,h2,fu rfl (PySem.evalArgs_none ?_)];refine iH PySem.F.slot_dict_items D.typeIs PySem.F.entry_dict_items (PySem.F.args_dict_items_1 _) (meets_dict_items (A_ X.prog X.w) d lo) #[#[ws,D],?_];have hf:H1 s1.heap.objs.size=m_:=I1.fresh;have hv:(s1.heap.push {cls:=.type "dict_items",data:=.fields #[ .ref d]}).IsItemsView s1.heap.objs.size d:=#[_,TM _ rfl,rfl,rfl]
 have I2:Inv X zG Z (Aq H1 s1.heap.objs.size^.ext λh=>h.IsItemsView s1.heap.objs.size d) {s1 with heap:=s1.heap.push {cls:=.type "dict_items",data:=.fields #[ .ref d]}}:=
  I1.laid (t':=s1.toks) (λb o e=>FM _ e) (Op _) #[hv,#[_,TM _ rfl],λh1 h2 #[o,e,c] k=>#[o,k o e,c]]
 have hd2:(Aq H1 s1.heap.objs.size^.ext λh=>h.IsItemsView s1.heap.objs.size d) d=P3^.frz o^.dK kvs:=by rw[AK^Ai hd hf];exact hd
 obtain⟨es,ep,hdat⟩:∃es ep,o.data=.dict es ep:=by
  let#[e0,_,_,ws,kv,o',es',ep',e1,e2,e3,e4]:=(show ObjOk X.prog X.w H1 s1.heap d^.frz o^.dK kvs from I1.hok d _ hd)
  grind
 let#[ws2,kv2,D2]:=Mz I2 hd2 hdat
 have hl:=kv2.length;refine wpAny_pyIter_items (s:={s1 with heap:=s1.heap.push {cls:=.type "dict_items",data:=.fields #[ .ref d]}}) hv D2 ?_;refine#[_,[(s1.heap.push {cls:=.type "dict_items",data:=.fields #[ .ref d]}).objs.size],_,dL d o kvs,_,rfl,I2.kept (t':=s1.toks) λb o e=>FM _ e,PU d _ o kvs es ep hdat,#[.none,.none,by rw[hl];exact TM _ rfl],λc hc=>?_,q _ hf];rw[Rs.mp hc];exact I2.fpOk (Op _) I2.fresh
end L2
namespace Dp
open L2
def wItems(wa:DW):EX:=λn ρ P=>wa n ρ λd n1=>∃ks ds,d=.fdi ks ds/\(∀k∈ks,De k)/\P (Hk (ks.map YY) ds) n1
def Ze(k:Key):kV k=kOf k:=by cases k <;>rfl
section
variable {X:Cx}{a:Expr}{zU:Kd}{wa:DW}{els:p_ Expr}{j:Nat}{tpos apos cpos:Pos}
def Vu(ha:DE X a zU wa)(hbase:attributeBase a "items" X.env^eval a X.env=eval a X.env:=by rfl)(hline:(apos.endLine==cpos.line)=n_:=by rfl):DI X (.Tuple els j tpos) (.Call (.Attribute a "items" apos) [] [] cpos)^wItems wa:=by
 let#[t,a1,a2]:=ha;refine#[_,Ux a1 hbase hline,λC M H n ρ Z P Rr R w q=>?_];refine a2 C M H n ρ Z _ _ R w λv H1 d n1 ee f1 r1 p=>?_;let#[ks,ds,rfl,hfit,p]:=p;have R1:=R.step ee f1;obtain⟨ad,vs,rfl,⟨o,nM,hd⟩,hlen,hs⟩:∃a vs,v=.ref a/\NdF M H1 a ks vs/\ks.length=ds.length/\Ats X.K M H1 ds vs:=r1.tpOf R.dom R.vM;have hl:=hs.length;refine#[ad,o,_,rfl,hd,λr hr=>?_];have g:Grow H1 (Aq H1 r^.ext λh=>h.IsItemsView r ad):=Am hr;refine q _ _ _ n1 (ee.trans g.ext) (f1.grow g) (λi M' H' pr dom=>?_) p;have pr2:Pres M H1 M' H':=g.pres.trans pr;have hd':H' ad=P3^.frz o^.dK^ks.zip vs:=(pr2.nd nM hd).2;have zl:(ks.zip vs).length=ks.length:=by rw[gI];lk
 have zd:(Hk (ks.map YY) ds).length=ks.length:=by unfold Hk;rw[List.length_zipWith,Ev];lk
 refine#[λe he=>?_,λhle=>#[hd',by lk]];have hi:i<ks.length:=by rw[←zd];exact(Uf.mp he).1
 have hid:i<ds.length:=by lk
 refine#[#[hd',by lk],λx H2 y=>?_];let#[T,pp,rfl,hT,hp,rfl]:=y;let#[v',e1,h1]:=(hs.pres pr2).get^No hid
 have e2:(ks.zip vs)[i]?=P3 (ks[i],v'):=by
  rw[iZ];exact#[No hi,e1]
 rw[e2]at hp;cases hp
 have e3:e=.tup [YY ks[i],ds[i]]:=by
  unfold Hk at he;rw[ki,ZB,No hi,No hid]at he;exact(eE he).symm
 subst e3;refine#[Am hT,DF dom hT #[_,_,rfl,?_,_,_,rfl,h1,rfl]];show At X.K M' H' (YY ks[i]) (kV ks[i]);rw[Ze];exact V1^hfit _^fe hi
end
section
variable {K:Frag}{C:Fm}{M:Addr->Prop}{H:Hp}{n:Sg}{ρ:p_ Slot}{Z:L2.St}
def Rel.hold(R:Rel K C M H n ρ Z){p:Ch}{o:HO}(hp:H p=m_)(nv:¬Tq o:=by rintro⟨_,z⟩;cases z):Rel K C (λb=>M b\/b=p) (Aq H p o) n ρ Z:=by
 have g:Grow H^Aq H p o:=Am hp;have pr:Pres M H _^Aq H p o:=FW hp;refine#[R.len,λa z=>.inl^R.sub a z,λa z=>?_,R.ext.trans g.ext,R.fU,R.uV,λa z=>.inl^R.vM a z,(R.feed.grow g).more p (λf hf q=>?_) λu z=>nv #[u,by rw[AM]at z;exact eE z],λi s q=>(R.sl i s q).pres pr (λ_ z=>.inl z) g.ext R.uV,λq hq=>(R.pin q hq).trans pr,R.br0,R.new,R.two,λq hq=>?_]
 .rcases z with z|z
  .let#[u,h1]:=R.dom a z
   exact#[u,g.all a u h1]
  .rw[z];exact#[o,AM]
 .let#[_,_,_,_,_,h3,_]:=R.feed.1 f hf
  have:=h3.2
  grind
 .let#[h1,h2,h3,h4]:=R.kept q hq
  exact#[g.all _ _ h1,#[.inl h2.1,h2.2],h3,h4]
end
def Jg(ks:p_ Key)(k:Key):Bool:=ks.any λk0=>decide (k0=k)
def hasK_iff{ks:p_ Key}{k:Key}:Jg ks k=n_↔k∈ks:=by
 unfold Jg
 simp_all
def CS(ks:p_ Key)(k:Key):p_ Key:=if Jg ks k=n_ then ks else ks++[k]
def Ce{α:Type}(ks:p_ Key)(ds:p_ α)(k:Key)(d:α):p_ α:=if Jg ks k=n_ then gL (λk0 d0=>if k0=k then d else d0) ks ds else ds++[d]
def Xl{ks:p_ Key}{vs:p_ V}(hl:ks.length=vs.length)(k:Key):((ks.zip vs).any λkv=>decide (kv.1=k))=Jg ks k:=by
 rw[fC,hV,hasK_iff];constructor
 .rintro⟨⟨a,b⟩,hm,e⟩
  have e:=of_decide_eq_true e;rw[←e];exact(iW hm).1
 .intro h
  let#[i,hi,e]:=iT.mp h;exact#[(ks[i],vs[i]'(by lk)),iT.mpr #[i,by grind,by grind],by grind]
def Up{ks:p_ Key}{vs:p_ V}(hl:ks.length=vs.length)(k:Key)(v:V):putK (ks.zip vs) k v=(CS ks k).zip^Ce ks vs k v:=by
 unfold putK CS Ce;rw[Xl hl]
 by_cases h:Jg ks k=n_
 .have go:∀(ks:p_ _) (vs:p_ V),((ks.zip vs).map λkv=>if kv.1=k then(kv.1,v)else kv)=ks.zip^gL (λk0 d0=>if k0=k then v else d0) ks vs:=by
   intro ks
   induction ks with
   |nil=>intro vs;rfl
   | cons a ks ih=>
    intro vs;cases vs with
    |nil=>rfl
    |cons b vs=>
     show(if a=k then(a,v)else(a,b))::_=(a,if a=k then v else b)::_;exact List.cons_eq_cons.mpr #[by split <;>rfl,ih vs]
  simp_all
 .rw[if_neg h,if_neg h,if_neg h,List.zip_append hl]
  rfl
theorem Ats.put{K:Frag}{M:Ch->Prop}{H:Hp}{k:Key}{d:D}{v:V}(hd:At K M H d v):∀{ks:p_ Key}{ds:p_ D}{vs:p_ V},Ats K M H ds vs->Ats K M H (gL (λk0 d0=>if k0=k then d else d0) ks ds)^gL (λk0 d0=>if k0=k then v else d0) ks vs
 |[],ds,vs,h=>rfl
 |a::ks,[],vs,h=>by cases(h);rfl
 |a::ks,e::ds,vs,h=>by
  let#[u,r,rfl,h1,h2]:=h;refine#[_,_,rfl,?_,Ats.put hd h2]
  grind
def Ats.putX{K:Frag}{M:Ch->Prop}{H:Hp}{k:Key}{d:D}{v:V}{ks:p_ Key}{ds:p_ D}{vs:p_ V}(hd:At K M H d v)(h:Ats K M H ds vs):Ats K M H (Ce ks ds k d)^Ce ks vs k v:=by
 unfold Ce
 split
 .exact Ats.put hd h
 .exact h.append^Ats.one hd
def Q3{α:Type}{ks:p_ Key}{ds:p_ α}{k:Key}{d:α}(hl:ks.length=ds.length):(CS ks k).length=(Ce ks ds k d).length:=by
 unfold CS Ce
 grind
theorem K4:∀{ks:p_ Key}{ds:p_ D}{k:Key},k∉ks->BS ks ds k=m_
 |[],ds,k,_=>by rfl
 |a::ks,[],k,_=>rfl
 |a::ks,d::ds,k,h=>by
  unfold BS;rw[if_neg λe=>h^by grind];exact K4 λz=>h^TW _ z
theorem K3:∀{ks:p_ Key}{ds:p_ D}{k:Key},ks.length=ds.length->k∈ks->∃z,BS ks ds k=P3 z
 |[],ds,k,_,h=>by cases h
 |a::ks,[],k,h,_=>by cases h
 | a::ks,d::ds,k,hl,h=>by
  unfold BS
  by_cases e:a=k
  .simp_all
  .rw[if_neg e]
   exact K3 (by simp_all)^(XV.mp h).resolve_left λz=>e z.symm
def T3{ks:p_ Key}{ds:p_ D}{k:Key}{d:D}(hl:ks.length=ds.length)(j:Key):BS (CS ks k) (Ce ks ds k d) j=if j=k then P3 d else BS ks ds j:=by
 unfold CS Ce
 by_cases h':Jg ks k=n_
 .have h:=hasK_iff.mp h'
  rw[if_pos h',if_pos h']
  have go:∀(ks:p_ Key) (ds:p_ D),ks.length=ds.length->(j=k->k∈ks)->BS ks (gL (λk0 d0=>if k0=k then d else d0) ks ds) j=if j=k then P3 d else BS ks ds j:=by
   intro ks
   induction ks with
   |nil=>
    intro ds _ hm
    by_cases e:j=k
    .exact absurd (hm e) ei
    .rw[if_neg e];cases ds <;>rfl
   | cons a ks ih=>
    intro ds hl hm;cases ds with
    |nil=>cases hl
    | cons e ds=>
     show(if a=j then P3 (if a=k then d else e)else BS ks _ j)=if j=k then P3 d else if a=j then P3 e else BS ks ds j
     by_cases e1:a=j
     .rw[if_pos e1,if_pos e1]
      by_cases e2:j=k
      .rw[if_pos e2,if_pos^e1.trans e2]
      .rw[if_neg e2,if_neg λz=>e2^e1.symm.trans z]
     .rw[if_neg e1,if_neg e1]
      refine ih ds (by simpa using hl) λz=>(XV.mp^hm z).resolve_left λw=>e1^w.symm.trans z.symm
  exact go ks ds hl λ_=>h
 .have h:k∉ks:=λz=>h'^hasK_iff.mpr z
  rw[if_neg h',if_neg h']
  have go:∀(ks:p_ Key) (ds:p_ D),ks.length=ds.length->k∉ks->BS (ks++[k]) (ds++[d]) j=if j=k then P3 d else BS ks ds j:=by
   intro ks
   induction ks with
   | nil=>
    intro ds hl _;cases ds with
    |nil=>
     show(if k=j then P3 d else m_)=if j=k then P3 d else m_
     by_cases e:j=k
     .rw[if_pos e,if_pos e.symm]
     .rw[if_neg e,if_neg λz=>e z.symm]
    |cons e ds=>cases hl
   | cons a ks ih=>
    intro ds hl hm;cases ds with
    |nil=>cases hl
    |cons e ds=>
     show(if a=j then P3 e else BS (ks++[k]) (ds++[d]) j)=if j=k then P3 d else if a=j then P3 e else BS ks ds j
     rw[ih ds (by simpa using hl) λz=>hm^TW _ z]
     by_cases e1:a=j
     .rw[if_pos e1,if_pos e1,if_neg λz=>hm^by rw[←z,←e1];exact Re]
     .rw[if_neg e1,if_neg e1]
  exact go ks ds hl h
section
variable {X:Cx}{a b e:Expr}{κ zU zQ:Kd}{wa wb:DW}{pos pos':Pos}
def PN(wk wv:DW):DW:=λn ρ P=>wk n ρ λk n1=>wv n1 ρ λd n2=>∃key,keyOf k=P3 key/\P (.dic [key] [d]) n2
def Oe(ha:DE X a zU wa)(hb:DE X b zQ wb)(hk:zQ≠.tp:=by intro z;cases z):DE X (.Dict [P3 a] [b] pos) .fr^PN wa wb:=by
 let#[t,h1,h2]:=ha;let#[u,g1,g2]:=hb;refine#[_,Q9 (JK h1 g1 Q5) rfl rfl (fg _ _) (by show 1<=15;decide),λC M H n ρ Z P Q R w q=>λp hp=>?_];have R1:=R.hold (o:=.dK []) hp
 have np:¬C.U p:=λz=>by
  let#[o,w]:=R.dom p^R.vM p^R.uV p z;rw[hp]at w;cases w
 refine h2 C _ _ n ρ Z _ _ R1 w λx H2 k n1 e1 f1 r1 p1=>?_;have R2:=R1.step e1 f1;refine g2 C _ _ n1 ρ Z _ _ R2 p1 λy H3 d n2 e2 f2 r2 p2=>?_;let#[key,hkey,p2]:=p2;have R3:=R2.step e2 f2;have hat:At X.K (λb=>M b\/b=p) H3 d y:=r2.shOf R2.dom hk;have hp3:H3 p=P3^.dK []:=e2.keep (e1.keep AM np) np;have hx:x=kV key:=Cj hkey^r1.tpOf R1.dom R1.vM;refine#[hp3,[(key,y)],by rw[hx];rfl,by show 1<=15;decide,?_];show Q (.ref p)^Aq H3 p^.dK [(key,y)];refine q _ _ (.dic [key] [d]) n2 (λb o eb=>?_) ?_ #[p,rfl,hp,[y],AM,rfl,?_] p2
 .have nb:b≠p:=Ai eb hp
  let#[o1,z1,k1,t1]:=e1 b o (by rw[AK nb];exact eb);let#[o2,z2,k2,t2]:=e2 b o1 z1;exact#[o2,by rw[AK nb];exact z2,λnu nv=>(k2 nu^by rw[k1 nu nv];exact nv).trans^k1 nu nv,λvs z=>(t2 vs^(t1 vs z).trans z).trans^t1 vs z]
 .refine f2.pres #[λb o eb nb _=>by rw[AK λz=>nb^.inr z];exact eb,λb z=>.inl^.inl z,λb vs eb=>by rw[AK λz=>by rw[z,hp3]at eb;cases eb];exact eb,λb o eb=>(iI (b=p)).elim (λz=>by rw[z];exact#[_,AM]) λz=>#[o,by rw[AK z];exact eb]] (λf o hf eb=>?_) λb u eb=>by rw[AK λz=>by rw[z,hp3]at eb;cases eb];exact eb
  rw[AK λz=>np^by rw[←z];exact R.fU f hf];exact eb
 .exact#[y,[],rfl,hat.pres^CI (.inr rfl) hp3,rfl]
def Fk(i:Nat)(wk wv:DW):Aa:=λD2 n ρ=>∃ks ds,ρ[i]?=P3^.ow^.dic ks ds/\wv n ρ λd n1=>wk n1 ρ λk n2=>∃key,keyOf k=P3 key/\ks.length<sizeLine/\D2.nx n2^ρ.set i^.ow^.dic (CS ks key)^Ce ks ds key d
def Mv{i k:Nat}{x:eS}(hr:Room k X.A)(hx:PE X x^Bv i)(ha:DE X a zU wa)(hb:DE X b zQ wb)(hk:zQ≠.tp:=by intro z;cases z)
  (hs:swapsWith b (P3^.Subscript x a pos') pos.line X.env=pure o_:=by rfl):DS X κ (.Assign [.Subscript x a pos'] b pos)^Fk i wa wb:=by
 let#[t,h1,h2]:=ha;let#[u,g1,g2]:=hb;refine#[_,IG (GD hr) hx h1 g1 hs,λC M H n ρ Z D2 E R L w=>?_];let#[ks,ds,hd,w]:=w;refine g2 C M H n ρ Z _ _ R w λv H1 d n1 e1 f1 r1 p=>?_;have R1:=R.step e1 f1;let#[ad,ea,m,nv,tt]:=R1.sl i _ hd;refine#[.ref ad,getD_some ea,?_];refine h2 C M H1 n1 ρ Z _ _ R1 p λy H2 kk n2 e2 f2 r2 p=>?_;let#[key,hkey,hlt,p]:=p;have R2:=R1.step e2 f2;let#[ad',ea',m',nv',tt']:=R2.sl i _ hd;rw[ea]at ea';cases ea';let#[vs,hH,hl,hs']:=tt';have hat:At X.K M H2 d v:=(r1.shOf R.dom hk).pres^R1.pres e2;have hvl:ks.length=vs.length:=by rw[hl,hs'.length]
 refine#[ad,_,rfl,by rw[Cj hkey^r2.tpOf R1.dom R1.vM];exact DPut.k hH (by rw[gI];lk),L.nx M _ n2 _ Z (R2.mut (e:=.dic (CS ks key)^Ce ks ds key d) hd ea #[Ce ks vs key v,by rw[AM,Up hvl],Q3 hl,(hs'.putX hat).pres^CI m' hH]) p]
def aT:D->q_ Bool
 |.lst xs=>P3 (!xs.isEmpty)
 |.tup xs=>P3 (!xs.isEmpty)
 |.bl b=>P3 b
 |.non=>P3 o_
 |_=>m_
def Tu(wa:DW):Hj:=λn ρ P=>wa n ρ λd n1=>∃c,aT d=P3 c/\P c n1
def Lk{K:Frag}{M:Ch->Prop}{H:Hp}{ds:p_ D}{vs:p_ V}(h:Ats K M H ds vs):vs.isEmpty=ds.isEmpty:=by
 have:=h.length
 cases vs <;>cases ds <;>first|rfl|cases this
def Yp{U M:Ch->Prop}{H:Hp}{K:Frag}{d:D}{x:V}{c:Bool}(h:AtT K U M H d x)(e:aT d=P3 c):aA K x H c:=by
 cases d with
 |lst ds=>cases e;let#[a,vs,rfl,_,hq,hs]:=h;exact .inl #[vs,.inl hq,by rw[Lk hs]]
 |tup ds=>cases e;let#[a,vs,rfl,hq,hs]:=h;exact .inr^.inl #[vs,.inl^.inl hq,by rw[Lk hs]]
 |bl b=>cases e;rw[h.bl];exact rfl
 |non=>cases e;rw[h];exact rfl
 |_=>cases e
def QL(h:DE X e κ wa)(he:∀whole,isTrue e X.env whole=(do let v ←whole;standAt e.pos;holding [v]^truthy v):=by intro _;rfl):DT X e^Tu wa:=by
 let#[t,h1,h2]:=h;refine#[_,Uq h1 he,λC M H n ρ Z P Q R w q=>?_];refine h2 C M H n ρ Z _ _ R w λv H' d n' e1 f1 r1 p=>?_;let#[c,hc,p]:=p;exact#[c,Yp (r1.tpOf R.dom R.vM) hc,q c H' n' e1 f1 p]
def Jk(neg:Bool)(d e:D)(P:D->Prop):Prop:=e=.non/\P^.bl (if neg then !VW d else VW d)
def WA{K:Frag}:Er K .sh (λx y H Q=>y=.non/\Q (.bl (decide (x=.non))) H)^Jk o_:=λU M H d e x y P Q dom vM hx hy w q=>by
 let#[rfl,w]:=w;exact#[hy,q _ H _ .refl (by rw[OR hx];rfl) w]
def Z1{K:Frag}:Er K .sh (λx y H Q=>y=.non/\Q (.bl (!decide (x=.non))) H)^Jk n_:=λU M H d e x y P Q dom vM hx hy w q=>by
 let#[rfl,w]:=w;exact#[hy,q _ H _ .refl (by rw[OR hx];rfl) w]
variable {apos cpos:Pos}{f:Expr}{κf:Kd}{wf:DW}
def Kz(wa wk:DW):DW:=λn ρ P=>wa n ρ λd n1=>∃ks ds,Jq d=P3 (ks,ds)/\wk n1 ρ λk n2=>∃key,keyOf k=P3 key/\P ((BS ks ds key).getD .non) n2
def Qm(wa wk wx:DW):DW:=λn ρ P=>wa n ρ λd n1=>∃ks ds,Jq d=P3 (ks,ds)/\wk n1 ρ λk n2=>wx n2 ρ λz n3=>∃key,keyOf k=P3 key/\P ((BS ks ds key).getD z) n3
def T1{U M:Ch->Prop}{H:Hp}{K:Frag}{d z:D}{x v:V}{ks:p_ Key}{ds:p_ D}{key:Key}(e:Jq d=P3 (ks,ds))(h:AtT K U M H d x)(hz:At K M H z v):∃a o,x=.ref a/\DGet H a (kV key) o/\At K M H ((BS ks ds key).getD z)^o.getD v:=by
 let#[a,vs,rfl,ha,hs]:=Jp e h;refine#[a,_,rfl,IQ ha,?_];have h:=Fl (k:=key) (ks:=ks) hs;cases c:BS ks ds _ with
 |none=>simp_all
 |some y=>rw[c]at h;let#[u,h1,h2]:=h;grind
def Vb{U M:Ch->Prop}{H:Hp}{K:Frag}{d:D}{x:V}{ks:p_ Key}{ds:p_ D}(e:Jq d=P3 (ks,ds))(h:AtT K U M H d x):∃a,x=.ref a/\cP H a:=by
 let#[a,vs,rfl,ha,hs]:=Jp e h;exact#[a,rfl,.inl #[_,ha]]
def Ra{k:Nat}(hr:Room k X.A)(ha:DE X a zU wa)(hb:DE X b zQ wb)(m:M1 X a "get" apos b cpos:=by exact#[rfl,rfl,rfl,rfl]):DE X (.Call (.Attribute a "get" apos) [b] [] cpos) .sh^Kz wa wb:=by
 let#[t,h1,h2]:=ha;let#[u,g1,g2]:=hb;refine#[_,U3 (GD hr) h1 g1 m,λC M H n ρ Z P Q R w q=>?_];refine h2 C M H n ρ Z _ _ R w λv H1 d n1 e1 f1 r1 p=>?_;let#[ks,ds,hd,p]:=p;have R1:=R.step e1 f1;let#[ad,rfl,hI]:=Vb hd^r1.tpOf R.dom R.vM;refine#[ad,rfl,hI,?_];refine g2 C M H1 n1 ρ Z _ _ R1 p λy H2 kk n2 e2 f2 r2 p=>?_;let#[key,hkey,p]:=p;have R2:=R1.step e2 f2;have hat:=(r1.tpOf R.dom R.vM).pres (R1.pres e2) e2 R.uV;let#[ad',o,ex,g,hz]:=T1 (key:=key) hd hat (z:=.non) (v:=.non) rfl;cases ex;exact#[o,by rw[Cj hkey^r2.tpOf R1.dom R1.vM];exact g,q _ H2 _ n2 (e1.trans e2) f2 hz p]
def Xe{k:Nat}(hr:Room k X.A)(ha:DE X a zU wa)(hb:DE X b zQ wb)(hf:DE X f κf wf)(hk:κf≠.tp:=by intro z;cases z)(m:M2 X a "get" apos b f cpos:=by exact#[rfl,rfl,rfl,rfl]):DE X (.Call (.Attribute a "get" apos) [b,f] [] cpos) .sh^Qm wa wb wf:=by
 let#[t,h1,h2]:=ha;let#[u,g1,g2]:=hb;let#[u2,k1,k2]:=hf;refine#[_,U2 (GD hr) h1 g1 k1 m,λC M H n ρ Z P Q R w q=>?_];refine h2 C M H n ρ Z _ _ R w λv H1 d n1 e1 f1 r1 p=>?_;let#[ks,ds,hd,p]:=p;have R1:=R.step e1 f1;let#[ad,rfl,hI]:=Vb hd^r1.tpOf R.dom R.vM;refine#[ad,rfl,hI,?_];refine g2 C M H1 n1 ρ Z _ _ R1 p λy H2 kk n2 e2 f2 r2 p=>?_;have R2:=R1.step e2 f2;refine k2 C M H2 n2 ρ Z _ _ R2 p λz H3 dz n3 e3 f3 r3 p=>?_;let#[key,hkey,p]:=p;have R3:=R2.step e3 f3;have hat:=((r1.tpOf R.dom R.vM).pres (R1.pres e2) e2 R.uV).pres (R2.pres e3) e3 R.uV;have hy:=(r2.tpOf R1.dom R1.vM).pres (R2.pres e3) e3 R.uV;let#[ad',o,ex,g,hz]:=T1 (key:=key) hd hat^r3.shOf R2.dom hk;cases ex;exact#[o,by rw[Cj hkey hy];exact g,q _ H3 _ n3 ((e1.trans e2).trans e3) f3 hz p]
end
end Dp
namespace L2
open AutoSeq1 (wpAny_loadPart')
def Sl:typeLookup (.type "list_reverseiterator") "__len__"=pure m_:=by kernel_rfl
def Vd:typeLookup (.type "list_reverseiterator") "__length_hint__"=pure^P3^.builtin "list_reverseiterator.__length_hint__":=by kernel_rfl
def boot_reversed:bootBuiltins "reversed"=P3^.type "reversed":=by decide +kernel
def cB(prog:eT)(w:eY)(St:Nat->Go->Prop)(I:Ch):Prop:=∀(A:e_) (E:Db->Go->Prop) (s':Go) (Q:Bool->Go->Prop),St 0 s'->(∀b tk,s'.toks<=tk->Q b {s' with toks:=tk})->wpAny (model prog w) A (jp^.ref I) Q E s'
section
variable {prog:Program}{w:World}{A:Around}{E:Value->Shared->Prop}{s:Shared}{I:Addr}{fp wr:p_ Addr}{G:Array GenState->Array GenState->Prop}{n:Nat}{P:Nat->Value->Prop}{St:Nat->Shared->Prop}{c:String}
def QQ{Q:p_ Db->Go->Prop}(nc:(fN c==fN "list")=o_/\(fN c==fN "tuple")=o_)(hH:cB prog w St I)
  (W:WalksS prog w A.in1 I fp wr G n P St) (hT:∀i s,St i s->s.TypeIs (.ref I) c) (hst:St 0 s) (hfp:∀b∈fp,b<s.heap.objs.size) (hI:I∈fp)
  (hQ:∀s' acc,Moved wr G s s'->ItemsOf P acc n->Q acc.toList s') (hn:n<=sizeLine):wpAny (model prog w) A (collect^.ref I) Q E s:=by
 have hSf:s.heap.objs.size∉fp:=λhm=>fb _^hfp _ hm;have hSI:s.heap.objs.size≠I:=λe=>hSf (e▸hI);unfold collect;refine Cn^wpAny_runValue^f8 F.entry_proto_collect ?_;rw[gS F.plain_proto_collect _];show wpAny _ A.in1 (newList [] >>=λl=>again^.builtin "list.__iadd__" #[[l,.ref I],[]]) _ _ s;refine Cn^fi ?_;refine On #[gM F.plain_list_iadd _,f8 F.entry_list_iadd ?_];rw[gS F.plain_list_iadd _];have hst₁:=W.frame 0 s (s.heap.push {cls:=.type "list",data:=.seq ([]:p_ Db).toArray}) s.toks hst (Op _) λb _ o e=>FM _ e;have hS₁:(s.heap.push {cls:=.type "list",data:=.seq ([]:p_ Db).toArray}).get? s.heap.objs.size=P3 {cls:=.type "list",data:=.seq ([]:p_ Db).toArray}:=TM _ rfl;have h1:kL (.ref s.heap.objs.size)^.ref I=o_:=by simp[kL,hSI]
 show wpAny _ A.in1 (gp (.ref s.heap.objs.size) (.ref I)^.ref s.heap.objs.size) _ _ _;unfold gp;refine Cn^ie (hT 0 _ hst₁) ?_;rw[if_neg^by rw[h1,nc.1,nc.2];decide];refine Cn^W.self 0 _ _ _ hst₁ ?_;refine Cn^fc ?_;refine hH _ _ _ _ hst₁ λb tk htk=>?_
 have fin:∀(h:eK) (c₁ tk':Nat),s.toks<=tk'->St 0 {s with heap:=h,toks:=tk'}->h.get? s.heap.objs.size=P3 {cls:=.type "list",data:=.seq #[] c₁}->(∀b o,b≠s.heap.objs.size->s.heap.get? b=P3 o->h.get? b=P3 o)->
   ∀R:Result->Go->Prop,(∀s' acc c,s'.heap.get? s.heap.objs.size=P3 {cls:=.type "list",dict:=m_,data:=.seq acc c,slots:=#[]}->Moved wr G s s'->ItemsOf P acc n->R (.ok^.ret^.ref s.heap.objs.size) s')->
   codeAny (model prog w) A (.builtin "list.extend.loop" #[[.ref s.heap.objs.size,.ref I,.ref s.heap.objs.size],[]]) R {s with heap:=h,toks:=tk'}:=by
  intro h c₁ tk' ht st0 hS hk R hR;refine codeAny_extend_loopS W hn _ hSf _ n 0 _ _ _ rfl (eP _) st0 hS (ItemsOf.nil P) λs' acc' c' hm hS' hacc=>hR s' acc' c' hS' #[λb o hb e=>hm.heap b o (λhmem=>?_)^hk b o (eI^Tk e) e,hm.gens,hm.drawn,hm.os,eR ht hm.toks] hacc
  rcases XV.mp hmem with e'|hmem
  .exact absurd (Tk e)^by rw[e'];exact fb _
  .exact hb hmem
 have last:∀s' acc c,s'.heap.get? s.heap.objs.size=P3 {cls:=.type "list",dict:=m_,data:=.seq acc c,slots:=#[]}->Moved wr G s s'->ItemsOf P acc n->wpAny (model prog w) A (load s.heap.objs.size >>=λo=>match o.data with
   |.seq xs _=>pure xs.toList
   |_=>unsupported "internal:collect") Q E s':=λs' acc c h1 h2 h3=>Cn^wpAny_load h1^On^hQ s' acc h2 h3
 have st2:=W.frame 0 _ (s.heap.push {cls:=.type "list",data:=.seq ([]:p_ Db).toArray}) tk hst₁ htk λb _ o e=>e;refine wpAny_ite_split (λ_=>?_) λ_=>On #[gM F.plain_extend_loop _,fin _ 0 tk htk st2 hS₁ (λb o _ e=>FM _ e) _ last];refine Cn^iq ?_;refine Cn ?_;show wpAny _ _ (updateSeq s.heap.objs.size (·.push .none) >>=λ_=>updateSeq s.heap.objs.size (·.pop)) _ _ _;refine Cn (iA hS₁ rfl ?_);have hS₂:=fm (fH (·.push ej)) hS₁ rfl;refine iA (hz:=by seq_fits) hS₂ rfl ?_;have hS₃:=fm (fH (·.pop)) hS₂ rfl;refine On #[gM F.plain_extend_loop _,fin _ _ tk htk ?_ hS₃ (λb o hb e=>?_) _ last]
 .refine W.frame 0 {s with heap:=s.heap.push {cls:=.type "list",data:=.seq ([]:p_ Db).toArray},toks:=tk} _ tk st2 (Op _) λb hb o e=>?_
  have hbS:b≠s.heap.objs.size:=λh=>hSf (h▸hb);exact(eG _ _^fB hbS).trans^(eG _ _^fB hbS).trans e
 .exact(eG _ _^fB hb).trans^(eG _ _^fB hb).trans^FM _ e
def Kk{Q₁:Db->Go->Prop}(nc:(fN c==fN "list")=o_/\(fN c==fN "tuple")=o_)(hH:cB prog w St I)(W:WalksS prog w A.in1.in1 I fp wr G n P St)(hT:∀i s,St i s->s.TypeIs (.ref I) c)(hst:St 0 s)(hfp:∀b∈fp,b<s.heap.objs.size)(hI:I∈fp)
  (h:∀s' acc,Moved wr G s s'->ItemsOf P acc n->Q₁ (.ref s'.heap.objs.size) {s' with heap:=s'.heap.push {cls:=.type "tuple",data:=.seq acc}}) (hsz:n<=sizeLine):
  codeAny (model prog w) A (.call (.builtin "tuple.__new__") #[[.type "tuple",.ref I],[]]) (wants Q₁ E) s:=by
 refine codeAny_of_tree ?_;show wpAny _ A.in1 (do checkBuiltinCall "tuple.__new__" #[[.type "tuple",.ref I],[]];again^.builtin "tuple.__new__" #[[.type "tuple",.ref I],[]]) _ _ s;refine Cn^kZ (F.newCall_tuple_1 _)^On #[gM F.plain_tuple_new _,f8 F.entry_tuple_new ?_];rw[gS F.plain_tuple_new _];have hsub:=sub_tuple_self;have hinit:=init_tuple_lookup;have hmh:=madeHere_tuple;have hTI:=hT 0 s hst;have nc2:=nc.2
 wp_walk using ie hTI,QQ (hn:=hsz) nc hH W hT hst hfp hI
 intro s' acc hm hacc;show wpAny _ _ (ig acc.toList.toArray >>=λv=>ret v) _ _ _;unfold ig;refine Cn (fi ?_^by show acc.toList.toArray.size<=sizeLine;simp only[Array.toArray_toList];rw[hacc.1];exact hsz);refine On ?_;have e:acc.toList.toArray=acc:=by simp
 rw[e];exact h s' acc hm hacc
def Kl{Q:Db->Go->Prop}(nc:(fN c==fN "list")=o_/\(fN c==fN "tuple")=o_)(hH:cB prog w St I)(W:WalksS prog w A.in1.in1.in1 I fp wr G n P St)(hT:∀i s,St i s->s.TypeIs (.ref I) c)(hst:St 0 s)(hfp:∀b∈fp,b<s.heap.objs.size)(hI:I∈fp)
  (hQ:∀s' acc,Moved wr G s s'->ItemsOf P acc n->Q (.ref s'.heap.objs.size) {s' with heap:=s'.heap.push {cls:=.type "tuple",data:=.seq acc}}) (hsz:n<=sizeLine):
  wpAny (model prog w) A (call (.type "tuple") [.ref I]) Q E s:=by
 refine callType_codes (Q₁:=λobj s₁=>s₁.TypeIs obj "tuple"/\Q obj s₁) km (F.typeCall_tuple_1 _) F.entry_object_init
  (Kk (hsz:=hsz) nc hH W hT hst hfp hI λs' acc hm hacc=>#[#[_,TM _ rfl,rfl],hQ s' acc hm hacc]) λobj s₁ h₁=>?_
 exact#[h₁.1,F.args_object_init_2 obj _,object_init_meets km.init.lookup km.made (by cbv) prog w A.in1 _ s₁ #[h₁.1,rfl,h₁.2]]
def VJ(hT:∀i s,St i s->s.TypeIs (.ref I) "list_reverseiterator"):cB prog w St I:=by
 intro A E s Q hst h;have h0:=hT 0 _ hst;unfold jp;refine Cn^kP h0 Sl ?_;show wpAny _ A (specialOf (eJ I)^fX "__length_hint__" >>=_) _ _ _;refine Cn (kP h0 Vd ?_)
 (generalize hid:("list_reverseiterator.__length_hint__":String)=id0;wp_delta;rw[show splitId id0=P3 ("list_reverseiterator","__length_hint__")from by subst hid;decide +kernel];subst hid)
 refine Cn^jG (b:=n_) h0 (by rw[isSubtype_type];kernel_rfl) ?_;exact On^h _ _^Op _
end
section
variable {X:Cx}{e:Expr}{te:TE}{p1 p2 q1 q2:Pos}
def bx(X:Cx)(R:Ch->p_ V->Hp->Prop):Prop:=∀{zG:p_ (Ch×Obj)}{Z:St}{H1:Hp}{s1:Go}{l:Ch}{xs:p_ V},Inv X zG Z H1 s1->R l xs H1->∃its:p_ Db,Vals xs its/\xs.length<=sizeLine/\l<s1.heap.objs.size /\
 ∀{A:e_}{E:Db->Go->Prop}{Q:Db->Go->Prop},(∀(o:Obj) (tk0:Nat) (c:String) (St0:Nat->Go->Prop),o.isFreed=o_->(fN c==fN "list")=o_/\(fN c==fN "tuple")=o_->WalksS X.prog X.w X.A.in1.in1.in1 s1.heap.objs.size [s1.heap.objs.size,l] [s1.heap.objs.size] (λa b=>b=a) its.toArray.size (λi v=>its.toArray[its.toArray.size - 1 - i]?=P3 v) St0->
  (∀i s,St0 i s->s.TypeIs (.ref s1.heap.objs.size) c)->cB X.prog X.w St0 s1.heap.objs.size->St0 0 {s1 with heap:=s1.heap.push o,toks:=tk0}->Q (.ref s1.heap.objs.size) {s1 with heap:=s1.heap.push o,toks:=tk0})->wpAny (model X.prog X.w) A (call (.type "reversed") [.ref l]) Q E s1
def X1(R:Ch->p_ V->Hp->Prop)(te:TE):TE:=λZ H Q=>te Z H λx H1=>∃l xs,x=.ref l/\R l xs H1/\∀r,H1 r=m_->Q (.ref r)^Aq H1 r^.tup xs.reverse
def Wm{R:Ch->p_ V->Hp->Prop}(ok:bx X R)(he:PE X e te)(hg1:Gl X "tuple")(hm1:X.mg "tuple"=m_)(hg2:Gl X "reversed")(hm2:X.mg "reversed"=m_)(h1:starEach [jq (.Name "reversed" p2) [e] [] q2] X.env=[(o_,eval (jq (.Name "reversed" p2) [e] [] q2) X.env)])
  (h2:starEach [e] X.env=[(o_,eval e X.env)]):PE X (.Call (.Name "tuple" p1) [.Call (.Name "reversed" p2) [e] [] q2] [] q1)^X1 R te:=by
 intro zG s Z H Q I h;refine f_^EA I hg1 hm1 iB ?_;refine gG ?_ h1 rfl;rw[h1];refine gl ?_;refine f_^EA I hg2 hm2 boot_reversed ?_;refine gG ?_ h2 rfl;rw[h2];refine gl^BD (he zG s Z H _ I h) λu s1 #[x,H1,I1,r1,l,xs,ex,hq,q]=>iE ?_;subst ex;cases r1;let#[its,r',hz,hlt,go]:=ok I1 hq;have hlen:=r'.length;refine go λo tk0 c St0 fr nc W hT hH h0=>iE ?_;have hn1:H1 s1.heap.objs.size=m_:=I1.fresh;have I2:Inv X zG Z H1 {s1 with heap:=s1.heap.push o,toks:=tk0}:=I1.kept (t':=tk0) λb o e=>FM _ e;have fpk:GX X zG H1 s1.heap.objs.size:=I1.fpOk (Op _) hn1;refine Kl nc hH W hT h0 (λb hb=>?_) Re (λs' acc hm hacc=>?_)^by rw[eF,←hlen];exact hz
 .rcases XV.mp hb with rfl|hb
  .exact Tk^TM _ fr
  .obtain rfl:=Rs.mp hb
   exact eg hlt^by show s1.heap.objs.size<=(s1.heap.push _).objs.size;rw[size_push'];exact fR _
 .let#[h',g',d',tk',os']:=s'
  have e1:g'=s1.gens:=hm.gens;have e2:d'=s1.drawn:=hm.drawn;have e3:os'=s1.os:=hm.os;subst e1 e2 e3;have I3':=I2.turnedL (h':=h') (t':=tk') (ch:=[s1.heap.objs.size]) (λc hc=>by rw[Rs.mp hc];exact fpk) λb o hb e=>hm.heap b o hb e;have I3:Inv X zG Z H1 {s1 with heap:=h',toks:=tk'}:=I3'
  have hv:acc.toList=its.reverse:=by
   refine j7 λi=>?_;let#[a1,a2]:=hacc;have e0:acc.toList[i]?=acc[i]?:=by simp
   rw[e0]
   by_cases hi:i<its.length
   .have hi2:i<acc.size:=by rw[a1,eF];exact hi
    have a3:=a2 i acc[i] (g9 hi2);rw[List.getElem?_reverse hi,g9 hi2,←a3,eF];simp
   .rw[iM^by rw[jd];lk]
    exact kd^by rw[a1,eF];lk
  have hv2:acc=its.reverse.toArray:=by rw[←hv]
  have rr:Vals xs.reverse its.reverse:=r'.reverse;refine#[.ref h'.objs.size,Aq H1 h'.objs.size^.tup xs.reverse,I3.laid (t':=tk') (λb o e=>FM _ e) (Op _) (show ObjOk X.prog X.w _ _ _^.tup xs.reverse from#[by rw[jd];exact hz,its.reverse,rr,by rw[hv2];exact IsTupN.new _ _]),rfl,q _^I3.hok.fresh^Op _]
def WT(K:Frag)(te:TE):TE:=X1 (λl xs H=>SqL K H l xs) te
def Sa(hc:X.calm=n_)(he:PE X e te)(hg1:Gl X "tuple")(hm1:X.mg "tuple"=m_)(hg2:Gl X "reversed")(hm2:X.mg "reversed"=m_)(h1:starEach [jq (.Name "reversed" p2) [e] [] q2] X.env=[(o_,eval (jq (.Name "reversed" p2) [e] [] q2) X.env)]:=by rfl)
  (h2:starEach [e] X.env=[(o_,eval e X.env)]:=by rfl):PE X (.Call (.Name "tuple" p1) [.Call (.Name "reversed" p2) [e] [] q2] [] q1)^WT X.K te:=by
 refine Wm (λ{zG Z H1 s1 l xs} I1 hq=>?_) he hg1 hm1 hg2 hm2 h1 h2;let#[its,r',pl,hz]:=I1.list hq;have hl:s1.heap.IsList l its.toArray:=pl.isList;have hlt:l<s1.heap.objs.size:=by let#[_,e,_]:=id hl;exact Tk e
 refine#[its,r',hz,hlt,λ{A E Q} k=>call_reversed_list hl (k (revObj l ((its.toArray.size:Int) - 1)) s1.toks "list_reverseiterator" _ rfl (by cbv) (Walks.listRev (A:=X.A.in1.in1.in1) (I1.ok.hd hc) s1.heap.objs.size l (eI hlt) its.toArray).toS (λi s' hs=>hs.2.1.typeIs) (VJ λi s' hs=>hs.2.1.typeIs) #[eP _,#[_,TM _ rfl,rfl,by show Data.fields _=_;simp[revObj]],hl.push _])]
end
end L2
namespace Dp
open L2
def Qk(wa:DW):DW:=λn ρ P=>wa n ρ λd n1=>∃xs,d=.lst xs/\P (.tup xs.reverse) n1
section
variable {X:Cx}{a:Expr}{zU:Kd}{wa:DW}{p1 p2 q1 q2:Pos}
def TJ(hc:X.calm=n_)(ha:DE X a zU wa)(hg1:Gl X "tuple")(hm1:X.mg "tuple"=m_)(hg2:Gl X "reversed")(hm2:X.mg "reversed"=m_)(h1:starEach [jq (.Name "reversed" p2) [a] [] q2] X.env=[(o_,eval (jq (.Name "reversed" p2) [a] [] q2) X.env)]:=by rfl)
  (h2:starEach [a] X.env=[(o_,eval a X.env)]:=by rfl):DE X (.Call (.Name "tuple" p1) [.Call (.Name "reversed" p2) [a] [] q2] [] q1) .sh^Qk wa:=by
 let#[t,a1,a2]:=ha;refine#[_,Sa hc a1 hg1 hm1 hg2 hm2 h1 h2,λC M H n ρ Z P Q R w q=>?_];refine a2 C M H n ρ Z _ _ R w λv H1 d n1 e1 f1 r1 p=>?_;let#[xs,rfl,p]:=p;have R1:=R.step e1 f1;let#[ad,vs,rfl,nV,hq,hs]:=r1.tpOf R.dom R.vM;refine#[ad,vs,rfl,.inl hq,λr hr=>?_];have g:Grow H1^Aq H1 r^.tup vs.reverse:=Am hr;exact q _ _ (.tup _) n1 (e1.trans g.ext) (f1.grow g) (DF R1.dom hr^hs.reverse) p
end
end Dp
namespace Nt
open L2 Dp
def Ed(N:Net)(x y:Str)(l:Int):Prop:=(y,l)∈C_ N.ts x
inductive Wk (N:Net) (s:Str):Str->Int->Prop
 |nil:Wk N s s 0
 |snoc {x y:Str}{d l:Int}:Wk N s x d->Ed N x y l->Wk N s y (d+l)
def Least(N:Net)(s x:Str)(d:Int):Prop:=Wk N s x d/\∀d',Wk N s x d'->d<=d'
def Ed.pos{N:Net}(ok:N.Ok){x y:Str}{l:Int}(h:Ed N x y l):1<=l/\l<=1000000:=by
 let#[_,h1,h2,_]:=Mh ok h
 simp_all
def Ed.ins{N:Net}(ok:N.Ok){x y:Str}{l:Int}(h:Ed N x y l):y∈N.ps:=(Mh ok h).1
def Wk.pos{N:Net}(ok:N.Ok){s x:Str}{d:Int}(h:Wk N s x d):0<=d:=by
 induction h with
 |nil=>lk
 |snoc _ he ih=>have:=he.pos ok;lk
def Least.unique{N:Net}{s x:Str}{d d':Int}(h:Least N s x d)(h':Least N s x d'):d=d':=by
 have:=h.2 d' h'.1
 have:=h'.2 d h.1
 omega
def GJ{N:Net}{s:Str}{F:Str->q_ Int}(h0:∃d,F s=P3 d/\d<=0)(hw:∀x d,F x=P3 d->Wk N s x d)(hc:∀x d y l,F x=P3 d->Ed N x y l->∃d',F y=P3 d'/\d'<=d+l):
  (∀x d,F x=P3 d->Least N s x d)/\∀x d,Wk N s x d->F x≠m_:=by
 have main:∀x d,Wk N s x d->∃d',F x=P3 d'/\d'<=d:=by
  intro x d h
  induction h with
  |nil=>exact h0
  |snoc _ he ih=>
   grind
 refine#[λx d e=>#[hw x d e,λd' h=>?_],λx d h e=>?_]
 .let#[d1,e1,h1]:=main x d' h
  simp_all
 .let#[d1,e1,_]:=main x d h
  grind
def XW{N:Net}{t:A5}(ht:t∈N.ts):Ed N t.a t.b t.len/\Ed N t.b t.a t.len:=by
 constructor
 .exact gN.mpr #[t,ht,fK _^by simp_all]
 .exact gN.mpr #[t,ht,eN _^by simp_all]
def Ed.tie{N:Net}(ok:N.Ok){x y:Str}{l:Int}(h:Ed N x y l):∃t∈N.ts,t.len=l/\((t.a=x/\t.b=y)\/(t.b=x/\t.a=y)):=by
 let#[_,_,_,t,ht,e,h]:=Mh ok h;exact#[t,ht,e,h]
structure Dmap (ks:List Key) (ds:List D) (enc:α->D) (F:Str->Option α):Prop where
 len:ks.length=ds.length
 at_:∀x:Str,BS ks ds^.inr x=(F x).map enc
 dom:∀k∈ks,∃x:Str,k=.inr x
 nd:ks.Nodup
def Dmap.mem{α:Type}{ks:p_ Key}{ds:p_ D}{enc:α->D}{F:Str->q_ α}(h:Dmap ks ds enc F)(x:Str):(.inr x∈ks)↔F x≠m_:=by
 constructor
 .intro hm e
  let#[z,hz]:=K3 h.len hm;rw[h.at_,e]at hz;cases hz
 .intro hn
  by_cases hm:gJ x∈ks
  .exact hm
  .have:=K4 (ds:=ds) hm
   rw[h.at_]at this
   simp_all
def Dmap.one{α:Type}{enc:α->D}{s:Str}{a:α}:Dmap [.inr s] [enc a] enc (λx=>if x=s then P3 a else m_):=by
 refine#[rfl,λx=>?_,λk hk=>#[s,Rs.mp hk],eQ.mpr #[ei,fF]];show(if gJ s=.inr x then P3 _ else m_)=(if x=s then P3 a else m_).map _
 by_cases e:x=s
 .simp_all
 .rw[if_neg e,if_neg λz=>e (hG z).symm];rfl
def Gi{α:Type}(F:Str->q_ α)(x:Str)(a:α):Str->q_ α:=λy=>if y=x then P3 a else F y
def BX{α:Type}{F:Str->q_ α}{x:Str}{a:α}:Gi F x a x=P3 a:=if_pos rfl
def BV{α:Type}{F:Str->q_ α}{x y:Str}{a:α}(h:y≠x):Gi F x a y=F y:=if_neg h
def Dmap.put{α:Type}{ks:p_ Key}{ds:p_ D}{enc:α->D}{F:Str->q_ α}(h:Dmap ks ds enc F)(x:Str)(a:α):Dmap (CS ks^.inr x) (Ce ks ds (.inr x)^enc a) enc^Gi F x a:=by
 refine#[Q3 h.len,λy=>?_,λk hk=>?_,?_]
 .rw[T3 h.len]
  unfold Gi
  by_cases e:y=x
  .rw[if_pos e,if_pos^by rw[e]];rfl
  .rw[if_neg e,if_neg λz=>e^hG z,h.at_]
 .unfold CS at hk
  split at hk
  .exact h.dom k hk
  .rcases eM.mp hk with hk|hk
   .exact h.dom k hk
   simp_all
 .unfold CS
  split
  .exact h.nd
  .rename_i hn
   rw[fj];refine#[h.nd,eQ.mpr #[ei,fF],λa ha b hb e=>hn^hasK_iff.mpr ?_]
   grind
def Dmap.le{α:Type}{ks:p_ Key}{ds:p_ D}{enc:α->D}{F:Str->q_ α}(h:Dmap ks ds enc F){ps:p_ Str}(hp:∀x,F x≠m_->x∈ps):ks.length<=ps.length:=by
 have:∀(ks:p_ Key) (ps:p_ Str),ks.Nodup->(∀k∈ks,∃x:Str,k=.inr x/\x∈ps)->ks.length<=ps.length:=by
  intro ks
  induction ks with
  |nil=>simp_all
  | cons k ks ih=>
   intro ps hn hm;let#[x,rfl,hx]:=hm k Re;have hn:=eQ.mp hn
   have h1:=ih (ps.erase x) hn.2 λj hj=>by
    let#[y,rfl,hy]:=hm j^TW _ hj
    grind
   grind
 refine this ks ps h.nd λk hk=>?_;let#[x,rfl]:=h.dom k hk;exact#[x,rfl,hp x^(h.mem x).mp hk]
abbrev PB:=Str->q_ (Int×q_ Str)
structure Dj (N:Net) (s:Str) (F:PB) (Wt:List Str):Prop where
 start:F s=P3 (0,m_)
 ins:∀x,F x≠m_->x∈N.ps
 wk:∀x d p,F x=P3 (d,p)->Wk N s x d
 prev:∀x d p,F x=P3 (d,p)->(p=m_/\x=s)\/∃y dy q l,p=P3 y/\F y=P3 (dy,q)/\y∉Wt/\Ed N y x l/\d=dy+l
 wfound:∀x∈Wt,F x≠m_
 nd:Wt.Nodup
 done:∀x d p y l,F x=P3 (d,p)->x∉Wt->Ed N x y l->∃dy q,F y=P3 (dy,q)/\dy<=d+l
 near:∀x d p y dy q,F x=P3 (d,p)->x∉Wt->F y=P3 (dy,q)->y∈Wt->d<=dy
def Dj.init{N:Net}{s:Str}(hs:s∈N.ps):Dj N s (λx=>if x=s then P3 (0,m_)else m_) [s]:=by
 have iff:∀x d p,(if x=s then P3 ((0:Int),(m_:q_ Str))else m_)=P3 (d,p)->x=s/\d=0/\p=m_:=λx d p e=>by
  grind
 refine#[if_pos rfl,λx e=>?_,λx d p e=>?_,λx d p e=>?_,λx hx=>?_,eQ.mpr #[ei,fF],λx d p y l e hx=>?_,λx d p y dy q e hx=>?_]
 .grind
 .let#[rfl,rfl,rfl]:=iff x d p e
  exact .nil
 .let#[rfl,rfl,rfl]:=iff x d p e
  exact .inl #[rfl,rfl]
 .simp_all
 .exact absurd (Rs.mpr (iff x d p e).1) hx
 .exact absurd (Rs.mpr (iff x d p e).1) hx
structure Dm (N:Net) (s:Str) (F:PB) (Wt:List Str) (v:Str) (dv:Int) (seen:List (Str×Int)):Prop where
 start:F s=P3 (0,m_)
 ins:∀x,F x≠m_->x∈N.ps
 wk:∀x d p,F x=P3 (d,p)->Wk N s x d
 prev:∀x d p,F x=P3 (d,p)->(p=m_/\x=s)\/∃y dy q l,p=P3 y/\F y=P3 (dy,q)/\y∉Wt/\Ed N y x l/\d=dy+l
 wfound:∀x∈Wt,F x≠m_
 nd:Wt.Nodup
 done:∀x d p y l,F x=P3 (d,p)->x∉Wt->x≠v->Ed N x y l->∃dy q,F y=P3 (dy,q)/\dy<=d+l
 near:∀x d p y dy q,F x=P3 (d,p)->x∉Wt->F y=P3 (dy,q)->y∈Wt->d<=dy
 here:∃p,F v=P3 (dv,p)
 out:v∉Wt
 least:∀x d p,F x=P3 (d,p)->x∉Wt->d<=dv
 gone:∀y l,(y,l)∈seen->∃dy q,F y=P3 (dy,q)/\dy<=dv+l
def Dj.take{N:Net}{s:Str}{F:PB}{Wt:p_ Str}(h:Dj N s F Wt){v:Str}{dv:Int}{p:q_ Str}(hv:v∈Wt)(e:F v=P3 (dv,p))(hmin:∀y∈Wt,∀dy q,F y=P3 (dy,q)->dv<=dy):Dm N s F (Wt.erase v) v dv []:=by
 have sub:∀x,x∈Wt.erase v->x∈Wt:=λx hx=>List.mem_of_mem_erase hx;have out:v∉Wt.erase v:=λz=>(h.nd.mem_erase_iff.mp z).1 rfl
 have back:∀x,x∉Wt.erase v->x=v\/x∉Wt:=λx hx=>by
  grind
 refine#[h.start,h.ins,h.wk,λx d q ex=>?_,λx hx=>h.wfound x^sub x hx,h.nd.erase v,λx d q y l ex hx nx he=>?_,λx d q y dy q2 ex hx ey hy=>?_,#[p,e],out,λx d q ex hx=>?_,λy l hy=>by cases hy]
 .rcases h.prev x d q ex with z|⟨y,dy,q2,l,e1,e2,e3,e4,e5⟩
  .exact .inl z
  .exact .inr #[y,dy,q2,l,e1,e2,λz=>e3^sub y z,e4,e5]
 .rcases back x hx with z|z
  .exact absurd z nx
  .exact h.done x d q y l ex z he
 .rcases back x hx with z|z
  .subst z
   rw[e]at ex;cases ex;exact hmin y (sub y hy) dy q2 ey
  .exact h.near x d q y dy q2 ex z ey^sub y hy
 .rcases back x hx with z|z
  .grind
  .exact h.near x d q v dv p ex z e hv
def Dm.finish{N:Net}{s:Str}{F:PB}{Wt:p_ Str}{v:Str}{dv:Int}{seen:p_ (Str×Int)}(h:Dm N s F Wt v dv seen)(hs:∀y l,Ed N v y l->(y,l)∈seen):Dj N s F Wt:=by
 refine#[h.start,h.ins,h.wk,h.prev,h.wfound,h.nd,λx d p y l e hx he=>?_,h.near]
 by_cases z:x=v
 .subst z
  let#[p',e']:=h.here;rw[e']at e;cases e;exact h.gone y l^hs y l he
 .exact h.done x d p y l e hx z he
def Dm.find{N:Net}(ok:N.Ok){s:Str}{F:PB}{Wt:p_ Str}{v:Str}{dv:Int}{seen:p_ (Str×Int)}(h:Dm N s F Wt v dv seen){y:Str}{l:Int}(he:Ed N v y l)(hy:F y=m_):Dm N s (Gi F y (dv+l,P3 v)) (Wt++[y]) v dv (seen++[(y,l)]):=by
 have hpos:=(he.pos ok).1;let#[pv,ev]:=h.here;have ne:∀x d p,F x=P3 (d,p)->x≠y:=λx d p e z=>by rw[z,hy]at e;cases e
 have keep:∀x d p,F x=P3 (d,p)->Gi F y (dv+l,P3 v) x=P3 (d,p):=λx d p e=>by rw[BV^ne x d p e];exact e
 have yW:y∉Wt:=λz=>h.wfound y z hy
 have cases_:∀x d p,Gi F y (dv+l,P3 v) x=P3 (d,p)->(x=y/\d=dv+l/\p=P3 v)\/(x≠y/\F x=P3 (d,p)):=λx d p e=>by
  by_cases z:x=y
  .rw[z,BX]at e;cases e;exact .inl #[z,rfl,rfl]
  .rw[BV z]at e;exact .inr #[z,e]
 have inW:∀x,x∉Wt++[y]->x∉Wt/\x≠y:=λx hx=>#[λz=>hx^fK _ z,λz=>hx^eN _^by rw[z];exact Rs.mpr rfl]
 have vW:v∉Wt++[y]:=λz=>by
  rcases eM.mp z with z|z
  .exact h.out z
  .exact ne v dv pv ev^Rs.mp z
 refine#[keep _ _ _ h.start,λx hx=>?_,λx d p e=>?_,λx d p e=>?_,λx hx=>?_,?_,λx d p z l2 e hx nx he2=>?_,λx d p z dz q e hx ez hz=>?_,#[pv,keep _ _ _ ev],vW,λx d p e hx=>?_,λz l2 hz=>?_]
 .by_cases z:x=y
  .rw[z];exact he.ins ok
  .rw[BV z]at hx;exact h.ins x hx
 .rcases cases_ x d p e with⟨rfl,rfl,_⟩|⟨_,e⟩
  .exact .snoc (h.wk v dv pv ev) he
  .exact h.wk x d p e
 .rcases cases_ x d p e with⟨rfl,rfl,rfl⟩|⟨_,e⟩
  .exact .inr #[v,dv,pv,l,rfl,keep _ _ _ ev,vW,he,rfl]
  .rcases h.prev x d p e with z|⟨u,du,q,l2,e1,e2,e3,e4,e5⟩
   .exact .inl z
   .refine .inr #[u,du,q,l2,e1,keep _ _ _ e2,λz=>?_,e4,e5]
    rcases eM.mp z with z|z
    .exact e3 z
    .exact ne u du q e2^Rs.mp z
 .rcases eM.mp hx with hx|hx
  .have:=h.wfound x hx
   cases e:F x with
   |none=>exact absurd e this
   |some a=>rw[keep x a.1 a.2 e];intro z;cases z
  .rw[Rs.mp hx,BX];intro z;cases z
 .rw[fj]
  exact#[h.nd,eQ.mpr #[ei,fF],λa ha b hb e=>yW^by rw[←Rs.mp hb,←e];exact ha]
 .let#[w1,w2]:=inW x hx
  rcases cases_ x d p e with⟨z,_⟩|⟨_,e⟩
  .exact absurd z w2
  .let#[d3,q3,e3,h3]:=h.done x d p z l2 e w1 nx he2
   exact#[d3,q3,keep _ _ _ e3,h3]
 .let#[w1,w2]:=inW x hx
  rcases cases_ x d p e with⟨z,_⟩|⟨_,ex⟩
  .exact absurd z w2
  .rcases cases_ z dz q ez with⟨_,e2,_⟩|⟨nz,ez⟩
   .have:=h.least x d p ex w1
    omega
   .rcases eM.mp hz with hz|hz
    .exact h.near x d p z dz q ex w1 ez hz
    .exact absurd (Rs.mp hz) nz
 .let#[w1,w2]:=inW x hx
  rcases cases_ x d p e with⟨z,_⟩|⟨_,e⟩
  .exact absurd z w2
  .exact h.least x d p e w1
 .rcases eM.mp hz with hz|hz
  .let#[d3,q3,e3,h3]:=h.gone z l2 hz
   exact#[d3,q3,keep _ _ _ e3,h3]
  .cases Rs.mp hz
   exact#[_,_,BX,jl _]
def Dm.nearer{N:Net}(ok:N.Ok){s:Str}{F:PB}{Wt:p_ Str}{v:Str}{dv:Int}{seen:p_ (Str×Int)}(h:Dm N s F Wt v dv seen){y:Str}{l dy:Int}{qy:q_ Str}(he:Ed N v y l)(hy:F y=P3 (dy,qy))(hlt:dv+l<dy):Dm N s (Gi F y (dv+l,P3 v)) Wt v dv (seen++[(y,l)]):=by
 have hpos:=(he.pos ok).1;let#[pv,ev]:=h.here
 have yW:y∈Wt:=by
  by_cases z:y∈Wt
  .exact z
  .have:=h.least y dy qy hy z
   omega
 have vy:v≠y:=λz=>h.out (by rw[z];exact yW);have keep:∀x,x∉Wt->Gi F y (dv+l,P3 v) x=F x:=λx hx=>BV λz=>hx^by rw[z];exact yW
 have cases_:∀x d p,Gi F y (dv+l,P3 v) x=P3 (d,p)->(x=y/\d=dv+l/\p=P3 v)\/(x≠y/\F x=P3 (d,p)):=λx d p e=>by
  by_cases z:x=y
  .rw[z,BX]at e;cases e;exact .inl #[z,rfl,rfl]
  .rw[BV z]at e;exact .inr #[z,e]
 have less:∀x d p,F x=P3 (d,p)->∃d' q,Gi F y (dv+l,P3 v) x=P3 (d',q)/\d'<=d:=λx d p e=>by
  by_cases z:x=y
  .subst z
   rw[hy]at e;cases e;exact#[_,_,BX,by lk]
  .exact#[d,p,by rw[BV z];exact e,jl _]
 have sy:s≠y:=λz=>by
  have:=h.start
  rw[z,hy]at this;cases this
  have:=(h.wk v dv pv ev).pos ok
  omega
 refine#[by rw[BV sy];exact h.start,λx hx=>?_,λx d p e=>?_,λx d p e=>?_,λx hx=>?_,h.nd,λx d p z l2 e hx nx he2=>?_,λx d p z dz q e hx ez hz=>?_,#[pv,by rw[BV vy];exact ev],h.out,λx d p e hx=>?_,λz l2 hz=>?_]
 .by_cases z:x=y
  .rw[z];exact he.ins ok
  .rw[BV z]at hx;exact h.ins x hx
 .rcases cases_ x d p e with⟨rfl,rfl,_⟩|⟨_,e⟩
  .exact .snoc (h.wk v dv pv ev) he
  .exact h.wk x d p e
 .rcases cases_ x d p e with⟨rfl,rfl,rfl⟩|⟨_,e⟩
  .exact .inr #[v,dv,pv,l,rfl,by rw[BV vy];exact ev,h.out,he,rfl]
  .rcases h.prev x d p e with z|⟨u,du,q,l2,e1,e2,e3,e4,e5⟩
   .exact .inl z
   .exact .inr #[u,du,q,l2,e1,by rw[keep u e3];exact e2,e3,e4,e5]
 .by_cases z:x=y
  .rw[z,BX];intro w;cases w
  .rw[BV z];exact h.wfound x hx
 .rw[keep x hx]at e
  let#[d3,q3,e3,h3]:=h.done x d p z l2 e hx nx he2;let#[d4,q4,e4,h4]:=less z d3 q3 e3;exact#[d4,q4,e4,by lk]
 .rw[keep x hx]at e
  rcases cases_ z dz q ez with⟨rfl,rfl,_⟩|⟨nz,ez⟩
  .have:=h.least x d p e hx
   omega
  .exact h.near x d p z dz q e hx ez hz
 .rw[keep x hx]at e
  exact h.least x d p e hx
 .rcases eM.mp hz with hz|hz
  .let#[d3,q3,e3,h3]:=h.gone z l2 hz
   let#[d4,q4,e4,h4]:=less z d3 q3 e3;exact#[d4,q4,e4,by lk]
  .cases Rs.mp hz
   exact#[_,_,BX,jl _]
def Dm.skip{N:Net}{s:Str}{F:PB}{Wt:p_ Str}{v:Str}{dv:Int}{seen:p_ (Str×Int)}(h:Dm N s F Wt v dv seen){y:Str}{l dy:Int}{qy:q_ Str}(hy:F y=P3 (dy,qy))(hle:dy<=dv+l):Dm N s F Wt v dv (seen++[(y,l)]):=by
 refine#[h.start,h.ins,h.wk,h.prev,h.wfound,h.nd,h.done,h.near,h.here,h.out,h.least,λz l2 hz=>?_]
 rcases eM.mp hz with hz|hz
 .exact h.gone z l2 hz
 simp_all
structure Told (N:Net) (s:Str) (F:PB):Prop where
 start:F s=P3 (0,m_)
 ins:∀x,F x≠m_->x∈N.ps
 least:∀x d p,F x=P3 (d,p)->Least N s x d
 all:∀x d,Wk N s x d->F x≠m_
 prev:∀x d p,F x=P3 (d,p)->(p=m_/\x=s)\/∃y dy q l,p=P3 y/\F y=P3 (dy,q)/\Ed N y x l/\d=dy+l
def Dj.told{N:Net}{s:Str}{F:PB}(h:Dj N s F []):Told N s F:=by
 have cl:=GJ (N:=N) (s:=s) (F:=λx=>(F x).map (·.1)) #[0,by rw[h.start];rfl,jl _] (λx d e=>by
  let#[#[d',p],e1,e2]:=eq.mp e;cases e2;exact h.wk x _ p e1) (λx d y l e he=>by
  let#[#[d',p],e1,e2]:=eq.mp e;cases e2;let#[dy,q,e3,h3]:=h.done x _ p y l e1 ei he;exact#[dy,by rw[e3];rfl,h3])
 refine#[h.start,h.ins,λx d p e=>cl.1 x d (by rw[e];rfl),λx d hw e=>cl.2 x d hw (by rw[e];rfl),λx d p e=>?_]
 rcases h.prev x d p e with z|⟨y,dy,q,l,e1,e2,_,e4,e5⟩
 .exact .inl z
 simp_all
abbrev Kn:=Str->q_ Int
structure Bf (N:Net) (s:Str) (c:Nat) (K:Kn):Prop where
 start:∃d,K s=P3 d/\d<=0
 ins:∀x,K x≠m_->x∈N.ps
 wk:∀x d,K x=P3 d->Wk N s x d
 top:∀x d,K x=P3 d->d<=1000000*(c:Int)
def big:Nat:=27000001
def wt(K:Kn)(x:Str):Nat:=match K x with
 |some d=>d.toNat
 |none=>big
def To(ps:p_ Str)(K:Kn):Nat:=(ps.map^wt K).sum
theorem UG{f g:Str->Nat}:∀{ps:p_ Str},(∀x∈ps,f x<=g x)->(ps.map f).sum<=(ps.map g).sum
 |[],_=>Op _
 |x::ps,h=>by
  have h2:=UG λy hy=>h y^TW _ hy
  grind
theorem UE{f g:Str->Nat}:∀{ps:p_ Str},(∀x∈ps,f x<=g x)->(∃x∈ps,f x<g x)->(ps.map f).sum<(ps.map g).sum
 |[],_,#[x,hx,_]=>by cases hx
 | x::ps,h,#[y,hy,hl]=>by
  have h1:=h x Re;rw[eW,eW,List.sum_cons,List.sum_cons]
  rcases XV.mp hy with rfl|hy
  .have h2:=UG λy hy=>h y^TW _ hy
   omega
  .have h2:=UE (λy hy=>h y^TW _ hy) #[y,hy,hl]
   omega
def Bf.put {N:Net} (ok:N.Ok) {s:Str}{c c':Nat}{K:Kn} (h:Bf N s c K) (hc:c' ≤ 26) (hcc:c ≤ c') {x y:Str}{d l:Int} (hx:K x=P3 d) (he:Ed N x y l) (hn:K y=m_ → c'=c + 1) (hl:∀ d',K y=P3 d' → d + l < d'):Bf N s c'^Gi K y (d + l) ∧ To N.ps^Gi K y (d + l) < To N.ps K:=by
  have hp:=he.pos ok;have hd:=(h.wk x d hx).pos ok;have hw:Wk N s y (d + l):=.snoc (h.wk x d hx) he;have td:=h.top x d hx
  have ht : d + l ≤ 1000000 * (c':Int):=by
    cases e:K y with
    | none => rw[hn e];have:((c + 1:Nat):Int)=(c:Int) + 1:=by lk
              rw[this,Int.mul_add];lk
    | some d'=>
      have h1:=hl d' e;have h2:=h.top y d' e;have:(1000000:Int) * (c:Int) ≤ 1000000 * (c':Int):=jb (by lk) (by lk);lk
  refine#[#[?_,λz hz=>?_,λz dz e=>?_,λz dz e=>?_],UE (λz _=>?_) #[y,he.ins ok,?_]]
  · let#[d0,e0,h0]:=h.start
    by_cases z:s=y
    · have:=hl d0^by rw[←z];exact e0
      omega
    .exact#[d0,by rw[BV z];exact e0,h0]
  · by_cases e:z=y
    .rw[e];exact he.ins ok
    .rw[BV e]at hz;exact h.ins z hz
  · by_cases w:z=y
    .rw[w,BX]at e;cases e;rw[w];exact hw
    .rw[BV w]at e;exact h.wk z dz e
  · by_cases w:z=y
    .rw[w,BX]at e;cases e;exact ht
    · rw[BV w]at e
      have h2:=h.top z dz e;have:(1000000:Int) * (c:Int) ≤ 1000000 * (c':Int):=jb (by lk) (by lk);lk
  · unfold wt
    by_cases w:z=y
    · rw[w,BX]
      cases e:K y with
      |none=>show(d + l).toNat ≤ big;unfold big;lk
      |some d'=>show(d + l).toNat ≤ d'.toNat;have:=hl d' e;lk
    · rw[BV w]
      exact Op _
  · unfold wt
    rw[BX];cases e:K y with
    |none=>show(d + l).toNat < big;unfold big;lk
    |some d'=>show(d + l).toNat < d'.toNat;have:=hl d' e;lk
def Bf.init{N:Net}{s:Str}(hs:s∈N.ps):Bf N s 1 (λx=>if x=s then P3 0 else m_):=by
 have iff:∀x d,(if x=s then P3 (0:Int)else m_)=P3 d->x=s/\d=0:=λx d e=>by
  grind
 refine#[#[0,if_pos rfl,jl _],λx e=>by grind,λx d e=>?_,λx d e=>?_]
 .let#[rfl,rfl]:=iff x d e
  exact .nil
 .let#[rfl,rfl]:=iff x d e
  decide
def Il(K:Kn)(e:Str×Str×Int):Prop:=∀d,K e.1=P3 d->∃d',K e.2.1=P3 d'/\d'<=d+e.2.2
structure LTold (N:Net) (s:Str) (K:Kn):Prop where
 ins:∀x,K x≠m_->x∈N.ps
 least:∀x d,K x=P3 d->Least N s x d
 all:∀x d,Wk N s x d->K x≠m_
 top:∀x d,K x=P3 d->d<=30000000
def Bf.told{N:Net}(ok:N.Ok){s:Str}{c:Nat}{K:Kn}(h:Bf N s c K)(hc:c<=26)(ht:∀t∈N.ts,Il K (t.a,t.b,t.len)/\Il K (t.b,t.a,t.len)):LTold N s K:=by
 have cl:=GJ h.start h.wk (λx d y l e he=>by
  let#[t,hm,e1,h2]:=he.tie ok;subst e1
  rcases h2 with⟨rfl,rfl⟩|⟨rfl,rfl⟩
  .exact(ht t hm).1 d e
  .exact(ht t hm).2 d e)
 exact#[h.ins,cl.1,cl.2,λx d e=>by have:=h.top x d e;lk]
def walk(N:Net):p_ Str->Int->Prop
 |[],_=>False
 |[_],d=>d=0
 |x::y::r,d=>∃l e,Ed N x y l/\walk N (y::r) e/\d=l+e
def Ry{N:Net}{x y:Str}{r:p_ Str}{d l:Int}(he:Ed N x y l)(h:walk N (y::r) d):walk N (x::y::r) (l+d):=#[l,d,he,h,rfl]
def Far(N:Net)(a b:Str):q_ Int->Prop
 |some d=>Least N a b d
 |none=>∀d,¬Wk N a b d
def Far.unique{N:Net}{a b:Str}{o o':q_ Int}(h:Far N a b o)(h':Far N a b o'):o=o':=by
 cases o with
 |none=>
  cases o' with
  |none=>rfl
  |some d=>exact absurd (h'.1)^h d
 |some d=>
  cases o' with
  |none=>exact absurd (h.1)^h' d
  |some d'=>rw[Least.unique (h) h']
def Told.far{N:Net}{s:Str}{F:PB}(h:Told N s F)(x:Str):Far N s x ((F x).map (·.1)):=by
 cases e:F x with
 |none=>exact λd hw=>h.all x d hw e
 |some a=>exact h.least x _ _ e
def LTold.far{N:Net}{s:Str}{K:Kn}(h:LTold N s K)(x:Str):Far N s x^K x:=by
 cases e:K x with
 |none=>exact λd hw=>h.all x d hw e
 |some d=>exact h.least x d e
def Way(N:Net)(a b:Str)(o:q_^p_ Str):Prop:=match o with
 |some w=>∃d r,w=a::r/\w.getLast?=P3 b/\walk N w d/\Least N a b d/\w.length<=30/\∀x∈w,x∈N.ps
 |none=>∀d,¬Wk N a b d
def bL:q_ Str->D
 |some y=>.str y
 |none=>.non
def C8:q_ Int->D
 |some y=>.int y
 |none=>.non
def bK:q_^p_ Str->D
 |some w=>.tup^w.map .str
 |none=>.non
def IC(p:Int×q_ Str):D:=.tup [.int p.1,bL p.2]
def okN(N:Net):Prop:=N.Ok/\N.ps.length<=25/\N.ts.length<=60
def WE:W2:=λss n P=>∃(Wt:p_ Str) (ks:p_ Key) (ds:p_ D) (F:PB),ss=[.br^.lst^Wt.map .str,.br^.dic ks ds]/\Dmap ks ds IC F/\(∀x∈Wt,F x≠m_)/\Wt≠[]/\Wt.length<=100 /\
 ∀v∈Wt,(∀y∈Wt,∀dv pv dy py,F v=P3 (dv,pv)->F y=P3 (dy,py)->dv<=dy)->P (.str v) n
def NU:W2:=λss n P=>∃(N:Net) (s:Str),ss=[.sh^enc N,.sh^.str s]/\okN N/\s∈N.ps/\∀(ks:p_ Key) (ds:p_ D) (F:PB),Dmap ks ds IC F->Told N s F->P (.dic ks ds) n
def Xr:W2:=λss n P=>∃(N:Net) (a b:Str),ss=[.sh^enc N,.sh^.str a,.sh^.str b]/\okN N/\a∈N.ps/\b∈N.ps/\∀o,Far N a b o->P (C8 o) n
def Z8:W2:=λss n P=>∃(N:Net) (a b:Str),ss=[.sh^enc N,.sh^.str a,.sh^.str b]/\okN N/\a∈N.ps/\b∈N.ps/\∀o,Way N a b o->P (bK o) n
def GL:Aa:=(Av^AU Au (B0 YS^AE (B6 [P3 1,m_] (BF^Ar 0) (Ax 1) Hl^BA^AE (AU Au (AU A4 (Ar 0)^AA 1)^wC^D.int 0)^AE (AA 1) AS) AS)^wC^D.int 1)
def GO:Aa:=(AZ (A2 2^AY NR^AD (AL^AA 0) AR)
 (AZ (Fj 3^PN (AA 1)^BA^AE (wC^D.int 0)^AE (wC D.non) AS)
 (AZ (Fj 4^Cr^AE (AA 1) AS)
 (AZ (Ie (Tu^Ar 4) (AZ (A2 5^AY WE^AD (Bg^Ar 4)^AD (Bg^Ar 3) AR)
 (AZ (Rz 4 "list" Zj^AE (AA 5) AS)
 (Ho (wItems^AU A4 (AA 2)^AA 5) (Ko 2^BO (Ax 6)^BO (Ax 7) FA) (AZ (A2 8^AU BU (AU Au (AU A4 (Ar 3)^AA 5)^wC^D.int 0)^AA 7)
 (BG (Ab^AU (IB n_) (AA 6)^Ar 3) (AZ (Rz 4 "list" FX^AE (AA 6) AS)
 (Fk 3 (AA 6)^BA^AE (AA 8)^AE (AA 5) AS))^BG (Ab^AU H_ (AA 8)^AU Au (AU A4 (Ar 3)^AA 6)^wC^D.int 0) (Fk 3 (AA 6)^BA^AE (AA 8)^AE (AA 5) AS) Aw))))))
 (NZ 3)))))
def Ya:Aa:=(AZ (A2 3^AY NU^AD (AL^AA 0)^AD (AL^AA 1) AR)
 (Av^aP (Ab^AU (IB o_) (AA 2)^AA 3) (AU Au (AU A4 (AA 3)^AA 2)^wC^D.int 0)^wC D.non))
def Oo:Aa:=(AZ (A2 3^AY NU^AD (AL^AA 0)^AD (AL^AA 1) AR)
 (AZ (BG (Ab^AU (IB n_) (AA 2)^AA 3) (Av^wC D.non) Aw)
 (AZ (Fj 4^Cr AS)
 (AZ (A2 5^AA 2)
 (AZ (Ie (Ab^AU (Jk n_) (AA 5)^wC D.non) (AZ (Rz 4 "list" FX^AE (AA 5) AS)
 (A2 5^AU Au (AU A4 (AA 3)^AA 5)^wC^D.int 1)))
 (Av^Qk^Ar 4))))))
def dA{i j:Int}{x y:Str}(h:Bb [.inl j,.inr y] [.inl i,.inr x]=o_):i<=j:=by
 have h:(if jI j=.inl i then(if gJ y=.inr x then o_ else decide _)else decide _)=o_:=h
 grind
section
variable {ss:p_ Slot}{n:Sg}{Pd:D->Sg->Prop}
def KS(h:WE ss n Pd):GL (EE Pd) n (ss++UF 0 .no):=by
 let#[Wt,ks,ds,F,rfl,M,hF,hne,hl,p]:=h;unfold GL;refine#[by show(Wt.map D.str).length<=10000000;rw[Ev];lk,?_]
 have dist:∀x∈Wt,∃d q,F x=P3 (d,q):=λx hx=>by
  cases e:F x with
  |none=>exact absurd e^hF x hx
  |some a=>exact#[a.1,a.2,rfl]
 refine B5 (λd=>match d with|.str x=>.tup [.int ((F x).getD (0,m_)).1,.str x]|d=>d) (λρ=>∃s,ρ=[.br^.dic ks ds,s]) _ _ _ _ ?_ #[_,rfl] ?_
 .rintro d hd ρ m nx ⟨s,rfl⟩ hnx
  let#[x,hx,rfl]:=Sc.mp hd;let#[dx,q,ex]:=dist x hx;refine#[ks,ds,_,IC (dx,q),rfl,rfl,by rw[M.at_,ex];rfl,_,AH (j:=0) rfl,(by cbv:2<=sizeLine),?_]
  grind
 rw[fE,fY];refine#[_,rfl,?_,#[λx hx=>?_,λx hx y hy ka kb ea eb=>?_],λx hx hmin=>?_]
 .rw[Ev]
  cases Wt with
  |nil=>exact absurd rfl hne
  |cons a r=>exact Nat.succ_pos _
 .let#[z,_,rfl]:=Sc.mp hx
  exact#[_,rfl,fg _ _]
 .let#[z,_,rfl]:=Sc.mp hx
  let#[u,_,rfl]:=Sc.mp hy;cases(show P3 [jI _,gJ _]=P3 ka from ea);cases(show P3 [jI _,gJ _]=P3 kb from eb);rfl
 .let#[v,hv,rfl]:=Sc.mp hx
  refine#[_,AH (j:=1) rfl,p v hv λy hy dv pv dy py ev ey=>?_]
  have:=dA (hmin _ (Sc.mpr #[y,hy,rfl]) _ _ rfl rfl)
  rw[ev,ey]at this;exact this
def A7(x:Str):keyOf^.str x=P3^.inr x:=rfl
def Sr{N:Net}(ok:N.Ok){xs:p_ Str}(h:∀x∈xs,x∈N.ps):Ci^.lst^xs.map .str:=Gu λd hd=>by
  let#[x,hx,rfl]:=Sc.mp hd;exact DB^ok.names x^h x hx
def PF{N:Net}{Wt:p_ Str}(hn:Wt.Nodup)(h:∀x∈Wt,x∈N.ps):Wt.length<=N.ps.length:=by
 have:∀(xs ps:p_ Str),xs.Nodup->(∀x∈xs,x∈ps)->xs.length<=ps.length:=by
  intro xs
  induction xs with
  |nil=>grind
  |cons x xs ih=>
   intro ps hn hm;have hx:=hm x Re;have hn:=eQ.mp hn;have h1:=ih (ps.erase x) hn.2 λj hj=>(List.mem_erase_of_ne λe=>hn.1^by simp_all).mpr^hm j^TW _ hj
   grind
 simp_all
def JI(ks:p_ Key)(k:Key):(CS ks k).length=if Jg ks k=n_ then ks.length else ks.length+1:=by
 unfold CS
 split
 .rfl
 simp_all
def Dmap.has{α:Type}{ks:p_ Key}{ds:p_ D}{enc:α->D}{F:Str->q_ α}(h:Dmap ks ds enc F){x:Str}:(F x=m_->Jg ks^.inr x=o_)/\(F x≠m_->Jg ks^.inr x=n_):=by
 constructor
 .intro e
  cases c:Jg ks _ with
  |false=>rfl
  |true=>exact absurd e^(h.mem x).mp^hasK_iff.mp c
 .intro e
  exact hasK_iff.mpr^(h.mem x).mpr e
def R9{N:Net}{x:Str}(hx:x∈N.ps):BS (N.ps.map .inr) (N.ps.map^WI N.ts)^.inr x=P3^WI N.ts x:=by
 have go:∀ps:p_ _,x∈ps->BS (ps.map .inr) (ps.map^WI N.ts)^.inr x=P3^WI N.ts x:=by
  intro ps
  induction ps with
  |nil=>grind
  | cons q ps ih=>
   intro h;show(if gJ q=.inr x then P3 _ else BS _ _ _)=_
   by_cases e:q=x
   .grind
   .rw[if_neg λz=>e^hG z]
    exact ih^(XV.mp h).resolve_left λz=>e z.symm
 simp_all
def WL(l:p_ (Str×Int)):Hk ((l.map λx=>(.inr x.1:Key)).map YY) (l.map λx=>.int x.2)=l.map cu:=by
 induction l with
 |nil=>rfl
 |cons p l ih=>
  show D.tup _::Hk _ _=cu p::l.map _;rw[←ih];rfl
def KW(h:NU ss n Pd):GO (EF Pd) n (ss++UF 7 .no):=by
 let#[N,s,rfl,#[ok,lp,lt],hs,p]:=h;have szl:=PySem.sizeLine_eq;unfold GO;refine#[N,rfl,ok,by lk,by lk,?_];refine#[(by cbv:2<=sizeLine),_,A7 s,(by cbv:1<=sizeLine),?_];refine Gb (λm n' ρ=>n'=n/\∃(Wt:p_ Str) (ks:p_ Key) (ds:p_ D) (F:PB) (s5 s6 s7 s8:Slot),ρ=[.sh^enc N,.sh^.str s,.sh^Dy N,.ow^.dic ks ds,.ow^.lst^Wt.map .str,s5,s6,s7,s8]/\Dmap ks ds IC F/\Dj N s F Wt/\m+ks.length=N.ps.length+Wt.length) (N.ps.length) #[rfl,[s],[.inr s],[IC (0,m_)],_,_,_,_,_,rfl,Dmap.one,Dj.init hs,rfl] ?_ ?_
 .rintro m n' ρ N' ⟨rfl,Wt,ks,ds,F,s5,s6,s7,s8,rfl,M,J,hm⟩ hN
  cases Wt with
  |nil=>
   exact#[o_,rfl,_,rfl,p ks ds F M J.told]
  | cons w0 Wr=>
   refine#[n_,rfl,?_];have insW:∀x∈w0::Wr,x∈N.ps:=λx hx=>J.ins x^J.wfound x hx;have wl:=PF J.nd insW;refine#[w0::Wr,ks,ds,F,rfl,M,J.wfound,fg _ _,by lk,λv hv hmin=>?_]
   obtain⟨dv,pv,ev⟩:∃d q,F v=P3 (d,q):=by
    cases e:F v with
    |none=>exact absurd e^J.wfound v hv
    |some a=>exact#[a.1,a.2,rfl]
   have D0:=J.take hv ev λy hy dy q ey=>hmin y hy dv pv dy q ev ey;have hvp:=insW v hv;have hidx:(w0::Wr).idxOf v<(w0::Wr).length:=List.idxOf_lt_length_of_mem hv;have hget:(w0::Wr)[(w0::Wr).idxOf v]?=P3 v:=by rw[No hidx,List.getElem_idxOf]
   have ee:((w0::Wr).map D.str).eraseIdx^(w0::Wr).idxOf v=((w0::Wr).erase v).map D.str:=by
    rw[List.erase_eq_eraseIdx_of_idxOf (rfl:(w0::Wr).idxOf v=_),LS]
   refine#[_,rfl,rfl,_,_,(w0::Wr).idxOf v,rfl,rfl,Sr ok insW,CN^ok.names v hvp,#[.str v,by rw[ZB,hget];rfl,by show(v==v)=n_;exact beq_self_eq_true v],λk x hk hx=>?_,?_]
   .rw[ZB]at hx
    let#[t,ht,rfl]:=eq.mp hx;have hkl:k<(w0::Wr).length:=(Uf.mp ht).1;have hh:=List.not_of_lt_findIdx (p:=λy=>y==v) (xs:=w0::Wr) hk;have e2:(w0::Wr)[k]=t:=(Uf.mp ht).2;have h3:((w0::Wr)[k]==v)=o_:=hh;rw[e2]at h3;exact h3
   rw[ee];refine#[_,_,_,WI N.ts v,rfl,A7 v,R9 hvp,_,_,rfl,λk hk=>?_,?_]
   .let#[q,hq,rfl]:=Sc.mp hk
    have:=(ok.names _ (Mh ok hq).1).2.1
    show q.1.length<=sizeLine;lk
   rw[WL];have el:=List.length_erase_of_mem hv
   have inner:∀(rest seen:p_ (Str×Int)) (Wt:p_ Str) (ks:p_ Key) (ds:p_ D) (F:PB) (s6 s7 s8:Slot),seen++rest=C_ N.ts v->Dmap ks ds IC F->Dm N s F Wt v dv seen->m+ks.length=N.ps.length+Wt.length+1->
     Bj (Ko 2^BO (Ax 6)^BO (Ax 7) FA) (AZ (A2 8^AU BU (AU Au (AU A4 (Ar 3)^AA 5)^wC^D.int 0)^AA 7)
 (BG (Ab^AU (IB n_) (AA 6)^Ar 3) (AZ (Rz 4 "list" FX^AE (AA 6) AS)
 (Fk 3 (AA 6)^BA^AE (AA 8)^AE (AA 5) AS))^BG (Ab^AU H_ (AA 8)^AU Au (AU A4 (Ar 3)^AA 6)^wC^D.int 0) (Fk 3 (AA 6)^BA^AE (AA 8)^AE (AA 5) AS) Aw)) {EF Pd with nx:=N',ct:=N',bk:=NZ 3^EF Pd} (rest.map cu) n' [.sh^enc N,.sh^.str s,.sh^Dy N,.ow^.dic ks ds,.ow^.lst^Wt.map .str,.sh^.str v,s6,s7,s8]:=by
    intro rest
    induction rest with
    |nil=>
     intro seen Wt ks ds F s6 s7 s8 e M D0 hm;rw[e7]at e;exact hN (m - 1) n' _ (by have:=M.le D0.ins;lk) #[rfl,Wt,ks,ds,F,_,_,_,_,rfl,M,D0.finish λy l hy=>by rw[e];exact hy,by have:=M.le D0.ins;lk]
    | cons q rest ih=>
     intro seen Wt ks ds F s6 s7 s8 e M D0 hm;let#[y,l]:=q;have he:Ed N v y l:=by show(y,l)∈C_ N.ts v;rw[←e];exact eN _ Re
     have e':(seen++[(y,l)])++rest=C_ N.ts v:=by rw[gW];exact e
     let#[pv,ev]:=D0.here;have kl:=M.le D0.ins;have hyp:=he.ins ok;have insW:∀x∈Wt,x∈N.ps:=λx hx=>D0.ins x^D0.wfound x hx;have wl:=PF D0.nd insW;refine#[rfl,rfl,?_];refine#[ks,ds,_,IC (dv,pv),rfl,A7 v,by rw[M.at_,ev];rfl,_,AH (j:=0) rfl,?_];refine#[ks,ds,_,rfl,A7 y,?_];show if(!(BS ks ds^.inr y).isSome)=n_ then _ else _
     cases ey:F y with
     |none=>
      have hno:=(M.has (x:=y)).1 ey;rw[M.at_,ey];refine EC #[_,rfl,rfl,_,_,rfl,rfl,by rw[Ev];lk,?_];refine#[ks,ds,rfl,(by cbv:2<=sizeLine),_,A7 y,by lk,?_]
      have:=ih (seen++[(y,l)]) (Wt++[y]) (CS ks^.inr y) (Ce ks ds (.inr y)^IC (dv+l,P3 v)) _ (.sh^.str y) (.sh^.int l) (.sh^.int (dv+l)) e' (M.put y (dv+l,P3 v)) (D0.find ok he ey)^by rw[JI,if_neg (by rw[hno];decide),eV,fo];lk
      rw[fI]at this;exact this
     | some a=>
      let#[dy,qy]:=a;have hyes:=(M.has (x:=y)).2 (by rw[ey];intro z;cases z);rw[M.at_,ey];refine Ck #[ks,ds,_,IC (dy,qy),rfl,A7 y,by rw[M.at_,ey];rfl,_,AH (j:=0) rfl,?_];show if decide (dv+l<dy)=n_ then _ else _
      by_cases c:dv+l<dy
      .rw[decide_eq_true c]
       refine EC #[ks,ds,rfl,(by cbv:2<=sizeLine),_,A7 y,by lk,?_];exact ih (seen++[(y,l)]) Wt (CS ks^.inr y) (Ce ks ds (.inr y)^IC (dv+l,P3 v)) _ (.sh^.str y) (.sh^.int l) (.sh^.int (dv+l)) e' (M.put y (dv+l,P3 v)) (D0.nearer ok he ey c)^by rw[JI,if_pos hyes];lk
      .rw[decide_eq_false c]
       exact Ck^ih (seen++[(y,l)]) Wt ks ds F (.sh^.str y) (.sh^.int l) (.sh^.int (dv+l)) e' M (D0.skip ey^by lk) hm
   exact inner (C_ N.ts v) [] ((w0::Wr).erase v) ks ds F _ _ _ rfl M D0 (by have:=List.length_pos_of_mem hv;lk)
 .rintro n' ρ P Q hPQ h
  unfold Tu Ar at h ⊢
  split at h
  all_goals first
   |exact h.elim
   |(let#[c,hc,h]:=h;exact#[c,hc,hPQ _ _ h])
def Y6(h:Xr ss n Pd):Ya (EE Pd) n (ss++UF 1 .no):=by
 let#[N,a,b,rfl,okn,ha,hb,p]:=h;unfold Ya;refine#[N,a,rfl,okn,ha,λks ds F M T=>?_];refine#[ks,ds,_,rfl,A7 b,?_];show if((BS ks ds^.inr b).isSome)=n_ then _ else _
 have hp:=p _^T.far b;cases e:F b with
 |none=>
  rw[M.at_,e];rw[e]at hp;exact Ck hp
 |some x=>
  rw[M.at_,e];rw[e]at hp;exact EC #[ks,ds,_,IC x,rfl,A7 b,by rw[M.at_,e];rfl,_,AH (j:=0) rfl,hp]
end
structure WInv (N:Net) (F:PB) (b:Str) (db:Int) (acc:List Str) (pl:Option Str):Prop where
 st:(acc=[]/\pl=P3 b)\/∃z r dz,acc.reverse=z::r/\F z=P3 (dz,pl)/\walk N acc.reverse (db - dz)/\acc.reverse.getLast?=P3 b
 nd:acc.Nodup
 ins:∀x∈acc,x∈N.ps
 less:∀y dy q,pl=P3 y->F y=P3 (dy,q)->∀x∈acc,∃dx qx,F x=P3 (dx,qx)/\dy<dx
 fnd:∀y,pl=P3 y->F y≠m_
def wm(F:PB):q_ Str->Nat
 |none=>0
 |some y=>((F y).getD (0,m_)).1.toNat+1
def WInv.step{N:Net}(ok:N.Ok){a:Str}{F:PB}(T:Told N a F){b:Str}{db:Int}{qb:q_ Str}(eb:F b=P3 (db,qb)){acc:p_ Str}{y:Str}{dy:Int}{qy:q_ Str}(h:WInv N F b db acc^P3 y)(ey:F y=P3 (dy,qy)):WInv N F b db (acc++[y]) qy/\wm F qy<wm F^P3 y:=by
 have hy0:=(T.least y dy qy ey).1.pos ok
 have nx:∀w dw q,qy=P3 w->F w=P3 (dw,q)->dw<dy:=λw dw q e ew=>by
  rcases T.prev y dy qy ey with⟨z,_⟩|⟨w',dw',q',l,e1,e2,e3,e4⟩
  .rw[e]at z;cases z
  .rw[e]at e1
   cases e1;rw[ew]at e2;cases e2
   have:=(e3.pos ok).1
   omega
 have hf:∀w,qy=P3 w->F w≠m_:=λw e=>by
  rcases T.prev y dy qy ey with⟨z,_⟩|⟨w',dw',q',l,e1,e2,_⟩
  .rw[e]at z;cases z
  .rw[e]at e1
   cases e1;rw[e2];intro z;cases z
 refine#[#[.inr ?_,?_,λx hx=>?_,λw dw q e ew x hx=>?_,hf],?_]
 .rw [List.reverse_append,List.reverse_singleton,jJ]
  rcases h.st with⟨rfl,e⟩|⟨z,r,dz,e1,e2,e3,e4⟩
  .cases e
   rw[eb]at ey;cases ey;exact#[_,_,_,rfl,eb,(by show db - db=0;lk),rfl]
  .refine#[y,acc.reverse,dy,rfl,ey,?_,?_]
   .rw[e1]at e3 ⊢
    rcases T.prev z dz (P3 y) e2 with⟨w,_⟩|⟨w',dw',q',l,k1,k2,k3,k4⟩
    .cases w
    .cases k1
     rw[ey]at k2;cases k2
     have:=Ry k3 e3
     rw[show l+(db - dz)=db - dy by lk]at this;exact this
   .rw[e1]at e4 ⊢
    exact e4
 .rw[fj]
  refine#[h.nd,eQ.mpr #[ei,fF],λx hx z hz e=>?_];rw[Rs.mp hz]at e;let#[dx,qx,ex,hlt]:=h.less y dy qy rfl ey x hx;rw[e,ey]at ex;cases ex;lk
 .rcases eM.mp hx with hx|hx
  .exact h.ins x hx
  .rw[Rs.mp hx]
   exact T.ins y^by rw[ey];intro z;cases z
 .have h1:=nx w dw q e ew
  rcases eM.mp hx with hx|hx
  .let#[dx,qx,ex,hlt]:=h.less y dy qy rfl ey x hx
   exact#[dx,qx,ex,by lk]
  .rw[Rs.mp hx]
   exact#[dy,qy,ey,h1]
 .cases qy with
  |none=>exact Nat.succ_pos _
  | some w=>
   cases ew:F w with
   |none=>exact absurd ew (hf w rfl)
   |some p=>
    have h1:=nx w p.1 p.2 rfl ew;have h2:=(T.least w p.1 p.2 ew).1.pos ok;show((F w).getD (0,m_)).1.toNat+1<((F y).getD (0,m_)).1.toNat+1;rw[ew,ey];show p.1.toNat+1<dy.toNat+1;lk
section
variable {ss:p_ Slot}{n:Sg}{Pd:D->Sg->Prop}
def SE(h:Z8 ss n Pd):Oo (EE Pd) n (ss++UF 3 .no):=by
 let#[N,a,b,rfl,okn,ha,hb,p]:=h;have szl:=PySem.sizeLine_eq;have ok:=okn.1;unfold Oo;refine#[N,a,rfl,okn,ha,λks ds F M T=>?_];refine#[ks,ds,_,rfl,A7 b,?_];show if(!(BS ks ds^.inr b).isSome)=n_ then _ else _
 have hfar:=T.far b;cases eb:F b with
 |none=>
  rw[M.at_,eb];rw[eb]at hfar;exact EC^p m_ hfar
 | some x=>
  let#[db,qb]:=x;rw[M.at_,eb];refine Ck #[z0,?_];refine Gb (λm n' ρ=>n'=n/\∃(acc:p_ Str) (pl:q_ Str),ρ=[.sh^enc N,.sh^.str a,.sh^.str b,.sh^.dic ks ds,.ow^.lst^acc.map .str,.sh^bL pl]/\WInv N F b db acc pl/\m=wm F pl) (wm F^P3 b) #[rfl,[],P3 b,rfl,#[.inl #[rfl,rfl],fF,(λx hx=>by cases hx),(λ_ _ _ _ _ x hx=>by cases hx),λy e=>by cases e;rw[eb];intro z;cases z],rfl] ?_ ?_
  .rintro m n' ρ N' ⟨rfl,acc,pl,rfl,J,rfl⟩ hN
   have wl:=PF J.nd J.ins;have l25:=okn.2.1;cases pl with
   | none=>
    refine#[rfl,_,rfl,?_]
    rcases J.st with⟨_,e⟩|⟨z,r,dz,e1,e2,e3,e4⟩
    .cases e
    .have hz:z=a:=by
      rcases T.prev z dz m_ e2 with⟨_,w⟩|⟨w',dw',q',l,k1,_⟩
      .exact w
      .cases k1
     subst hz;rw[T.start]at e2;cases e2;rw[←List.map_reverse];refine p (P3 acc.reverse) #[db - 0,r,e1,e4,e3,?_,by rw[jd];lk,λx hx=>J.ins x^List.mem_reverse.mp hx];rw[show db - 0=db by lk];exact T.least b db qb eb
   | some y=>
    cases ey:F y with
    |none=>exact absurd ey (J.fnd y rfl)
    |some q=>
     let#[dy,qy]:=q;let#[J2,lt2]:=J.step ok T eb ey;refine#[rfl,?_];refine#[_,rfl,rfl,_,_,rfl,rfl,by rw[Ev];lk,?_];refine#[ks,ds,_,IC (dy,qy),rfl,A7 y,by rw[M.at_,ey];rfl,_,AH (j:=1) rfl,?_];refine hN (wm F qy) _ _ lt2 #[rfl,acc++[y],qy,?_,J2,rfl];rw[fI];rfl
  .rintro n' ρ P Q hPQ h
   unfold Ab AU AA wC Jk at h ⊢
   split at h
   .exact#[h.1,hPQ _ _ h.2]
   .exact h.elim
end
def XH{ks:p_ Key}{ds:p_ D}{K:Kn}(M:Dmap ks ds D.int K)(x:Str):(BS ks ds^.inr x).getD .non=C8^K x:=by
 rw[M.at_];cases K x <;>rfl
def Yy{N:Net}(okn:okN N):G1 1000001^enc N/\R8^enc N<=48000/\TF^enc N<=3:=Yn (XE okn.1) (Jc okn.1) (by rw[Ev];have:=okn.2.1;lk)^by rw[Ev];have:=okn.2.2;lk
end Nt
namespace Dp
open L2
def X0(i:Nat)(b:BW)(body:Aa):Aa:=λD2 n ρ=>∃d ds,ρ[i]?=P3^.br d/\Iw d=P3 ds/\Bj b body D2 ds n ρ
section
variable {X:Cx}{κ:Kd}{tg:Expr}{body:p_ Stmt}{b:BW}{wb:Aa}{pos p:Pos}{x:Str}{i:Nat}
def Rel.lessKp{K:Frag}{C:Fm}{q:Ch×HO}{M:Ch->Prop}{H:Hp}{n:Sg}{ρ:p_ Slot}{Z:L2.St}(R:Rel K {C with kp:=q::C.kp} M H n ρ Z):Rel K C M H n ρ Z:=
 #[R.len,R.sub,R.dom,R.ext,R.fU,R.uV,R.vM,R.feed,R.sl,R.pin,R.br0,R.new,R.two,λp hp=>R.kept p^TW _ hp]
def XY(hp:kO (model X.prog X.w) X.A X.env X.xe)(hc:X.calm=n_)(h:PE X (.Name x p)^Bv i)(hg:DG X tg b)(hb:Tj X κ body wb)
  (hs:∀y,foldedSetIterable (.Name x p) X.env y=pure y:=by intro _;rfl):DS X κ (.For tg (.Name x p) body [] pos)^X0 i b wb:=by
 let#[g,g1,g2]:=hg;let#[tb,b1,b2]:=hb;refine#[_,MM hp hc (Pw h) g1 b1 hs,λC M H n ρ Z D2 E R L w=>?_];let#[d,ds,hi,hd,w]:=w;let#[v,e1,hAt]:=R.sl i _ hi;cases d with
 | tup ds'=>
  cases hd;let#[a,vs,rfl,hn,hat]:=hAt;refine#[.ref a,getD_some e1,.inr^.inl #[a,rfl,#[vs,hn.sq],?_]];obtain⟨kp',ek⟩:∃kp',kp'=C.kp:=#[_,rfl];have R1:Rel X.K {C with kp:=kp'} M H n ρ Z:=by rw[ek];exact R
  have less:∀{M H n ρ Z},Rel X.K {C with kp:=kp'} M H n ρ Z->Rel X.K C M H n ρ Z:=λR=>by rw[ek]at R;exact R
  have st:∀M' H' n' zY zZ,Rel X.K {C with kp:=kp',zG:=(M,H)::C.zG} M' H' n' zY zZ->SqT X.K H' a vs:=λM' H' n' zY zZ R'=>(hn.pres^R'.pin (M,H) Re).sq;refine#[λi m zZ H'=>m=ds.length - i/\i<=ds.length/\∃M' n' zY,Rel X.K {C with kp:=kp',zG:=(M,H)::C.zG} M' H' n' zY zZ/\Bj b wb D2 (ds.drop i) n' zY,#[ds.length,by simp,eP _,M,n,ρ,R1.pinned,w],?_];rintro i m zZ H' ⟨rfl,hil,M',n',zY,R',w'⟩;have pr:Pres M H M' H':=R'.pin (M,H) Re;have hq:=st M' H' n' zY zZ R'
  by_cases hlt:i<ds.length
  .have ed:ds.drop i=ds[i]::ds.drop (i+1):=gR hlt
   rw[ed]at w';let#[v,ev,hv]:=(hat.pres pr).get^No hlt;refine .inr #[#[vs,v,hq,ev],λzO H2=>∃M2 n2 zL,Rel X.K {C with kp:=kp',zG:=(M,H)::C.zG} M2 H2 n2 zL zO/\Bj b wb D2 (ds.drop (i+1)) n2 zL,λzO H2 #[M2,n2,zL,R2',w2]=>#[ds.length - (i+1),by lk,rfl,hlt,M2,n2,zL,R2',w2],λy H2 hy=>?_];let#[e2,hy]:=hy;subst e2
   have:P3 v=P3 y:=ev.symm.trans^hy vs hq
   cases this;refine g2 _ M' H2 n' zY zZ ds[i] v _ _ R' hv w' λzP zV R3 w3=>?_;refine b2 _ M' H2 n' zP zV {D2 with nx:=Bj b wb D2^ds.drop (i+1),ct:=Bj b wb D2^ds.drop (i+1),bk:=D2.nx} _ R3 #[λM4 H4 n4 zT zR R4 w4=>#[M4,n4,zT,R4,w4],L.rt,λM4 H4 n4 zT zR R4 w4=>L.nx M4 H4 n4 zT zR (less R4.unpin) w4,λM4 H4 n4 zT zR R4 w4=>#[M4,n4,zT,R4,w4]] w3
  .have e:i=ds.length:=by lk
   subst e;rw[iR]at w';exact .inl #[#[vs,hq,by rw[hat.length];exact Op _],L.nx M' H' n' zY zZ (less R'.unpin) w']
 | lst ds'=>
  cases hd;let#[a,vs,rfl,nV,hH,hat]:=hAt
  obtain⟨o,ho,hnv,hro⟩:∃o,H a=P3 o/\¬Tq o/\∀H':Hp,H' a=P3 o->SqL X.K H' a vs:=by
   rcases hH with z|⟨u,z⟩
   .exact#[_,z,(by rintro⟨_,z⟩;cases z),λH' e=>.inl^.inl e]
   .exact#[_,z,(by rintro⟨_,z⟩;cases z),λH' e=>.inl^.inr #[u,e]]
  refine#[.ref a,getD_some e1,.inl #[a,rfl,#[vs,hro H ho],?_]]
  obtain⟨kp',R1,less,st⟩:∃kp',Rel X.K {C with kp:=kp'} M H n ρ Z/\(∀{M H n ρ Z},Rel X.K {C with kp:=kp'} M H n ρ Z->Rel X.K C M H n ρ Z)/\(∀M' H' n' zY zZ,Rel X.K {C with kp:=kp',zG:=(M,H)::C.zG} M' H' n' zY zZ->SqL X.K H' a vs):=by
   by_cases hM:M a
   .refine#[(a,o)::C.kp,#[R.len,R.sub,R.dom,R.ext,R.fU,R.uV,R.vM,R.feed,R.sl,R.pin,R.br0,R.new,R.two,λq hq=>?_],λR=>R.lessKp,λM' H' n' zY zZ R'=>hro H' (R'.kept (a,o) Re).1]
    rcases XV.mp hq with rfl|hq
    .refine#[ho,#[hM,hnv],nV,λj e q z=>?_]
     let#[u,hu]:=R.br0 i _ a hi e1
     have:=(R.new j _ a q rfl z).2
     rw[hu]at this;cases this
    .exact R.kept q hq
   .exact#[C.kp,R,λR=>R,λM' H' n' zY zZ R'=>hro H'^(R'.pin (M,H) Re).1 a o ho hM hnv]
  refine#[λi m zZ H'=>m=ds.length - i/\i<=ds.length/\∃M' n' zY,Rel X.K {C with kp:=kp',zG:=(M,H)::C.zG} M' H' n' zY zZ/\Bj b wb D2 (ds.drop i) n' zY,#[ds.length,by simp,eP _,M,n,ρ,R1.pinned,w],?_];rintro i m zZ H' ⟨rfl,hil,M',n',zY,R',w'⟩;have pr:Pres M H M' H':=R'.pin (M,H) Re;have hq:=st M' H' n' zY zZ R'
  by_cases hlt:i<ds.length
  .have ed:ds.drop i=ds[i]::ds.drop (i+1):=gR hlt
   rw[ed]at w';let#[v,ev,hv]:=(hat.pres pr).get^No hlt;refine .inr #[#[vs,v,hq,ev],λzO H2=>∃M2 n2 zL,Rel X.K {C with kp:=kp',zG:=(M,H)::C.zG} M2 H2 n2 zL zO/\Bj b wb D2 (ds.drop (i+1)) n2 zL,λzO H2 #[M2,n2,zL,R2',w2]=>#[ds.length - (i+1),by lk,rfl,hlt,M2,n2,zL,R2',w2],λy H2 hy=>?_];let#[e2,hy]:=hy;subst e2
   have:P3 v=P3 y:=ev.symm.trans^hy vs hq
   cases this;refine g2 _ M' H2 n' zY zZ ds[i] v _ _ R' hv w' λzP zV R3 w3=>?_;refine b2 _ M' H2 n' zP zV {D2 with nx:=Bj b wb D2^ds.drop (i+1),ct:=Bj b wb D2^ds.drop (i+1),bk:=D2.nx} _ R3 #[λM4 H4 n4 zT zR R4 w4=>#[M4,n4,zT,R4,w4],L.rt,λM4 H4 n4 zT zR R4 w4=>L.nx M4 H4 n4 zT zR (less R4.unpin) w4,λM4 H4 n4 zT zR R4 w4=>#[M4,n4,zT,R4,w4]] w3
  .have e:i=ds.length:=by lk
   subst e;rw[iR]at w';exact .inl #[#[vs,hq,by rw[hat.length];exact Op _],L.nx M' H' n' zY zZ (less R'.unpin) w']
 |_=>cases hd
end
end Dp
namespace Nt
open L2 Dp
def sub(N:Net)(kept:p_ A5):Net:=#[N.ps,N.ts.filter λu=>decide (u∈kept)]
def YK(N:Net)(t b:Int)(u:A5):Prop:=∃d,Least N u.a u.b d/\d*b<=u.len*t
noncomputable def F_(N:Net)(t b:Int)(u:A5):Bool:=@decide (YK N t b u)^gZ _
def nearB_iff{N:Net}{t b:Int}{u:A5}:F_ N t b u=n_↔YK N t b u:=by
 unfold F_
 grind
noncomputable def CV(N:Net)(t b:Int):p_ A5->p_ A5->p_ A5
 |kept,[]=>kept
 |kept,u::r=>if F_ (sub N kept) t b u=n_ then CV N t b kept r else CV N t b (kept++[u]) r
def Dl:W2:=λss n P=>∃(N:Net) (z:D) (ts:p_ A5),ss=[.sh^enc N,.br z]/\Iw z=P3^ts.map As/\ts.length<64/\∀ts':p_ A5,ts'.Perm ts->Lc ts'->P (enc #[N.ps,ts']) n
def NS:W2:=λss n P=>∃(N:Net) (u:A5) (t b:Int),ss=[.sh^enc N,.sh^.tup [.int t,.int b],.sh^As u]/\okN N/\u.a∈N.ps/\u.b∈N.ps/\1<=b/\b<=1000000/\1<=t/\t<=1000000/\∀o:q_^p_ Str,(∀w,o=P3 w->Way N u.a u.b^P3 w/\F_ N t b u=n_)->(o=m_->F_ N t b u=o_)->P (bK o) n
def Cp:W2:=λss n P=>∃(N:Net) (t b:Int),ss=[.sh^enc N,.sh^.tup [.int t,.int b]]/\okN N/\1<=b/\b<=1000000/\1<=t/\t<=1000000/\∀ord:p_ A5,ord.Perm N.ts->Fb ord->P (enc^sub N^CV N t b [] ord) n
def Cq:W2:=λss n P=>∃(N:Net) (s:Str) (z:D) (us:p_ A5),ss=[.br z,.sh^.str s]/\Iw z=P3^us.map As/\(∀u,u∈us↔u∈N.ts)/\okN N/\s∈N.ps/\∀(ks:p_ Key) (ds:p_ D) (K:Kn),Dmap ks ds D.int K->LTold N s K->P (.dic ks ds) n
def Oq:Aa:=(Av^BA^AE (AU Au (AA 0)^wC^D.int 0)^AE (B0 Bt^AE (B0 G2^AE (Ar 1) AS) AS) AS)
def GN:Aa:=(AZ (A2 3^AY Z8^AD (AL^AA 0)^AD (AL^AU Au (AA 2)^wC^D.int 0)^AD (AL^AU Au (AA 2)^wC^D.int 1) AR)
 (AZ (BG (Ig (Ab^AU (Jk o_) (AA 3)^wC D.non)^Dn^Ab^AY NN^AD (AL^AY Z9^AD (AL^AA 0)^AD (AL^AA 3) AR)^AD (AL^AA 1)^AD (AL^AU Au (AA 2)^wC^D.int 2) AR) (Av^wC D.non) Aw)
 (Av^AA 3)))
def Hd:Aa:=(AZ (Fj 2^Cr AS)
 (AZ (Ho (BF^AY EU^AD (AL^AU Au (AA 0)^wC^D.int 1) AR) (Ax 3)^BG (Ab^AU (Jk o_) (AY NS^AD (AL^AY Dl^AD (AL^AA 0)^AD (Bg^Ar 2) AR)^AD (AL^AA 1)^AD (AL^AA 3) AR)^wC D.non) (Rz 2 "list" FX^AE (AA 3) AS) Aw)
 (Av^AY Dl^AD (AL^AA 0)^AD (Bg^Ar 2) AR)))
def DM:Aa:=(AZ (Fj 2^Cr AS)
 (AZ (Ho (BF^AY EU^AD (AL^AU Au (AA 0)^wC^D.int 1) AR) (Ax 3) (AZ (A2 4^Kz (AY Cq^AD (Bg^Ar 2)^AD (AL^AU Au (AA 3)^wC^D.int 0) AR)^AU Au (AA 3)^wC^D.int 1)
 (BG (Ig (Ab^AU (Jk o_) (AA 4)^wC D.non)^Ab^AU (f2 λi j=>D.bl (decide (j<i))) (AU DH (AA 4)^AU Au (AA 1)^wC^D.int 1)^AU DH (AU Au (AA 3)^wC^D.int 2)^AU Au (AA 1)^wC^D.int 0) (Rz 2 "list" FX^AE (AA 3) AS) Aw)))
 (Av^BA^AE (AU Au (AA 0)^wC^D.int 0)^AE (B0 Bt^AE (B0 G2^AE (Ar 2) AS) AS) AS)))
def sub_mem{N:Net}{kept:p_ A5}{u:A5}:u∈(sub N kept).ts↔u∈N.ts/\u∈kept:=by
 show u∈N.ts.filter _↔_
 simp_all
def L0{N:Net}(okn:okN N)(kept:p_ A5):okN^sub N kept:=#[Yz okn.1 (λt h=>(sub_mem.mp h).1)^okn.1.trise.filter _,okn.2.1,eR (fP _ _) okn.2.2]
def Pa{N:Net}(ok:N.Ok){kept ts:p_ A5}(hk:∀t∈kept,t∈N.ts)(nd:kept.Nodup)(hp:ts.Perm kept)(hb:Lc ts):(#[N.ps,ts]:Net)=sub N kept:=by
 congr 1
 refine FL ((jx (hp.nodup_iff.mpr nd)^(Bo ok.trise).filter _).mpr λt=>?_) hb^Fa^ok.trise.filter _;rw[hp.mem_iff]
 simp_all
def Jb{N:Net}{t b:Int}{kept r:p_ A5}{u:A5}:CV N t b kept (u::r)=if F_ (sub N kept) t b u=n_ then CV N t b kept r else CV N t b (kept++[u]) r:=rfl
theorem JY{α β:Type}:∀{l:p_ (α×β)},(l.map (·.1)).Nodup->∀{p q:α×β},p∈l->q∈l->p.1=q.1->p=q
 |a::l,nd,p,q,hp,hq,e=>by
  rw[eW,eQ]at nd
  rcases XV.mp hp with hp2|hp2 <;>rcases XV.mp hq with hq2|hq2
  .rw[hp2,hq2]
  .grind
  .exact absurd (Sc.mpr #[p,hp2,by rw[e,hq2]]) nd.1
  .exact JY nd.2 hp2 hq2 e
def W9{N:Net}(ok:N.Ok){x y:Str}{l:Int}(h:Ed N x y l):look N.ts x y=P3 l:=by
 unfold look;cases e:(C_ _ x).find? _ with
 |none=>exact absurd (List.find?_eq_none.mp e _ h)^by simp
 |some q=>
  have e1:=of_decide_eq_true^List.find?_some (p:=λz=>decide _) e;rw[JY (Sq ok x) (j_ e) h e1];rfl
theorem NY{N:Net}(ok:N.Ok):∀{r:p_ Str}{x:Str}{s d:Int},walk N (x::r) d->Mj N.ts x r s=P3 (s+d)
 |[],x,s,d,h=>by
  have:=h
  subst this;show P3 s=P3 _
  grind
 |y::r,x,s,d,h=>by
  let#[l,e,he,hw,rfl]:=h;show(match look _ x y with|some l=>Mj _ y r _|none=>m_)=_;rw[W9 ok he];show Mj _ y r _=_;rw[NY ok hw,Int.add_assoc]
def W_{N:Net}(ok:N.Ok){x:Str}{r:p_ Str}{d:Int}(hx:x∈N.ps)(hw:walk N (x::r) d):bO N^.tup^(x::r).map .str=.int d:=by
 show(if((x::r).map _).all _ then ZY N _ else .non)=_;rw[if_pos^all_strs _,Io];show(if x∈N.ps then Hs _ else .non)=_;rw[if_pos hx,NY ok hw,Int.zero_add];rfl
theorem Kx{N:Net}{B:Nat}(ok:N.Ok):∀{w:p_ Str},(∀x∈w,x∈N.ps)->Jj B^w.map .str/\PZ^w.map .str<=9*w.length/\LX^w.map .str<=0
 |[],_=>#[trivial,Op _,Op _]
 | x::r,h=>by
  let#[a,b,c]:=Kx ok λy hy=>h y^TW _ hy;have hx:=ok.names x^h x Re;refine#[#[λch hc=>by have:=hx.2.2 ch hc;lk,a],?_,?_]
  .show x.length+1+PZ _<=9*(r.length+1)
   have:=hx.2.1
   omega
  assumption
def Tt{N:Net}(ok:N.Ok){w:p_ Str}(hl:w.length<=30)(h:∀x∈w,x∈N.ps):bY^.tup^w.map .str:=by
 let#[a,b,c]:=Kx ok h;exact#[a,by show PZ _<=160000;lk,by show LX _+1<=50;lk]
section
variable {ss:p_ Slot}{n:Sg}{Pd:D->Sg->Prop}
def SM(h:Dl ss n Pd):Oq (EE Pd) n (ss++UF 0 .no):=by
 let#[N,z,ts,rfl,hz,h64,p]:=h;unfold Oq;refine#[_,AH (j:=0) rfl,z,_,rfl,hz,by simp_all,#[λx hx=>?_,λx hx y hy ka kb ea eb=>?_],λxs' hp ho=>?_]
 .let#[t,_,rfl]:=Sc.mp hx
  exact#[FK t,rfl,fg _ _]
 .let#[t,_,rfl]:=Sc.mp hx
  let#[u,_,rfl]:=Sc.mp hy;cases(show P3^FK t=P3 ka from ea);cases(show P3^FK u=P3 kb from eb);rfl
 .let#[ts',h1,rfl]:=T4 (g:=Vv) (λ_=>rfl) hp
  exact#[z2,p ts' h1^Q_ ho]
def KU(h:NS ss n Pd):GN (EE Pd) n (ss++UF 1 .no):=by
 let#[N,u,t,b,rfl,okn,ha,hb,b1,b2,t1,t2,p]:=h;unfold GN;refine#[_,AH (j:=0) rfl,_,AH (j:=1) rfl,N,u.a,u.b,rfl,okn,ha,hb,λo ho=>#[rfl,?_]];cases o with
 |none=>
  refine p m_ (λw e=>by cases e) λ_=>?_;rw[fZ];intro z;let#[d,hd,_]:=nearB_iff.mp z;exact ho d hd.1
 | some w=>
  have ho':=ho;let#[d,r,rfl,hl,hw,hd,h30,hin]:=ho'
  have near:F_ N t b u=decide (d*b<=u.len*t):=by
   rw[fC,nearB_iff,decide_eq_true_eq];exact#[fun#[d',hd',h2]=>by rw[Least.unique hd hd'];exact h2,λh2=>#[d,hd,h2]]
  refine#[N,.tup^(u.a::r).map .str,rfl,okn.1,by have:=okn.2.1;lk,okn.2.2,Tt okn.1 h30 hin,?_];rw[W_ okn.1 (hin _ Re) hw];refine#[_,AH (j:=2) rfl,d,t,b,u.len,rfl,b1,b2,t1,t2,?_]
  by_cases c:d*b<=u.len*t
  .rw[decide_eq_true c]
   exact p (P3 _) (λw e=>by cases e;exact#[ho,by rw[near];exact decide_eq_true c]) λe=>by cases e
  .rw[decide_eq_false c]
   exact p m_ (λw e=>by cases e) λ_=>by rw[near];exact decide_eq_false c
def MH(h:Cp ss n Pd):Hd (EE Pd) n (ss++UF 2 .no):=by
 let#[N,t,b,rfl,okn,b1,b2,t1,t2,p]:=h;have ok:=okn.1;have l60:=okn.2.2;have szl:=PySem.sizeLine_eq;unfold Hd;refine#[z0,_,AH (j:=1) rfl,_,N.ts,rfl,rfl,by lk,λord o1 o2=>?_];have hol:=o1.length_eq;have ndo:ord.Nodup:=o1.nodup_iff.mpr^Bo ok.trise
 have go:∀(rest done kept:p_ A5) (s3:Slot),done++rest=ord->(∀u∈kept,u∈done)->kept.Nodup->CV N t b kept rest=CV N t b [] ord->
   Bj (Ax 3) (BG (Ab^AU (Jk o_) (AY NS^AD (AL^AY Dl^AD (AL^AA 0)^AD (Bg^Ar 2) AR)^AD (AL^AA 1)^AD (AL^AA 3) AR)^wC D.non) (Rz 2 "list" FX^AE (AA 3) AS) Aw) {EE Pd with nx:=Av (AY Dl^AD (AL^AA 0)^AD (Bg^Ar 2) AR)^EE Pd} (rest.map As) n [.sh^enc N,.sh^.tup [.int t,.int b],.ow^.lst^kept.map As,s3]:=by
  intro rest
  induction rest with
  |nil=>
   intro done kept s3 e h1 h2 h3;rw[e7]at e;subst e;have hin:∀u∈kept,u∈N.ts:=λu hu=>o1.mem_iff.mp^h1 u hu;have hkl:=sub_len h2 (Bo ok.trise) hin;refine#[N,_,kept,rfl,rfl,by lk,λts' p1 p2=>?_];rw[Pa ok hin h2 p1 p2,show kept=CV N t b [] done from h3];exact p done o1 o2
  | cons u rest ih=>
   intro done kept s3 e h1 h2 h3;have hin:∀v∈kept,v∈N.ts:=λv hv=>o1.mem_iff.mp (by rw[←e];exact fK _^h1 v hv);have hkl:=sub_len h2 (Bo ok.trise) hin;have hu:u∈N.ts:=o1.mem_iff.mp^by rw[←e];exact eN _ Re
   have hud:u∉done:=by
    rw[←e,fj]at ndo;exact λz=>ndo.2.2 u z u Re rfl
   have e':(done++[u])++rest=ord:=by rw[gW];exact e
   let#[m1,m2,_]:=ok.tin u hu;refine#[N,_,kept,rfl,rfl,by lk,λts' p1 p2=>?_];rw[Pa ok hin h2 p1 p2];refine#[sub N kept,u,t,b,rfl,L0 okn kept,m1,m2,b1,b2,t1,t2,λo hs hn=>#[rfl,?_]];rw[Jb]at h3;cases o with
   |some w=>
    rw[(hs w rfl).2,if_pos rfl]at h3;exact ih (done++[u]) kept _ e' (λv hv=>fK _^h1 v hv) h2 h3
   | none=>
    rw[hn rfl,if_neg^by cbv]at h3;refine#[_,rfl,rfl,_,_,rfl,rfl,by rw[Ev];lk,?_]
    have:=ih (done++[u]) (kept++[u]) (.sh^As u) e' (λv hv=>by
     rcases eM.mp hv with hv|hv
     .exact fK _^h1 v hv
     .exact eN _ hv) (by
     rw[fj];exact#[h2,eQ.mpr #[ei,fF],λx hx y hy z=>hud^by rw[←Rs.mp hy,←z];exact h1 x hx]) h3
    rw[fI]at this;exact this
 exact go ord [] [] _ rfl (λu h=>by cases h) fF rfl
end
section
variable {ss:p_ Slot}{n:Sg}{Pd:D->Sg->Prop}
def Gk(h:Cp ss n Pd):DM (EE Pd) n (ss++UF 3 .no):=by
 let#[N,t,b,rfl,okn,b1,b2,t1,t2,p]:=h;have ok:=okn.1;have l60:=okn.2.2;have szl:=PySem.sizeLine_eq;unfold DM;refine#[z0,_,AH (j:=1) rfl,_,N.ts,rfl,rfl,by lk,λord o1 o2=>?_];have ndo:ord.Nodup:=o1.nodup_iff.mpr^Bo ok.trise
 have go:∀(rest done kept:p_ A5) (s3 s4:Slot),done++rest=ord->(∀u∈kept,u∈done)->kept.Nodup->CV N t b kept rest=CV N t b [] ord->
   Bj (Ax 3) (AZ (A2 4^Kz (AY Cq^AD (Bg^Ar 2)^AD (AL^AU Au (AA 3)^wC^D.int 0) AR)^AU Au (AA 3)^wC^D.int 1)
 (BG (Ig (Ab^AU (Jk o_) (AA 4)^wC D.non)^Ab^AU (f2 λi j=>D.bl (decide (j<i))) (AU DH (AA 4)^AU Au (AA 1)^wC^D.int 1)^AU DH (AU Au (AA 3)^wC^D.int 2)^AU Au (AA 1)^wC^D.int 0) (Rz 2 "list" FX^AE (AA 3) AS) Aw)) {EE Pd with nx:=Av (BA^AE (AU Au (AA 0)^wC^D.int 0)^AE (B0 Bt^AE (B0 G2^AE (Ar 2) AS) AS) AS)^EE Pd} (rest.map As) n [.sh^enc N,.sh^.tup [.int t,.int b],.ow^.lst^kept.map As,s3,s4]:=by
  intro rest
  induction rest with
  | nil=>
   intro done kept s3 s4 e h1 h2 h3;rw[e7]at e;subst e;have hin:∀u∈kept,u∈N.ts:=λu hu=>o1.mem_iff.mp^h1 u hu;have hkl:=sub_len h2 (Bo ok.trise) hin;refine#[_,AH (j:=0) rfl,_,_,rfl,rfl,by rw[Ev];lk,#[λx hx=>?_,λx hx y hy ka kb ea eb=>?_],λxs' hp ho=>?_]
   .let#[t,_,rfl]:=Sc.mp hx
    exact#[FK t,rfl,fg _ _]
   .let#[t,_,rfl]:=Sc.mp hx
    let#[u,_,rfl]:=Sc.mp hy;cases(show P3^FK t=P3 ka from ea);cases(show P3^FK u=P3 kb from eb);rfl
   .let#[ts',p1,rfl]:=T4 (g:=Vv) (λ_=>rfl) hp
    refine#[z2,?_];have es:=Pa ok hin h2 p1^Q_ ho
    have:Pd (enc^sub N kept) n:=by rw[show kept=CV N t b [] done from h3];exact p done o1 o2
    rw[←es]at this;exact this
  | cons u rest ih=>
   intro done kept s3 s4 e h1 h2 h3;have hin:∀v∈kept,v∈N.ts:=λv hv=>o1.mem_iff.mp (by rw[←e];exact fK _^h1 v hv);have hkl:=sub_len h2 (Bo ok.trise) hin;have hu:u∈N.ts:=o1.mem_iff.mp^by rw[←e];exact eN _ Re
   have hud:u∉done:=by
    rw[←e,fj]at ndo;exact λz=>ndo.2.2 u z u Re rfl
   have e':(done++[u])++rest=ord:=by rw[gW];exact e
   let#[m1,m2,_]:=ok.tin u hu;rw[Jb]at h3;have keep:F_ (sub N kept) t b u=o_->∀s4',(Rz 2 "list" FX^AE (AA 3) AS) {nx:=Bj (Ax 3) (AZ (A2 4^Kz (AY Cq^AD (Bg^Ar 2)^AD (AL^AU Au (AA 3)^wC^D.int 0) AR)^AU Au (AA 3)^wC^D.int 1)
 (BG (Ig (Ab^AU (Jk o_) (AA 4)^wC D.non)^Ab^AU (f2 λi j=>D.bl (decide (j<i))) (AU DH (AA 4)^AU Au (AA 1)^wC^D.int 1)^AU DH (AU Au (AA 3)^wC^D.int 2)^AU Au (AA 1)^wC^D.int 0) (Rz 2 "list" FX^AE (AA 3) AS) Aw)) {EE Pd with nx:=Av (BA^AE (AU Au (AA 0)^wC^D.int 0)^AE (B0 Bt^AE (B0 G2^AE (Ar 2) AS) AS) AS)^EE Pd}^rest.map As,rt:=Pd} n [.sh^enc N,.sh^.tup [.int t,.int b],.ow^.lst^kept.map As,.sh^As u,s4']:=λc s4'=>by
    rw[c,if_neg^by cbv]at h3;refine#[_,rfl,rfl,_,_,rfl,rfl,by rw[Ev];lk,?_]
    have:=ih (done++[u]) (kept++[u]) (.sh^As u) s4' e' (λv hv=>by
     rcases eM.mp hv with hv|hv
     .exact fK _^h1 v hv
     .exact eN _ hv) (by
     rw[fj];exact#[h2,eQ.mpr #[ei,fF],λx hx y hy z=>hud^by rw[←Rs.mp hy,←z];exact h1 x hx]) h3
    rw[fI]at this;exact this
   refine#[_,AH (j:=0) rfl,sub N kept,u.a,_,kept,rfl,rfl,λv=>#[λhv=>sub_mem.mpr #[hin v hv,hv],λhv=>(sub_mem.mp hv).2],L0 okn kept,m1,λks ds K M T=>?_];refine#[ks,ds,rfl,_,AH (j:=1) rfl,_,A7 u.b,?_];rw[XH M];have hf:=T.far u.b;cases ek:K u.b with
   | none=>
    rw[ek]at hf;refine#[rfl,?_]
    exact keep (by
     rw[fZ];intro z;let#[d,hd,_]:=nearB_iff.mp z;exact hf d hd.1) _
   | some d=>
    rw[ek]at hf
    have en:F_ (sub N kept) t b u=decide (d*b<=u.len*t):=by
     rw[fC,nearB_iff,decide_eq_true_eq];constructor
     .rintro⟨d',hd',h2⟩
      rw[Least.unique (show Least (sub N kept) u.a u.b d from hf) hd'];exact h2
     .intro h2
      exact#[d,hf,h2]
    refine#[rfl,?_];refine#[_,AH (j:=1) rfl,.inr #[by lk,by lk],_,AH (j:=2) rfl,_,AH (j:=0) rfl,.inr #[by lk,by lk],?_];show if decide (u.len*t<d*b)=n_ then _ else _
    by_cases c:u.len*t<d*b
    .rw[decide_eq_true c]
     exact EC^keep (by rw[en];exact decide_eq_false^by lk) _
    .rw[decide_eq_false c]
     rw[en,decide_eq_true^by lk,if_pos rfl]at h3;exact Ck^ih (done++[u]) kept _ _ e' (λv hv=>fK _^h1 v hv) h2 h3
 exact go ord [] [] _ _ rfl (λu h=>by cases h) fF rfl
end
end Nt
namespace Dp
open L2
end Dp
namespace Nt
open L2 Dp
end Nt
namespace L2
open AutoSeq1 (wpAny_loadPart')
structure dM (κ:Bool) (e it a:Ch) (k:Nat) (h:eK):Prop where
 e:∃old,IsEnum h e it (k:Int) old
 i:ItAt κ h it a k
end L2
namespace Dp
open L2
end Dp
namespace L2
end L2
namespace Dp
open L2
end Dp
namespace Nt
open L2 Dp
end Nt
namespace Dp
open L2
section
variable {X:Cx}{pos:Pos}
def PP:DW:=λn _ P=>P (.dic [] []) n
def Vz:DE X (.Dict [] [] pos) .fr PP:=by
 refine#[_,JN,λC M H n ρ Z P Q R w q=>λp hp=>?_];have g:Grow H^Aq H p^.dK []:=Am hp;exact q _ _ (.dic [] []) n g.ext (R.feed.grow g) #[p,rfl,hp,[],AM,rfl,rfl] w
end
end Dp
namespace L2
end L2
namespace Dp
open L2
section
variable {a:Expr}
mutual
theorem At.frz{K:Frag}{M:Ch->Prop}{H:Hp}{a:Ch}{f:Ch->Obj}{kvs:p_ (Key×V)}(ha:H a=P3^.dK kvs):∀{d:D}{v:V},E7 d=n_->At K M H d v->At K M (FV H [a] f) d v
 |.non,v,_,h=>h
 |.bl b,v,_,h=>h
 |.int i,v,_,h=>h
 |.str x,v,_,h=>h
 |.tup ds,v,hn,h=>by
  let#[b,vs,e,n2,hs]:=h;refine#[b,vs,e,?_,Ats.frz ha hn hs];unfold NdT at n2 ⊢;rw[DD λz=>by rw[Rs.mp z,ha]at n2;cases n2];exact n2
 |.lst ds,v,hn,h=>by
  let#[b,vs,e,#[n1,n2],hs]:=h;refine#[b,vs,e,#[n1,?_],Ats.frz ha hn hs];rw[DD λz=>by rw[Rs.mp z,ha]at n2;cases n2];exact n2
 |.dic _ _,v,hn,h=>by cases hn
 |.fdi _ _,v,hn,h=>by cases hn
 |.dit _ _,v,hn,h=>by cases hn
 |.ob _,v,hn,h=>by cases hn
theorem Ats.frz{K:Frag}{M:Ch->Prop}{H:Hp}{a:Ch}{f:Ch->Obj}{kvs:p_ (Key×V)}(ha:H a=P3^.dK kvs):∀{ds:p_ D}{vs:p_ V},C2 ds=n_->Ats K M H ds vs->Ats K M (FV H [a] f) ds vs
 |[],vs,_,h=>h
 |d::ds,vs,hn,h=>by
  let#[v,r,e,h1,h2]:=h;have hn:(E7 d&&C2 ds)=n_:=hn;rw[eh]at hn;exact#[v,r,e,At.frz ha hn.1 h1,Ats.frz ha hn.2 h2]
end
end
def Dx:p_^p_ Key->p_ D->p_ Key->q_ D
 |k0::ks,d::ds,k=>if k0=k then P3 d else Dx ks ds k
 |_,_,_=>m_
def OP:p_ D->q_^p_ Key
 |[]=>P3 []
 |d::ds=>match keyOf d,OP ds with
  |some k,P3 ks=>P3 (k::ks)
  |_,_=>m_
def keysOf:D->q_^p_ Key
 |.tup ds=>OP ds
 |_=>m_
section
variable {K:Frag}{X:Cx}
theorem Nb{M:Ch->Prop}{H:Hp}{k:p_ Key}:∀{ks:p_^p_ Key}{ds:p_ D}{vs:p_ V},Ats K M H ds vs->
  match Dx ks ds k with
  |some z=>∃v,CW (ks.zip vs) k=P3 v/\At K M H z v
  |none=>CW (ks.zip vs) k=m_
 |[],ds,vs,h=>by unfold Dx;exact rfl
 |k0::ks,[],vs,h=>by cases h;exact rfl
 | k0::ks,d::ds,vs,h=>by
  let#[v,r,rfl,h1,h2]:=h;have ih:=Nb (k:=k) (ks:=ks) h2;unfold Dx
  by_cases e:k0=k
  .rw[if_pos e]
   refine#[v,?_,h1];show CW ((k0,v)::ks.zip r) k=P3 v;rw[C4 e]
  .rw[if_neg e]
   have:CW ((k0,v)::ks.zip r) k=CW (ks.zip r) k:=C5 e
   rw[show(k0::ks).zip (v::r)=(k0,v)::ks.zip r from rfl,this];exact ih
def VQ{M:Ch->Prop}{H:Hp}{d:D}{v:V}{k:Key}(e:keyOf d=P3 k)(h:At K M H d v):v=kV k:=by
 cases d with
 |int i=>cases e;exact h
 |str x=>cases e;exact h.1
 |_=>cases e
theorem OO{M:Ch->Prop}{H:Hp}:∀{ds:p_ D}{vs:p_ V}{ks:p_ Key},OP ds=P3 ks->Ats K M H ds vs->vs=ks.map kV
 |[],vs,ks,e,h=>by cases e;exact h
 | d::ds,vs,ks,e,h=>by
  let#[v,r,rfl,h1,h2]:=h;unfold OP at e;cases c1:keyOf d with
  |none=>rw[c1]at e;cases e
  | some k=>
   cases c2:OP ds with
   |none=>rw[c1,c2]at e;cases e
   |some k2=>
    rw[c1,c2]at e;cases e;rw[OO c2 h2,VQ c1 h1];rfl
def Gx{U M:Ch->Prop}{H:Hp}{d:D}{v:V}{k:p_ Key}(e:keysOf d=P3 k)(h:AtT K U M H d v):∃b,v=.ref b/\H b=P3^.tup^k.map kV:=by
 cases d with
 |tup ds=>
  let#[a,vs,rfl,ha,hs]:=h.tup;refine#[a,rfl,?_];rw[←OO e hs];exact ha
 |_=>cases e
def Jo{U M:Ch->Prop}{H:Hp}{x:V}{ks:p_^p_ Key}{ds:p_ D}(h:AtT K U M H (.dit ks ds) x):∃a vs,x=.ref a/\Rd H a^.dT^ks.zip vs/\Ats K M H ds vs:=by
 let#[a,vs,rfl,_,ha,_,hs]:=h;exact#[a,vs,rfl,.inl ha,hs]
def Xa{H:Hp}{a b:Ch}{kvs:p_ (p_ Key×V)}{k:p_ Key}(e:Rd H a^.dT kvs)(eb:H b=P3^.tup^k.map kV):DGet H a (.ref b)^CW kvs k:=.inr #[kvs,k,b,e,rfl,eb,rfl]
def Vi(d e:D)(P:D->Prop):Prop:=∃ks ds k z,d=.dit ks ds/\keysOf e=P3 k/\Dx ks ds k=P3 z/\P z
def Zz:Er K .sh Uh Vi:=λU M H d e x y P Q dom vM hx hy w q=>by
 let#[ks,ds,k,z,rfl,he,hz,w]:=w;let#[a,vs,rfl,ha,hs]:=Jo hx;let#[b,rfl,eb]:=Gx he hy;have h:=Nb (k:=k) (ks:=ks) hs;rw[hz]at h;let#[v,h1,h2]:=h;exact#[a,v,rfl,by rw[←h1];exact Xa ha eb,q v H z .refl h2 w]
variable {a b:Expr}{zU zQ:Kd}{wa wb:DW}{pos:Pos}
def Xb{k:Nat}(hr:Room k X.A)(ha:DE X a zU wa)(hb:DE X b zQ wb)(hs:Xt b:=by intro _ _;rfl):DE X (.Subscript a b pos) .sh^AU Vi wa wb:=by
 let#[ta,ha1,ha2]:=ha;let#[tb,hb1,hb2]:=hb;exact#[C3 Uh ta tb,II (GD hr) ha1 hb1 hs,λC M H n ρ Z P Q R w q=>Di Zz ha2 hb2 C M H n ρ Z P Q R w q]
end
def Jf(ks:p_^p_ Key)(k:p_ Key):Bool:=ks.any λk0=>decide (k0=k)
def hasK_iffU{ks:p_^p_ Key}{k:p_ Key}:Jf ks k=n_↔k∈ks:=by
 unfold Jf;rw[hV];exact#[fun#[x,hx,e]=>by rw[←of_decide_eq_true e];exact hx,λh=>#[k,h,decide_eq_true rfl]]
def D6(ks:p_^p_ Key)(k:p_ Key):p_^p_ Key:=if Jf ks k=n_ then ks else ks++[k]
def CD{α:Type}(ks:p_^p_ Key)(ds:p_ α)(k:p_ Key)(d:α):p_ α:=if Jf ks k=n_ then gL (λk0 d0=>if k0=k then d else d0) ks ds else ds++[d]
def V7{ks:p_^p_ Key}{vs:p_ V}(hl:ks.length=vs.length)(k:p_ Key):((ks.zip vs).any λkv=>decide (kv.1=k))=Jf ks k:=by
 rw[fC,hV,hasK_iffU];constructor
 .rintro⟨⟨a,b⟩,hm,e⟩
  have e:a=k:=of_decide_eq_true e;rw[←e];exact(iW hm).1
 .intro h
  let#[i,hi,e]:=iT.mp h;refine#[(ks[i],vs[i]'(by lk)),?_,by rw[e];exact decide_eq_true rfl];exact iT.mpr #[i,by rw[gI];lk,by rw[List.getElem_zip]]
def SW{ks:p_^p_ Key}{vs:p_ V}(hl:ks.length=vs.length)(k:p_ Key)(v:V):putK (ks.zip vs) k v=(D6 ks k).zip^CD ks vs k v:=by
 unfold putK D6 CD;rw[V7 hl]
 by_cases h:Jf ks k=n_
 .rw [if_pos h,if_pos h,if_pos h]
  have go:∀(ks:p_^p_ Key) (vs:p_ V),((ks.zip vs).map λkv=>if kv.1=k then(kv.1,v)else kv)=ks.zip^gL (λk0 d0=>if k0=k then v else d0) ks vs:=by
   intro ks
   induction ks with
   |nil=>intro vs;rfl
   | cons a ks ih=>
    intro vs;cases vs with
    |nil=>rfl
    |cons b vs=>
     show(if a=k then(a,v)else(a,b))::_=(a,if a=k then v else b)::_;exact List.cons_eq_cons.mpr #[by split <;>rfl,ih vs]
  exact go ks vs
 .rw[if_neg h,if_neg h,if_neg h,List.zip_append hl]
  rfl
theorem Ats.putU{K:Frag}{M:Ch->Prop}{H:Hp}{k:p_ Key}{d:D}{v:V}(hd:At K M H d v):∀{ks:p_^p_ Key}{ds:p_ D}{vs:p_ V},Ats K M H ds vs->Ats K M H (gL (λk0 d0=>if k0=k then d else d0) ks ds)^gL (λk0 d0=>if k0=k then v else d0) ks vs
 |[],ds,vs,h=>rfl
 |a::ks,[],vs,h=>by cases(show vs=[]from h);rfl
 |a::ks,e::ds,vs,h=>by
  let#[u,r,rfl,h1,h2]:=h;refine#[_,_,rfl,?_,Ats.putU hd h2];show At K M H (if a=k then d else e) (if a=k then v else u)
  by_cases e1:a=k
  .rw[if_pos e1,if_pos e1];exact hd
  .rw[if_neg e1,if_neg e1];exact h1
def Ats.putXU{K:Frag}{M:Ch->Prop}{H:Hp}{k:p_ Key}{d:D}{v:V}{ks:p_^p_ Key}{ds:p_ D}{vs:p_ V}(hd:At K M H d v)(h:Ats K M H ds vs):Ats K M H (CD ks ds k d)^CD ks vs k v:=by
 unfold CD
 split
 .exact Ats.putU hd h
 .exact h.append^Ats.one hd
def Uo{α:Type}{ks:p_^p_ Key}{ds:p_ α}{k:p_ Key}{d:α}(hl:ks.length=ds.length):(D6 ks k).length=(CD ks ds k d).length:=by
 unfold D6 CD
 split
 .rw[List.length_zipWith];lk
 .rw[eV,eV];show ks.length+1=ds.length+1;lk
section
variable {X:Cx}{pos:Pos}
def PL:DW:=λn _ P=>P (.dit [] []) n
def Oc:DE X (.Dict [] [] pos) .fr PL:=by
 refine#[_,U1,λC M H n ρ Z P Q R w q=>λp hp=>?_];have g:Grow H^Aq H p^.dT []:=Am hp;exact q _ _ (.dit [] []) n g.ext (R.feed.grow g) #[p,rfl,hp,[],AM,rfl,rfl] w
end
end Dp
namespace L2
def DRaw(h:eK)(a:Ch)(es:Array h7)(ep:Nat):Prop:=∃o,h.get? a=P3 o/\o.ExactDict/\o.data=.dict es ep
section
variable {P:Program}{w:World}{A:Around}{E:Value->Shared->Prop}{s:Shared}{d t:Addr}{es:Array DictEntry}{ep i:Nat}
def DRaw.ty(x:DRaw s.heap d es ep):s.TypeIs (.ref d) "dict":=let #[o,h1,h2,_]:=x;#[o,h1,h2.1]
def DRaw.lt{h:eK}(x:DRaw h d es ep):d<h.objs.size:=let #[_,h1,_]:=x;Tk h1
def DRaw.to{h h':eK}(x:DRaw h d es ep)(k:∀o,h.get? d=P3 o->h'.get? d=P3 o):DRaw h' d es ep:=let #[o,h1,h2]:=x;#[o,k o h1,h2]
def UY{Q:Db->Go->Prop}(lo:(d==sysModules)=o_)(x:DRaw s.heap d es ep)
  (q:Q (.ref s.heap.objs.size) {s with heap:=s.heap.push {cls:=.type "dict_keyiterator",data:=.fields #[ .ref d,.int 0 0,.int es.size 0,.int ep 0]}}):wpAny (model P w) A (pyIter^.ref d) Q E s:=by
 have T:=x.ty;let#[o,h1,h2,h3]:=x;refine wpAny_pyIter_slot T F.slot_dict_iter^ft F.slot_dict_iter T F.entry_dict_iter ?_^F.args_dict_iter_1 _;unfold gs.«dict.__iter__»;refine Cn ?_
 unfold Builtin.Dict.dictSlotNone;refine Cn^jK T ?_
 show wpAny (model P w) _ (pure^eJ d) _ _ s;refine On ?_
 show wpAny (model P w) _ (jL d >>=_) _ _ s;unfold jL
 rw[if_neg^by rw[lo];decide];refine Cn^On^Cn^gF h1 h3^Cn^jX h1 h3 ?_
 refine Cn^fi^On #[_,rfl,"dict_keyiterator",_,#[_,TM _ rfl,rfl],gD.lookup,?_];simpa [rawInt]using q
def UZ{Q:q_ Db->Go->Prop}(x:s.heap.IsKeyIter t d i es.size ep)(y:DRaw s.heap d es ep)(hi:i<es.size)
  (q:∀h',h'.IsKeyIter t d (i+1) es.size ep->gj t s.heap h'->Q (P3 es[i].key) {s with heap:=h'}):wpAny (model P w) A (pyNext^.ref t) Q E s:=by
 have T:=x.typeIs;let#[o,g1,g2,g3]:=x;let#[od,h1,h2,h3]:=y;unfold pyNext;refine Cn^jD^fS (name:=fX "__next__") T gD^ft gD T jc ?_^jY _
 refine Cn^On^Cn^Cn ?_
 first|refine Cn^gY T^On ?_|refine Cn^hX T^On ?_
 refine Cn^wpAny_fieldsOf g1 g3 ?_;have ow:ji "dict_keyiterator"=o_:=by cbv
 simp only[ow,fG,if_false];show wpAny (model P w) _ (if(eJ d==ej)=n_ then _ else _) _ _ s;rw[if_neg (show ¬(eJ d==ej)=n_ by intro z;cases z)];refine Cn^On^Cn^gF h1 h3 ?_
 rw[if_neg^by simp];refine Cn^On^Cn^jX h1 h3 ?_
 rw[if_neg^by simp];refine On ?_
 simp only[show ¬(i:Int)<0 by lk,if_false,gz,g9 hi];refine Cn ?_
 first|refine Cn^gY T^On ?_|refine Cn^hX T^On ?_
 refine Cn^wpAny_isOneOf_keyiter T ?_;show wpAny (model P w) _ (setField (.ref t) 1^rawInt ((i:Int)+1) >>=_) _ _ s
 refine Cn^jg g1 g3 (by simp) ?_;have g':(s.heap.update t (Obj.mapFields (·.setIfInBounds 1^rawInt ((i:Int)+1)))).IsKeyIter t d (i+1) es.size ep:=#[_,fm _ g1^Obj.isFreed_of_fields^ij g3 _,(Obj.cls_mapFields ..).trans g2,by rw[ij g3];simp[rawInt]];refine Cn (fc (Cn (wpAny_isOneOf_keyiter (s:={s with heap:=s.heap.update t (Obj.mapFields (·.setIfInBounds 1^rawInt ((i:Int)+1)))}) g'.typeIs ?_)));show wpAny (model P w) _ (pure es[i].key) _ _ _;exact On^On #[_,rfl,On^q _ g' (ge ..)]
def We{Q:q_ Db->Go->Prop}(hh:A.handled=m_)(x:s.heap.IsKeyIter t d i es.size ep)(y:DRaw s.heap d es ep)(hi:es.size<=i)
  (q:∀h',kY t s.heap h'->Q m_ {s with heap:=h'}):wpAny (model P w) A (pyNext^.ref t) Q E s:=by
 have T:=x.typeIs;let#[o,g1,g2,g3]:=x;let#[od,h1,h2,h3]:=y;unfold pyNext;refine Cn^jD^fS (name:=fX "__next__") T gD^ft gD T jc ?_^jY _
 refine Cn^On^Cn^Cn ?_
 first|refine Cn^gY T^On ?_|refine Cn^hX T^On ?_
 refine Cn^wpAny_fieldsOf g1 g3 ?_;have ow:ji "dict_keyiterator"=o_:=by cbv
 simp only[ow,fG,if_false];show wpAny (model P w) _ (if(eJ d==ej)=n_ then _ else _) _ _ s;rw[if_neg (show ¬(eJ d==ej)=n_ by intro z;cases z)];refine Cn^On^Cn^gF h1 h3 ?_
 rw[if_neg^by simp];refine Cn^On^Cn^jX h1 h3 ?_
 rw[if_neg^by simp];refine On ?_
 simp only[show ¬(i:Int)<0 by lk,if_false,gz,kd hi];refine Cn ?_
 first|refine Cn^gY T^On ?_|refine Cn^hX T^On ?_
 show wpAny (model P w) _ (setField (.ref t) 0 .none >>=_) _ _ s;refine Cn^jg g1 g3 (by simp) ?_
 show wpAny (model P w) _ (newExc (.type "StopIteration") [] >>=_) _ _ _;refine Cn ?_
 simp only[newExc,newTuple];refine Cn^fi ?_^by size_fits
 refine Cn (m:=firstArgMember _ _) (kZ (a:=ej) (by first|rfl|(simp only[firstArgMember];rfl))^fi ?_^by size_fits);simp only[raiseNew];refine Cn^wpAny_handled ?_
 rw[show A.in1.handled=m_ from hh];refine Cn^On^wpAny_throw ?_;refine Cn^jG (T:="StopIteration") (b:=n_) #[_,TM _ rfl,rfl] isSubtype_stop ?_
 exact On^q _^((ge ..).extBut.push _).push _
def SV(hh:A.handled=m_)(I d:Ch)(hne:d≠I)(es:Array h7)(ep:Nat):Walks P w A I [I,d] [I] es.size (λi v=>∃e,es[i]?=P3 e/\v=e.key) (λi h=>h.IsKeyIter I d i es.size ep/\DRaw h d es ep) where
 sub:=λb hb=>by rw[Rs.mp hb];exact Re
 frame:=λ_ _ _ st hk=>#[st.1.at λo e=>hk I (by simp) o e,st.2.to λo e=>hk d (by simp) o e]
 item:=λi s Q E hi st hQ=>UZ st.1 st.2 hi λh' it' sb=>hQ _ h' s.toks #[_,g9 hi,rfl] #[it',st.2.to λo e=>sb.extBut d o hne e] λb o hb e=>sb.extBut b o (λh=>hb^by simp[h]) e
 done:=λs Q E st hQ=>We hh st.1 st.2 (Op _) λh' he=>hQ h' s.toks λb o hb e=>he b o (λh=>hb^by simp[h]) e
 self:=λ_ _ _ _ st hQ=>wpAny_pyIter_keyiter st.1 hQ
def Qz(lo:(d==sysModules)=o_):PySem.W.KdlSrc P w "dict" d d es.size (λi v=>∃e,es[i]?=P3 e/\v=e.key) (λh=>DRaw h d es ep) where
 type:=λ_ x=>x.ty
 there:=λ_ x=>#[x.lt,x.lt]
 keep:=λ_ _ x k=>x.to λo e=>k d (.inl rfl) o e
 notList:=by cbv
 notTuple:=by cbv
 hint:=λ_ _ _ _ x q=>PySem.W.kdl_hint_dict x.ty q
 iter:=λ_ _ hh x=>#[_,_,(λ_ _ q=>UY lo x q),SV hh _ d (eI x.lt) es ep,#[#[_,TM _ rfl,rfl,rfl],x.to λo e=>FM _ e]]
end
open PySem.W
def RJ(k:Key):kOf k=kV k:=by cases k <;>rfl
def XD(ks:p_ Key):ks.map kOf=ks.map kV:=gK λk _=>RJ k
section
variable {X:Cx}
def IP{P:eT}{w:eY}{H:Hp}{h:eK}{d:Ch}{kvs:p_ (p_ Key×V)}(ok:HOk P w H h)(hd:Rd H d^.dT kvs):
  ∃(o:Obj) (es:Array h7) (ep:Nat) (as:p_ Ch),h.get? d=P3 o/\o.ExactDict/\o.data=.dict es ep/\as.length=kvs.length/\es.size=kvs.length /\
   (∀(i:Nat) (e:h7),es[i]?=P3 e->∃a,as[i]?=P3 a/\e.key=.ref a)/\∀(i:Nat) (a:Ch) (p:p_ Key×V),as[i]?=P3 a->kvs[i]?=P3 p->H a=P3^.tup^p.1.map kV:=by
 let#[_,_,xs,r,o,es,ep,h1,h2,h3,h4,h5,h6]:=DK ok hd
 have hl:kvs.length=xs.length:=by
  have:∀{l:p_ (p_ Key×V)}{m:p_ (p_ Key×Ch×Db)},KT H l m->l.length=m.length:=λq=>q.length
  exact this r
 have hes:es.size=xs.length:=by rw[←fD,h4,Ev]
 refine#[o,es,ep,xs.map λx=>x.2.1,h1,h2,h3,by rw[Ev,hl],by rw[hes,hl],λi e he=>?_,λi a p ha hp=>?_]
 .rw[←iK,h4,ZB]at he
  let#[x,hx,rfl]:=eq.mp he;exact#[x.2.1,by rw[ZB,hx];rfl,rfl]
 .rw[ZB]at ha
  let#[x,hx,rfl]:=eq.mp ha
  have:=JP r hp hx
  exact this.2.1
def Uc:p_ V->Hp->VK->Prop:=λxs H Q=>∃(d:Ch) (kvs:p_ (p_ Key×V)),xs=[.ref d]/\Rd H d^.dT kvs/\kvs.length<64/\(∀x∈kvs.map (·.1),∀y∈kvs.map (·.1),Bm x y=n_)/\(∀x∈kvs.map (·.1),x≠[]) /\
 ∀(as:p_ Ch) (ix:p_ Nat) (l:Ch),as.length=kvs.length->(∀(i:Nat) (a:Ch) (p:p_ Key×V),as[i]?=P3 a->kvs[i]?=P3 p->H a=P3^.tup^p.1.map kV)->Hf (kvs.map (·.1)) ix->H l=m_->
  Q (.ref l) (Aq H l^.lst^ix.map λi=>(as.map V.ref).getD i .non)
def Jy(hc:X.calm=n_):CallR X (.builtin "sorted") Uc:=by
 intro zG s Z H xs us Q I r h;let#[d,kvs,rfl,hd,h64,hsm,hne,q]:=h;let#[u,rfl,rx]:=vals1 r;cases rx;let#[o,es,ep,as,g1,g2,g3,g4,g5,g6,g7]:=IP I.hok hd;have lo:=(DK I.hok hd).2.1;refine CY (kw:=[]) (args_sorted1 _) (λx=>args_list_sort _)^PySem.W.kdu_collect (Qz (P:=X.prog) (w:=X.w) (es:=es) (ep:=ep) lo) (show X.A.in1.handled=m_ from by simp[I.ok.hd hc]) #[o,g1,g2,g3] (by rw[fA];lk) λh' tk acc hkp hacc=>#[by rw[fD,hacc.1,fA];lk,?_];have I1:Inv X zG Z H {s with heap:=h',toks:=tk}:=I.kept (t':=tk) hkp
 have hv:acc.toList=as.map eJ:=by
  refine j7 λi=>?_;cases hx:acc.toList[i]? with
  |some v=>
   let#[e,he,rfl]:=hacc.2 i v (by rw[←iK];exact hx);let#[a,ha,hk]:=g6 i e he;rw[ZB,ha,hk];rfl
  |none=>
   have:acc.toList.length<=i:=kA.mp hx
   rw[fD,hacc.1]at this;rw[iM^by rw[Ev];lk]
 rw[hv];refine K8 I1 (Gd as) (by rw[Ev];lk) (keys:=kvs.map (·.1)) #[by rw[Ev,Ev];exact g4,λi ns e=>?_,hsm,hne] λix l ho hl=>q as ix l g4 g7 ho hl;rw[ZB]at e;let#[p,hp,rfl]:=eq.mp e;have hil:i<as.length:=by rw[g4];exact(Uf.mp hp).1
 refine#[as[i],by rw[ZB,No hil];rfl,?_];rw[XD];exact SqT.of^g7 i _ p (No hil) hp
end
end L2
namespace Dp
open L2
def tupK(k:p_ Key):D:=.tup^k.map YY
theorem ON{K:Frag}{M:Ch->Prop}{H:Hp}:∀{k:p_ Key},(∀x∈k,De x)->Ats K M H (k.map YY)^k.map kV
 |[],_=>rfl
 |x::k,h=>#[kV x,k.map kV,rfl,by rw[←RJ];exact V1^h x Re,ON λy hy=>h y^TW _ hy]
theorem Ik{K:Frag}{M:Ch->Prop}{H:Hp}:∀{ks:p_^p_ Key}{as:p_ Ch},as.length=ks.length->(∀k∈ks,∀x∈k,De x)->(∀(i:Nat) (a:Ch) (k:p_ Key),as[i]?=P3 a->ks[i]?=P3 k->H a=P3^.tup^k.map kV)->Ats K M H (ks.map tupK)^as.map V.ref
 |[],[],_,_,_=>rfl
 |k::ks,a::as,hl,hf,h=>#[.ref a,as.map V.ref,rfl,#[a,k.map kV,rfl,h 0 a k rfl rfl,ON^hf k Re],Ik (by simpa using hl) (λk hk=>hf k^TW _ hk) λi a' k' e1 e2=>h (i+1) a' k' (by simpa using e1)^by simpa using e2]
section
variable {X:Cx}
def Mp(ds:p_ D)(P:D->Prop):Prop:=∃(ks:p_^p_ Key) (es:p_ D),ds=[.dit ks es]/\ks.length=es.length/\ks.length<64/\(∀x∈ks,∀y∈ks,Bm x y=n_)/\(∀x∈ks,x≠[])/\(∀k∈ks,∀x∈k,De x) /\
 ∀ks':p_^p_ Key,ks'.Perm ks->ks'.Pairwise (λa b=>Bb b a=o_)->P^.lst^ks'.map tupK
def U6{ks:p_^p_ Key}{ix:p_ Nat}(h:Hf ks ix):(ix.map λi=>ks.getD i []).Perm ks/\(ix.map λi=>ks.getD i []).Pairwise (λa b=>Bb b a=o_):=by
 let#[h1,h2]:=h;have il:ix.length=ks.length:=by rw[h1.length_eq,i9]
 constructor
 .have:=h1.map λi=>ks.getD i []
  have e:(e8 ks.length).map (λi=>ks.getD i [])=ks:=by
   apply kI
   .simp
   .intro i h1 h2
    simp[h2]
  rw[e]at this;exact this
 .rw[j9]
  intro i j hi hj hij;rw[Ev]at hi hj
  have:=h2 i j (jN hij)^by lk
  rw[kJ,kJ];rw[eU (l:=ix),No hj,eU (l:=ix),No hi]at this;exact this
def Rm:CA X.K .fr Uc Mp:=by
 intro U M H ds vs P Q dom vM hp w q;let#[ks,es,rfl,hl,h64,hsm,hne,hf,w]:=w;let#[v,rfl,hx]:=Cw hp;let#[a,us,rfl,ha,hs]:=Jo hx;have hul:=hs.length;have ez:(ks.zip us).map (·.1)=ks:=List.map_fst_zip (by lk);have ezl:(ks.zip us).length=ks.length:=by rw[gI];lk
 refine#[a,_,rfl,ha,by lk,by rw[ez];exact hsm,by rw[ez];exact hne,λas ix l has hat ho hlf=>?_];rw[ez]at ho;let#[o1,o2]:=U6 ho
 have hA:Ats X.K M H (ks.map tupK)^as.map V.ref:=Ik (by lk) hf λi b k e1 e2=>by
  have hi:i<(ks.zip us).length:=by rw[ezl];exact(Uf.mp e2).1
  have:=hat i b _ e1^No hi
  rw[List.getElem_zip]at this;let#[_,e3]:=Uf.mp e2;rw[e3]at this;exact this
 have e4:(ix.map λi=>(ks.map tupK).getD i .non)=(ix.map λi=>ks.getD i []).map tupK:=by
  rw[fY];refine gK λi hi=>?_;have hil:i<ks.length:=gO.mp^ho.1.mem_iff.mp hi;show(ks.map tupK).getD i .non=tupK^ks.getD i [];rw[eU,eU,ZB,No hil];rfl
 have:=w _ o1 o2
 rw[←e4]at this;exact q _ _ (.lst _) (Am hlf) (Bx hlf^hA.pick ix) this
end
end Dp
namespace L2
section
variable {prog:Program}{w:World}{A:Around}{E:Value->Shared->Prop}{s:Shared}{x y:Str}{t u:Tok}
def T8(x y:Str)(i:Nat):Str:=if i=0 then x else y
def Qn{i:Nat}{v:Db}(h:(#[ g_ x t,g_ y u]:Array Db)[i]?=P3 v):∃k,v=.str (T8 x y i) k:=by
 match i with
 |0=>exact#[t,(eE h).symm]
 |1=>exact#[u,(eE h).symm]
 |i+2=>simp at h
def TN:CmpOf prog w A .Lt (λi v=>(#[ g_ x t,g_ y u]:Array Db)[i]?=P3 v) (λi j=>decide ((T8 x y i).cps.toList<(T8 x y j).cps.toList)):=λi j vi vj s Q E hi hj h=>by
 let#[a,rfl]:=Qn hi;let#[b,rfl]:=Qn hj;exact richCompare_gives (op:=.Lt) (io s _ a) (io s _ b) PySem.F.slot_str_lt PySem.F.entry_str_lt (PySem.F.args_str_lt_2 _ _) (gives_str_lt _ _ a b) (λe=>nomatch e) h
def TQ:CmpOf prog w A .Gt (λi v=>(#[ g_ x t,g_ y u]:Array Db)[i]?=P3 v) (λi j=>decide ((T8 x y j).cps.toList<(T8 x y i).cps.toList)):=λi j vi vj s Q E hi hj h=>by
 let#[a,rfl]:=Qn hi;let#[b,rfl]:=Qn hj;exact richCompare_gives (op:=.Gt) (io s _ a) (io s _ b) PySem.F.slot_str_gt PySem.F.entry_str_gt (PySem.F.args_str_gt_2 _ _) (gives_str_gt _ _ a b) (λe=>nomatch e) h
def T9{n c:Nat}(h:c∈[n+1,n]):c<n+1+1:=by
 simp only[XV,ei,or_false]at h;lk
def Nd{bt:Nat->Nat->Bool}{v:Db}(h:(#[ g_ x t,g_ y u]:Array Db)[argBest bt 1]?=P3 v):v=if bt 1 0=n_ then .str y u else .str x t:=by
 have e:argBest bt 1=if bt 1 0=n_ then 1 else 0:=rfl
 rw[e]at h;cases c:bt 1 0 with
 |true=>rw[c]at h;exact(eE h).symm
 |false=>rw[c]at h;exact(eE h).symm
def Ss{Q:Db->Go->Prop}(hh:A.handled=m_)(h:∀h' tk,(∀c o,s.heap.get? c=P3 o->h'.get? c=P3 o)->Q (if decide (y.cps.toList<x.cps.toList)=n_ then .str y u else .str x t) {s with heap:=h',toks:=tk}):
  wpAny (model prog w) A (call (.builtin "min") [.str x t,.str y u]) Q E s:=by
 have hT:(s.heap.push {cls:=.type "tuple",data:=.seq #[ .str x t,.str y u]}).IsTuple s.heap.objs.size #[ .str x t,.str y u]:=#[_,TM _ rfl,rfl,0,rfl];refine call_min_two^f9 hT ?_;have z1:(s.heap.push {cls:=.type "tuple",data:=.seq #[ .str x t,.str y u]}).objs.size=s.heap.objs.size+1:=fW ..;refine#[_,[_,s.heap.objs.size],[_],_,_,_,_,rfl,Walks.tuple (A:=A.in1) hh _ s.heap.objs.size (by rw[z1];exact eI^gf _) #[ .str x t,.str y u],#[#[_,TM _ rfl,rfl,rfl],hT.push _],λc hc=>?_,by simp,TN,λv h' tk hP k=>?_]
 .rw[fW,z1];rw[z1]at hc;exact T9 hc
 .rw[Nd hP]
  refine h h' tk λc o e=>k c o (λm=>?_)^FM _^FM _ e;have l:=Tk e;rw[Rs.mp m,z1]at l;exact absurd l^ip.mpr^fR _
def Sv{Q:Db->Go->Prop}(hh:A.handled=m_)(h:∀h' tk,(∀c o,s.heap.get? c=P3 o->h'.get? c=P3 o)->Q (if decide (x.cps.toList<y.cps.toList)=n_ then .str y u else .str x t) {s with heap:=h',toks:=tk}):
  wpAny (model prog w) A (call (.builtin "max") [.str x t,.str y u]) Q E s:=by
 have hT:(s.heap.push {cls:=.type "tuple",data:=.seq #[ .str x t,.str y u]}).IsTuple s.heap.objs.size #[ .str x t,.str y u]:=#[_,TM _ rfl,rfl,0,rfl];refine call_max_two^f9 hT ?_;have z1:(s.heap.push {cls:=.type "tuple",data:=.seq #[ .str x t,.str y u]}).objs.size=s.heap.objs.size+1:=fW ..;refine#[_,[_,s.heap.objs.size],[_],_,_,_,_,rfl,Walks.tuple (A:=A.in1) hh _ s.heap.objs.size (by rw[z1];exact eI^gf _) #[ .str x t,.str y u],#[#[_,TM _ rfl,rfl,rfl],hT.push _],λc hc=>?_,by simp,TQ,λv h' tk hP k=>?_]
 .rw[fW,z1];rw[z1]at hc;exact T9 hc
 .rw[Nd hP]
  refine h h' tk λc o e=>k c o (λm=>?_)^FM _^FM _ e;have l:=Tk e;rw[Rs.mp m,z1]at l;exact absurd l^ip.mpr^fR _
end
section
variable {X:Cx}
def YE:p_ V->Hp->VK->Prop:=λxs H Q=>∃x y:Str,xs=[.str x,.str y]/\Q (.str (if decide (y.cps.toList<x.cps.toList)=n_ then y else x)) H
def YG:p_ V->Hp->VK->Prop:=λxs H Q=>∃x y:Str,xs=[.str x,.str y]/\Q (.str (if decide (x.cps.toList<y.cps.toList)=n_ then y else x)) H
def G6(hc:X.calm=n_):CallR X (.builtin "min") YE:=by
 intro zG s Z H xs us Q I r h;let#[x,y,rfl,q]:=h;let#[u,w',rfl,#[t,rfl],#[t',rfl]]:=vals2 r;refine Ss (I.ok.hd hc) λh' tk k=>#[_,H,I.kept k,?_,q];cases decide (y.cps.toList<x.cps.toList) <;>exact#[_,rfl]
def G7(hc:X.calm=n_):CallR X (.builtin "max") YG:=by
 intro zG s Z H xs us Q I r h;let#[x,y,rfl,q]:=h;let#[u,w',rfl,#[t,rfl],#[t',rfl]]:=vals2 r;refine Sv (I.ok.hd hc) λh' tk k=>#[_,H,I.kept k,?_,q];cases decide (x.cps.toList<y.cps.toList) <;>exact#[_,rfl]
end
end L2
namespace Dp
open L2
section
variable {K:Frag}
def OW(ds:p_ D)(P:D->Prop):Prop:=∃x y:Str,ds=[.str x,.str y]/\P^.str (if decide (y.cps.toList<x.cps.toList)=n_ then y else x)
def OX(ds:p_ D)(P:D->Prop):Prop:=∃x y:Str,ds=[.str x,.str y]/\P^.str (if decide (x.cps.toList<y.cps.toList)=n_ then y else x)
def Nc{U M:Ch->Prop}{H:Hp}{x y:Str}{vs:p_ V}(hp:Paired (λv d=>AtT K U M H d v) vs [.str x,.str y]):vs=[.str x,.str y]/\x.length<=sizeLine/\y.length<=sizeLine:=by
 cases hp with
 | cons r1 r2=>cases r2 with
  |cons r3 r4=>
   cases r4;let#[rfl,l1]:=r1.str;let#[rfl,l2]:=r3.str;exact#[rfl,l1,l2]
def QY:CA K .sh YE OW:=by
 intro U M H ds vs P Q dom vM hp w q;let#[x,y,rfl,w]:=w;let#[e,l1,l2]:=Nc hp;exact#[x,y,e,q _ H (.str _) .refl #[rfl,by split <;>assumption] w]
def QZ:CA K .sh YG OX:=by
 intro U M H ds vs P Q dom vM hp w q;let#[x,y,rfl,w]:=w;let#[e,l1,l2]:=Nc hp;exact#[x,y,e,q _ H (.str _) .refl #[rfl,by split <;>assumption] w]
end
end Dp
namespace L2
open PySem.W
end L2
namespace Dp
open L2
end Dp
namespace L2
open PySem.W
end L2
namespace Dp
open L2
end Dp
namespace Nt
open L2 Dp
def words26:p_ Str:=["a","aa","ab","abc","b","ba","bb","c","come","d","far","in","lay","m","n","near","out","place","q","r","tie","tree","x","xy","y","zzzzzzzz"]
def NT:W2:=λss n P=>ss=[]/\P (.lst^words26.map .str) n
def KH:W2:=λss n P=>∃m:Nat,ss=[.fd,.sh^.int m]/\m<=26/\2<=n.n/\∀xs:p_ Str,xs.length=m->(∀x∈xs,Ga x)->rising xs->P (.tup^xs.map .str) (n - 2)
def Lo:W2:=λss n P=>∃s:Int,ss=[.fd,.sh^.int s]/\0<=s/\s<=3/\1<=n.n/\∀r:Int,1<=r->r<=1000000->P (.int r) (n - 1)
def FF:Aa:=(AZ (A2 0^Cr^AE (wC^D.str "a")^AE (wC^D.str "aa")^AE (wC^D.str "ab")^AE (wC^D.str "abc")^AE (wC^D.str "b")^AE (wC^D.str "ba")^AE (wC^D.str "bb")^AE (wC^D.str "c")^AE (wC^D.str "come")^AE (wC^D.str "d")^AE (wC^D.str "far")^AE (wC^D.str "in")^AE (wC^D.str "lay")^AE (wC^D.str "m")^AE (wC^D.str "n")^AE (wC^D.str "near")^AE (wC^D.str "out") AS)
 (Av^AU BU (AA 0)^Cr^AE (wC^D.str "place")^AE (wC^D.str "q")^AE (wC^D.str "r")^AE (wC^D.str "tie")^AE (wC^D.str "tree")^AE (wC^D.str "x")^AE (wC^D.str "xy")^AE (wC^D.str "y")^AE (wC^D.str "zzzzzzzz") AS))
def EQ:Aa:=(AZ (A2 2^AY NT AR)
 (AZ (A2 3^AY BR^AD (A3 0)^AD (AL^wC^D.int 26) AR)
 (AZ (A2 4^AU Au (Cr^AE (wC^D.int 1)^AE (wC^D.int 3)^AE (wC^D.int 5)^AE (wC^D.int 7) AS)^AY BR^AD (A3 0)^AD (AL^wC^D.int 4) AR)
 (Av^B0 Bt^AE (B0 QJ^AE (B6 [P3 2,P3 3,P3 4,m_] (Tv^AE (AA 1) AS) (Ax 3) Hl^AU Au (AA 0)^AU (WJ (λ_ j=>0<j) λi j=>D.int (i % j)) (AU BU (AA 1)^AU DH (AA 2)^AA 3)^wC^D.int 26) AS) AS))))
def ER:Aa:=(AZ (BG (Ab^AU (IA o_) (AA 1)^wC^D.int 3) (Av^AU Dq (AU (WJ PC λi j=>D.int (i ^ j.toNat)) (wC^D.int 10)^wC^D.int 6)^AY BR^AD (A3 0)^AD (AL^wC^D.int 3) AR) Aw)
 (Av^AU BU (wC^D.int 1)^AY BR^AD (A3 0)^AD (AL^AU Au (Cr^AE (wC^D.int 3)^AE (wC^D.int 9)^AE (wC^D.int 60) AS)^AA 1) AR))
def Cb(i:Nat):Str:=words26.getD i "a"
def PH:∀i,i<26->Ga^Cb i:=by
 have h:∀i∈e8 26,1<=(Cb i).length/\(Cb i).length<=8/\∀c∈cs^Cb i,97<=c/\c<=122:=by decide +kernel
 exact λi hi=>h i^gO.mpr hi
def Rx:∀i j,i<26->j<26->Cb i=Cb j->i=j:=by
 have h:∀i∈e8 26,∀j∈e8 26,cs^Cb i=cs^Cb j->i=j:=by decide +kernel
 exact λi j hi hj e=>h i (gO.mpr hi) j (gO.mpr hj)^congrArg cs e
def Ts(i:Nat)(h:i<26):(words26.map D.str)[i]?=P3^.str^Cb i:=by
 have hl:i<words26.length:=h;unfold Cb;rw[ZB,eU,No hl];rfl
section
variable {ss:p_ Slot}{n:Sg}{Pd:D->Sg->Prop}
def KY(h:NT ss n Pd):FF (EE Pd) n (ss++UF 1 .no):=by
 let#[rfl,p]:=h;unfold FF;exact#[(by cbv:17<=sizeLine),(by cbv:9<=sizeLine),(by cbv:26<=sizeLine),p]
def Pu(f s:Nat):D->D
 |.int k=>.str^Cb ((f+s*k.toNat) % 26)
 |_=>.non
def N7(f s k:Nat):Pu f s^.int (0+(k:Int))=.str^Cb ((f+s*k) % 26):=by
 show D.str^Cb ((f+s*(0+(k:Int)).toNat) % 26)=_;rw[show(0+(k:Int)).toNat=k by lk]
def JG(h:KH ss n Pd):EQ (EE Pd) n (ss++UF 3 .no):=by
 let#[m,rfl,hm,hn,p]:=h;unfold EQ;refine#[rfl,26,rfl,by cbv,by cbv,by lk,λfirst f0 f1=>?_];obtain⟨f,rfl⟩:∃f:Nat,first=(f:Int):=#[first.toNat,by lk]
 refine#[(by cbv:4<=sizeLine),4,rfl,by cbv,by cbv,(by show 1<=n.n - 1;lk),λw w0 w1=>?_]
 obtain⟨s,hs,es⟩:∃s:Nat,(s=1\/s=3\/s=5\/s=7)/\atI [D.int 1,D.int 3,D.int 5,D.int 7] w=P3^.int (s:Int):=by
  rcases(show w=0\/w=1\/w=2\/w=3 by lk)with rfl|rfl|rfl|rfl
  .exact#[1,.inl rfl,rfl]
  .exact#[3,.inr (.inl rfl),rfl]
  .exact#[5,.inr^.inr (.inl rfl),rfl]
  .exact#[7,.inr^.inr (.inr rfl),rfl]
 refine#[_,es,(m:Int),rfl,#[by lk,by lk],by rw[Fy];lk,?_];refine B5 (Pu f s) (λρ=>∃s',ρ=[.sh^.lst^words26.map .str,.sh^.int f,.sh^.int s,s']) _ _ _ _ ?_ #[_,rfl] ?_
 .rintro d hd ρ n' nx ⟨s',rfl⟩ hnx
  let#[k,hk,rfl]:=UQ hd;have hlt:(f+s*k) % 26<26:=jZ _ (by cbv);have hsk:(s:Int)*(0+(k:Int))=((s*k:Nat):Int):=by rw[Int.zero_add];exact(Int.natCast_mul s k).symm
  refine#[dB (by lk)^by lk,by show(0:Int)<26;decide,.str^Cb ((f+s*k) % 26),?_,?_]
  .rw[hsk,show((f:Int)+((s*k:Nat):Int)) % 26=(((f+s*k) % 26:Nat):Int) by lk]
   exact AH^Ts _ hlt
  .have:=hnx [.sh^.lst^words26.map .str,.sh^.int f,.sh^.int s,.sh^.int (0+(k:Int))] #[_,rfl]
   rw[N7]at this;exact this
 .have e:[]++(MC 0 ((m:Int)).toNat).map^Pu f s=((e8 m).map λk:Nat=>Cb ((f+s*k) % 26)).map .str:=by
   unfold MC;rw[fE,fY,fY,gz];refine gK λk _=>?_;exact N7 f s k
  rw[e];refine#[_,_,rfl,J7 _,by rw[Ev,i9];lk,λss' hp hs'=>p ss' ?_ ?_ ?_]
  .rw[hp.length_eq,Ev,i9]
  .intro y hy
   let#[k,_,rfl]:=Sc.mp^hp.mem_iff.mp hy;exact PH _^jZ _^by cbv
  .refine C1 hs'^hp.nodup_iff.mpr^LH List.nodup_range λj hj k hk e=>?_
   have e:=Rx _ _ (jZ _^by cbv) (jZ _^by cbv) e;have hj:=gO.mp hj;have hk:=gO.mp hk
   rcases hs with rfl|rfl|rfl|rfl <;>lk
def JH(h:Lo ss n Pd):ER (EE Pd) n (ss++UF 0 .no):=by
 let#[s,rfl,s0,s3,hn,p]:=h;unfold ER;show if(s==3)=n_ then _ else _
 refine ED (λc=>?_) λc=>?_
 .refine#[dW,_,rfl,by cbv,by cbv,hn,λr r0 r1=>?_]
  have e6:(10:Int) ^ (6:Int).toNat=1000000:=by cbv
  show Pd (.int (10 ^ (6:Int).toNat - r)) (n - 1);rw[e6];exact p _ (by lk)^by lk
 .have c:s≠3:=by simpa using c
  obtain⟨k,hk,ek⟩:∃k:Int,(1<=k/\k<=60)/\atI [D.int 3,D.int 9,D.int 60] s=P3^.int k:=by
   rcases(show s=0\/s=1\/s=2 by lk)with rfl|rfl|rfl
   .exact#[3,by cbv,rfl]
   .exact#[9,by cbv,rfl]
   .exact#[60,by cbv,rfl]
  refine#[(by cbv:3<=sizeLine),_,ek,k,rfl,by lk,by lk,hn,λr r0 r1=>?_];exact p _ (by lk)^by lk
structure d_ (xs:List Str) (ks:List^List Key) (ds:List D):Prop where
 len:ks.length=ds.length
 nd:ks.Nodup
 key:∀k∈ks,∃a b:Str,k=[.inr a,.inr b]/\a∈xs/\b∈xs/\cs a<cs b
 val:∀d∈ds,∃l:Int,d=.int l/\1<=l/\l<=1000000
end
end Nt
namespace Dp
open L2
def FI:Aa:=λ_ _ _=>False
section
variable {X:Cx}{κ:Kd}{st:Stmt}
def DL:DS X κ st FI:=#[_,λ_ _ _ _ _ _ h=>h.elim,λ_ _ _ _ _ _ _ _ _ _ w=>w]
end
end Dp
namespace Nt
open Dp
end Nt
namespace L2
def GY:HO->Prop
 |.lst _=>True
 |.dT _=>True
 |.dK _=>True
 |_=>False
def View(H H':Hp):Prop:=∀b,H' b=H b\/∃u,GY u/\(H b=P3^.vol u/\H' b=P3 u\/H b=P3 u/\H' b=P3^.vol u)
section
variable {P:Program}{w:World}{H H' H1:Hp}{h h':Heap}
def View.to(v:View H H'){b:Ch}{o:HO}(e:H b=P3 o)(k:¬GY o)(n:∀u,o≠.vol u):H' b=P3 o:=by
 rcases v b with q|⟨u,c,⟨q,_⟩|⟨q,_⟩⟩
 .rw[q];exact e
 .rw[e]at q;exact absurd (eE q)^n u
 .rw[e]at q;rw[eE q]at k;exact absurd c k
def View.none(v:View H H'){b:Ch}:H' b=m_↔H b=m_:=by
 rcases v b with q|⟨u,c,⟨q,r⟩|⟨q,r⟩⟩
 .rw[q]
 .rw[q,r];exact#[(λz=>by cases z),λz=>by cases z]
 .rw[q,r];exact#[(λz=>by cases z),λz=>by cases z]
def View.tup(v:View H H')(b:Ch)(xs:p_ V)(e:H b=P3^.tup xs):H' b=P3^.tup xs:=v.to e (λz=>z) λu z=>by cases z
def View.own(v:View H H')(b x:Ch)(e:H b=P3^.own x):H' b=P3^.own x:=v.to e (λz=>z) λu z=>by cases z
def View.hok(v:View H H')(x:HOk P w H h):HOk P w H' h:=λa o e=>by
 have st:∀o,ObjOk P w H h a o->ObjOk P w H' h a o:=λo z=>z.stay (λ_ _ _ q=>q) (λb q=>v.own b a q) λb xs q=>v.tup b xs q
 rcases v a with q|⟨u,c,⟨q,r⟩|⟨q,r⟩⟩
 .exact st o^x a o^by rw[←q];exact e
 .have z:=eE^r.symm.trans e
  subst z;exact st u (show ObjOk P w H h a^.vol u from x a _ q)
 .have z:=eE^r.symm.trans e
  subst z;exact(show ObjOk P w H' h a u from st u^x a u q)
def View.unR{fs ex:p_ Ch}(v:View H H')(u:Un fs ex H1 H h h'):Un fs ex H1 H' h h' where
 keep:=u.keep
 slot:=u.slot
 free:=λb o q n hx=>v.none.mpr (u.free b o q n hx)
 there:=u.there
 tups:=λb xs q=>v.tup b xs (u.tups b xs q)
 frzs:=λb o x q=>v.to (u.frzs b o x q) (λz=>z) λu z=>by cases z
 tbls:=λb ps q=>let #[m,z]:=u.tbls b ps q;#[m,v.to z (λz=>z) λu z=>by cases z]
def View.unL{fs ex:p_ Ch}(v:View H H')(u:Un fs ex H' H1 h h'):Un fs ex H H1 h h' where
 keep:=λb o q n=>u.keep b o q (v.none.mpr n)
 slot:=λb o q n=>u.slot b o q (v.none.mpr n)
 free:=λb o q n hx=>u.free b o q (v.none.mpr n) hx
 there:=u.there
 tups:=λb xs q=>u.tups b xs (v.tup b xs q)
 frzs:=λb o x q=>u.frzs b o x (v.to q (λz=>z) λu z=>by cases z)
 tbls:=λb ps q=>u.tbls b ps^v.to q (λz=>z) λu z=>by cases z
def Inv.view{X:Cx}{zG:p_ (Ch×Obj)}{Z:St}{s:Go}(I:Inv X zG Z H s)(v:View H H'):Inv X zG Z H' s:=
 #[I.ok,I.os,I.bare,v.unR I.base,I.loc,I.cell,v.none.mpr I.free,λx c q=>v.none.mpr^I.freeC x c q,λp hp=>let #[a,b,c]:=I.pin p hp;#[a,v.none.mpr b,c],v.hok I.hok,I.len]
def EP.view{X:Cx}{zG:p_ (Ch×Obj)}{Z:St}{Q:VK}{u:Db}{s:Go}(h:EP X zG Z (λv H=>∃H',View H H'/\Q v H') u s):EP X zG Z Q u s:=
 let #[v,_,I,r,H',w,q]:=h;#[v,H',I.view w,r,q]
def vR(r:p_ V->Hp->VK->Prop):p_ V->Hp->VK->Prop:=λvs H Q=>∃H1,View H H1/\r vs H1 λv H2=>∃H3,View H2 H3/\Q v H3
def df(sp:Sp):Sp:=λvs H Q E=>∃H1,View H H1/\sp vs H1 (λv H2=>∃H3,View H2 H3/\Q v H3) E
def CallR.view{X:Cx}{f:Db}{r:p_ V->Hp->VK->Prop}(c:CallR X f r):CallR X f^vR r:=by
 intro zG s Z H xs us Q I rs q;let#[H1,v,q]:=q;exact BD (c zG s Z H1 xs us _ (I.view v) rs q) λu s1 h=>h.view
def Sb{X:Cx}{e:eS}{t:TE}(h:PE X e t):PE X e (λZ H Q=>t Z H λv H1=>∃H2,View H1 H2/\Q v H2):=λzG s Z H Q I q=>BD (h zG s Z H _ I q) λu s1 h=>h.view
def FnOk.view{K:Frag}{mg:Str->q_ Db}{base:eK}{k:Nat}{f:Ch}{fd:fL}{ps:p_ Str}{sp:Sp}(F:FnOk P w K mg base Fi k f fd ps sp):FnOk P w K mg base Fi k f fd ps^df sp:=by
 refine#[λvs H Q E #[H1,_,q]=>F.len _ _ _ _ q,λA outer s H args us vs Q E hr e hb hv #[H1,v,q]=>?_];have e1:Env0 P w K mg base A outer s H1:=#[e.frames,e.mod,λb o z=>#[(e.bs b o z).1,v.none.mpr (e.bs b o z).2],e.bsz,e.funs,λb z=>v.none.mpr^e.frf b z,v.hok e.hok,e.bare];refine ic (F.run A outer s H1 args us vs _ E hr e1 hb hv q) λr s' hq=>?_;cases r with
 |error x=>exact fO hq
 | ok fl=>
  cases fl with
  |ret u=>
   let#[v',H',a1,a2,a3,a4,a5,H3,v3,a6]:=hq;exact#[v',H3,a1,a2,v3.unR^v.unL a3,v3.hok a4,a5,a6]
  |next=>exact fO hq
  |brk=>exact fO hq
  |cont=>exact fO hq
def cb(K:Frag)(T:String)(r:V->p_ V->Hp->VK->Prop)(to:TE)(t:TA):TE:=λZ H Q=>to Z H λx H1=>(∃H2,View H1 H2/\Ym K T x H2)/\t Z H1 λxs H2=>∃H3,View H2 H3/\r x xs H3 λv H4=>∃H5,View H4 H5/\Q v H5
def ag(K:Frag)(T:String)(r:V->p_ V->Hp->VK->Prop)(to:TE):TE:=λZ H Q=>to Z H λx H1=>∃H2,View H1 H2/\Ym K T x H2/\r x [] H2 λv H4=>∃H5,View H4 H5/\Q v H5
variable {X:Cx}{o e:Expr}{es:p_ Expr}{to:TE}{t:TA}{name:Str}{apos cpos:Pos}{T id:String}{r:V->p_ V->Hp->VK->Prop}
def Wv(pa:iP T)(slot:Slot T name id)(hty:typeOf^.builtin id=pure^.type "method_descriptor")(hm:WK X id r)(ho:PE X o to)
  (hbase:attributeBase o name X.env^eval o X.env=eval o X.env:=by rfl) (hline:(apos.endLine==cpos.line)=n_:=by rfl):PE X (.Call (.Attribute o name apos) [] [] cpos)^ag X.K T r to:=by
 intro zG s Z H Q I h;refine iw hbase hline^BD (ho _ s Z H _ I h) λv s1 #[x,H1,I1,r1,H2,vw,ty,q1]=>?_;let#[h1,h2]:=Lw (I1.view vw) r1 ty;exact#[T,id,pa,slot,hty,h1,h2,fu rfl (PySem.evalArgs_none^BD (hm _ s1 Z H2 x [] v [] _ (I1.view vw) r1 .nil q1) λu s1 h=>h.view)]
def ZM(pa:iP T)(slot:Slot T name id)(hty:typeOf^.builtin id=pure^.type "method_descriptor")(hm:WK X id r)(ho:PE X o to)(ha:PA X (e::es) t)
  (hbase:attributeBase o name X.env^eval o X.env=eval o X.env:=by rfl)
  (hfew:((backTo cpos^starEach (e::es) X.env).all (λx=>!x.1)&&(backToKw cpos^keywordEach [] X.env).all (λx=>x.1.isSome)
   && decide ((e::es).length+([]:p_ iG).length+(if([]:p_ iG).isEmpty then 0 else 1)<30))=n_:=by rfl)
  (hline:(apos.endLine==cpos.line)=n_:=by rfl) (hs:starEach (e::es) X.env=(o_,eval e X.env)::starEach es X.env:=by rfl) (hplain:(backTo cpos^starEach es X.env).any (·.1)=o_:=by rfl):
  PE X (.Call (.Attribute o name apos) (e::es) [] cpos) (cb X.K T r to t):=by
 intro zG s Z H Q I h;refine wpAny_Call_method_late hbase hfew hline rfl (BD (ho _ s Z H _ I h) λv s1 #[x,H1,I1,r1,#[H2,vw,ty],q1]=>?_);let#[h1,h2]:=Lw (I1.view vw) r1 ty;refine#[T,id,pa,slot,hty,h1,h2,?_];have hA:=ha cpos _ s1 Z H1 _ I1 q1;rw[hs]at hA ⊢;refine fu (by simp_all)^iQ ?_;exact BD hA λus s2 #[vs,H3,I3,r3,H4,v4,q4]=>BD (hm _ s2 Z H4 x vs v us _ (I3.view v4) r1 r3 q4) λu s1 h=>h.view
end
end L2
namespace Dp
open L2
def Sg.put(s:Sg)(a:Ch)(c:Wc):Sg:=#[s.n,λb=>if b=a then P3 c else s.w b]
def Sg.drop(s:Sg)(L:p_ Ch):Sg:=#[s.n,λb=>if b∈L then m_ else s.w b]
def Sg.back(s2 s:Sg)(L:p_ Ch):Sg:=#[s2.n,λb=>if b∈L then s.w b else s2.w b]
def Sg.back_drop(s:Sg)(L:p_ Ch)(m:Nat):Sg.back #[m,(s.drop L).w] s L=#[m,s.w]:=by
 show(#[m,λb=>if b∈L then s.w b else if b∈L then m_ else s.w b]:Sg)=_
 congr 1
 funext b
 by_cases h:b∈L
 .rw[if_pos h]
 .rw[if_neg h,if_neg h]
def Gj(w:Ch->q_ Wc):D->D
 |.ob a=>match w a with
  |some (.pl d)=>d
  |_=>.ob a
 |d=>d
def Hs(w:Ch->q_ Wc):D->D
 |.dic ks xs=>.dic ks^xs.map^Gj w
 |.tup xs=>.tup^xs.map^Gj w
 |d=>Gj w d
def Gp(w:Ch->q_ Wc):D->p_ Ch
 |.ob a=>match w a with
  |some (.pl _)=>[a]
  |_=>[]
 |_=>[]
def Gn(w:Ch->q_ Wc):D->p_ Ch
 |.dic _ xs=>xs.flatMap^Gp w
 |.tup xs=>xs.flatMap^Gp w
 |d=>Gp w d
def am(w:Ch->q_ Wc):Slot->Slot
 |.sh d=>.sh^Hs w d
 |s=>s
def ZW(w:Ch->q_ Wc):Slot->p_ Ch
 |.sh d=>Gn w d
 |_=>[]
def Gg(H:Hp)(L:p_ Ch):Hp:=λb=>if b∈L then(match H b with|some (.vol u)=>P3 u|o=>o)else H b
def Tl(H:Hp)(L:p_ Ch):Hp:=λb=>if b∈L then(match H b with|some u=>P3^.vol u|none=>m_)else H b
section
variable {K:Frag}{M:Addr->Prop}{H:Hp}{L:p_ Addr}{w:Addr->q_ Wc}
def CellOk.pl{a:Ch}{d:D}(h:CellOk K M H a^.pl d):¬M a/\∃u,GY u/\H a=P3^.vol u/\Gg H [a] a=P3 u:=by
 cases d with
 |lst ds=>let#[h0,vs,h1,_]:=h;refine#[h0,_,?_,h1,by unfold Gg;rw[if_pos Re,h1]];exact trivial
 |dit ks ds=>let#[h0,vs,h1,_]:=h;refine#[h0,_,?_,h1,by unfold Gg;rw[if_pos Re,h1]];exact trivial
 |_=>exact h.elim
def FZ{u:HO}(h:GY u):¬Tq u:=by rintro⟨x,rfl⟩;exact h
def Cells(M:Ch->Prop)(H:Hp)(L:p_ Ch):Prop:=∀b∈L,¬M b/\∃u,GY u/\H b=P3^.vol u
def Cells.un(c:Cells M H L){b:Ch}(hb:b∈L){u:HO}(h:H b=P3^.vol u):Gg H L b=P3 u:=by unfold Gg;rw[if_pos hb,h]
def FJ{b:Ch}(hb:b∉L):Gg H L b=H b:=if_neg hb
def Dw{b:Ch}(hb:b∉L):Tl H L b=H b:=if_neg hb
def Cells.out(c:Cells M H L){b:Ch}{o:HO}(h:H b=P3 o)(n:¬Tq o):b∉L:=λhb=>by
 let#[_,u,_,e]:=c b hb;rw[h]at e;exact n #[u,eE e]
def Cells.keep(c:Cells M H L){b:Ch}{o:HO}(h:H b=P3 o)(n:¬Tq o):Gg H L b=P3 o:=by rw[FJ^c.out h n];exact h
def Cells.view(c:Cells M H L):View H^Gg H L:=λb=>by
 by_cases hb:b∈L
 .let#[_,u,k,e]:=c b hb
  exact .inr #[u,k,.inl #[e,c.un hb e]]
 .exact .inl^FJ hb
def Cells.ex(c:Cells M H L)(b:Ch)(o:HO)(h:H b=P3 o):∃o',Gg H L b=P3 o':=by
 by_cases hb:b∈L
 .let#[_,u,k,e]:=c b hb
  exact#[u,c.un hb e]
 .exact#[o,by rw[FJ hb];exact h]
def Cells.pres(c:Cells M H L):Pres M H M^Gg H L:=#[λb o h _ n=>c.keep h n,λ_ z=>.inl z,λb vs h=>c.keep h (by rintro⟨_,z⟩;cases z),c.ex]
def Cells.ext{U:Ch->Prop}(c:Cells M H L):Ext U H^Gg H L:=λb o h=>by
 let#[o',e]:=c.ex b o h;refine#[o',e,λ_ n=>?_,λvs z=>?_]
 .rw[c.keep h n]at e;exact(eE e).symm
 .subst z;rw[c.keep h^by rintro⟨_,z⟩;cases z]at e;exact(eE e).symm
def IF{a:Ch}{d:D}(q:w a=P3^.pl d):Gj w^.ob a=d:=by
 show(match w a with|some (.pl d)=>d|_=>D.ob a)=d;rw[q]
def F9{a:Ch}{d:D}(q:w a=P3^.pl d):Gp w^.ob a=[a]:=by
 show(match w a with|some (.pl _)=>[a]|_=>[])=_;rw[q]
def Qx{a:Ch}(q:∀d,w a≠P3^.pl d):Gj w^.ob a=.ob a/\Gp w^.ob a=[]:=by
 show(match w a with|some (.pl d)=>d|_=>D.ob a)=_/\(match w a with|some (.pl _)=>[a]|_=>[])=_;cases e:w a with
 |none=>exact#[rfl,rfl]
 |some x=>cases x with
  |ins C ks ds=>exact#[rfl,rfl]
  |pl d=>exact absurd e^q d
def Qy(hw:∀a c,w a=P3 c->CellOk K M H a c)(c:Cells M H L){d:D}{v:V}(h:At K M H d v)(hL:∀a∈Gp w d,a∈L):At K M (Gg H L) (Gj w d) v:=by
 cases d with
 | ob a=>
  by_cases q:∃d,w a=P3^.pl d
  .let#[d,q]:=q
   rw[IF q];rw[F9 q]at hL;have ha:a∈L:=hL a Re;have k:=hw a _ q;let#[rfl,_]:=h;cases d with
   |lst ds=>let#[h0,vs,h1,_,h3]:=k;exact#[a,vs,rfl,#[h0,c.un ha h1],h3.pres c.pres]
   |dit ks ds=>let#[h0,vs,h1,h2,_,h3]:=k;exact#[a,vs,rfl,#[h0,c.un ha h1],h2,h3.pres c.pres]
   |_=>exact k.elim
  .rw[(Qx λd z=>q #[d,z]).1];exact h.pres c.pres
 |_=>exact At.pres c.pres h
theorem Fz(hw:∀a c,w a=P3 c->CellOk K M H a c)(c:Cells M H L):∀{ds:p_ D}{vs:p_ V},Ats K M H ds vs->(∀a∈ds.flatMap^Gp w,a∈L)->Ats K M (Gg H L) (ds.map^Gj w) vs
 |[],_,h,_=>h
 |d::ds,_,#[v,r,e,h1,h2],hL=>#[v,r,e,Qy hw c h1 λa ha=>hL a (by simp[ha]),Fz hw c h2 λa ha=>hL a^by simp only[gU,eM];exact .inr ha]
def MF(hw:∀a c,w a=P3 c->CellOk K M H a c)(c:Cells M H L){d:D}{v:V}(h:At K M H d v)(hL:∀a∈Gn w d,a∈L):At K M (Gg H L) (Hs w d) v:=by
 cases d with
 |dic ks xs=>let#[a,vs,e,n,l,hs]:=h;exact#[a,vs,e,n.pres c.pres,by rw[Ev];exact l,Fz hw c hs hL]
 |tup xs=>let#[a,vs,e,n,hs]:=h;exact#[a,vs,e,n.pres c.pres,Fz hw c hs hL]
 |ob a=>exact Qy hw c h hL
 |_=>exact At.pres c.pres h
def Md{d:D}{a:Ch}(h:a∈Gp w d):∃x,w a=P3^.pl x:=by
 cases d with
 | ob b=>
  by_cases q:∃d,w b=P3^.pl d
  .let#[d,q]:=q
   rw[F9 q]at h;rw[Rs.mp h];exact#[d,q]
  .rw[(Qx λd z=>q #[d,z]).2]at h;cases h
 |_=>cases h
def RC{d:D}{a:Ch}(h:a∈Gn w d):∃x,w a=P3^.pl x:=by
 cases d with
 |dic ks xs=>let#[x,_,hx]:=gN.mp h;exact Md hx
 |tup xs=>let#[x,_,hx]:=gN.mp h;exact Md hx
 |ob b=>exact Md (d:=.ob b) h
 |_=>cases h
end
def Ls(W:W2)(was:Ti):DW:=λn ρ P=>was n ρ λss n1=>∃L ss',ss.map^am n1.w=ss'/\ss.flatMap^ZW n1.w=L/\W ss' (n1.drop L) λd n2=>flat d=n_/\P d^n2.back n1 L
section
variable {X:Cx}{e:Expr}{es:p_ Expr}{pos p:Pos}{was:Ti}
theorem Oy{K:Frag}{F:q_ (Ch×Ch)}{U V' M:Ch->Prop}{H:Hp}{L:p_ Ch}{w:Ch->q_ Wc}(hw:∀a c,w a=P3 c->CellOk K M H a c)(c:Cells M H L)(uV:∀a,U a->V' a):∀{vs:p_ V}{ss:p_ Slot},Paired (EY K F V' M H) vs ss->(∀a∈ss.flatMap^ZW w,a∈L)->Paired (EY K F V' M^Gg H L) vs^ss.map^am w
 |_,_,.nil,_=>.nil
 |_,s::ss,.cons #[h,o] t,hL=>by
  refine .cons ?_ (Oy hw c uV t λa ha=>hL a^by simp only[gU,eM];exact .inr ha);cases s with
  |sh d=>let#[v,e1,h1]:=h;exact#[#[v,e1,MF hw c h1 λa ha=>hL a^by simp only[gU,eM];exact .inl ha],rfl]
  |_=>exact#[h.pres c.pres (λ_ z=>z) (c.ext (U:=U)) uV,o]
def JZ{K:Frag}{F:q_ (Ch×Ch)}{M:Ch->Prop}{H:Hp}{n:Sg}{α:Type}{g:α->p_ Ch}{ss:p_ α}(f:FeedC K F M H n)(hg:∀s b,b∈g s->∃d,n.w b=P3^.pl d):Cells M H^ss.flatMap g:=λb hb=>by
 let#[s,_,hs]:=gN.mp hb;let#[d,hd]:=hg s b hs;let#[h0,u,k,h1,_]:=(f.2 b _ hd).pl;exact#[h0,u,k,h1]
def W5{w:Ch->q_ Wc}(s:Slot)(b:Ch)(h:b∈ZW w s):∃d,w b=P3^.pl d:=by
 cases s with
 |sh d=>exact RC h
 |_=>cases h
def FeedC.lend{K:Frag}{F:q_ (Ch×Ch)}{M:Ch->Prop}{H:Hp}{n:Sg}{L:p_ Ch}(f:FeedC K F M H n)(c:Cells M H L):FeedC K F M (Gg H L)^n.drop L:=by
 refine#[λg hg=>(f.1 g hg).pres c.pres λo ho=>?_,λa x hx=>?_]
 .let#[_,_,_,z,_]:=f.1 g hg
  rw[z]at ho;cases ho
  exact c.keep z^by rintro⟨_,z⟩;cases z
 .have hx:(if a∈L then m_ else n.w a)=P3 x:=hx
  by_cases ha:a∈L
  .rw[if_pos ha]at hx;cases hx
  .rw[if_neg ha]at hx
   exact(f.2 a x hx).to (λ_ _ z=>z) c.pres.2.2.1 c.ex λu hu=>by rw[FJ ha];exact hu
def J8{K:Frag}{C:Fm}{M:Ch->Prop}{H1 H3:Hp}{n1 n2:Sg}{ρ:p_ Slot}{Z:L2.St}{L:p_ Ch}(R1:Rel K C M H1 n1 ρ Z)(c:Cells M H1 L)(e3:Ext C.U (Gg H1 L) H3)(f3:FeedC K C.F M H3 n2):
  View H3 (Tl H3 L)/\Ext C.U H1^Tl H3 L/\FeedC K C.F M (Tl H3 L)^n2.back n1 L/\∀b o,H3 b=P3 o->∃o',Tl H3 L b=P3 o':=by
 have f1:=R1.feed;have in3:∀b∈L,∀u,H1 b=P3^.vol u->GY u->H3 b=P3 u:=λb hb u hu k=>e3.keep (c.un hb hu) (λz=>(c b hb).1 (R1.vM b^R1.uV b z))^FZ k;have wr:∀b∈L,∀u,H1 b=P3^.vol u->GY u->Tl H3 L b=P3^.vol u:=λb hb u hu k=>by unfold Tl;rw[if_pos hb,in3 b hb u hu k]
 have v3:View H3^Tl H3 L:=λb=>by
  by_cases hb:b∈L
  .let#[_,u,k,hu]:=c b hb
   exact .inr #[u,k,.inr #[in3 b hb u hu k,wr b hb u hu k]]
  .exact .inl^Dw hb
 have ex3:∀b o,H3 b=P3 o->∃o',Tl H3 L b=P3 o':=λb o h=>by
  by_cases hb:b∈L
  .let#[_,u,k,hu]:=c b hb
   exact#[_,wr b hb u hu k]
  .exact#[o,by rw[Dw hb];exact h]
 have e4:Ext C.U H1^Tl H3 L:=λb o h=>by
  by_cases hb:b∈L
  .let#[_,u,k,hu]:=c b hb
   rw[h]at hu;cases hu
   exact#[_,wr b hb u h k,λ_ n=>absurd #[u,rfl] n,λvs z=>by cases z]
  .let#[o',h',z1,z2]:=e3 b o^by rw[FJ hb];exact h
   exact#[o',by rw[Dw hb];exact h',z1,z2]
 refine#[v3,e4,#[λf hf=>?_,λa x hx=>?_],ex3]
 .let#[x,r,cs,g1,g2,g3,g4]:=f3.1 f hf
  let#[_,_,_,o1,_,o3,_]:=f1.1 f hf;have n1:f.1∉L:=c.out o1 (by rintro⟨_,z⟩;cases z);have n2:f.2∉L:=c.out o3.2 (by rintro⟨_,z⟩;cases z);exact#[x,r,cs,by rw[Dw n1];exact g1,g2,#[g3.1,by rw[Dw n2];exact g3.2],g4]
 .have hx:(if a∈L then n1.w a else n2.w a)=P3 x:=hx
  by_cases ha:a∈L
  .rw[if_pos ha]at hx
   refine(f1.2 a x hx).to (λ_ _ z=>z) (λb vs h=>e4.tup h) (λb o h=>let #[o',h',_]:=e4 b o h;#[o',h']) λu hu=>?_;let#[_,u',k,hu']:=c a ha;rw[hu]at hu';cases hu'
   exact wr a ha u hu k
  .rw[if_neg ha]at hx
   exact(f3.2 a x hx).to (λ_ _ z=>z) (λb vs h=>v3.tup b vs h) ex3 λu hu=>by rw[Dw ha];exact hu
def Og{k:Nat}{ps:p_ Str}{W:W2}{x:Str}(G:Got X.prog X.w X.K X.mg X.base x k ps .sh W)(hr:Room k X.A)(hg:Gl X x)(ha:Xv X (e::es) was)
  (hdb:(x==("__debug__":Str))=o_:=by decide) (he:starEach (e::es) X.env=(o_,eval e X.env)::starEach es X.env:=by rfl) (hpl:(backTo pos^starEach es X.env).any (·.1)=o_:=by rfl):
  DE X (.Call (.Name x p) (e::es) [] pos) .sh (Ls W was):=by
 let#[f,fd,G,hm,hk,hb,hW]:=G;let#[t,h1,h2]:=ha;refine#[_,MP G.view hr hg hm hk hb .nil JO h1 hdb he hpl,λC M H n ρ Z P Q R w q=>?_];refine h2 C M H n ρ Z _ _ R w λvs H1 ss n1 e1 f1 r1 #[L,ss',es,eL,p]=>?_;have R1:=R.step e1 f1;have c:Cells M H1 L:=eL▸JZ f1 W5;rw[e7];refine#[Gg H1 L,c.view,?_];refine#[(Paired.length r1).trans (by have:=hW _ _ _ p;rw[←es,Ev]at this;exact this),C.F,C.U,C.V,M,n1.drop L,ss',_,#[λa z=>let #[o,h]:=R1.dom a z;c.ex a o h,R1.fU,R1.uV,R1.vM,f1.lend c,es▸Oy f1.2 c R1.uV r1 λa ha=>eL▸ha],p,λv H3 d n2 e3 f3 r3 #[fl,p3]=>?_];let#[v3,e4,f4,ex3]:=J8 R1 c e3 f3;exact#[Tl H3 L,v3,q v _ d _ (e1.trans e4) f4 (IK (λb vs h=>v3.tup b vs h) ex3 d fl r3) p3]
def Lb:D->Prop
 |.lst ds=>A9 ds=n_
 |.dit _ ds=>A9 ds=n_
 |_=>False
def d6:Kd->D->Prop
 |.sh,z=>flat z=n_
 |.fr,z=>Lb z
 |.tp,_=>False
def Yl(κ:Kd)(f:p_ D->(D->Prop)->Prop)(ws:EX):DW:=λn ρ P=>ws n ρ λds n1=>∃ds',ds.map^Hs n1.w=ds'/\f ds' λz=>d6 κ z/\P z n1
def Xk{K:Frag}{U V' M:Ch->Prop}{H:Hp}{L:p_ Ch}{w:Ch->q_ Wc}(hw:∀a c,w a=P3 c->CellOk K M H a c)(c:Cells M H L)(uV:∀a,U a->V' a){d:D}{v:V}(h:AtT K V' M H d v)(hL:∀a∈Gn w d,a∈L)(vM:∀a,V' a->M a):AtT K V' M (Gg H L) (Hs w d) v:=by
 cases d with
 |dic ks xs=>let#[a,vs,e,n,hq,l,hs]:=h;exact#[a,vs,e,n,c.keep hq (by rintro⟨_,z⟩;cases z),by rw[Ev];exact l,Fz hw c hs hL]
 |tup xs=>exact At.tp vM^MF hw c (d:=.tup xs) h hL
 |ob a=>exact At.tp vM^MF hw c (d:=.ob a) h hL
 |_=>exact AtT.pres h c.pres (c.ext (U:=U)) uV
theorem Ox{K:Frag}{U V' M:Ch->Prop}{H:Hp}{L:p_ Ch}{w:Ch->q_ Wc}(hw:∀a c,w a=P3 c->CellOk K M H a c)(c:Cells M H L)(uV:∀a,U a->V' a)(vM:∀a,V' a->M a):∀{vs:p_ V}{ds:p_ D},Paired (λv d=>AtT K V' M H d v) vs ds->(∀a∈ds.flatMap^Gn w,a∈L)->Paired (λv d=>AtT K V' M (Gg H L) d v) vs^ds.map^Hs w
 |_,_,.nil,_=>.nil
 |_,d::ds,.cons h t,hL=>.cons (Xk hw c uV h (λa ha=>hL a^by simp only[gU,eM];exact .inl ha) vM)^Ox hw c uV vM t λa ha=>hL a^by simp only[gU,eM];exact .inr ha
def Zw{κ:Kd}{r:p_ V->Hp->VK->Prop}{f:p_ D->(D->Prop)->Prop}{t:TA}{ws:EX}(hA:CA X.K κ r f)(h2:∀(C:Fm) (M:Ch->Prop) (H:Hp) (n:Sg) (ρ:p_ Slot) (Z:L2.St) (P:p_ D->Sg->Prop) (Q:p_ V->Hp->Prop),Rel X.K C M H n ρ Z->ws n ρ P->
   (∀vs H' ds n',Ext C.U H H'->FeedC X.K C.F M H' n'->Paired (λv d=>AtT X.K C.V M H' d v) vs ds->P ds n'->Q vs H')->t Z H Q)
  (C:Fm) (M:Ch->Prop) (H:Hp) (n:Sg) (ρ:p_ Slot) (Z:L2.St) (P:D->Sg->Prop) (Q:VK) (R:Rel X.K C M H n ρ Z) (w:Yl κ f ws n ρ P)
  (q:∀v H' d n',Ext C.U H H'->FeedC X.K C.F M H' n'->VR X.K C.V M H H' κ v d->P d n'->Q v H'):af (vR r) t Z H Q:=by
 refine h2 C M H n ρ Z _ _ R w λvs H1 ds n1 e1 f1 r1 #[ds',ed,p]=>?_;have R1:=R.step e1 f1;have c:Cells M H1^ds.flatMap^Gn n1.w:=JZ f1 λd b=>RC;refine#[_,c.view,hA C.V M _ ds' vs _ _ (λa z=>let #[o,h]:=R1.dom a z;c.ex a o h) R1.vM (ed▸Ox f1.2 c R1.uV R1.vM r1 λa ha=>ha) p λv H3 z g vr #[fz,pz]=>?_];let#[v3,e4,f4,ex3]:=J8 R1 c g.ext^(f1.lend c).grow g;rw[show n1.drop^ds.flatMap^Gn n1.w=#[n1.n,(n1.drop^ds.flatMap^Gn n1.w).w]from rfl,Sg.back_drop]at f4;have tu:∀b vs,H3 b=P3^.tup vs->Tl H3 (ds.flatMap^Gn n1.w) b=P3^.tup vs:=λb vs h=>v3.tup b vs h;refine#[_,v3,q v _ z n1 (e1.trans e4) f4 (VR.back e1 ?_) pz];cases κ with
 |tp=>exact fz.elim
 |sh=>exact IK tu ex3 z fz vr
 | fr=>
  let#[a,e,ha,tp]:=vr
  have hn:H1 a=m_:=by
   cases h:H1 a with
   |none=>rfl
   |some o=>let#[o',h']:=c.ex a o h;rw[ha]at h';cases h'
  have hL:a∉ds.flatMap^Gn n1.w:=λhb=>by let#[_,u,_,h]:=c a hb;rw[hn]at h;cases h
  refine#[a,e,hn,?_];cases z with
  |lst es=>let#[us,g1,g2]:=tp;exact#[us,by rw[Dw hL];exact g1,BB tu ex3 es fz g2]
  |dit ks es=>let#[us,g1,g2,g3]:=tp;exact#[us,by rw[Dw hL];exact g1,g2,BB tu ex3 es fz g3]
  |dic ks es=>exact(show False from fz).elim
  |_=>exact(show False from tp).elim
def QP{κ:Kd}{x:Str}{T:String}{r:p_ V->Hp->VK->Prop}{f:p_ D->(D->Prop)->Prop}{ws:EX}(hc:CallR X (.type T) r)(hA:CA X.K κ r f)(hg:Gl X x)(hm:X.mg x=m_)(hv:bootBuiltins x=P3^.type T)(ha:aI X (e::es) ws)
  (hn:x ≠ "__name__":=by decide) (hdb:(x==("__debug__":Str))=o_:=by decide)
  (he:starEach (e::es) X.env=(o_,eval e X.env)::starEach es X.env:=by rfl) (hpl:(backTo pos^starEach es X.env).any (·.1)=o_:=by rfl):DE X (.Call (.Name x p) (e::es) [] pos) κ^Yl κ f ws:=by
 let#[t,h1,h2]:=ha;exact#[_,Gm hc.view hg hm hv h1 hn hdb he hpl,λC M H n ρ Z P Q R w q=>Zw hA h2 C M H n ρ Z P Q R w q]
end
end Dp
namespace L2
theorem G3{α β:Type}(f:α->β):∀(l:p_ α) (j:Nat),(l.map f).eraseIdx j=(l.eraseIdx j).map f
 |[],_=>rfl
 |_::_,0=>rfl
 |a::l,j+1=>by show f a::(l.map f).eraseIdx j=f a::(l.eraseIdx j).map f;rw[G3 f l j]
section
variable {prog:Program}{w:World}{K:Type}[DecidableEq K]{knd:HeapKind prog w K}{A:Around}{E:Value->Shared->Prop}{s:Shared}{d a:Addr}{k:K}{xs:p_ (K×Addr×Value)}{j:Nat}{p:Addr×Value}
def Ly{Q:q_ h7->Go->Prop}(hu:knd.room A)(hkey:knd.is s.heap k a)(hm:s.heap.DictOfH knd d xs)(hj:xs[j]?=P3 (k,p))(hsz:xs.length<=sizeLine)
  (hQ:∀h',h'.DictOfH knd d^xs.eraseIdx j->gj d s.heap h'->Q (P3^entryOfKey knd (k,p)) {s with heap:=h',toks:=s.toks+knd.draws k}):
  wpAny (model prog w) A (kq d^.ref a) Q E s:=by
 let#[o,es,ep,ho,hc,hd,he,his,hn]:=hm;unfold kq
 try with_reducible refine fc ?_
 refine Cn^knd.pyHash hu hkey ?_;refine Cn^wpAny_dictFind_heap (s:={s with toks:=s.toks+knd.draws k}) hu hkey ho hd he his hn (λhno=>absurd hj^hno j p) λi q hi=>?_;obtain rfl:=idxH_unique hn hj hi;rw[hj]at hi;cases hi;refine Cn^gF (s:={s with toks:=s.toks+knd.draws k}) ho hd ?_;rw[entry_at he j,hj]
 refine Cn (wpAny_updateDictKeys (hz:=by have e:=size_of_entries he;lk) (s:={s with toks:=s.toks+knd.draws k}) ho hd (On (hQ _ #[_,_,ep+1,fm _ ho^Obj.isFreed_of_dict^Obj.data_mapDictKeys hd _,
   hc.mapDictKeys _,Obj.data_mapDictKeys hd _,?_,?_,?_] (ge ..))))
 .let#[l]:=es
  have he:l=xs.map^entryOfKey knd:=he;subst he;simp[G3]
 .intro x hx
  exact knd.keeps (his x^List.mem_of_mem_eraseIdx hx) ho hd (ge ..)
 .rw[←G3]
  exact hn.sublist (List.eraseIdx_sublist ..)
def Hy:MeetsIn prog w (gs.«dict.pop» #[[.ref d,.ref a],[]]) (λA R s=>knd.room A.in1/\∃k xs j p,knd.is s.heap k a/\s.heap.DictOfH knd d xs/\xs.length<=sizeLine/\xs[j]?=P3 (k,p) /\
   ∀h',h'.DictOfH knd d^xs.eraseIdx j->gj d s.heap h'->R (.ok^.ret p.2) {s with heap:=h',toks:=s.toks+knd.draws k}):=
 .of_wp λA R s #[hu,k,xs,j,p,hkey,hm,hsz,hj,h]=>by
  let#[o,es,ep,ho,hc,hd,he,his,hn]:=id hm;unfold gs.«dict.pop»;refine Cn ?_;unfold Builtin.Dict.keyAndDefault;refine Cn^jK hm.typeIs ?_;show wpAny _ _ (pure (d,eJ a,m_)) _ _ s;refine On ?_;have hk:(keyPart^eJ a).isSome=o_:=rfl;simp only[hk,fG,if_false];refine Cn^gF ho hd^Cn^On ?_
  have hne:es.isEmpty=o_:=by
   have h1:=size_of_entries he;have h2:j<xs.length:=(Uf.mp hj).1;simp only[Array.isEmpty,decide_eq_false_iff_not];lk
  rw[hne];simp only[fG,if_false];refine Cn^Ly hu hkey hm hj hsz λh' hm' hs'=>?_;simp only[Option.isNone_some,fG,if_false];exact Cn^gi^On #[_,rfl,h h' hm' hs']
end
def YC:V->p_ V->Hp->VK->Prop:=λx vs H Q=>∃d b kvs k j v,x=.ref d/\vs=[.ref b]/\H d=P3^.dT kvs/\H b=P3^.tup^k.map kV/\kvs[j]?=P3 (k,v)/\Q v^Aq H d^.dT^kvs.eraseIdx j
theorem LG{α β:Type}{R:α->β->Prop}:∀{xs:p_ α}{ys:p_ β}{j:Nat}{x:α},Paired R xs ys->xs[j]?=P3 x->∃y,ys[j]?=P3 y/\R x y
 |_::_,_::_,0,_,.cons r _,e=>#[_,rfl,by cases e;exact r]
 |_::_,_::_,j+1,_,.cons _ t,e=>LG (j:=j) t^by rw[i4]at e;exact e
theorem F5{α β:Type}{R:α->β->Prop}:∀{xs:p_ α}{ys:p_ β} (j:Nat),Paired R xs ys->Paired R (xs.eraseIdx j)^ys.eraseIdx j
 |_,_,_,.nil=>.nil
 |_::_,_::_,0,.cons _ t=>t
 |_::_,_::_,j+1,.cons r t=>.cons r^F5 j t
def RF{X:Cx}{k:Nat}(hr:Room k X.A):WK X "dict.pop" YC:=by
 rintro zG s Z H x xs v us Q I rx rs ⟨d,b,kvs,k,j,u,rfl,rfl,hd,hb,hj,q⟩;cases(show v=eJ d from rx);cases rs with
 |cons r t=>
 cases t
 rename_i ub
 cases(show ub=eJ b from r);let#[z,hsys,ys,rel,dd]:=YV I.hok hd;let#[#[k',p],hp,e1,e2,e3]:=LG rel hj;have e1:k=k':=e1;subst e1;refine iH PySem.F.slot_dict_pop dd.typeIs PySem.F.entry_dict_pop (PySem.F.args_dict_pop_2 _ _) (Hy (knd:=tupleKind^A_ X.prog X.w)) #[gQ (by have:=hr.units;lk),k,ys,j,p,EB I.hok hb,dd,by rw[←Paired.length rel];exact z,hp,λh' dd' hs=>#[u,_,?_,e3,q]];let#[o,es,ep,hq,h2,h3,h4,_,h5]:=dd';refine IU I (by rw[hd];exact gB) hs #[o,hq] #[eR (List.length_eraseIdx_le ..) z,hsys,_,Paired.imp' (λx y r=>#[r.1,by rw[AK^YL r.2.1 hd λz=>nomatch z];exact r.2.1,r.2.2])^F5 j rel,o,es,ep,hq,h2,h3,h4,h5]
end L2
namespace Dp
open L2
section
variable {K:Frag}{F:q_ (Addr×Addr)}{M:Addr->Prop}{H:Hp}{n:Sg}{a:Addr}{u u':HO}{c:Wc}
def IL{U:Ch->Prop}(h:H a=P3^.vol u):Ext U H^Aq H a^.vol u':=λb o e=>by
 by_cases z:b=a
 .subst z
  rw[h]at e;cases e
  exact#[_,AM,λ_ v=>absurd #[u,rfl] v,λvs z=>by cases z]
 .exact#[o,by rw[AK z];exact e,λ_ _=>rfl,λ_ _=>rfl]
def FeedC.put(f:FeedC K F M H n)(h:H a=P3^.vol u)(hc:CellOk K M (Aq H a^.vol u') a c):FeedC K F M (Aq H a^.vol u')^n.put a c:=by
 have ne:∀{b o},H b=P3 o->¬Tq o->b≠a:=λe v z=>v #[u,by rw[z,h]at e;exact(eE e).symm];have x:=IL (U:=λ_=>False) (u':=u') h;refine#[λg hg=>?_,λb k hk=>?_]
 .let#[p,r,cs,h1,h2,h3,h4]:=f.1 g hg
  exact#[p,r,cs,by rw[AK^ne h1^by rintro⟨_,z⟩;cases z];exact h1,h2,#[h3.1,by rw[AK^ne h3.2^by rintro⟨_,z⟩;cases z];exact h3.2],h4]
 .have hk:(if b=a then P3 c else n.w b)=P3 k:=hk
  by_cases z:b=a
  .rw[if_pos z]at hk;cases hk;rw[z];exact hc
  .rw[if_neg z]at hk
   exact(f.2 b k hk).to (λ_ _ z=>z) (λb vs e=>x.tup e) (λb o e=>let #[o',e',_]:=x b o e;#[o',e']) λv e=>by rw[AK z];exact e
def putN(f:Str):p_ Str->p_ Str
 |[]=>[f]
 |g::r=>if g=f then g::r else g::putN f r
def putX{α:Type}(f:Str)(y:α):p_ Str->p_ α->p_ α
 |[],_=>[y]
 |_::_,[]=>[y]
 |g::r,x::xs=>if g=f then y::xs else x::putX f y r xs
theorem N6(f:Str)(y:V):∀{ks:p_ Str}{vs:p_ V},ks.length=vs.length->DV f y^ks.zip vs=(putN f ks).zip^putX f y ks vs
 |[],[],_=>rfl
 |k::ks,v::vs,h=>by
  have ih:=N6 f y (ks:=ks) (vs:=vs) (by simpa using h);show(if k=f then(k,y)::ks.zip vs else(k,v)::DV f y^ks.zip vs)=(if k=f then k::ks else k::putN f ks).zip (if k=f then y::vs else v::putX f y ks vs)
  by_cases e:k=f
  .rw[if_pos e,if_pos e,if_pos e];rfl
  .rw[if_neg e,if_neg e,if_neg e,ih];rfl
theorem N4{α:Type}(f:Str)(y:α):∀{ks:p_ Str}{vs:p_ α},ks.length=vs.length->(putN f ks).length=(putX f y ks vs).length
 |[],[],_=>rfl
 |k::ks,v::vs,h=>by
  have ih:=N4 f y (ks:=ks) (vs:=vs) (by simpa using h);show(if k=f then k::ks else k::putN f ks).length=(if k=f then y::vs else v::putX f y ks vs).length
  by_cases e:k=f
  .rw[if_pos e,if_pos e];simpa using h
  .rw[if_neg e,if_neg e];simpa using ih
theorem N5(f:Str){d:D}{v:V}(hd:At K M H d v):∀{ks:p_ Str}{ds:p_ D}{vs:p_ V},ks.length=ds.length->Ats K M H ds vs->Ats K M H (putX f d ks ds)^putX f v ks vs
 |[],[],_,_,h=>by cases h;exact#[_,_,rfl,hd,rfl]
 |k::ks,d0::ds,_,l,#[v0,r,e,h1,h2]=>by
  subst e;show Ats K M H (if k=f then d::ds else d0::putX f d ks ds) (if k=f then v::r else v0::putX f v ks r)
  by_cases e:k=f
  .rw[if_pos e,if_pos e];exact#[_,_,rfl,hd,h2]
  .rw[if_neg e,if_neg e];exact#[_,_,rfl,h1,N5 f hd (by simpa using l) h2]
theorem LF(f:Str){d:D}(hd:flat d=n_):∀{ks:p_ Str}{ds:p_ D},ks.length=ds.length->A9 ds=n_->A9^putX f d ks ds=n_
 |[],[],_,_=>by show(flat d&&n_)=n_;rw[hd];rfl
 |k::ks,d0::ds,l,h=>by
  have h:(flat d0&&A9 ds)=n_:=h;rw[eh]at h;show A9 (if k=f then d::ds else d0::putX f d ks ds)=n_
  by_cases e:k=f
  .rw[if_pos e];show(flat d&&A9 ds)=n_;rw[hd,h.2];rfl
  .rw[if_neg e];show(flat d0&&A9^putX f d ks ds)=n_;rw[h.1,LF f hd (by simpa using l) h.2];rfl
theorem OI{f:Str}{x:D}:∀{ks:p_ Str}{ds:p_ D}{vs:p_ V},Ats K M H ds vs->(ks.zip ds).lookup f=P3 x->∃v,(ks.zip vs).lookup f=P3 v/\At K M H x v
 |[],_,_,_,e=>by cases e
 |_::_,[],_,_,e=>by cases e
 | k::ks,d::ds,_,#[v,r,e1,h1,h2],e=>by
  subst e1
  by_cases z:f=k
  .subst z
   simp only[gm,iC,BEq.rfl]at e ⊢;cases e;exact#[v,rfl,h1]
  .have hb:(f==k)=o_:=beq_eq_false_iff_ne.mpr z
   simp only[gm,iC,hb]at e ⊢;exact OI h2 e
theorem Gq{α:Type}{f:Str}:∀{ks:p_ Str}{vs:p_ α},f∉ks->(ks.zip vs).lookup f=m_
 |[],_,_=>rfl
 |_::_,[],_=>rfl
 |k::ks,v::vs,h=>by
  have hb:(f==k)=o_:=beq_eq_false_iff_ne.mpr λz=>h (by rw[z];exact Re);simp only[gm,iC,hb];exact Gq λz=>h^TW _ z
end
def Cc(C:Ch)(f:Str)(w:DW):DW:=λn ρ P=>w n ρ λd n1=>∃a ks ds x,d=.ob a/\n1.w a=P3^.ins C ks ds/\(ks.zip ds).lookup f=P3 x/\P x n1
def Ky(C:Ch)(f:Str)(wo wv:DW):Aa:=λD2 n ρ=>wv n ρ λy n1=>flat y=n_/\wo n1 ρ λd n2=>∃a ks ds,d=.ob a/\n2.w a=P3^.ins C ks ds/\ks.length<1000/\D2.nx (n2.put a^.ins C (putN f ks)^putX f y ks ds) ρ
section
variable {X:Cx}{C:Addr}{f m:Str}{o e value:Expr}{es:p_ Expr}{pos pos' apos p:Pos}{κ zK κv:Kd}{wo wv:DW}{was:Ti}
def FR{K:Frag}{U M:Ch->Prop}{H:Hp}{a:Ch}{v:V}(h:AtT K U M H (.ob a) v):v=.ref a:=h.1
def BY(c:Cls X.K C)(hn:NoAttr X.K C f)(h:DE X e κ wo)(hb:attributeBase e f X.env^eval e X.env=eval e X.env:=by rfl):DE X (.Attribute e f pos) .sh^Cc C f wo:=by
 let#[t,h1,h2]:=h;refine#[_,ZL h1 hb,λC0 M H n ρ Z P Q R w q=>?_];refine h2 C0 M H n ρ Z _ _ R w λv H1 d n1 e1 f1 r1 #[a,ks,ds,x,ed,hw,hl,p]=>?_;subst ed;let#[dx,vs,g1,g2,g3,g4]:=f1.2 a _ hw;let#[u,hu,hx]:=OI g4 hl;exact#[a,C,dx,_,u,FR^r1.tpOf R.dom R.vM,g1,c,hn,hu,q u H1 x n1 e1 f1 hx p]
def Jn(c:Cls X.K C)(hn:NoAttr X.K C f)(ho:DE X o zK wo)(hv:DE X value κv wv)(hk:κv≠.tp:=by intro z;cases z)(hs:swapsWith value (P3^.Attribute o f pos') pos.line X.env=pure o_:=by rfl):DS X κ (.Assign [.Attribute o f pos'] value pos)^Ky C f wo wv:=by
 let#[to,o1,o2]:=ho;let#[tv,v1,v2]:=hv;refine#[_,ZD o1 v1 hs,λC0 M H n ρ Z D2 E R L w=>?_];refine v2 C0 M H n ρ Z _ _ R w λy H1 d n1 e1 f1 r1 #[fl,w1]=>?_;have R1:=R.step e1 f1;refine o2 C0 M H1 n1 ρ Z _ _ R1 w1 λx H2 d2 n2 e2 f2 r2 #[a,ks,ds,ed,hw,hl,p]=>?_;subst ed;have R2:=R1.step e2 f2;let#[dx,vs,g1,g2,g3,g4]:=f2.2 a _ hw;have lv:ks.length=vs.length:=g2.trans g4.length.symm;have x3:=IL (U:=C0.U) (u':=.ins C dx^DV f y^ks.zip vs) g1;have hy:At X.K M H2 d y:=(r1.shOf R.dom hk).pres^R1.pres e2;refine#[a,C,dx,_,FR^r2.tpOf R1.dom R1.vM,g1,c,hn,by rw[gI,lv,Nat.min_self,←lv];exact hl,?_];refine L.nx M _ _ ρ Z (R2.step x3^f2.put (c:=.ins C (putN f ks)^putX f d ks ds) g1 #[dx,putX f y ks vs,?_,N4 f d g2,LF f fl g2 g3,?_]) p
 .rw[AM,N6 f y lv]
 .exact(N5 f hy g2 g4).pres^R2.pres x3
def Fg(P:eT)(w:eY)(K:Frag)(mg:Str->q_ Db)(base:eK)(C:Ch)(m:Str)(k:Nat)(ps:p_ Str)(κ:Kd)(W:W2):Prop:=
 ∃f fd,FnOk P w K mg base Fi k f fd ps^R_ K κ W ps.length/\Xu K C m f/\Binds K fd ps []/\∀ss n P,W ss n P->ss.length=ps.length
def BZ(C:Ch)(m:Str)(W:W2)(wo:DW)(was:Ti):DW:=λn ρ P=>wo n ρ λd n1=>∃a ks ds,d=.ob a/\n1.w a=P3^.ins C ks ds/\m∉ks/\was n1 ρ λss n2=>W (.sh^.ob a::ss) n2 P
def BN{k:Nat}{ps:p_ Str}{W:W2}{pl:Sem Bool}(c:Cls X.K C)(G:Fg X.prog X.w X.K X.mg X.base C m k ps κ W)(hr:Room k X.A)(ho:DE X o zK wo)(ha:Xv X (e::es) was)
  (hst:starEach (e::es) X.env=(o_,eval e X.env)::starEach es X.env:=by rfl) (hpl:(backTo pos^starEach es X.env).any (·.1)=o_:=by rfl)
  (ht:eval (.Call (.Attribute o m apos) (e::es) [] pos) X.env=(do
   let ov ←eval o X.env
   standAt apos.atName
   let (f,first) ←holding [ov] (getMethod ov m pl)
   callWith pos f first (backTo pos^starEach (e::es) X.env) (backToKw pos^keywordEach [] X.env)):=by rfl):DE X (.Call (.Attribute o m apos) (e::es) [] pos) κ^BZ C m W wo was:=by
 let#[f,fd,G,hm,hb,hW]:=G;let#[to,o1,o2]:=ho;let#[t,a1,a2]:=ha;refine#[_,Wn o1 c hm G hr hb .nil JO a1 hst hpl ht,λC0 M H n ρ Z P Q R w q=>?_];refine o2 C0 M H n ρ Z _ _ R w λv H1 d n1 e1 f1 r1 #[a,ks,ds,ed,hw,hl,w1]=>?_;subst ed;have R1:=R.step e1 f1;let#[dx,vs,g1,g2,g3,g4]:=f1.2 a _ hw;have ev:=FR^r1.tpOf R.dom R.vM;subst ev;refine#[a,dx,_,rfl,g1,Gq hl,?_];refine a2 C0 M H1 n1 ρ Z _ _ R1 w1 λvs2 H2 ss n2 e2 f2 r2 p=>?_;have R2:=R1.step e2 f2;rw[e7];have hex:∃o,H2 a=P3 o:=let #[o',h,_]:=e2 a _ g1;#[o',h]
 have hself:EY X.K C0.F C0.V M H2 (.ref a)^.sh^.ob a:=#[#[_,rfl,rfl,hex],rfl];exact#[(Paired.length^Paired.cons hself r2).trans^hW _ _ _ p,_,_,_,M,n2,_,P,#[R2.dom,R2.fU,R2.uV,R2.vM,f2,Paired.cons hself r2],p,λv H3 d n3 e3 f3 r3 p3=>q v H3 d n3 ((e1.trans e2).trans e3) f3 (VR.back (e1.trans e2) r3) p3]
def EJ{k:Nat}{ps:p_ Str}{W:W2}{pl:Sem Bool}(c:Cls X.K C)(G:Fg X.prog X.w X.K X.mg X.base C m k ps κ W)(hr:Room k X.A)(ho:DE X o zK wo)
  (ht:eval (.Call (.Attribute o m apos) [] [] pos) X.env=(do
   let ov ←eval o X.env
   standAt apos.atName
   let (f,first) ←holding [ov] (getMethod ov m pl)
   callWith pos f first (backTo pos^starEach [] X.env) (backToKw pos^keywordEach [] X.env)):=by rfl):DE X (.Call (.Attribute o m apos) [] [] pos) κ^BZ C m W wo AR:=by
 let#[f,fd,G,hm,hb,hW]:=G;let#[to,o1,o2]:=ho;refine#[_,U0 o1 c hm G hr hb .nil JO ht,λC0 M H n ρ Z P Q R w q=>?_];refine o2 C0 M H n ρ Z _ _ R w λv H1 d n1 e1 f1 r1 #[a,ks,ds,ed,hw,hl,p]=>?_;subst ed;have R1:=R.step e1 f1;let#[dx,vs,g1,g2,g3,g4]:=f1.2 a _ hw;have ev:=FR^r1.tpOf R.dom R.vM;subst ev;refine#[a,dx,_,rfl,g1,Gq hl,?_];have hself:EY X.K C0.F C0.V M H1 (.ref a)^.sh^.ob a:=#[#[_,rfl,rfl,_,g1],rfl];exact#[hW _ _ _ p,_,_,_,M,n1,_,P,#[R1.dom,R1.fU,R1.uV,R1.vM,f1,Paired.cons hself .nil],p,λv H3 d n3 e3 f3 r3 p3=>q v H3 d n3 (e1.trans e3) f3 (VR.back e1 r3) p3]
def aH(P:eT)(w:eY)(K:Frag)(mg:Str->q_ Db)(base:eK)(x:Str)(C:Ch)(k:Nat)(ps:p_ Str)(W:W2):Prop:=
 ∃f fd,FnOk P w K mg base Fi k f fd ps^R_ K .sh W ps.length/\Mk K C f/\mg x=P3^.ref C/\Binds K fd ps []/\∀ss n P,W ss n P->ss.length=ps.length
def Tw(C:Ch)(W:W2)(was:Ti):DW:=λn ρ P=>was n ρ λss n1=>∀x,n1.w x=m_->W (.sh^.ob x::ss) (n1.put x^.ins C [] []) λd n2=>d=.non/\P (.ob x) n2
def RZ{k:Nat}{ps:p_ Str}{W:W2}{x:Str}(G:aH X.prog X.w X.K X.mg X.base x C k ps W)(hr:Room (k+1) X.A)(hg:Gl X x)(ha:Xv X (e::es) was)
  (hdb:(x==("__debug__":Str))=o_:=by decide) (he:starEach (e::es) X.env=(o_,eval e X.env)::starEach es X.env:=by rfl) (hpl:(backTo pos^starEach es X.env).any (·.1)=o_:=by rfl):
  DE X (.Call (.Name x p) (e::es) [] pos) .sh (Tw C W was):=by
 let#[f,fd,G,hm,hx,hb,hW]:=G;let#[t,a1,a2]:=ha;refine#[_,Wo hm G hr hg hx hb .nil JO a1 hdb he hpl,λC0 M H n ρ Z P Q R w q=>?_];refine a2 C0 M H n ρ Z _ _ R w λvs H1 ss n1 e1 f1 r1 p=>λa dx ha hdx ne=>?_;have R1:=R.step e1 f1;have g1:Grow H1^Aq H1 dx^.own a:=Am hdx;have ha1:Aq H1 dx (.own a) a=m_:=by rw[AK^fB ne];exact ha
 have g2:Grow (Aq H1 dx^.own a)^Aq (Aq H1 dx^.own a) a^.vol^.ins C dx []:=Am ha1;have e2:Ext C0.U H1^Aq (Aq H1 dx^.own a) a^.vol^.ins C dx []:=g1.ext.trans g2.ext
 have nw:n1.w a=m_:=by
  cases z:n1.w a with
  |none=>rfl
  |some c=>
   have k:=f1.2 a c z;cases c with
   |ins C ks ds=>let#[_,_,h,_]:=k;rw[ha]at h;cases h
   |pl d=>let#[_,u,_,h,_]:=k.pl;rw[ha]at h;cases h
 have p:=p a nw
 have f2:FeedC X.K C0.F M (Aq (Aq H1 dx^.own a) a^.vol^.ins C dx [])^n1.put a^.ins C [] []:=by
  have f:=(f1.grow g1).grow g2;refine#[λg hg=>f.1 g hg,λb k hk=>?_];have hk:(if b=a then P3 _ else n1.w b)=P3 k:=hk
  by_cases z:b=a
  .rw[if_pos z]at hk;cases hk;rw[z];exact#[dx,[],AM,rfl,rfl,rfl]
  .rw[if_neg z]at hk;exact f.2 b k hk
 have R2:=R1.step e2 f2;rw[e7];have r2:Paired (EY X.K C0.F C0.V M^Aq (Aq H1 dx^.own a) a^.vol^.ins C dx []) (V.ref a::vs) (.sh^.ob a::ss):=Paired.cons #[#[_,rfl,rfl,_,AM],rfl]^Paired.imp' (λv s h=>#[h.1.pres (R1.pres e2) (λ_ z=>z) e2 R.uV,h.2]) r1;refine#[(Paired.length r2).trans^hW _ _ _ p,_,_,_,M,_,_,_,#[R2.dom,R2.fU,R2.uV,R2.vM,f2,r2],p,λv H3 d n3 e3 f3 r3 #[ed,p3]=>?_];subst ed;refine#[r3,q (.ref a) H3 (.ob a) n3 ((e1.trans e2).trans e3) f3 #[rfl,?_] p3];let#[o',h,_]:=e3 a _ AM;exact#[o',h]
def Ih(w:DW):DW:=λn ρ P=>w n ρ λd n1=>Lb d/\∀a,n1.w a=m_->P (.ob a)^n1.put a^.pl d
def Ei(h:DE X e .fr wo):DE X e .sh^Ih wo:=by
 let#[t,h1,h2]:=h;refine#[_,Sb h1,λC0 M H n ρ Z P Q R w q=>?_];refine h2 C0 M H n ρ Z _ _ R w λv H1 d n1 e1 f1 #[a,ev,ha,tp] #[hd,p]=>?_;subst ev;have R1:=R.step e1 f1;have nM:¬M a:=λz=>by let#[o,h]:=R.dom a z;rw[ha]at h;cases h
 obtain⟨u,ck,hu,cell⟩:∃u,GY u/\H1 a=P3 u/\∀H2:Hp,H2 a=P3^.vol u->(∀b vs,H1 b=P3^.tup vs->H2 b=P3^.tup vs)->(∀b o,H1 b=P3 o->∃o',H2 b=P3 o')->CellOk X.K M H2 a^.pl d:=by
  cases d with
  |lst ds=>let#[vs,h1,h2]:=tp;exact#[.lst vs,trivial,h1,λH2 g t o=>#[nM,vs,g,hd,BB t o ds hd h2]]
  |dit ks ds=>let#[vs,h1,h2,h3]:=tp;exact#[.dT^ks.zip vs,trivial,h1,λH2 g t o=>#[nM,vs,g,h2,hd,BB t o ds hd h3]]
  |_=>exact(show False from hd).elim
 have vw:View H1^Aq H1 a^.vol u:=λb=>by
  by_cases z:b=a
  .rw[z];exact .inr #[u,ck,.inr #[hu,AM]]
  .exact .inl^AK z
 have ex:∀b o,H1 b=P3 o->∃o',Aq H1 a (.vol u) b=P3 o':=λb o h=>(iI (b=a)).elim (λz=>by rw[z];exact#[_,AM]) λz=>#[o,by rw[AK z];exact h]
 have e2:Ext C0.U H^Aq H1 a^.vol u:=λb o h=>by
  let#[o',h',z]:=e1 b o h;exact#[o',by rw[AK^Ai h ha];exact h',z]
 have nv:∀b c,n1.w b=P3 c->b≠a:=λb c k z=>by
  subst z;have k:=f1.2 b c k;cases c with
  |ins C ks ds=>let#[_,_,h,_]:=k;rw[hu]at h;exact FZ ck #[_,eE h]
  |pl d=>let#[_,_,_,h,_]:=k.pl;rw[hu]at h;exact FZ ck #[_,eE h]
 have nw:n1.w a=m_:=by
  cases z:n1.w a with
  |none=>rfl
  |some c=>exact absurd rfl (nv a c z)
 refine#[_,vw,q (.ref a) _ (.ob a) _ e2 #[λg hg=>?_,λb k hk=>?_] #[rfl,_,AM]^p a nw]
 .let#[x,r,cs,g1,g2,g3,g4]:=f1.1 g hg
  let#[_,_,_,o1,_,o3,_]:=R.feed.1 g hg;exact#[x,r,cs,by rw[AK^Ai o1 ha];exact g1,g2,#[g3.1,by rw[AK^Ai o3.2 ha];exact g3.2],g4]
 .have hk:(if b=a then P3^Wc.pl d else n1.w b)=P3 k:=hk
  by_cases z:b=a
  .rw[if_pos z]at hk;cases hk;rw[z];exact cell _ AM (λb vs h=>vw.tup b vs h) ex
  .rw[if_neg z]at hk
   exact(f1.2 b k hk).to (λ_ _ z=>z) (λb vs h=>vw.tup b vs h) ex λu h=>by rw[AK z];exact h
def bS(T:String):D->Prop
 |.lst _=>T="list"
 |.dit _ _=>T="dict"
 |_=>False
def Tx(T:String)(f:D->p_ D->(D->D->Prop)->Prop)(wo:DW)(ws:EX):DW:=λn ρ P=>wo n ρ λx n1=>∃a,x=.ob a/\(∃d,n1.w a=P3^.pl d/\bS T d)/\ws n1 ρ λds n2=>A9 ds=n_/\∃d,n2.w a=P3^.pl d/\f d ds λy z=>Lb y/\flat z=n_/\P z^n2.put a^.pl y
def Ej{K:Frag}{M:Ch->Prop}{H:Hp}{a:Ch}{d:D}(h:CellOk K M H a^.pl d):Cells M H [a]/\Tops K (λb=>M b\/b=a) (Gg H [a]) a d:=by
 have c:Cells M H [a]:=λb hb=>by
  rw[Rs.mp hb];let#[h0,u,k,h1,_]:=h.pl;exact#[h0,u,k,h1]
 refine#[c,?_];cases d with
 |lst ds=>let#[h0,vs,h1,h2,h3]:=h;exact#[vs,c.un Re h1,BB c.pres.2.2.1 c.ex ds h2 h3]
 |dit ks ds=>let#[h0,vs,h1,h2,h3,h4]:=h;exact#[vs,c.un Re h1,h2,BB c.pres.2.2.1 c.ex ds h3 h4]
 |_=>exact h.elim
def T7{K:Frag}{M:Ch->Prop}{H:Hp}{a:Ch}{d:D}{T:String}(h:Tops K M H a d)(t:bS T d):Ym K T (.ref a) H:=by
 cases d with
 |lst ds=>let#[vs,h1,_]:=h;exact .inl #[t,vs,SqL.of h1]
 |dit ks ds=>let#[vs,h1,_]:=h;exact .inr^.inr^.inl #[t,.inr #[_,h1]]
 |_=>exact(show False from t).elim
def OD{r:V->p_ V->Hp->VK->Prop}{f:D->p_ D->(D->D->Prop)->Prop}{C0:Fm}{M:Ch->Prop}{H:Hp}{n:Sg}{ρ:p_ Slot}{Z:L2.St}{a:Ch}{d:D}{ds:p_ D}{vs:p_ V}{P:D->Sg->Prop}{Q:VK}(R:Rel X.K C0 M H n ρ Z)(hA:Kw X.K r f)(hw:n.w a=P3^.pl d)(fl:A9 ds=n_)(hs:Ats X.K M H ds vs)
  (p:f d ds λy z=>Lb y/\flat z=n_/\P z^n.put a^.pl y) (q:∀v H' z n',Ext C0.U H H'->FeedC X.K C0.F M H' n'->At X.K M H' z v->P z n'->Q v H'):View H^Gg H [a]/\r (.ref a) vs (Gg H [a]) λv H4=>∃H5,View H4 H5/\Q v H5:=by
 have k:=R.feed.2 a _ hw;let#[c,tp]:=Ej k;let#[nM,u,ck,hu,_]:=k.pl;refine#[c.view,hA (λb=>M b\/b=a) _ a d ds vs _ _ (.inr rfl) tp (BB c.pres.2.2.1 c.ex ds fl hs) p λo y z v t2 hz #[cy,fz,pp]=>?_];have out:∀b,b≠a->Aq (Gg H [a]) a o b=H b:=λb z=>by rw[AK z,FJ λh=>z^Rs.mp h]
 have tu:∀b vs,Aq (Gg H [a]) a o b=P3^.tup vs->Aq H a (.vol o) b=P3^.tup vs:=λb vs h=>by
  by_cases z:b=a
  .rw[z]at h;exact absurd h^t2.notT
  .rw[AK z,←out b z];exact h
 have ex:∀b x,Aq (Gg H [a]) a o b=P3 x->∃o',Aq H a (.vol o) b=P3 o':=λb x h=>(iI (b=a)).elim (λz=>by rw[z];exact#[_,AM]) λz=>#[x,by rw[AK z,←out b z];exact h]
 obtain⟨ck2,cell⟩:GY o/\CellOk X.K M (Aq H a^.vol o) a^.pl y:=by
  cases y with
  |lst es=>let#[us,g1,g2]:=t2;rw[AM]at g1;cases g1;exact#[trivial,nM,us,AM,cy,BB tu ex es cy g2]
  |dit ks es=>let#[us,g1,g2,g3]:=t2;rw[AM]at g1;cases g1;exact#[trivial,nM,us,AM,g2,cy,BB tu ex es cy g3]
  |_=>exact(show False from cy).elim
 refine#[Aq H a^.vol o,λb=>?_,q v _ z _ (IL hu) (R.feed.put hu cell) (IK tu ex z fz hz) pp]
 by_cases z:b=a
 .rw[z];exact .inr #[o,ck2,.inr #[AM,AM]]
 .rw[out b z];exact .inl^AK z
def Of{name:Str}{cpos:Pos}{T id:String}{r:V->p_ V->Hp->VK->Prop}{f:D->p_ D->(D->D->Prop)->Prop}{ws:EX}(pa:iP T)(slot:PySem.Slot T name id)(hty:typeOf^.builtin id=pure^.type "method_descriptor")
  (hm:WK X id r) (hA:Kw X.K r f) (ho:DE X o zK wo) (ha:Ye X (e::es) ws)
  (hbase:attributeBase o name X.env^eval o X.env=eval o X.env:=by rfl)
  (hfew:((backTo cpos^starEach (e::es) X.env).all (λx=>!x.1)&&(backToKw cpos^keywordEach [] X.env).all (λx=>x.1.isSome)
   && decide ((e::es).length+([]:p_ iG).length+(if([]:p_ iG).isEmpty then 0 else 1)<30))=n_:=by rfl)
  (hline:(apos.endLine==cpos.line)=n_:=by rfl) (hs:starEach (e::es) X.env=(o_,eval e X.env)::starEach es X.env:=by rfl) (hplain:(backTo cpos^starEach es X.env).any (·.1)=o_:=by rfl):
  DE X (.Call (.Attribute o name apos) (e::es) [] cpos) .sh (Tx T f wo ws):=by
 let#[to,o1,o2]:=ho;let#[t,a1,a2]:=ha;refine#[_,ZM pa slot hty hm o1 a1 hbase hfew hline hs hplain,λC0 M H n ρ Z P Q R w q=>?_];refine o2 C0 M H n ρ Z _ _ R w λv H1 d n1 e1 f1 r1 #[a,ed,#[d1,hw1,hT],w1]=>?_;subst ed;have ev:=FR^r1.tpOf R.dom R.vM;subst ev;have R1:=R.step e1 f1;let#[c1,tp1]:=Ej^f1.2 a _ hw1;refine#[#[_,c1.view,T7 tp1 hT],?_];refine a2 C0 M H1 n1 ρ Z _ _ R1 w1 λvs H2 ds n2 e2 f2 r2 #[fl,d2,hw2,p]=>?_;exact#[_,OD (R1.step e2 f2) hA hw2 fl r2 p λv H3 z n3 e3 f3 r3 p3=>q v H3 z n3 ((e1.trans e2).trans e3) f3 r3 p3]
def Zr{name:Str}{cpos:Pos}{T id:String}{r:V->p_ V->Hp->VK->Prop}{f:D->p_ D->(D->D->Prop)->Prop}(pa:iP T)(slot:PySem.Slot T name id)(hty:typeOf^.builtin id=pure^.type "method_descriptor")
  (hm:WK X id r) (hA:Kw X.K r f) (ho:DE X o zK wo) (hbase:attributeBase o name X.env^eval o X.env=eval o X.env:=by rfl) (hline:(apos.endLine==cpos.line)=n_:=by rfl):
  DE X (.Call (.Attribute o name apos) [] [] cpos) .sh (Tx T f wo AS):=by
 let#[to,o1,o2]:=ho;refine#[_,Wv pa slot hty hm o1 hbase hline,λC0 M H n ρ Z P Q R w q=>?_];refine o2 C0 M H n ρ Z _ _ R w λv H1 d n1 e1 f1 r1 #[a,ed,#[d1,hw1,hT],fl,d2,hw2,p]=>?_;subst ed;have ev:=FR^r1.tpOf R.dom R.vM;subst ev;have R1:=R.step e1 f1;rw[hw1]at hw2;cases hw2
 let#[c1,tp1]:=Ej^f1.2 a _ hw1;let#[v3,g]:=OD (vs:=[]) (Q:=Q) R1 hA hw1 fl rfl p λv H3 z n3 e3 f3 r3 p3=>q v H3 z n3 (e1.trans e3) f3 r3 p3;exact#[_,v3,T7 tp1 hT,g]
end
end Dp
namespace L2
section
variable {X:Cx}{o i value:Expr}{pos pos':Pos}{td ty tv:TE}
def Y4(td ty tv:TE):TS:=λD Z H=>tv Z H λv H1=>td Z H1 λx H2=>ty Z H2 λy H3=>∃a H4 H5 H6,x=.ref a/\View H3 H4/\DPut H4 a y v H5/\View H5 H6/\D.nx Z H6
def Ut(hu:X.A.units+1<cLine)(ho:PE X o td)(hi:PE X i ty)(hv:PE X value tv)(hs:swapsWith value (P3^.Subscript o i pos') pos.line X.env=pure o_):
  PS X (.Assign [.Subscript o i pos'] value pos) (Y4 td ty tv):=by
 intro zG s Z H D I h;refine wpAny_Assign_Subscript (BD (hv _ s Z H _ I h) λr s1 #[v,H1,I1,rv,q1]=>BD (ho _ s1 Z H1 _ I1 q1) λu s2 #[x,H2,I2,rx,q2]=>BD (hi _ s2 Z H2 _ I2 q2) λiv s3 #[y,H3,I3,ry,a,H4,H5,H6,ex,v4,g,v6,q3]=>?_) hs;subst ex;obtain rfl:u=eJ a:=rx;exact LZ hu (I3.view v4) g ry rv λs4 I4=>#[Z,H6,I4.view v6,q3]
def Ug:p_ V->Hp->VK->Prop:=λxs H Q=>∃(d:Ch) (kvs:p_ (p_ Key×V)),xs=[.ref d]/\Rd H d^.dT kvs/\kvs.length<64 /\
 ∀(as:p_ Ch) (l:Ch),as.length=kvs.length->(∀(i:Nat) (a:Ch) (p:p_ Key×V),as[i]?=P3 a->kvs[i]?=P3 p->H a=P3^.tup^p.1.map kV)->H l=m_->Q (.ref l)^Aq H l^.lst^as.map V.ref
def QT(hc:X.calm=n_):CallR X (.type "list") Ug:=by
 intro zG s Z H xs us Q I r h;let#[d,kvs,rfl,hd,h64,q]:=h;let#[u,rfl,rx]:=vals1 r;cases rx;let#[o,es,ep,as,g1,g2,g3,g4,g5,g6,g7]:=IP I.hok hd;have lo:=(DK I.hok hd).2.1;refine PySem.W.kdl_call (Qz (P:=X.prog) (w:=X.w) (es:=es) (ep:=ep) lo) (I.ok.hd hc) #[o,g1,g2,g3] (by rw[fA];lk) λh' tk acc c' hk hl hacc=>?_
 have hv:acc=(as.map eJ).toArray:=by
  refine Array.ext' ?_;refine j7 λi=>?_;cases hx:acc.toList[i]? with
  |some v=>
   let#[e,he,rfl]:=hacc.2 i v (by rw[←iK];exact hx);let#[a,ha,hk]:=g6 i e he;show _=(as.map eJ)[i]?;rw[ZB,ha,hk];rfl
  |none=>
   have:acc.toList.length<=i:=kA.mp hx
   rw[fD,hacc.1]at this;show _=(as.map eJ)[i]?;rw[iM^by rw[Ev];lk]
 have hf:=I.hok.fresh^Op s.heap.objs.size;refine#[.ref s.heap.objs.size,_,I.laid (t':=tk) (o:=.lst^as.map V.ref) hk (Op _) #[by rw[Ev,fA];lk,as.map eJ,c',Gd as,by rw[←hv];exact hl],rfl,q as _ g4 g7 hf]
end
end L2
namespace Dp
open L2
def Vl(ds:p_ D)(P:D->Prop):Prop:=∃(ks:p_^p_ Key) (es:p_ D),ds=[.dit ks es]/\ks.length=es.length/\ks.length<64/\(∀k∈ks,∀x∈k,De x)/\P^.lst^ks.map tupK
def Xo{K:Frag}:CA K .fr Ug Vl:=by
 intro U M H ds vs P Q dom vM hp w q;let#[ks,es,rfl,hl,h64,hf,w]:=w;let#[v,rfl,hx]:=Cw hp;let#[a,us,rfl,ha,hs]:=Jo hx;have lu:=hs.length;have hz:(ks.zip us).length=ks.length:=by rw[gI];lk
 refine#[a,_,rfl,ha,by lk,λas l h1 h2 hn=>q _ _ _ (Am hn) (Bx hn^Ik (by lk) hf λi b k eb ek=>?_) w];have hi:i<us.length:=by have:=(Uf.mp ek).1;lk
 exact h2 i b (k,us[i]) eb^by rw[iZ];exact#[ek,No hi]
def RR(d:D)(ds:p_ D)(P:D->D->Prop):Prop:=∃ks xs k key j x,d=.dit ks xs/\ds=[k]/\keysOf k=P3 key/\ks[j]?=P3 key/\xs[j]?=P3 x/\P (.dit (ks.eraseIdx j)^xs.eraseIdx j) x
def Vo(d:D)(ds:p_ D)(P:D->D->Prop):Prop:=∃xs,d=.lst xs/\ds=[]/\P (.lst []) .non
def Z6{K:Frag}:Kw K Ui Vo:=by
 intro M H a d ds vs P Q m t hv w q;let#[xs,rfl,rfl,w]:=w;let#[us,h1,h2]:=t;cases(show vs=[]from hv);exact#[a,us,rfl,rfl,h1,q _ (.lst []) .non _ #[[],AM,rfl] rfl w]
theorem Vp{α β:Type}:∀(xs:p_ α) (ys:p_ β) (j:Nat),xs.length=ys.length->(xs.zip ys).eraseIdx j=(xs.eraseIdx j).zip^ys.eraseIdx j
 |[],[],_,_=>rfl
 |_::_,_::_,0,_=>rfl
 |x::xs,y::ys,j+1,h=>by show(x,y)::(xs.zip ys).eraseIdx j=(x,y)::(xs.eraseIdx j).zip^ys.eraseIdx j;rw[Vp xs ys j^by simpa using h]
def V_{K:Frag}:Kw K YC RR:=by
 intro M H a d ds vs P Q m t hv w q;let#[ks,xs,k,key,j,x,rfl,rfl,hk,hj,hx,w]:=w;let#[us,h1,h2,h3]:=t;let#[u,r,rfl,hu,hr]:=hv;cases(show r=[]from hr);let#[b,rfl,hb]:=Gx hk^At.tp (U:=λ_=>False) (λ_ z=>z.elim) hu;let#[v,ev,hv]:=h3.get hx;have pr:Pres M H M^Aq H a^.dT^(ks.zip us).eraseIdx j:=CI m h1;refine#[a,b,_,key,j,v,rfl,rfl,h1,hb,by rw[iZ];exact#[hj,ev],q _ (.dit (ks.eraseIdx j)^xs.eraseIdx j) x v #[us.eraseIdx j,?_,?_,(h3.eraseIdx j).pres pr] (hv.pres pr) w]
 .rw[AM,Vp _ _ _^h2.trans h3.length.symm]
 .rw[List.length_eraseIdx,List.length_eraseIdx,h2]
section
variable {X:Cx}{a b c o:Expr}{κ zU zQ zK:Kd}{wa wb wo:DW}{pos pos':Pos}
def Xx(wo wk wv:DW):Aa:=λD2 n ρ=>wv n ρ λd n1=>flat d=n_/\wo n1 ρ λx n2=>wk n2 ρ λk n3=>∃l key ks ds,x=.ob l/\keysOf k=P3 key/\n3.w l=P3^.pl^.dit ks ds/\ks.length<sizeLine/\D2.nx (n3.put l^.pl^.dit (D6 ks key)^CD ks ds key d) ρ
theorem JJ{k:p_ Key}{d:D}(hd:flat d=n_):∀{ks:p_^p_ Key}{ds:p_ D},A9 ds=n_->A9^gL (λk0 d0=>if k0=k then d else d0) ks ds=n_
 |[],_,_=>rfl
 |_::_,[],_=>rfl
 |k0::ks,d0::ds,h=>by
  have h:(flat d0&&A9 ds)=n_:=h;rw[eh]at h;show(flat (if k0=k then d else d0)&&A9 _)=n_;rw[JJ hd h.2,Bool.and_true]
  split
  .exact hd
  .exact h.1
theorem Df:∀{xs ys:p_ D},A9 xs=n_->A9 ys=n_->A9 (xs++ys)=n_
 |[],_,_,h=>h
 |x::xs,ys,h,g=>by
  have h:(flat x&&A9 xs)=n_:=h;rw[eh]at h;show(flat x&&A9 (xs++ys))=n_;rw[h.1,Df h.2 g];rfl
def XX{k:Nat}(hr:Room k X.A)(ho:DE X o zK wo)(ha:DE X a zU wa)(hb:DE X b zQ wb)(hk:zQ≠.tp:=by intro z;cases z)
  (hs:swapsWith b (P3^.Subscript o a pos') pos.line X.env=pure o_:=by rfl):DS X κ (.Assign [.Subscript o a pos'] b pos)^Xx wo wa wb:=by
 let#[t,h1,h2]:=ha;let#[u,g1,g2]:=hb;let#[to,o1,o2]:=ho;refine#[_,Ut (GD hr) o1 h1 g1 hs,λC M H n ρ Z D2 E R L w=>?_];refine g2 C M H n ρ Z _ _ R w λv H1 d n1 e1 f1 r1 #[fl,w1]=>?_;have R1:=R.step e1 f1;refine o2 C M H1 n1 ρ Z _ _ R1 w1 λx H2 d2 n2 e2 f2 r2 w2=>?_;have R2:=R1.step e2 f2;refine h2 C M H2 n2 ρ Z _ _ R2 w2 λy H3 d3 n3 e3 f3 r3 #[l,key,ks,ds,ed,hkey,hw,hl,p]=>?_;have R3:=R2.step e3 f3;subst ed;have hx:=FR^r2.tpOf R1.dom R1.vM;subst hx;let#[c,us,t1,t2,t3]:=Ej^f3.2 l _ hw;let#[nM,us',q1,q2,q3,q4]:=f3.2 l _ hw;have t1':=c.un Re q1;have hu:=eE^t1'.symm.trans t1;let#[b',rfl,hb']:=Gx hkey^r3.tpOf R2.dom R2.vM;have lu:ks.length=us'.length:=q2.trans q4.length.symm;refine#[l,Gg H3 [l],_,Aq H3 l^.vol^.dT^putK (ks.zip us') key v,rfl,c.view,DPut.t t1' (c.keep hb'^by rintro⟨_,z⟩;cases z) (by rw[gI];lk),λb0=>?_,?_]
 .by_cases z:b0=l
  .rw[z];exact .inr #[.dT _,trivial,.inr #[AM,AM]]
  .rw[AK z,AK z];exact .inl (FJ λh=>z^Rs.mp h).symm
 .have x3:=IL (U:=C.U) (u':=.dT^putK (ks.zip us') key v) q1
  have hd:At X.K M H3 d v:=((r1.shOf R.dom hk).pres^R1.pres e2).pres^R2.pres e3;refine L.nx M _ _ ρ Z (R3.step x3^f3.put (c:=.pl^.dit (D6 ks key)^CD ks ds key d) q1 #[nM,CD ks us' key v,?_,Uo q2,?_,(Ats.putXU hd q4).pres^R3.pres x3]) p
  .rw[AM,SW lu]
  .unfold CD
   split
   .exact JJ fl q3
   .exact Df q3^by show(flat d&&n_)=n_;rw[fl];rfl
def PM(k1 k2:Str)(w1 w2:DW):DW:=λn ρ P=>w1 n ρ λd1 n1=>w2 n1 ρ λd2 n2=>P (.dic [.inr k1,.inr k2] [d1,d2]) n2
def Od{k1 k2:Str}{j1 j2:Nat}{p1 p2:Pos}(ha:DE X a zU wa)(hb:DE X b zQ wb)(hne:k1≠k2:=by decide)(h1k:decide (k1.length<=1000)=n_:=by rfl)(h2k:decide (k2.length<=1000)=n_:=by rfl)(hka:zU≠.tp:=by intro z;cases z)(hkb:zQ≠.tp:=by intro z;cases z):DE X (.Dict [P3^.Constant (.str k1) j1 p1,P3^.Constant (.str k2) j2 p2] [a,b] pos) .fr^PM k1 k2 wa wb:=by
 let#[t,h1,h2]:=ha;let#[u,g1,g2]:=hb;refine#[_,Q9 (JK Py h1^JK Py g1 Q5) rfl rfl (fg _ _) (by show 2<=15;decide),λC M H n ρ Z P Q R w q=>λp hp=>?_];have R1:=R.hold (o:=.dK []) hp
 have np:¬C.U p:=λz=>by
  let#[o,w]:=R.dom p^R.vM p^R.uV p z;rw[hp]at w;cases w
 refine h2 C _ _ n ρ Z _ _ R1 w λx H2 d1 n1 e1 f1 r1 p1=>?_;have R2:=R1.step e1 f1;refine g2 C _ _ n1 ρ Z _ _ R2 p1 λy H3 d n2 e2 f2 r2 p2=>?_;have R3:=R2.step e2 f2;have hat1:At X.K (λb=>M b\/b=p) H3 d1 x:=(r1.shOf R1.dom hka).pres^R2.pres e2;have hat2:At X.K (λb=>M b\/b=p) H3 d y:=r2.shOf R2.dom hkb;have hp3:H3 p=P3^.dK []:=e2.keep (e1.keep AM np) np;refine#[hp3,[(.inr k1,x),(.inr k2,y)],?_,by show 2<=15;decide,?_]
 .rfl
 rw[show FT [] [((.inr k1:Key),x),(.inr k2,y)]=[(.inr k1,x),(.inr k2,y)] by simp[FT,putK,hne]];refine q _ _ (.dic [.inr k1,.inr k2] [d1,d]) n2 (λb o eb=>?_) ?_ #[p,rfl,hp,[x,y],AM,rfl,?_] p2
 .have nb:b≠p:=Ai eb hp
  let#[o1,z1,k1,t1]:=e1 b o (by rw[AK nb];exact eb);let#[o2,z2,k2,t2]:=e2 b o1 z1;exact#[o2,by rw[AK nb];exact z2,λnu nv=>(k2 nu^by rw[k1 nu nv];exact nv).trans^k1 nu nv,λvs z=>(t2 vs^(t1 vs z).trans z).trans^t1 vs z]
 .refine f2.pres #[λb o eb nb _=>by rw[AK λz=>nb^.inr z];exact eb,λb z=>.inl^.inl z,λb vs eb=>by rw[AK λz=>by rw[z,hp3]at eb;cases eb];exact eb,λb o eb=>(iI (b=p)).elim (λz=>by rw[z];exact#[_,AM]) λz=>#[o,by rw[AK z];exact eb]] (λf o hf eb=>?_) λb u eb=>by rw[AK λz=>by rw[z,hp3]at eb;cases eb];exact eb
  rw[AK λz=>np^by rw[←z];exact R.fU f hf];exact eb
 .exact#[x,[y],rfl,hat1.pres^CI (.inr rfl) hp3,y,[],rfl,hat2.pres^CI (.inr rfl) hp3,rfl]
end
end Dp
namespace L2
section
variable {X:Cx}
def UN{P:eT}{w:eY}{A:e_}{E:Db->Go->Prop}{s:Go}{nm:String}{a b:Ch}{es es2:Array h7}{ep ep2:Nat}{Q:Bool->Go->Prop}(ha:(a==sysModules)=o_)(hb:(b==sysModules)=o_)(da:DRaw s.heap a es ep)(db:DRaw s.heap b es2 ep2)(h0:es2.size=0)
  (h:Q (decide (es.size=0)) s):wpAny (model P w) A (ke nm a b) Q E s:=by
 let#[oa,a1,a2,a3]:=da;let#[ob,b1,b2,b3]:=db;unfold ke jL;rw[if_neg (show ¬(a==sysModules)=n_ by rw[ha];exact eO),if_neg (show ¬(b==sysModules)=n_ by rw[hb];exact eO)];refine Cn^On^Cn^On ?_;refine Cn^gF a1 a3 ?_
 dsimp only
 refine Cn^gF b1 b3 ?_
 by_cases hsz:es.size=0
 .rw[if_neg^by rw[hsz,h0];simp]
  refine Cn^jX a1 a3 ?_;refine Cn ?_;rw[Std.Legacy.Range.forIn_eq_forIn_range'];simp only[Std.Legacy.Range.size,Nat.sub_zero,Nat.add_sub_cancel,Nat.div_one,hsz,List.range'_zero,kh];rw[decide_eq_true hsz]at h;exact On^On h
 .rw[if_pos^by rw[h0];simpa using hsz]
  rw[decide_eq_false hsz]at h;exact Cn^iq^On h
def ax:R2:=λx y H Q=>∃a b kvs,x=.ref a/\y=.ref b/\Rd H a^.dT kvs/\Rd H b^.dK []/\Q (.bl (!decide (kvs.length=0))) H
def ZQ{k:Nat}(hr:Room k X.A):OpR X (compareOp .NotEq) ax:=by
 intro zG s Z H x y v u Q I rx ry h;let#[a,b,kvs,rfl,rfl,h1,h2,q]:=h;cases rx;cases ry;let#[o,es,ep,as,g1,g2,g3,g4,g5,g6,g7]:=IP I.hok h1;have la:=(DK I.hok h1).2.1;let#[_,lb,w2,k2,D2]:=E9 I.hok h2;let#[ob,es2,ep2,hob,hcb,hdb,hkb,hpb,_]:=id D2;have da:DRaw s.heap a es ep:=#[o,g1,g2,g3]
 have h0:es2.size=0:=by
  have e1:=hpb.length;have e2:=k2.length;have e3:es2.toList.length=es2.size:=fD;rw[f6]at e2;lk
 refine wpAny_richCompare_same_room (op:=.NotEq) da.ty D2.typeIs PySem.F.slot_dict_ne (ft PySem.F.slot_dict_ne da.ty PySem.F.entry_dict_ne ?_^PySem.F.args_dict_ne_2 _ _) hr.units0;show wpAny _ _ (kB "__ne__" #[[.ref a,.ref b],[]] >>=_) _ _ s;refine Cn ?_;unfold kB;refine Cn^jK da.ty ?_;show wpAny _ _ (pure (eJ a,eJ b)) _ _ s;refine On ?_;refine Cn^jG (T:="dict") D2.typeIs PySem.F.sub_dict_dict ?_;simp only[Bool.not_true,fG,if_false];refine Cn^On^Cn^On ?_;refine Cn^UN la lb da #[ob,hob,hcb,hdb] h0 ?_;refine On #[_,rfl,(λx=>nomatch x),?_];have e:es.size=kvs.length:=by first|exact g5|omega
 rw[e];refine#[.bl _,H,I,?_,q];show iN _=iN _;simp
def Ki{P:eT}{w:eY}{d:Ch}{es:Array h7}{ep:Nat}(lo:(d==sysModules)=o_):
  MeetsIn P w (gs.«dict.__len__» #[[.ref d],[]]) (λ_ R s=>DRaw s.heap d es ep/\R (.ok^.ret^.int es.size s.toks) {s with toks:=s.toks+1}):=
 .of_wp λA R s #[hm,h]=>by
  let#[o,ho,hc,hdat]:=hm;show wpAny _ _ (dictSize d >>=_) _ _ s;unfold dictSize;refine Cn^Cn^gF ho hdat^On ?_;show wpAny _ _ (Builtin.Dict.pendingCount d >>=_) _ _ s;refine Cn^wpAny_pendingCount_other lo ?_;refine wpAny_ret_mkInt ?_;rw[Nat.add_zero];exact h
def TU:CallR X (.builtin "len") (λxs H Q=>∃a kvs,xs=[V.ref a]/\Rd H a^.dT kvs/\Q (.int kvs.length) H):=by
 intro zG s Z H xs us Q I r h;let#[a,kvs,rfl,ha,q]:=h;let#[u,rfl,ru]:=vals1 r;cases ru;let#[z,lo,_]:=DK I.hok ha;let#[o,es,ep,as,h1,h2,h3,h4,h5,_]:=IP I.hok ha;have dr:DRaw s.heap a es ep:=#[o,h1,h2,h3];have szl:=PySem.sizeLine_eq;refine Calls.call_function_entry kind_len plain_len entry_len (args_len1 _) ?_;unfold gs.«len»;refine Cn (m:=oneArg "len" _)^On ?_
 refine Cn (m:=callSpecial? (.ref a)^fX "__len__") (fS (name:=fX "__len__") dr.ty F.slot_dict_len
  (iH F.slot_dict_len dr.ty F.entry_dict_len (F.args_dict_len_1 _) (Ki lo) #[dr,?_]))
 show wpAny _ _ _ _ _ {s with toks:=s.toks+1};refine Cn^fc^On ?_;refine Cn^gi ?_;show wpAny _ _ (if((es.size:Nat):Int)<0 then _ else _) _ _ _;rw[if_neg^by lk];show wpAny _ _ (if((es.size:Nat):Int)≥2 ^ 63 then _ else _) _ _ _;rw[if_neg^by lk];rw[h5];exact Cn^wpAny_mkInt^On #[_,rfl,.int kvs.length,H,I.tok _,#[_,rfl],q]
end
end L2
namespace Dp
open L2
def Zk(d e:D)(P:D->Prop):Prop:=∃ks ds,d=.dit ks ds/\ks.length=ds.length/\e=.dic [] []/\P^.bl (!decide (ks.length=0))
def bo{K:Frag}:Er K .sh ax Zk:=λU M H d e x y P Q dom vM hx hy w q=>by
 let#[ks,ds,rfl,hl,rfl,w]:=w;let#[a,vs,rfl,ha,hs]:=Jo hx;let#[b,us,rfl,_,hb,_,hs2]:=hy;have e:(ks.zip vs).length=ks.length:=by rw[gI,hs.length];lk
 refine#[a,b,_,rfl,rfl,ha,.inl hb,?_];rw[e];exact q _ H (.bl _) .refl rfl w
def Vm(ds:p_ D)(P:D->Prop):Prop:=∃ks es,ds=[.dit ks es]/\ks.length=es.length/\P^.int (ks.length:Int)
def Z4{K:Frag}:CA K .sh (λxs H Q=>∃a kvs,xs=[V.ref a]/\Rd H a^.dT kvs/\Q (.int kvs.length) H) Vm:=by
 intro U M H ds vs P Q dom vM hp w q;let#[ks,es,rfl,hl,w]:=w;let#[v,rfl,hx]:=Cw hp;let#[a,us,rfl,ha,hs]:=Jo hx;have e:(ks.zip us).length=ks.length:=by rw[gI,hs.length];lk
 refine#[a,_,rfl,ha,?_];rw[e];exact q _ H (.int _) .refl rfl w
end Dp
namespace L2
section
variable {X:Cx}{zG:p_ (Addr×Obj)}{Z:St}{H:Hp}{s:Shared}
def Pb{A':e_}{E':Db->Go->Prop}{ss:p_ Str}{us:p_ Db}{Q:VK}(I:Inv X zG Z H s)(hS:StrsAre us ss)(h64:us.length<64)
  (q:∀(ss':p_ Str) (l:Ch),ss'.Perm ss->sortedS ss'=n_->H l=m_->Q (.ref l)^Aq H l^.lst^ss'.map V.str):
  wpAny (model X.prog X.w) A' (gs.«list.sort» #[[.ref s.heap.objs.size],[]]) (λfin s'=>fin=.done^.ret .none/\EP X zG Z Q (.ref s.heap.objs.size) s') E' {s with heap:=s.heap.push^seqObj "list" us.toArray 0}:=by
 have ho:(s.heap.push^seqObj "list" us.toArray 0).get? s.heap.objs.size=P3^seqObj "list" us.toArray 0:=TM _ rfl;refine list_sort_treeK strKind_oneLt ho hS.keysOf (λv₁ v₂ rest e=>keyKind_strs^by rw[←e];exact hS) h64 λst' hp hs=>#[rfl,?_];let#[ss',h1,h2,h3]:=sorted_out_str hS hp hs;let#[e,he]:=sortedHeap_at (out:=(arrOf st').map (·.2)) ho;have hf:H s.heap.objs.size=m_:=I.fresh;have l1:=(B7 h1).length;have l2:=(B7 hS).length;have l3:=h2.length_eq;rw[Ev]at l1 l2;refine#[.ref s.heap.objs.size,Aq H s.heap.objs.size^.lst^ss'.map V.str,I.laid (t':=s.toks) (λb o z=>?_) (Op _) #[by rw[Ev,fA];lk,_,e,B7 h1,he],rfl,q ss' _ h2 h3 hf];rw[sortedHeap_old (eI^Tk z)^by rw[size_push'];exact gE^Tk z];exact FM _ z
end
end L2
namespace Dp
open L2
end Dp
namespace L2
section
variable {X:Cx}
def Ub(K:Frag):p_ V->Hp->VK->Prop:=λxs H Q=>∃(p:Ch) (ss:p_ Str),xs=[.ref p]/\SqT K H p^ss.map V.str/\ss.length<64/\∀(ss':p_ Str) (l:Ch),ss'.Perm ss->sortedS ss'=n_->H l=m_->Q (.ref l)^Aq H l^.lst^ss'.map V.str
def QS:CallR X (.builtin "sorted")^Ub X.K:=by
 intro zG s Z H xs us Q I r h;let#[p,ss,rfl,hq,h64,q]:=h;let#[u,rfl,rx]:=vals1 r;cases rx;exact CY (args_sorted1 _) (λx=>args_list_sort _)^Ju (κ:=o_) I hq λus s1 r1 hz I1=>#[by rw[←r1.length];exact hz,Pb I1 (Ip r1) (by have:=r1.length;rw[Ev]at this;lk) q]
end
end L2
namespace Dp
open L2
def Vj(ds:p_ D)(P:D->Prop):Prop:=∃ss:p_ Str,ds=[.tup^ss.map .str]/\ss.length<64/\∀ss':p_ Str,ss'.Perm ss->sortedS ss'=n_->P^.lst^ss'.map .str
def Xn{K:Frag}:CA K .fr (Ub K) Vj:=by
 intro U M H ds vs P Q dom vM hp w q;let#[ss,rfl,h64,w]:=w;let#[v,rfl,hx]:=Cw hp;let#[a,us,rfl,ha,hs]:=hx.tup
 have h2:∀{ss:p_ Str}{us:p_ V},Ats K M H (ss.map D.str) us->us=ss.map V.str:=by
  intro ss
  induction ss with
  |nil=>intro us h;exact h
  |cons x ss ih=>
   rintro us ⟨v,r,e,h1,h2⟩;rw[e,h1.1,ih h2];rfl
 have e:=h2 hs;subst e;exact#[a,ss,rfl,ha.sq,h64,λss' l h1 h2 hl=>q _ _ _ (Am hl) (Bx hl^Ats.strs λx hx=>hs.strs_le x^h1.mem_iff.mp hx)^w _ h1 h2]
end Dp
namespace Nt
open L2 Dp
def tD(t b:Int):D:=.tup [.int t,.int b]
def WQ(t b:Int):Prop:=1<=b/\b<=1000000/\1<=t/\t<=1000000
def kc(C:Ch)(t b:Int)(N M:Net):Wc:=.ins C ["times","whole","kept"] [tD t b,enc N,enc M]
def IsT(N:Net)(t b:Int)(M:Net):Prop:=∃ord:p_ A5,ord.Perm N.ts/\Fb ord/\M=sub N^CV N t b [] ord
def Xs(A B l:p_ A5):Prop:=l.Perm (A.filter λt=>decide (t∉B))/\Fb l
def V4(n:Sg)(l1 l2:Ch)(x y:p_ A5):Sg:=(n.put l1^.pl^.lst^x.map As).put l2^.pl^.lst^y.map As
def Lp(C:Ch)(n:Sg)(a:Ch)(t b:Int)(M N:Net)(P:D->Sg->Prop):Prop:=∀(T:Net) (came went:p_ A5) (l1 l2:Ch),IsT N t b T->Xs T.ts M.ts came->Xs M.ts T.ts went->n.w l1=m_->n.w l2=m_->l1≠l2->P (.tup [.ob l1,.ob l2])^V4 (n.put a^kc C t b N T) l1 l2 came went
def TV(x y:Str)(u:A5):Prop:=(u.a=x/\u.b=y)\/(u.a=y/\u.b=x)
noncomputable def BE(x y:Str)(u:A5):Bool:=@decide (TV x y u)^gZ _
noncomputable def Ta(x:Str)(u:A5):Bool:=@decide (u.a=x\/u.b=x)^gZ _
def IX:W2:=λss n P=>∃N M:Net,ss=[.sh^enc N,.sh^enc M]/\okN N/\okN M/\∀l,Xs N.ts M.ts l->P (.lst^l.map As) n
def GS:W2:=λss n P=>∃(N:Net) (us:p_ A5),ss=[.sh^enc N,.br^.lst^us.map As]/\okN N/\(∀u∈us,u∈N.ts)/\P (enc #[N.ps,N.ts.filter λt=>decide (t∉us)]) n
def GU:W2:=λss n P=>ss=[.fd]/\1<=n.n/\∀t b:Int,1<=b->b<=t->t<=1000000->P (tD t b) (n - 1)
def IZ(C:Ch):W2:=λss n P=>∃(a:Ch) (t b:Int),ss=[.sh^.ob a,.sh^tD t b]/\n.w a=P3^.ins C [] []/\P .non^n.put a^kc C t b #[[],[]] #[[],[]]
def Dk(C:Ch):W2:=λss n P=>∃(a:Ch) (t b:Int) (N0 M N:Net),ss=[.sh^.ob a,.sh^enc N]/\n.w a=P3^kc C t b N0 M/\okN N/\okN M/\WQ t b/\Lp C n a t b M N P
def Rw(C:Ch)(n:Sg)(a:Ch)(t b:Int)(N M:Net):Prop:=n.w a=P3^kc C t b N M/\okN N/\okN M/\WQ t b
def Fd(C:Ch):W2:=λss n P=>∃(a:Ch) (t b:Int) (N M:Net) (x:Str),ss=[.sh^.ob a,.sh^.str x]/\Rw C n a t b N M/\x∈N.ps/\P .non n
def GV(C:Ch):W2:=λss n P=>∃(a:Ch) (t b:Int) (N M:Net) (x y:Str),ss=[.sh^.ob a,.sh^.str x,.sh^.str y]/\Rw C n a t b N M/\x∈N.ps/\y∈N.ps/\x≠y/\P (.lst^(N.ts.filter^BE x y).map As) n
def NO(C:Ch):W2:=λss n P=>∃(a:Ch) (t b:Int) (N M:Net) (x y:Str) (u:A5),ss=[.sh^.ob a,.sh^.str x,.sh^.str y]/\Rw C n a t b N M/\x∈N.ps/\y∈N.ps/\x≠y/\N.ts.filter^BE x y=[u]/\P (As u) n
inductive Dd where
 |come (x:Str)|go (x:Str)|lay (x y:Str) (l:Int)|take (x y:Str)
def LU:Dd->D
 |.come x=>.tup [.str "come",.str x]
 |.go x=>.tup [.str "go",.str x]
 |.lay x y l=>.tup [.str "lay",.str x,.str y,.int l]
 |.take x y=>.tup [.str "take",.str x,.str y]
def lo(x y:Str):Str:=if cs x<cs y then x else y
def hi(x y:Str):Str:=if cs x<cs y then y else x
def Qi(N:Net):Dd->Net->Prop
 |.come x,N'=>Ga x/\x∉N.ps/\N'.ps.Perm (x::N.ps)/\N'.ts=N.ts
 |.go x,N'=>x∈N.ps/\N'=#[N.ps.filter λy=>decide (y≠x),N.ts.filter λu=>!Ta x u]
 |.lay x y l,N'=>x∈N.ps/\y∈N.ps/\x≠y/\1<=l/\l<=1000000/\N'.ps=N.ps/\N'.ts.Perm (#[lo x y,hi x y,l]::N.ts.filter λu=>!BE x y u)
 |.take x y,N'=>(∃u,N.ts.filter^BE x y=[u])/\x∈N.ps/\y∈N.ps/\x≠y/\N'=#[N.ps,N.ts.filter λu=>!BE x y u]
def OU(N:Net):Prop:=N.ps.length<=20/\N.ts.length<=50
def NV(C:Ch):W2:=λss n P=>∃(a:Ch) (t b:Int) (N M N':Net) (x:Str),ss=[.sh^.ob a,.sh^.str x]/\Rw C n a t b N M/\OU N/\Qi N (.come x) N'/\okN N'/\Lp C n a t b M N' P
def WF(C:Ch):W2:=λss n P=>∃(a:Ch) (t b:Int) (N M N':Net) (x:Str),ss=[.sh^.ob a,.sh^.str x]/\Rw C n a t b N M/\OU N/\Qi N (.go x) N'/\okN N'/\Lp C n a t b M N' P
def Qh(C:Ch):W2:=λss n P=>∃(a:Ch) (t b:Int) (N M N':Net) (x y:Str) (l:Int),ss=[.sh^.ob a,.sh^.str x,.sh^.str y,.sh^.int l]/\Rw C n a t b N M/\OU N/\Qi N (.lay x y l) N'/\okN N'/\Lp C n a t b M N' P
def NQ(C:Ch):W2:=λss n P=>∃(a:Ch) (t b:Int) (N M N':Net) (x y:Str),ss=[.sh^.ob a,.sh^.str x,.sh^.str y]/\Rw C n a t b N M/\OU N/\Qi N (.take x y) N'/\okN N'/\Lp C n a t b M N' P
def Qg(C:Ch):W2:=λss n P=>∃(a:Ch) (t b:Int) (N M:Net),ss=[.sh^.ob a]/\n.w a=P3^kc C t b N M/\P (enc N) n
def NP(C:Ch):W2:=λss n P=>∃(a:Ch) (t b:Int) (N M:Net),ss=[.sh^.ob a]/\n.w a=P3^kc C t b N M/\P (enc M) n
def IY(C:Ch):W2:=λss n P=>∃(a:Ch) (t b:Int) (N M:Net) (x y:Str),ss=[.sh^.ob a,.sh^.str x,.sh^.str y]/\Rw C n a t b N M/\N.ps=M.ps/\x∈N.ps/\y∈N.ps/\∀o,Far M x y o->P (C8 o) n
def tk(u:A5):p_ Key:=[.inr u.a,.inr u.b]
def IH(ps:p_ Str):D:=.lst^ps.map .str
def GZ(us:p_ A5):D:=.dit (us.map tk)^us.map λu=>.int u.len
def NW(N:Net)(ps:p_ Str)(us:p_ A5):Prop:=N.ps.Perm ps/\N.ts.Perm us/\okN N
def Hq(x y:D):D:=.dic [.inr "places",.inr "ties"] [x,y]
def KI:W2:=λss n P=>∃(N:Net) (ps:p_ Str) (us:p_ A5),ss=[.sh^Hq (IH ps)^GZ us]/\NW N ps us/\P (enc N) n
def IW:W2:=λss n P=>∃x y:Str,ss=[.sh^.str x,.sh^.str y]/\Ga x/\Ga y/\x≠y/\P (.tup [.str^lo x y,.str^hi x y]) n
def Rt:W2:=λss n P=>∃(l t:Ch) (N N':Net) (ps:p_ Str) (us:p_ A5) (d:Dd),ss=[.sh^Hq (.ob l)^.ob t,.sh^LU d]/\l≠t/\n.w l=P3^.pl^IH ps/\n.w t=P3^.pl^GZ us/\NW N ps us/\Qi N d N'/\okN N' /\
 ∀(n':Sg) (ps':p_ Str) (us':p_ A5),n'.n=n.n->n'.w l=P3^.pl^IH ps'->n'.w t=P3^.pl^GZ us'->NW N' ps' us'->(∀b,b≠l->b≠t->n'.w b=n.w b)->P .non n'
def IV(C:Ch):W2:=λss n P=>∃(a:Ch) (t b:Int) (N M N':Net) (d:Dd),ss=[.sh^.ob a,.sh^LU d]/\Rw C n a t b N M/\OU N/\Qi N d N'/\okN N'/\Lp C n a t b M N' P
def Ib:W2:=λss n P=>∃(N:Net) (ps:p_ Str) (us:p_ A5) (pool:p_ Str) (k:Int),ss=[.fd,.sh^Hq (IH ps)^GZ us,.sh^.tup^pool.map .str,.sh^.int k]/\NW N ps us/\pool.Nodup/\(∀x∈pool,Ga x)/\2<=pool.length/\pool.length<=20/\(∀x∈ps,x∈pool)/\us.length<=50/\0<=k/\k<=4/\5<=n.n /\
 ∀(d:Dd) (m:Nat),(match d with|.come x=>x∈pool/\x∉ps|.go x=>x∈ps|.lay x y l=>x∈ps/\y∈ps/\x≠y/\1<=l/\l<=1000000|.take x y=>∃u∈us,TV x y u)->n.n<=m+5->P (LU d) #[m,n.w]
def Hc:Aa:=(Av^AY Dl^AD (AL^AA 0)^AD (Bg^B6 [P3 1,m_] (BF^AU Au (AA 0)^wC^D.int 1) (Ax 1) (Ab^AU (Mq n_) (AA 1)^Ar 0)^AA 1) AR)
def FH(C_Keeper:Ch):Aa:=(AZ (Ky C_Keeper "times" (AA 0)^AA 1)
 (AZ (Ky C_Keeper "whole" (AA 0)^BA^AE (BA AS)^AE (BA AS) AS)
 (Ky C_Keeper "kept" (AA 0)^BA^AE (BA AS)^AE (BA AS) AS)))
def GP(C_Keeper:Ch):Aa:=(AZ (A2 2^Cc C_Keeper "kept"^AA 0)
 (AZ (Ky C_Keeper "whole" (AA 0)^AA 1)
 (AZ (Ky C_Keeper "kept" (AA 0)^AY Cp^AD (AL^AA 1)^AD (AL^Cc C_Keeper "times"^AA 0) AR)
 (Av^BA^AE (Ih^AY IX^AD (AL^Cc C_Keeper "kept"^AA 0)^AD (AL^AA 2) AR)^AE (Ih^AY IX^AD (AL^AA 2)^AD (AL^Cc C_Keeper "kept"^AA 0) AR) AS))))
def ES(C_Keeper:Ch):Aa:=(BG (Ab^AU (Mq n_) (AA 1)^AU Au (Cc C_Keeper "whole"^AA 0)^wC^D.int 0) FI Aw)
def Cz(C_Keeper:Ch):Aa:=(AZ (CJ^BZ C_Keeper "ask_place" (Fd C_Keeper) (AA 0)^AD (AL^AA 1) AR)
 (AZ (CJ^BZ C_Keeper "ask_place" (Fd C_Keeper) (AA 0)^AD (AL^AA 2) AR)
 (Av^B6 [P3 1,P3 2,m_] (BF^AU Au (Cc C_Keeper "whole"^AA 0)^wC^D.int 1) (Ax 2) (Ab^AU Vn (cD Vk (AA 2) ID^Ql^wC^D.int 2)^BA^AE (B0 OW^AE (AA 0)^AE (AA 1) AS)^AE (B0 OX^AE (AA 0)^AE (AA 1) AS) AS)^AA 2)))
def DN(C_Keeper:Ch):Aa:=(AZ (A2 3^BZ C_Keeper "ties_between" (GV C_Keeper) (AA 0)^AD (AL^AA 1)^AD (AL^AA 2) AR)
 (AZ (BG (Dn^Tu^Ar 3) FI Aw)
 (Av^AU Au (Ar 3)^wC^D.int 0)))
def Lj(C_Keeper:Ch):Aa:=(AZ (BG (Ab^AU (Mq o_) (AA 1)^AU Au (Cc C_Keeper "whole"^AA 0)^wC^D.int 0) FI Aw)
 (AZ (BG (Ab^AU (IA o_) (B0 Cs^AE (AU Au (Cc C_Keeper "whole"^AA 0)^wC^D.int 0) AS)^wC^D.int 24) FI Aw)
 (Av^BZ C_Keeper "turn_to" (Dk C_Keeper) (AA 0)^AD (AL^BA^AE (B0 Bt^AE (B0 Vj^AE (AU BU (AU Au (Cc C_Keeper "whole"^AA 0)^wC^D.int 0)^BA^AE (AA 1) AS) AS) AS)^AE (AU Au (Cc C_Keeper "whole"^AA 0)^wC^D.int 1) AS) AR)))
def Rh(C_Keeper:Ch):Aa:=(AZ (CJ^BZ C_Keeper "ask_place" (Fd C_Keeper) (AA 0)^AD (AL^AA 1) AR)
 (AZ (A2 2^B6 [P3 1,m_] (BF^AU Au (Cc C_Keeper "whole"^AA 0)^wC^D.int 0) (Ax 1) (Ab^AU (IA n_) (AA 1)^AA 0)^AA 1)
 (AZ (A2 3^B6 [P3 1,m_] (BF^AU Au (Cc C_Keeper "whole"^AA 0)^wC^D.int 1) (Ax 1) (Ab^AU (Mq n_) (AA 0)^cD Vk (AA 1) ID^Ql^wC^D.int 2)^AA 1)
 (Av^BZ C_Keeper "turn_to" (Dk C_Keeper) (AA 0)^AD (AL^BA^AE (B0 Bt^AE (AA 2) AS)^AE (B0 Bt^AE (AA 3) AS) AS) AR))))
def Ov(C_Keeper:Ch):Aa:=(AZ (A2 4^BZ C_Keeper "ties_between" (GV C_Keeper) (AA 0)^AD (AL^AA 1)^AD (AL^AA 2) AR)
 (AZ (BG (Ab^AU (IA o_) (AA 1)^AA 2) FI Aw)
 (AZ (BG (HC (Dn^Tu^Ar 4)^Ab^AU (IA o_) (B0 Cs^AE (AU Au (Cc C_Keeper "whole"^AA 0)^wC^D.int 1) AS)^wC^D.int 60) FI Aw)
 (AZ (A2 5^AU Au (AY GS^AD (AL^Cc C_Keeper "whole"^AA 0)^AD (Bg^Ar 4) AR)^wC^D.int 1)
 (Av^BZ C_Keeper "turn_to" (Dk C_Keeper) (AA 0)^AD (AL^AY Dl^AD (AL^Cc C_Keeper "whole"^AA 0)^AD (Bg^AU BU (AA 5)^BA^AE (BA^AE (B0 OW^AE (AA 1)^AE (AA 2) AS)^AE (B0 OX^AE (AA 1)^AE (AA 2) AS)^AE (AA 3) AS) AS) AR) AR)))))
def Li(C_Keeper:Ch):Aa:=(Av^BZ C_Keeper "turn_to" (Dk C_Keeper) (AA 0)^AD (AL^AY GS^AD (AL^Cc C_Keeper "whole"^AA 0)^AD (Bg^Cr^AE (BZ C_Keeper "tie_between" (NO C_Keeper) (AA 0)^AD (AL^AA 1)^AD (AL^AA 2) AR) AS) AR) AR)
def V6(C_Keeper:Ch):Aa:=(Av^Cc C_Keeper "whole"^AA 0)
def TZ(C_Keeper:Ch):Aa:=(Av^Cc C_Keeper "kept"^AA 0)
def Ow(C_Keeper:Ch):Aa:=(AZ (CJ^BZ C_Keeper "ask_place" (Fd C_Keeper) (AA 0)^AD (AL^AA 1) AR)
 (AZ (CJ^BZ C_Keeper "ask_place" (Fd C_Keeper) (AA 0)^AD (AL^AA 2) AR)
 (Av^AY Xr^AD (AL^Cc C_Keeper "kept"^AA 0)^AD (AL^AA 1)^AD (AL^AA 2) AR)))
def EN:Aa:=(AZ (A2 1^Cr^AE (BA^AE (wC^D.int 1)^AE (wC^D.int 1) AS)^AE (BA^AE (wC^D.int 3)^AE (wC^D.int 2) AS)^AE (BA^AE (wC^D.int 2)^AE (wC^D.int 1) AS)^AE (BA^AE (wC^D.int 3)^AE (wC^D.int 1) AS)^AE (BA^AE (wC^D.int 5)^AE (wC^D.int 2) AS)^AE (BA^AE (wC^D.int 1000)^AE (wC^D.int 999) AS)^AE (BA^AE (AU (WJ PC λi j=>D.int (i ^ j.toNat)) (wC^D.int 10)^wC^D.int 6)^AE (wC^D.int 1) AS)^AE (BA^AE (wC^D.int 2)^AE (wC^D.int 2) AS) AS)
 (Av^AU Au (AA 1)^AY BR^AD (A3 0)^AD (AL^wC^D.int 8) AR))
def Km:Aa:=(Av^BA^AE (AU Au (AA 0)^wC^D.int 2)^AE (AU Au (AA 0)^wC^D.int 0)^AE (AU Au (AA 0)^wC^D.int 1) AS)
def J5:Aa:=(Av^PK Ln^AA 0)
def EO:Aa:=(AZ (Fj 2^PN (AA 1)^wC^D.int 0)
 (AZ (A2 3^wC^D.bl n_)
 (AZ (Ie (Ab^AA 3) (AZ (A2 3^wC^D.bl o_)
 (X0 0 (Ko 3^BO (Ax 4)^BO (Ax 5)^BO (Ax 6) FA) (Ho (BF^Cr^AE (BA^AE (AA 4)^AE (AA 5) AS)^AE (BA^AE (AA 5)^AE (AA 4) AS) AS) (Ko 2^BO (Ax 7)^BO (Ax 8) FA) (BG (HC (Ab^AU (IB o_) (AA 7)^Ar 2)^Ab^AU H_ (AU BU (AU A4 (Ar 2)^AA 7)^AA 6)^Qm (Ar 2) (AA 8)^AU (WJ PC λi j=>D.int (i ^ j.toNat)) (wC^D.int 10)^wC^D.int 9) (AZ (Fk 2 (AA 8)^AU BU (AU A4 (Ar 2)^AA 7)^AA 6)
 (A2 3^wC^D.bl n_)) Aw)))))
 (NZ 2))))
def G8:Aa:=(AZ (Fj 2^Cr AS)
 (AZ (Ho (BF^AY EU^AD (AL^AU Au (AA 0)^wC^D.int 1) AR) (Ax 3) (AZ (A2 4^Kz (AY Cq^AD (Bg^Ar 2)^AD (AL^AU Au (AA 3)^wC^D.int 0) AR)^AU Au (AA 3)^wC^D.int 1)
 (BG (Ig (Ab^AU (Jk o_) (AA 4)^wC D.non)^Ab^AU (f2 λi j=>D.bl (decide (j<i))) (AU DH (AA 4)^AU Au (AA 1)^wC^D.int 1)^AU DH (AU Au (AA 3)^wC^D.int 2)^AU Au (AA 1)^wC^D.int 0) (Rz 2 "list" FX^AE (AA 3) AS) Aw)))
 (Av^BA^AE (AU Au (AA 0)^wC^D.int 0)^AE (B0 Bt^AE (B0 G2^AE (Ar 2) AS) AS) AS)))
def Ds:Aa:=(AZ (A2 1^AU A4 (AA 0)^wC^D.str "ties")
 (Av^BA^AE (B0 Bt^AE (B0 QJ^AE (AU A4 (AA 0)^wC^D.str "places") AS) AS)^AE (B0 Bt^AE (B6 [P3 1,m_] (BF^B0 Mp^AE (AA 1) AS) (Ax 1) Hl^AU BU (AA 1)^BA^AE (AU Vi (AA 0)^AA 1) AS) AS) AS))
def FE:Aa:=(Av^BA^AE (B0 OW^AE (AA 0)^AE (AA 1) AS)^AE (B0 OX^AE (AA 0)^AE (AA 1) AS) AS)
def He:Aa:=(AZ (BG (Ab^AU (IA o_) (AU Au (AA 1)^wC^D.int 0)^wC^D.str "come") (CJ^Tx "list" FX (AU A4 (AA 0)^wC^D.str "places")^AE (AU Au (AA 1)^wC^D.int 1) AS) Aw)
 (AZ (BG (Ab^AU (IA o_) (AU Au (AA 1)^wC^D.int 0)^wC^D.str "go") (AZ (CJ^Tx "list" Zj (AU A4 (AA 0)^wC^D.str "places")^AE (AU Au (AA 1)^wC^D.int 1) AS)
 (Ho (BF^Yl .fr Vl^AE (AU A4 (AA 0)^wC^D.str "ties") AS) (Ax 2)^BG (Ab^AU (Mq o_) (AU Au (AA 1)^wC^D.int 1)^AA 2) (CJ^Tx "dict" RR (AU A4 (AA 0)^wC^D.str "ties")^AE (AA 2) AS) Aw)) Aw)
 (AZ (BG (Ab^AU (IA o_) (AU Au (AA 1)^wC^D.int 0)^wC^D.str "lay") (Xx (AU A4 (AA 0)^wC^D.str "ties") (AY IW^AD (AL^AU Au (AA 1)^wC^D.int 1)^AD (AL^AU Au (AA 1)^wC^D.int 2) AR)^AU Au (AA 1)^wC^D.int 3) Aw)
 (BG (Ab^AU (IA o_) (AU Au (AA 1)^wC^D.int 0)^wC^D.str "take") (CJ^Tx "dict" RR (AU A4 (AA 0)^wC^D.str "ties")^AE (AY IW^AD (AL^AU Au (AA 1)^wC^D.int 1)^AD (AL^AU Au (AA 1)^wC^D.int 2) AR) AS) Aw))))
def FD(C_Keeper:Ch):Aa:=(AZ (BG (Ab^AU (IA o_) (AU Au (AA 1)^wC^D.int 0)^wC^D.str "come") (Av^BZ C_Keeper "come" (NV C_Keeper) (AA 0)^AD (AL^AU Au (AA 1)^wC^D.int 1) AR) Aw)
 (AZ (BG (Ab^AU (IA o_) (AU Au (AA 1)^wC^D.int 0)^wC^D.str "go") (Av^BZ C_Keeper "go" (WF C_Keeper) (AA 0)^AD (AL^AU Au (AA 1)^wC^D.int 1) AR) Aw)
 (AZ (BG (Ab^AU (IA o_) (AU Au (AA 1)^wC^D.int 0)^wC^D.str "lay") (Av^BZ C_Keeper "lay" (Qh C_Keeper) (AA 0)^AD (AL^AU Au (AA 1)^wC^D.int 1)^AD (AL^AU Au (AA 1)^wC^D.int 2)^AD (AL^AU Au (AA 1)^wC^D.int 3) AR) Aw)
 (AZ (BG (Ab^AU (IA o_) (AU Au (AA 1)^wC^D.int 0)^wC^D.str "take") (Av^BZ C_Keeper "take" (NQ C_Keeper) (AA 0)^AD (AL^AU Au (AA 1)^wC^D.int 1)^AD (AL^AU Au (AA 1)^wC^D.int 2) AR) Aw)
 (Av^BZ C_Keeper "far" (IY C_Keeper) (AA 0)^AD (AL^AU Au (AA 1)^wC^D.int 1)^AD (AL^AU Au (AA 1)^wC^D.int 2) AR)))))
def FG:Aa:=(AZ (A2 4^AU A4 (AA 1)^wC^D.str "places")
 (AZ (A2 5^B6 [P3 4,m_] (BF^AA 2) (Ax 1) (Ab^AU (Mq n_) (AA 1)^AA 0)^AA 1)
 (AZ (A2 6^AY BR^AD (A3 0)^AD (AL^wC^D.int 9) AR)
 (AZ (BG (HC (Ab^AU bZ (AA 5)^Cr AS)^Ig (Ab^AU H_ (AA 6)^wC^D.int 2)^Ab^AU H_ (B0 Cs^AE (AA 4) AS)^wC^D.int 2) (Av^BA^AE (wC^D.str "come")^AE (AU Au (AA 5)^AY BR^AD (A3 0)^AD (AL^B0 Cs^AE (AA 5) AS) AR) AS) Aw)
 (AZ (BG (Ab^AU (IA o_) (AA 6)^wC^D.int 2) (Av^BA^AE (wC^D.str "go")^AE (AU Au (AA 4)^AY BR^AD (A3 0)^AD (AL^B0 Cs^AE (AA 4) AS) AR) AS) Aw)
 (AZ (BG (HC (Ab^AU (IA o_) (AA 6)^wC^D.int 3)^Ab^AU Zk (AU A4 (AA 1)^wC^D.str "ties") PP) (AZ (A2 7^AU Au (B0 Mp^AE (AU A4 (AA 1)^wC^D.str "ties") AS)^AY BR^AD (A3 0)^AD (AL^B0 Vm^AE (AU A4 (AA 1)^wC^D.str "ties") AS) AR)
 (AZ (A2 8^AY BR^AD (A3 0)^AD (AL^wC^D.int 2) AR)
 (Av^BA^AE (wC^D.str "take")^AE (AU Au (AA 7)^AA 8)^AE (AU Au (AA 7)^AU Dq (wC^D.int 1)^AA 8) AS))) Aw)
 (AZ (A2 9^AY BR^AD (A3 0)^AD (AL^B0 Cs^AE (AA 4) AS) AR)
 (AZ (A2 10^AU (WJ (λ_ j=>0<j) λi j=>D.int (i % j)) (AU BU (AU BU (AA 9)^wC^D.int 1)^AY BR^AD (A3 0)^AD (AL^AU Dq (B0 Cs^AE (AA 4) AS)^wC^D.int 1) AR)^B0 Cs^AE (AA 4) AS)
 (Av^BA^AE (wC^D.str "lay")^AE (AU Au (AA 4)^AA 9)^AE (AU Au (AA 4)^AA 10)^AE (AY Lo^AD (A3 0)^AD (AL^aP (Ab^AU H_ (AA 3)^wC^D.int 4) (AA 3)^AY BR^AD (A3 0)^AD (AL^wC^D.int 4) AR) AR) AS)))))))))
def MK(n:Sg)(a:Ch)(c d:Wc):(n.put a c).put a d=n.put a d:=by
 unfold Sg.put
 congr 1
 funext b
 by_cases h:b=a
 .simp only[h,if_pos]
 .simp only[if_neg h]
def B9(n:Sg)(a:Ch)(c:Wc):(n.put a c).w a=P3 c:=if_pos rfl
def CC{n:Sg}{a b:Ch}{c:Wc}(h:b≠a):(n.put a c).w b=n.w b:=if_neg h
def Nh(xs:p_ Str):flat^.tup^xs.map .str=n_:=by
 show A9 _=n_
 induction xs with
 |nil=>rfl
 |cons x xs ih=>show(n_&&A9^xs.map D.str)=n_;rw[ih];rfl
def Dg(us:p_ A5):A9^us.map As=n_:=by
 induction us with
 |nil=>rfl
 |cons u us ih=>show(flat^As u&&A9^us.map As)=n_;rw[ih];rfl
def Jl(N:Net):flat^enc N=n_:=by
 show(flat^.tup^N.ps.map .str&&(flat^.tup^N.ts.map As&&n_))=n_;rw[Nh,show flat^.tup^N.ts.map As=n_ from Dg N.ts];rfl
theorem IsT.okN{N T:Net}{t b:Int}(h:IsT N t b T)(ok:okN N):okN T:=by
 let#[ord,_,_,rfl]:=h;exact L0 ok _
def IsT.ps{N T:Net}{t b:Int}(h:IsT N t b T):T.ps=N.ps:=by
 let#[ord,_,_,rfl]:=h;rfl
def IsT.uniq{N T T':Net}{t b:Int}(h:IsT N t b T)(h':IsT N t b T'):T=T':=by
 let#[o1,p1,r1,rfl]:=h;let#[o2,p2,r2,rfl]:=h';rw[N2 (p1.trans p2.symm) r1 r2]
section
variable {ss:p_ Slot}{n:Sg}{Pd:D->Sg->Prop}
def OT(A B:p_ A5):(A.map As).filter (λd=>!((B.map As).any λy=>Eo y d))=(A.filter λt=>decide (t∉B)).map As:=by
 rw[ia]
 congr 1
 refine gX λt _=>?_;show(!((B.map As).any λy=>Eo y^As t))=decide (t∉B);rw[Xm,decide_not]
def XA{N:Net}(ok:N.Ok):Ci^.tup^N.ts.map As:=(OL ok λ_ h=>h).1
def SN(h:IX ss n Pd):J3 (EF Pd) n (ss++UF 0 .no):=by
 let#[N,M,rfl,ok,ok2,p]:=h;have h60:=ok.2.2;unfold J3;refine#[_,AH (j:=1) rfl,by show(N.ts.map As).length<=10000000;rw[Ev];lk,?_];refine CL (λd=>!((M.ts.map As).any λy=>Eo y d)) id (λρ=>∃s,ρ=[.sh^enc M,s]) _ _ _ _ ?_ #[_,rfl] ?_
 .rintro d hd ρ m nx sk ⟨s,rfl⟩ h1 h2
  let#[t,ht,rfl]:=Sc.mp hd;refine#[_,AH (j:=1) rfl,RI ok.1 ht,XA ok2.1,_,rfl,?_];exact ED (λc=>h1 _ #[_,rfl] c) λc=>h2 _ #[_,rfl]^fZ.mpr c
 .rw[fE,iV,OT]
  exact#[_,_,rfl,rfl,gP (fP _ _)^by lk,λl h1 h2=>p l #[h1,h2]]
def MG(h:GS ss n Pd):Hc (EE Pd) n (ss++UF 0 .no):=by
 let#[N,us,rfl,ok,hu,p]:=h;have h60:=ok.2.2;unfold Hc;refine#[_,AH (j:=1) rfl,by show(N.ts.map As).length<=10000000;rw[Ev];lk,?_];refine CL (λd=>!((us.map As).any λy=>Eo y d)) id (λρ=>∃s,ρ=[.br^.lst^us.map As,s]) _ _ _ _ ?_ #[_,rfl] ?_
 .rintro d hd ρ m nx sk ⟨s,rfl⟩ h1 h2
  let#[t,ht,rfl]:=Sc.mp hd;refine#[RI ok.1 ht,(OL ok.1 hu).2,_,rfl,?_];exact ED (λc=>h1 _ #[_,rfl] c) λc=>h2 _ #[_,rfl]^fZ.mpr c
 .rw[fE,iV,OT]
  refine#[N,_,N.ts.filter λt=>decide (t∉us),rfl,rfl,gP (fP _ _)^by lk,λl h1 h2=>?_];rw[show l=N.ts.filter λt=>decide (t∉us)from FL h1 h2^Fa^ok.1.trise.filter _];exact p
def Ph(h:GU ss n Pd):EN (EE Pd) n (ss++UF 1 .no):=by
 let#[rfl,hn,p]:=h;unfold EN;refine#[z2,z2,z2,z2,z2,z2,dW,z2,z2,(by cbv:8<=sizeLine),8,rfl,by cbv,by cbv,hn,λr r0 r1=>?_]
 rcases(show r=0\/r=1\/r=2\/r=3\/r=4\/r=5\/r=6\/r=7 by lk)with rfl|rfl|rfl|rfl|rfl|rfl|rfl|rfl
 .exact#[_,rfl,p 1 1 (by cbv) (by cbv)^by cbv]
 .exact#[_,rfl,p 3 2 (by cbv) (by cbv)^by cbv]
 .exact#[_,rfl,p 2 1 (by cbv) (by cbv)^by cbv]
 .exact#[_,rfl,p 3 1 (by cbv) (by cbv)^by cbv]
 .exact#[_,rfl,p 5 2 (by cbv) (by cbv)^by cbv]
 .exact#[_,rfl,p 1000 999 (by cbv) (by cbv)^by cbv]
 .exact#[_,rfl,p (10 ^ (6:Int).toNat) 1 (by cbv) (by cbv)^by cbv]
 .exact#[_,rfl,p 2 2 (by cbv) (by cbv)^by cbv]
variable {C:Addr}
def SQ(h:IZ C ss n Pd):FH C (EE Pd) n (ss++UF 0 .no):=by
 let#[a,t,b,rfl,hw,p]:=h;unfold FH;refine#[rfl,a,[],[],rfl,hw,by cbv,?_];refine#[z0,z0,z2,rfl,a,["times"],[tD t b],rfl,B9 _ _ _,by cbv,?_];refine#[z0,z0,z2,rfl,a,["times","whole"],[tD t b,enc #[[],[]]],rfl,B9 _ _ _,by cbv,?_];rw[MK,MK];exact#[rfl,p]
def UU(h:Qg C ss n Pd):V6 C (EE Pd) n (ss++UF 0 .no):=by
 let#[a,t,b,N,M,rfl,hw,p]:=h;exact#[a,_,_,_,rfl,hw,rfl,p]
def SI(h:NP C ss n Pd):TZ C (EE Pd) n (ss++UF 0 .no):=by
 let#[a,t,b,N,M,rfl,hw,p]:=h;exact#[a,_,_,_,rfl,hw,rfl,p]
def D9{N:Net}(ok:N.Ok):Ci^.tup^N.ps.map .str:=Gv ok.names
def Eg(x y:Str):Eo (.str x)^.str y=(x==y):=rfl
def NB{xs:p_ Str}{x:Str}:((xs.map D.str).any λy=>Eo y^.str x)=decide (x∈xs):=by
 rw[fC,hV,decide_eq_true_eq];constructor
 .rintro⟨d,hd,e⟩
  let#[y,hy,rfl]:=Sc.mp hd;rw[Eg,beq_iff_eq]at e;rw[←e];exact hy
 .exact λh=>#[.str x,Sc.mpr #[x,h,rfl],by rw[Eg,beq_self_eq_true]]
def UW(h:Fd C ss n Pd):ES C (EE Pd) n (ss++UF 0 .no):=by
 let#[a,t,b,N,M,x,rfl,#[hw,ok,ok2,tm],hx,p]:=h;unfold ES;refine#[a,_,_,_,rfl,hw,rfl,_,AH (j:=0) rfl,CN^ok.1.names x hx,D9 ok.1,_,rfl,?_];show if(!((N.ps.map D.str).any λy=>Eo y^.str x))=n_ then _ else _
 rw[NB,decide_eq_true hx];exact Ck #[rfl,p]
def SF(h:Dk C ss n Pd):GP C (EE Pd) n (ss++UF 1 .no):=by
 let#[a,t,b,N0,M,N,rfl,hw,ok,ok2,tm,p]:=h;unfold GP;refine#[a,_,_,_,rfl,hw,rfl,?_];refine#[Jl N,a,_,_,rfl,hw,by cbv,?_];refine#[a,_,_,tD t b,rfl,B9 _ _ _,rfl,N,t,b,rfl,ok,tm.1,tm.2.1,tm.2.2.1,tm.2.2.2,λord o1 o2=>?_];have hT:IsT N t b^sub N^CV N t b [] ord:=#[ord,o1,o2,rfl];generalize sub N^CV N t b [] ord=T at hT;have okT:=hT.okN ok;refine#[Jl T,a,_,_,rfl,B9 _ _ _,by cbv,?_];rw[MK];refine#[a,_,_,enc T,rfl,B9 _ _ _,rfl,T,M,rfl,okT,ok2,λcame hc=>#[Dg came,λl1 h1=>?_]];have n1:l1≠a:=λz=>by rw[z,B9]at h1;cases h1
 refine#[a,_,_,enc T,rfl,(CC^fB n1).trans^B9 _ _ _,rfl,M,T,rfl,ok2,okT,λwent hwt=>#[Dg went,λl2 h2=>#[z2,?_]]];have n2:l2≠l1:=λz=>by rw[z,B9]at h2;cases h2
 rw[CC n2]at h2;have n3:l2≠a:=λz=>by rw[z,B9]at h2;cases h2
 exact p T came went l1 l2 hT hc hwt (by rw[CC n1]at h1;exact h1) (by rw[CC n3]at h2;exact h2)^fB n2
def SO(h:IY C ss n Pd):Ow C (EE Pd) n (ss++UF 0 .no):=by
 let#[a,t,b,N,M,x,y,rfl,k,e,hx,hy,p]:=h;unfold Ow;refine#[a,_,_,rfl,k.1,by cbv,a,t,b,N,M,x,rfl,k,hx,?_];refine#[a,_,_,rfl,k.1,by cbv,a,t,b,N,M,y,rfl,k,hy,?_];exact#[a,_,_,_,rfl,k.1,rfl,M,x,y,rfl,k.2.2.1,e▸hx,e▸hy,p]
end
def cC:1<=sizeLine:=by cbv
def Ea{xs:p_ Str}(h:rising xs):xs.Nodup:=h.imp λ{a b} z e=>by rw[e]at z;exact BP _ z
def K6(x y:Str):cs x<cs y\/x=y\/cs y<cs x:=by
 by_cases h1:cs x<cs y
 .exact .inl h1
 .by_cases h2:cs y<cs x
  .exact .inr^.inr h2
  .refine .inr^.inl ?_
   have:=LJ (.inr x) (.inr y) (decide_eq_false h1)^decide_eq_false h2
   exact hG this
def Dt{x y:Str}(h:cs x<cs y):¬cs y<cs x:=λg=>BP _^iU h g
def VF{x y:Str}(h:x≠y):(if decide (cs y<cs x)=n_ then y else x)=lo x y:=by
 unfold lo
 rcases K6 x y with g|g|g
 .rw[if_pos g,if_neg^by rw[decide_eq_true_eq];exact Dt g]
 .exact absurd g h
 .rw[if_neg^Dt g,if_pos^decide_eq_true g]
def VG{x y:Str}(h:x≠y):(if decide (cs x<cs y)=n_ then y else x)=hi x y:=by
 unfold hi
 rcases K6 x y with g|g|g
 .rw[if_pos g,if_pos^decide_eq_true g]
 .exact absurd g h
 .rw[if_neg^Dt g,if_neg^by rw[decide_eq_true_eq];exact Dt g]
def YM{x y:Str}(h:x≠y):cs^lo x y<cs^hi x y/\(lo x y=x/\hi x y=y\/lo x y=y/\hi x y=x):=by
 unfold lo hi
 rcases K6 x y with g|g|g
 .rw[if_pos g,if_pos g];exact#[g,.inl #[rfl,rfl]]
 .exact absurd g h
 .rw[if_neg^Dt g,if_neg^Dt g];exact#[g,.inr #[rfl,rfl]]
def EM{x y:Str}(h:x≠y){u:A5}(hu:cs u.a<cs u.b):TV x y u↔u.a=lo x y/\u.b=hi x y:=by
 let#[l,c]:=YM h;unfold TV;constructor
 .rintro(⟨e1,e2⟩|⟨e1,e2⟩)
  .rcases c with⟨c1,c2⟩|⟨c1,c2⟩
   .rw[c1,c2];exact#[e1,e2]
   .rw[c1,c2]at l;rw[e1,e2]at hu;exact absurd l^Dt hu
  .rcases c with⟨c1,c2⟩|⟨c1,c2⟩
   .rw[c1,c2]at l;rw[e1,e2]at hu;exact absurd l^Dt hu
   .rw[c1,c2];exact#[e1,e2]
 .rintro⟨e1,e2⟩
  rcases c with⟨c1,c2⟩|⟨c1,c2⟩
  .exact .inl #[e1.trans c1,e2.trans c2]
  .exact .inr #[e1.trans c1,e2.trans c2]
def betwB_iff{x y:Str}{u:A5}:BE x y u=n_↔TV x y u:=by
 unfold BE;exact @decide_eq_true_iff _^gZ _
def atB_iff{x:Str}{u:A5}:Ta x u=n_↔u.a=x\/u.b=x:=by
 unfold Ta;exact @decide_eq_true_iff _^gZ _
def XQ(a b c d:Str):Eo (.tup [.str a,.str b])^.tup [.str c,.str d]=n_↔a=c/\b=d:=by
 show((a==c)&&((b==d)&&n_))=n_↔_;simp
def Ee{x y:Str}(hx:Ga x)(hy:Ga y):Ci^.tup [.str x,.str y]:=Gv (ps:=[x,y]) λp hp=>by
 rcases XV.mp hp with rfl|hp
 .exact hx
 .rw[Rs.mp hp];exact hy
def S0{x y:Str}(hx:Ga x)(hy:Ga y):Ga^lo x y/\Ga^hi x y:=by
 unfold lo hi
 split <;>exact#[by assumption,by assumption]
section
variable {ss:p_ Slot}{n:Sg}{Pd:D->Sg->Prop}{C:Addr}
def SK(h:IW ss n Pd):FE (EE Pd) n (ss++UF 0 .no):=by
 let#[x,y,rfl,hx,hy,hne,p]:=h;unfold FE;refine#[x,y,rfl,x,y,rfl,z2,?_];have e1:=VF hne;have e2:=VG hne;rw[←e1,←e2]at p;exact p
def Pj(h:GV C ss n Pd):Cz C (EF Pd) n (ss++UF 0 .no):=by
 let#[a,t,b,N,M,x,y,rfl,k,hx,hy,hne,p]:=h;have ok:=k.2.1;have l60:=ok.2.2;unfold Cz;refine#[a,_,_,rfl,k.1,by cbv,a,t,b,N,M,x,rfl,k,hx,?_];refine#[a,_,_,rfl,k.1,by cbv,a,t,b,N,M,y,rfl,k,hy,?_];refine#[a,_,_,_,rfl,k.1,rfl,_,AH (j:=1) rfl,by show(N.ts.map As).length<=10000000;rw[Ev];lk,?_];refine CL (λd=>BE x y^Vv d) id (λρ=>∃s,ρ=[.sh^.str x,.sh^.str y,s]) _ _ _ _ ?_ #[_,rfl] ?_
 .rintro d hd ρ m nx sk ⟨s,rfl⟩ h1 h2
  let#[u,hu,rfl]:=Sc.mp hd;let#[m1,m2,m3,_]:=ok.1.tin u hu;refine#[x,y,rfl,x,y,rfl,z2,?_];rw[show(if decide (y.cps.toList<x.cps.toList)=n_ then y else x)=lo x y from VF hne,show(if decide (x.cps.toList<y.cps.toList)=n_ then y else x)=hi x y from VG hne];have nn:=S0 (ok.1.names x hx)^ok.1.names y hy;refine#[Ee (ok.1.names _ m1)^ok.1.names _ m2,Ee nn.1 nn.2,?_]
  have e:Eo (.tup [.str u.a,.str u.b])^.tup [.str^lo x y,.str^hi x y]=BE x y u:=by
   rw[fC,XQ,betwB_iff,EM hne m3]
  show if Eo (.tup [.str u.a,.str u.b]) (.tup [.str^lo x y,.str^hi x y])=n_ then _ else _
  rw[e];exact ED (λc=>h1 _ #[_,rfl] c) λc=>h2 _ #[_,rfl]^fZ.mpr c
 .rw[fE,iV,ia]
  exact p
def SH(h:NO C ss n Pd):DN C (EE Pd) n (ss++UF 1 .no):=by
 let#[a,t,b,N,M,x,y,u,rfl,k,hx,hy,hne,hu,p]:=h;unfold DN;refine#[a,_,_,rfl,k.1,by cbv,a,t,b,N,M,x,y,rfl,k,hx,hy,hne,?_];rw[hu];exact#[n_,rfl,_,AH (j:=0) rfl,p]
end
def Vh(x:Str)(xs:p_ Str):(xs.map D.str).filter (λd=>match d with|.str y=>!(y==x)|_=>o_)=(xs.filter λy=>decide (y≠x)).map .str:=by
 rw[ia]
 congr 1
 refine gX λy _=>?_;show(!(y==x))=decide (y≠x);rw[decide_not,jM]
def Qo{a b x:Str}:([D.str a,D.str b].any λy=>Eo y^.str x)=(decide (a=x)||decide (b=x)):=by
 show((a==x)||((b==x)||false))=_;rw[Bool.or_false,jM,jM]
section
variable {ss:p_ Slot}{n:Sg}{Pd:D->Sg->Prop}{C:Addr}
def SU(h:NV C ss n Pd):Lj C (EE Pd) n (ss++UF 0 .no):=by
 let#[a,t,b,N,M,N',x,rfl,k,#[l20,l50],#[hx,hn,hp,ht],ok',p]:=h;have ok:=k.2.1;have szl:=PySem.sizeLine_eq;unfold Lj;refine#[a,_,_,_,rfl,k.1,rfl,_,AH (j:=0) rfl,CN hx,D9 ok.1,_,rfl,?_];show if((N.ps.map D.str).any λy=>Eo y^.str x)=n_ then _ else _
 rw[NB,decide_eq_false hn];refine Ck ?_;refine#[a,_,_,_,rfl,k.1,rfl,_,AH (j:=0) rfl,_,_,rfl,rfl,?_];show if(((N.ps.map D.str).length:Int)==24)=n_ then _ else _
 rw[Ev,show(((N.ps.length:Nat):Int)==24)=o_ from beq_eq_false_iff_ne.mpr^by lk];refine Ck ?_;refine#[a,_,_,rfl,k.1,by cbv,?_];refine#[a,_,_,_,rfl,k.1,rfl,_,AH (j:=0) rfl,cC,by show(N.ps.map D.str).length+1<=sizeLine;rw[Ev];lk,N.ps++[x],by rw[fI];rfl,by rw[eV,fo];lk,λss' h1 h2=>?_];refine#[a,_,_,_,rfl,k.1,rfl,_,AH (j:=1) rfl,z2,?_]
 have e:ss'=N'.ps:=by
  have pe:ss'.Perm N'.ps:=h1.trans^(gx x N.ps).trans hp.symm;have nd:ss'.Nodup:=pe.nodup_iff.mpr^Ea ok'.1.rise;exact Eb (λa b x y=>absurd y^Dt x) pe (C1 h2 nd) ok'.1.rise
 subst e;refine#[a,t,b,N,M,N',?_,k.1,ok',k.2.2.1,k.2.2.2,p];show [Slot.sh^.ob a,.sh^.tup [.tup^N'.ps.map .str,.tup^N.ts.map As]]=_;rw[←ht];rfl
def Wb(h:WF C ss n Pd):Rh C (EE Pd) n (ss++UF 2 .no):=by
 let#[a,t,b,N,M,N',x,rfl,k,#[l20,l50],#[hx,rfl],ok',p]:=h;have ok:=k.2.1;have nx:=ok.1.names x hx;unfold Rh;refine#[a,_,_,rfl,k.1,by cbv,a,t,b,N,M,x,rfl,k,hx,?_];refine#[a,_,_,_,rfl,k.1,rfl,_,AH (j:=0) rfl,by show(N.ps.map D.str).length<=10000000;rw[Ev];lk,?_];refine CL (λd=>match d with|.str y=>!(y==x)|_=>o_) id (λρ=>∃s,ρ=[.sh^.str x,s]) _ _ _ _ ?_ #[_,rfl] ?_
 .rintro d hd ρ m nx sk ⟨s,rfl⟩ h1 h2
  let#[y,hy,rfl]:=Sc.mp hd;show if(!(y==x))=n_ then _ else _
  exact ED (λc=>h1 _ #[_,rfl] c) λc=>h2 _ #[_,rfl]^fZ.mpr c
 rw[fE,iV,Vh];refine#[a,_,_,_,rfl,k.1,rfl,_,AH (j:=1) rfl,by show(N.ts.map As).length<=10000000;rw[Ev];lk,?_];refine CL (λd=>!Ta x (Vv d)) id (λρ=>∃s,ρ=[.sh^.str x,s]) _ _ _ _ ?_ #[_,rfl] ?_
 .rintro d hd ρ m nx' sk ⟨s,rfl⟩ h1 h2
  let#[u,hu,rfl]:=Sc.mp hd;let#[m1,m2,m3,_]:=ok.1.tin u hu;refine#[CN nx,Ee (ok.1.names _ m1)^ok.1.names _ m2,_,rfl,?_]
  have e:([D.str u.a,D.str u.b].any λy=>Eo y^.str x)=Ta x u:=by
   rw[Qo,fC,atB_iff,Bool.or_eq_true,decide_eq_true_eq,decide_eq_true_eq]
  show if(!([D.str u.a,D.str u.b].any λy=>Eo y^.str x))=n_ then _ else _
  rw[e];exact ED (λc=>h1 _ #[_,rfl] c) λc=>h2 _ #[_,rfl]^fZ.mpr c
 rw[fE,iV,ia];refine#[a,_,_,rfl,k.1,by cbv,z2,?_];exact#[a,t,b,N,M,_,rfl,k.1,ok',k.2.2.1,k.2.2.2,p]
def UV(h:Qh C ss n Pd):Ov C (EE Pd) n (ss++UF 2 .no):=by
 let#[a,t,b,N,M,N',x,y,l,rfl,k,#[l20,l50],#[hx,hy,hne,l1,l2,hps,hts],ok',p]:=h;have ok:=k.2.1;have szl:=PySem.sizeLine_eq;unfold Ov;refine#[a,_,_,rfl,k.1,by cbv,a,t,b,N,M,x,y,rfl,k,hx,hy,hne,?_];show if(x==y)=n_ then _ else _
 rw[show(x==y)=o_ from beq_eq_false_iff_ne.mpr hne];refine Ck ?_
 have next:AZ (A2 5^AU Au (AY GS^AD (AL^Cc C "whole"^AA 0)^AD (Bg^Ar 4) AR)^wC^D.int 1) (Av^BZ C "turn_to" (Dk C) (AA 0)^AD (AL^AY Dl^AD (AL^Cc C "whole"^AA 0)^AD (Bg^AU BU (AA 5)^BA^AE (BA^AE (B0 OW^AE (AA 1)^AE (AA 2) AS)^AE (B0 OX^AE (AA 1)^AE (AA 2) AS)^AE (AA 3) AS) AS) AR) AR) (EE Pd) n [.sh^.ob a,.sh^.str x,.sh^.str y,.sh^.int l,.sh^.lst^(N.ts.filter^BE x y).map As,.no]:=by
  refine#[a,_,_,_,rfl,k.1,rfl,N,N.ts.filter^BE x y,rfl,ok,λu hu=>(et.mp hu).1,_,AH (j:=1) rfl,?_]
  have ef:(N.ts.filter λu=>decide (u∉N.ts.filter^BE x y))=N.ts.filter λu=>!BE x y u:=gX λu hu=>by
   rw[decide_not,Bool.not_inj_iff,fC,decide_eq_true_eq,et];exact#[λz=>z.2,λz=>#[hu,z]]
  rw[ef];refine#[a,_,_,rfl,k.1,by cbv,a,_,_,_,rfl,k.1,rfl,x,y,rfl,x,y,rfl,z3,cC,?_];have lf:=fP (λu=>!BE x y u) N.ts;refine#[by rw[Ev];show(N.ts.filter λu=>!BE x y u).length+1<=sizeLine;lk,N,_,(N.ts.filter λu=>!BE x y u)++[#[lo x y,hi x y,l]],rfl,?_,by rw[eV,fo];lk,λts' h1 h2=>?_]
  .rw[show(if decide (y.cps.toList<x.cps.toList)=n_ then y else x)=lo x y from VF hne,show(if decide (x.cps.toList<y.cps.toList)=n_ then y else x)=hi x y from VG hne,fI]
   rfl
  .have e:ts'=N'.ts:=FL (h1.trans^(gx _ _).trans hts.symm) h2^Fa ok'.1.trise
   subst e;rw[←hps];exact#[a,t,b,N,M,N',rfl,k.1,ok',k.2.2.1,k.2.2.2,p]
 cases hl:(N.ts.filter^BE x y).map As with
 |nil=>
  rw[hl]at next;refine#[o_,rfl,a,_,_,_,rfl,k.1,rfl,_,AH (j:=1) rfl,_,_,rfl,rfl,?_];show if(((N.ts.map As).length:Int)==60)=n_ then _ else _
  rw[Ev,show(((N.ts.length:Nat):Int)==60)=o_ from beq_eq_false_iff_ne.mpr^by lk];exact Ck next
 |cons d r=>
  rw[hl]at next;exact#[n_,rfl,next]
def SJ(h:NQ C ss n Pd):Li C (EE Pd) n (ss++UF 0 .no):=by
 let#[a,t,b,N,M,N',x,y,rfl,k,#[l20,l50],#[#[u,hu],hx,hy,hne,rfl],ok',p]:=h;have ok:=k.2.1;unfold Li;refine#[a,_,_,rfl,k.1,by cbv,a,_,_,_,rfl,k.1,rfl,a,_,_,rfl,k.1,by cbv,a,t,b,N,M,x,y,u,rfl,k,hx,hy,hne,hu,cC,?_];have mu:u∈N.ts:=(et.mp (by rw[hu];exact Rs.mpr rfl:u∈N.ts.filter^BE x y)).1;refine#[N,[u],rfl,ok,λv hv=>by rw[Rs.mp hv];exact mu,?_]
 have ef:(N.ts.filter λv=>decide (v∉[u]))=N.ts.filter λu=>!BE x y u:=gX λv hv=>by
  rw[decide_not,Bool.not_inj_iff,fC,decide_eq_true_eq,←hu,et];exact#[λz=>z.2,λz=>#[hv,z]]
 rw[ef];exact#[a,t,b,N,M,_,rfl,k.1,ok',k.2.2.1,k.2.2.2,p]
def SG(h:IV C ss n Pd):FD C (EE Pd) n (ss++UF 0 .no):=by
 let#[a,t,b,N,M,N',d,rfl,k,f,hd,ok',p]:=h;unfold FD;cases d with
 |come x=>
  refine#[_,AH (j:=0) rfl,?_];exact#[a,_,_,rfl,k.1,by cbv,_,AH (j:=1) rfl,a,t,b,N,M,N',x,rfl,k,f,hd,ok',p]
 |go x=>
  refine#[_,AH (j:=0) rfl,?_];refine#[_,AH (j:=0) rfl,?_];exact#[a,_,_,rfl,k.1,by cbv,_,AH (j:=1) rfl,a,t,b,N,M,N',x,rfl,k,f,hd,ok',p]
 |lay x y l=>
  refine#[_,AH (j:=0) rfl,?_];refine#[_,AH (j:=0) rfl,?_];refine#[_,AH (j:=0) rfl,?_];exact#[a,_,_,rfl,k.1,by cbv,_,AH (j:=1) rfl,_,AH (j:=2) rfl,_,AH (j:=3) rfl,a,t,b,N,M,N',x,y,l,rfl,k,f,hd,ok',p]
 |take x y=>
  refine#[_,AH (j:=0) rfl,?_];refine#[_,AH (j:=0) rfl,?_];refine#[_,AH (j:=0) rfl,?_];refine#[_,AH (j:=0) rfl,?_];exact#[a,_,_,rfl,k.1,by cbv,_,AH (j:=1) rfl,_,AH (j:=2) rfl,a,t,b,N,M,N',x,y,rfl,k,f,hd,ok',p]
end
section
variable {ss:p_ Slot}{n:Sg}{Pd:D->Sg->Prop}
def Pl (h : Cq ss n Pd):EO (EF Pd) n (ss ++ UF 7 .no):=by
  let#[N,s,zz,us,rfl,hzz,hus,okn,hs,p]:=h;have szl:=PySem.sizeLine_eq;have ok:=okn.1;have l25:=okn.2.1;unfold EO;refine#[_,A7 s,?_]
  have step:∀ (D3:E2) (x y:Str) (l:Int),Ed N x y l → ∀ (ks:p_ Key) (ds:p_ D) (K:Kn) (g:Bool) (s4 s5 s7 s8:Slot),Dmap ks ds D.int K → Bf N s ks.length K →
      (∀ (ks':p_ Key) (ds':p_ D) (K':Kn) (g':Bool) (t7 t8:Slot),Dmap ks' ds' D.int K' → Bf N s ks'.length K' → ((g'=g ∧ K'=K ∧ Il K (x,y,l)) ∨ (g'=n_ ∧ To N.ps K' < To N.ps K)) →
        D3.nx n [.br zz,.sh^.str s,.ow^.dic ks' ds',.sh^.bl g',s4,s5,.sh^.int l,t7,t8]) →
      (BG (HC (Ab^AU (IB o_) (AA 7)^Ar 2)^Ab^AU H_ (AU BU (AU A4 (Ar 2)^AA 7)^AA 6)^Qm (Ar 2) (AA 8)^AU (WJ PC λi j=>D.int (i ^ j.toNat)) (wC^D.int 10)^wC^D.int 9) (AZ (Fk 2 (AA 8)^AU BU (AU A4 (Ar 2)^AA 7)^AA 6)
  (A2 3^wC^D.bl n_)) Aw) D3 n [.br zz,.sh^.str s,.ow^.dic ks ds,.sh^.bl g,s4,s5,.sh^.int l,.sh^.str x,.sh^.str y]:=by
    intro D3 x y l he ks ds K g s4 s5 s7 s8 M B hD;have kl:=M.le B.ins;refine#[ks,ds,_,rfl,A7 x,?_];show if((BS ks ds^.inr x).isSome)=n_ then _ else _
    cases ex:K x with
    | none=>
      rw[M.at_,ex];exact Ck^Ck^hD ks ds K g _ _ M B^.inl #[rfl,rfl,λd e=>by rw[show K x=P3 d from e]at ex;cases ex]
    | some d=>
      rw[M.at_,ex];refine EC #[ks,ds,_,_,rfl,A7 x,by rw[M.at_,ex];rfl,?_];refine#[ks,ds,rfl,#[by cbv,by cbv,by cbv],_,A7 y,?_]
      have put:(K y=m_ ∨ ∃ d',K y=P3 d' ∧ d + l < d') → (AZ (Fk 2 (AA 8)^AU BU (AU A4 (Ar 2)^AA 7)^AA 6)^A2 3^wC^D.bl n_) D3 n [.br zz,.sh^.str s,.ow^.dic ks ds,.sh^.bl g,s4,s5,.sh^.int l,.sh^.str x,.sh^.str y]:=λhy=>by
        refine#[ks,ds,rfl,ks,ds,_,.int d,rfl,A7 x,by rw[M.at_,ex];rfl,_,A7 y,by lk,?_];have hlen:=JI ks^.inr y
        have key:=B.put ok (c':=(CS ks^.inr y).length) (by rw[hlen];split <;>lk) (by rw[hlen];split <;>lk) ex he (λe=>by rw[hlen,if_neg^by rw[(M.has (x:=y)).1 e];decide]) (λd' e=>by
          rcases hy with hy|⟨d2,hy,hlt⟩
          .rw[e]at hy;cases hy
          .rw[e]at hy;cases hy;exact hlt)
        exact hD _ _ _ n_ _ _ (M.put y (d + l)) key.1^.inr #[rfl,key.2]
      rw[M.at_];cases ey:K y with
      | none=>
        show if decide (d + l < 10 ^ (9:Int).toNat)=n_ then _ else _
        rw [decide_eq_true (by have h1:=B.top x d ex;have h2:=(he.pos ok).2;have e9:(10:Int) ^ (9:Int).toNat=1000000000:=by cbv
                               rw[e9];lk)]
        exact EC^put^.inl ey
      | some d'=>
        show if decide (d + l < d')=n_ then _ else _
        by_cases c:d + l < d'
        · rw[decide_eq_true c]
          exact EC^put^.inr #[d',ey,c]
        · rw[decide_eq_false c]
          refine Ck^hD ks ds K g _ _ M B^.inl #[rfl,rfl,λd2 e=>?_];rw[show K x=P3 d2 from e]at ex;cases ex;exact#[d',ey,by show d' ≤ d + l;lk]
  refine Gb (λm n' ρ=>n'=n ∧ ∃ (ks:p_ Key) (ds:p_ D) (K:Kn) (g:Bool) (s4 s5 s6 s7 s8:Slot),ρ=[.br zz,.sh^.str s,.ow^.dic ks ds,.sh^.bl g,s4,s5,s6,s7,s8] ∧ Dmap ks ds D.int K ∧ Bf N s ks.length K ∧ ((g=n_ ∧ m=To N.ps K + 1) ∨ (g=o_ ∧ m=0 ∧ ∀ t ∈ N.ts,Il K (t.a,t.b,t.len) ∧ Il K (t.b,t.a,t.len)))) _ #[rfl,_,_,_,n_,_,_,_,_,_,rfl,Dmap.one (enc:=D.int) (a:=(0:Int)),Bf.init hs,.inl #[rfl,rfl]] ?_ ?_
  · rintro m n' ρ N' ⟨rfl,ks,ds,K,g,s4,s5,s6,s7,s8,rfl,M,B,hg⟩ hN
    rcases hg with⟨rfl,hm⟩|⟨rfl,_,ht⟩
    · have outer:∀ (rest done:p_ A5) (ks:p_ Key) (ds:p_ D) (K':Kn) (g:Bool) (s4 s5 s6 s7 s8:Slot),done ++ rest=us → Dmap ks ds D.int K' → Bf N s ks.length K' → ((g=n_ ∧ To N.ps K' < To N.ps K) ∨ (g=o_ ∧ To N.ps K' ≤ To N.ps K ∧ ∀ t ∈ done,Il K' (t.a,t.b,t.len) ∧ Il K' (t.b,t.a,t.len))) →
          Bj (Ko 3^BO (Ax 4)^BO (Ax 5)^BO (Ax 6) FA) (Ho (BF^Cr^AE (BA^AE (AA 4)^AE (AA 5) AS)^AE (BA^AE (AA 5)^AE (AA 4) AS) AS) (Ko 2^BO (Ax 7)^BO (Ax 8) FA) (BG (HC (Ab^AU (IB o_) (AA 7)^Ar 2)^Ab^AU H_ (AU BU (AU A4 (Ar 2)^AA 7)^AA 6)^Qm (Ar 2) (AA 8)^AU (WJ PC λi j=>D.int (i ^ j.toNat)) (wC^D.int 10)^wC^D.int 9) (AZ (Fk 2 (AA 8)^AU BU (AU A4 (Ar 2)^AA 7)^AA 6)
  (A2 3^wC^D.bl n_)) Aw)) {EF Pd with nx:=N',ct:=N',bk:=NZ 2^EF Pd} (rest.map As) n' [.br zz,.sh^.str s,.ow^.dic ks ds,.sh^.bl g,s4,s5,s6,s7,s8]:=by
        intro rest
        induction rest with
        | nil=>
          intro done ks ds K' g s4 s5 s6 s7 s8 e M B hg;rw[e7]at e;subst e
          rcases hg with⟨rfl,hlt⟩|⟨rfl,_,ht⟩
          .exact hN (To N.ps K' + 1) _ _ (by lk) #[rfl,ks,ds,K',n_,_,_,_,_,_,rfl,M,B,.inl #[rfl,rfl]]
          .exact hN 0 _ _ (by lk) #[rfl,ks,ds,K',o_,_,_,_,_,_,rfl,M,B,.inr #[rfl,rfl,λt h=>ht t^(hus t).mpr h]]
        | cons t rest ih=>
          intro done ks ds K' g s4 s5 s6 s7 s8 e M B hg;have hmem:t ∈ N.ts:=(hus t).mp (by rw[←e];exact eN _ Re);have e':(done ++ [t]) ++ rest=us:=by rw[gW];exact e
          have ed:=XW hmem;refine#[rfl,rfl,z2,z2,z2,?_];refine#[rfl,rfl,?_];refine step _ t.a t.b t.len ed.1 ks ds K' g _ _ s7 s8 M B λks1 ds1 K1 g1 t7 t8 M1 B1 h1=>?_;refine#[rfl,rfl,?_];refine step _ t.b t.a t.len ed.2 ks1 ds1 K1 g1 _ _ t7 t8 M1 B1 λks2 ds2 K2 g2 u7 u8 M2 B2 h2=>?_;refine ih (done ++ [t]) ks2 ds2 K2 g2 _ _ _ _ _ e' M2 B2 ?_
          rcases h1 with⟨rfl,rfl,t1⟩|⟨rfl,lt1⟩
          · rcases h2 with⟨rfl,rfl,t2⟩|⟨rfl,lt2⟩
            · rcases hg with z|⟨z1,z2,z3⟩
              .exact .inl z
              · refine .inr #[z1,z2,λu hu=>?_]
                rcases eM.mp hu with hu|hu
                .exact z3 u hu
                .rw[Rs.mp hu];exact#[t1,t2]
            · refine .inl #[rfl,?_]
              rcases hg with⟨_,z⟩|⟨_,z,_⟩ <;>lk
          · have base:To N.ps K1 < To N.ps K:=by rcases hg with⟨_,z⟩|⟨_,z,_⟩ <;>lk
            rcases h2 with⟨rfl,rfl,t2⟩|⟨rfl,lt2⟩
            .exact .inl #[rfl,base]
            .exact .inl #[rfl,by lk]
      exact#[zz,_,rfl,hzz,outer us [] ks ds K o_ _ _ _ _ _ rfl M B (.inr #[rfl,Op _,λt h=>by cases h])]
    .exact#[_,rfl,p ks ds K M^B.told ok (by have:=M.le B.ins;lk) ht]
  · rintro n' ρ P Q hPQ h
    unfold Ab AA at h ⊢
    split at h
    · rename_i d hd
      cases d with
      |bl b=>exact hPQ _ _ h
      |_=>exact h.elim
    .exact h.elim
def Pn(h:Cp ss n Pd):G8 (EE Pd) n (ss++UF 3 .no):=Gk h
def Po(h:Ln ss n Pd):Km (EE Pd) n (ss++UF 0 .no):=JF h
def Nz(h:EU ss n Pd):J5 (EF Pd) n (ss++UF 0 .no):=HM h
end
def tk_eq{s t:A5}:tk s=tk t↔s.a=t.a/\s.b=t.b:=by
 unfold tk;simp
def PX{N:Net}(ok:N.Ok):(N.ts.map tk).Nodup:=jA.mpr (ok.trise.imp λ{s t} h e=>by
 let#[e1,e2]:=tk_eq.mp e
 rcases h with h|⟨_,h⟩
 .rw[e1]at h;exact BP _ h
 .rw[e2]at h;exact BP _ h)
def Yq{s t:A5}(h:Bp s t):Bb (tk t)^tk s=o_:=by
 show(if(gJ t.a:Key)=.inr s.a then(if(gJ t.b:Key)=.inr s.b then o_ else decide (t.b.cps.toList<s.b.cps.toList))else decide (t.a.cps.toList<s.a.cps.toList))=o_
 rcases h with h|⟨e,h⟩
 .rw[if_neg λz=>by rw[hG z]at h;exact BP _ h]
  exact decide_eq_false^Dt h
 .rw[if_pos (by rw[e]),if_neg λz=>by rw[hG z]at h;exact BP _ h]
  exact decide_eq_false^Dt h
def Ni{N:Net}(ok:N.Ok){us:p_ A5}(hp:N.ts.Perm us){ks:p_^p_ Key}(h1:ks.Perm^us.map tk)(h2:ks.Pairwise λa b=>Bb b a=o_):ks=N.ts.map tk:=
 Eb (λa b x y=>CG _ _ y x) (h1.trans (hp.map tk).symm) h2 (jA.mpr^ok.trise.imp λ{s t} h=>Yq h)
theorem PQ:∀{us:p_ A5}{t:A5},(us.map tk).Nodup->t∈us->Dx (us.map tk) (us.map λu=>.int u.len)^tk t=P3^.int t.len
 |[],_,_,h=>by cases h
 |u::us,t,nd,h=>by
  rw[eW,eQ]at nd;show(if tk u=tk t then P3^D.int u.len else Dx (us.map tk) (us.map λu=>D.int u.len)^tk t)=_
  rcases XV.mp h with rfl|h
  .rw[if_pos rfl]
  .rw[if_neg (λz=>nd.1^by rw[z];exact Sc.mpr #[t,h,rfl]),PQ nd.2 h]
def Qu{x y:D}{P:D->Prop}(h:P x):A4 (Hq x y) (.str "places") P:=#[_,_,.inr "places",x,rfl,rfl,rfl,h]
def HD{x y:D}{P:D->Prop}(h:P y):A4 (Hq x y) (.str "ties") P:=#[_,_,.inr "ties",y,rfl,rfl,by
 show(if(gJ "places":Key)=.inr "ties" then P3 x else if(gJ "ties":Key)=.inr "ties" then P3 y else m_)=P3 y;rw[if_neg^by cbv,if_pos rfl],h]
def Vg{N:Net}(ok:N.Ok){us:p_ A5}(hp:N.ts.Perm us):∀k∈us.map tk,∀x∈k,De x:=λk hk x hx=>by
 let#[u,hu,rfl]:=Sc.mp hk;let#[m1,m2,_]:=ok.tin u^hp.mem_iff.mpr hu;have szl:=PySem.sizeLine_eq;have h1:=(ok.names _ m1).2.1;have h2:=(ok.names _ m2).2.1
 rcases XV.mp hx with rfl|hx
 .show u.a.length<=sizeLine;lk
 .rw[Rs.mp hx];show u.b.length<=sizeLine;lk
section
variable {ss:p_ Slot}{n:Sg}{Pd:D->Sg->Prop}
def UH{N:Net}{us:p_ A5}(okn:okN N)(hp:N.ts.Perm us):(us.map tk).length=(us.map λu=>D.int u.len).length/\(us.map tk).length<64/\(∀x∈us.map tk,∀y∈us.map tk,Bm x y=n_)/\(∀x∈us.map tk,x≠[]):=by
 have l60:=okn.2.2;have lu:=hp.length_eq;refine#[by rw[Ev,Ev],by rw[Ev];lk,λx hx y hy=>?_,λx hx=>?_]
 .let#[u,_,rfl]:=Sc.mp hx
  let#[v,_,rfl]:=Sc.mp hy;rfl
 .let#[u,_,rfl]:=Sc.mp hx
  exact fg _ _
def Pm(h:KI ss n Pd):Ds (EE Pd) n (ss++UF 1 .no):=by
 let#[N,ps,us,rfl,#[hp,hu,okn],p]:=h;have l25:=okn.2.1;have l60:=okn.2.2;have lp:=hp.length_eq;have lu:=hu.length_eq;have nd:(us.map tk).Nodup:=(hu.map tk).nodup_iff.mp^PX okn.1;unfold Ds;refine HD ?_;refine Qu ?_;refine#[_,ps,rfl,J7 _,by lk,λps' h1 h2=>?_];have e:ps'=N.ps:=Eb (λa b x y=>absurd y^Dt x) (h1.trans hp.symm) (C1 h2^(h1.trans hp.symm).nodup_iff.mpr^Ea okn.1.rise) okn.1.rise;subst e;let#[s1,s2,s3,s4]:=UH okn hu;refine#[_,_,rfl,s1,s2,s3,s4,Vg okn.1 hu,λks' h3 h4=>?_];have ek:=Ni okn.1 hu h3 h4;subst ek;refine#[by show((N.ts.map tk).map tupK).length<=10000000;rw[Ev,Ev];lk,?_];refine B5 (λd=>match d with|.tup [.str a,.str b]=>.tup [.str a,.str b,(Dx (us.map tk) (us.map λu=>.int u.len) [.inr a,.inr b]).getD .non]|d=>d) (λρ=>∃s,ρ=[.sh^GZ us,s]) _ _ _ _ ?_ #[_,rfl] ?_
 .rintro d hd ρ m nx ⟨s,rfl⟩ hnx
  let#[k,hk,rfl]:=Sc.mp hd;let#[t,ht,rfl]:=Sc.mp hk;have hv:=PQ nd^hu.mem_iff.mp ht
  have:=hnx [.sh^GZ us,.sh^.tup [.str t.a,.str t.b]] #[_,rfl]
  refine#[_,_,tk t,_,rfl,rfl,hv,cC,z3,?_];have e:Dx (us.map tk) (us.map λu=>D.int u.len) [.inr t.a,.inr t.b]=P3^.int t.len:=hv;rw[show(tupK^tk t)=.tup [.str t.a,.str t.b]from rfl]at this;simp only[e]at this;exact this
 .rw[fE]
  refine#[z2,?_];rw[fY,fY];refine(congrArg (λX=>Pd (.tup [.tup^N.ps.map .str,.tup X]) n)^gK (g:=As) λt ht=>?_).mpr p;have hv:Dx (us.map tk) (us.map λu=>D.int u.len) [.inr t.a,.inr t.b]=P3^.int t.len:=PQ nd^hu.mem_iff.mp ht;show D.tup [.str t.a,.str t.b,(Dx (us.map tk) (us.map λu=>D.int u.len) [.inr t.a,.inr t.b]).getD .non]=As t;rw[hv];rfl
end
def Im(xs:p_ Str):A9^xs.map .str=n_:=Nh xs
def QG(us:p_ A5):A9 (us.map λu=>D.int u.len)=n_:=by
 induction us with
 |nil=>rfl
 |cons u us ih=>show(n_&&A9^us.map λu=>D.int u.len)=n_;rw[ih];rfl
def PV(us:p_ A5):A9^(us.map tk).map tupK=n_:=by
 induction us with
 |nil=>rfl
 |cons u us ih=>show(flat^tupK^tk u&&A9^(us.map tk).map tupK)=n_;rw[ih];rfl
def Wh(ps:p_ Str):Lb^IH ps:=Im ps
def Qp(us:p_ A5):Lb^GZ us:=QG us
def YU(us:p_ A5)(j:Nat):D.dit ((us.map tk).eraseIdx j)^(us.map λu=>D.int u.len).eraseIdx j=GZ^us.eraseIdx j:=by
 rw[G3,G3];rfl
theorem Ri{α:Type}[DecidableEq α]:∀{xs:p_ α}{x:α},x∈xs->∃j:Nat,xs[j]?=P3 x/\(∀m y,m<j->xs[m]?=P3 y->y≠x)/\(x::xs.eraseIdx j).Perm xs
 |[],_,h=>by cases h
 | y::xs,x,h=>by
  by_cases e:y=x
  .subst e
   exact#[0,rfl,λm _ hm=>absurd hm^Nat.not_lt_zero _,List.Perm.refl _]
  .let#[j,h1,h2,h3]:=Ri^(XV.mp h).resolve_left λz=>e z.symm
   refine#[j+1,h1,λm z hm hz=>?_,?_]
   .cases m with
    |zero=>cases hz;exact e
    |succ m=>exact h2 m z (by lk) hz
   .show(x::y::xs.eraseIdx j).Perm (y::xs)
    exact(ko ..).trans^h3.cons y
def GG{α:Type}[DecidableEq α]{xs:p_ α}{x:α}{j:Nat}(nd:xs.Nodup)(h:(x::xs.eraseIdx j).Perm xs):(xs.eraseIdx j).Perm (xs.filter λy=>decide (y≠x)):=by
 have nd2:=h.nodup_iff.mpr nd;rw[eQ]at nd2;have f:=h.filter λy=>decide (y≠x);rw[i5^by simp]at f;have e:((xs.eraseIdx j).filter λy=>decide (y≠x))=xs.eraseIdx j:=je.mpr λy hy=>decide_eq_true fun(z:y=x)=>nd2.1 (by rw[←z];exact hy);rw[e]at f;exact f
def aS{x:Str}{u:A5}:([D.str u.a,D.str u.b].any λy=>Eo y^.str x)=Ta x u:=by
 rw[Qo,fC,atB_iff,Bool.or_eq_true,decide_eq_true_eq,decide_eq_true_eq]
section
variable {n:Sg}
theorem G0{N:Net}(ok:N.Ok){x:Str}(hx:Ga x){l t:Ch}{d1:D}(hd1:atI [D.str "go",D.str x] 1=P3^.str x){D2:E2}:∀(post pre:p_ A5) (m:Sg) (s2:Slot),(∀u∈pre++post,u∈N.ts)->(pre++post).length<=60->((pre++post).map tk).Nodup->m.w t=P3^.pl^GZ ((pre.filter λu=>!Ta x u)++post)->
  (∀(m':Sg) (s:Slot),m'.n=m.n->m'.w t=P3 (.pl^GZ^(pre++post).filter λu=>!Ta x u)->(∀b,b≠t->m'.w b=m.w b)->D2.nx m' [.sh^Hq (.ob l)^.ob t,.sh^LU^.go x,s])->
  Bj (Ax 2) (BG (Ab^AU (Mq o_) (AU Au (AA 1)^wC^D.int 1)^AA 2) (CJ^Tx "dict" RR (AU A4 (AA 0)^wC^D.str "ties")^AE (AA 2) AS) Aw) D2 ((post.map tk).map tupK) m [.sh^Hq (.ob l)^.ob t,.sh^LU^.go x,s2]
 |[],pre,m,s2,_,_,_,hm,q=>q m s2 rfl (by rw[e7]at hm ⊢;exact hm) λ_ _=>rfl
 | u::post,pre,m,s2,hin,hl,nd,hm,q=>by
  have hu:u∈N.ts:=hin u^eN _ Re;let#[m1,m2,m3,_]:=ok.tin u hu;have e1:pre++u::post=(pre++[u])++post:=by rw[gW];rfl
  refine#[_,hd1,CN hx,Ee (ok.names _ m1)^ok.names _ m2,_,rfl,?_];show if([D.str u.a,D.str u.b].any λy=>Eo y^.str x)=n_ then _ else _
  rw[aS];rw[e1]at hin hl nd q;cases c:Ta x u with
  |false=>
   refine Ck ?_;refine G0 ok hx (d1:=d1) hd1 post (pre++[u]) m _ hin hl nd ?_ q;rw[hm,List.filter_append,kN (by rw[c];rfl),kT,gW];rfl
  | true=>
   refine EC ?_;refine HD ?_;refine#[t,rfl,#[_,hm,rfl],rfl,_,hm,?_]
   have hj:((pre.filter λu=>!Ta x u)++u::post)[(pre.filter λu=>!Ta x u).length]?=P3 u:=by
    rw[gu^Op _,Nat.sub_self];rfl
   refine#[_,_,_,tk u,(pre.filter λu=>!Ta x u).length,.int u.len,rfl,rfl,rfl,by rw[ZB,hj];rfl,by rw[ZB,hj];rfl,?_];rw[YU];refine#[Qp _,rfl,?_];refine G0 ok hx (d1:=d1) hd1 post (pre++[u]) _ _ hin hl nd ?_ λm' s a b c'=>q m' s a b λz hz=>(c' z hz).trans^CC hz;rw[B9,List.filter_append,i5 (by rw[c];simp),kT,e7,List.eraseIdx_append_of_length_le^Op _,Nat.sub_self];rfl
end
def Cy{ps:p_ Str}(h:∀x∈ps,Ga x):Ci^.lst^ps.map .str:=Gu λd hd=>by
 let#[x,hx,rfl]:=Sc.mp hd;exact DB^h x hx
section
variable {ss:p_ Slot}{n:Sg}{Pd:D->Sg->Prop}
def Wf{us:p_ A5}{v:A5}(nd:(us.map tk).Nodup):∃us':p_ A5,D.dit (D6 (us.map tk)^tk v)^CD (us.map tk) (us.map λu=>D.int u.len) (tk v)^.int v.len=GZ us'/\us'.Perm (v::us.filter λu=>decide (tk u≠tk v)):=by
 unfold D6 CD
 by_cases h:Jf (us.map tk)^tk v=n_
 .rw [if_pos h,if_pos h]
  refine#[us.map λu=>if tk u=tk v then v else u,?_,?_]
  .unfold GZ
   congr 1
   .rw[fY]
    refine gK λu _=>?_;show tk u=tk (if tk u=tk v then v else u)
    split
    .assumption
    .rfl
   .clear nd h
    induction us with
    |nil=>rfl
    |cons u us ih=>
     rw[eW,eW,eW,eW,←ih];show(if tk u=tk v then D.int v.len else D.int u.len)::_=D.int (if tk u=tk v then v else u).len::_
     split <;>rfl
  .have hm:=hasK_iffU.mp h
   clear h
   induction us with
   |nil=>cases hm
   | cons u us ih=>
    rw[eW,eQ]at nd;rw[eW]
    by_cases e:tk u=tk v
    .rw[if_pos e,i5^by simp[e]]
     have e2:∀w∈us,tk w≠tk v:=λw hw z=>nd.1^by rw[e,←z];exact Sc.mpr #[w,hw,rfl]
     rw[je.mpr λw hw=>decide_eq_true^e2 w hw,show(us.map λu=>if tk u=tk v then v else u)=us from by
      refine(gK λw hw=>if_neg^e2 w hw).trans^List.map_id' us]
    .rw[if_neg e,kN^by simp[e]]
     rw[eW]at hm;exact((ih nd.2^(XV.mp hm).resolve_left λz=>e z.symm).cons u).trans (ko ..)
 .rw[if_neg h,if_neg h]
  refine#[us++[v],by unfold GZ;rw[fI,fI];rfl,?_];have e2:∀w∈us,tk w≠tk v:=λw hw z=>h (hasK_iffU.mpr^by rw[←z];exact Sc.mpr #[w,hw,rfl]);rw[je.mpr λw hw=>decide_eq_true^e2 w hw];exact gx _ _
def Wd(h:Rt ss n Pd):He (EE Pd) n (ss++UF 1 .no):=by
 let#[l,t,N,N',ps,us,d,rfl,hlt,hl,ht,#[hp,hu,okn],hd,ok',p]:=h;have szl:=PySem.sizeLine_eq;have l25:=okn.2.1;have l60:=okn.2.2;have lp:=hp.length_eq;have lu:=hu.length_eq;have nd:(us.map tk).Nodup:=(hu.map tk).nodup_iff.mp^PX okn.1;have ndp:ps.Nodup:=hp.nodup_iff.mp^Ea okn.1.rise;have nps:∀x∈ps,Ga x:=λx hx=>okn.1.names x^hp.mem_iff.mpr hx;unfold He;cases d with
 |come x=>
  let#[hx,hn,hpp,htt]:=hd;refine#[_,AH (j:=0) rfl,?_];refine Qu ?_;refine#[l,rfl,#[_,hl,rfl],_,AH (j:=1) rfl,rfl,_,hl,_,_,rfl,rfl,by rw[Ev];lk,?_];refine#[Df (Im ps) rfl,rfl,?_];refine#[_,AH (j:=0) rfl,#[_,AH (j:=0) rfl,#[_,AH (j:=0) rfl,rfl,?_]]];refine p _ (ps++[x]) us rfl (by rw[B9];unfold IH;rw[fI];rfl) (by rw[CC^fB hlt];exact ht) #[?_,by rw[htt];exact hu,ok'] λb hb _=>CC hb;exact hpp.trans^(hp.cons x).trans (gx x ps).symm
 | go x=>
  let#[hx,rfl]:=hd;have nx:=okn.1.names x hx;let#[j,j1,j2,j3]:=Ri^hp.mem_iff.mp hx;refine#[_,AH (j:=0) rfl,?_];refine#[_,AH (j:=0) rfl,?_];refine Qu ?_;refine#[l,rfl,#[_,hl,rfl],_,AH (j:=1) rfl,rfl,_,hl,_,_,j,rfl,rfl,Cy nps,CN nx,#[.str x,by rw[ZB,j1];rfl,by rw[Eg,beq_self_eq_true]],λm y hm hy=>?_,?_]
  .rw[ZB]at hy
   let#[z,hz,rfl]:=eq.mp hy;rw[Eg];exact beq_eq_false_iff_ne.mpr^j2 m z hm hz
  rw[G3];refine#[Wh _,rfl,?_];have htp:((n.put l^.pl^.lst^(ps.eraseIdx j).map .str).w t)=P3^.pl^GZ us:=by rw[CC^fB hlt];exact ht
  refine HD ?_;refine#[[GZ us],by show [Gj _^.ob t]=_;rw[IF htp],_,_,rfl,by rw[Ev,Ev],by rw[Ev];lk,Vg okn.1 hu,PV us,?_];refine G0 okn.1 nx (d1:=.non) rfl us [] _ _ (λu h=>hu.mem_iff.mpr h) (by show us.length<=60;lk) nd htp λm' s e1 e2 e3=>?_;refine#[_,AH (j:=0) rfl,#[_,AH (j:=0) rfl,rfl,?_]];refine p m' (ps.eraseIdx j) (us.filter λu=>!Ta x u) e1 ((e3 l hlt).trans^B9 _ _ _) e2 #[?_,hu.filter _,ok'] λb h1 h2=>(e3 b h2).trans^CC h1;exact(hp.filter _).trans (GG ndp j3).symm
 |lay x y v=>
  let#[hx,hy,hne,v1,v2,hps,hts]:=hd;let#[us',e1,e2]:=Wf (v:=#[lo x y,hi x y,v]) nd;refine#[_,AH (j:=0) rfl,?_];refine#[_,AH (j:=0) rfl,?_];refine#[_,AH (j:=0) rfl,?_];refine#[_,AH (j:=3) rfl,rfl,?_];refine HD ?_;refine#[_,AH (j:=1) rfl,_,AH (j:=2) rfl,x,y,rfl,okn.1.names x hx,okn.1.names y hy,hne,?_];refine#[t,tk #[lo x y,hi x y,v],_,_,rfl,rfl,ht,by rw[Ev];lk,?_];refine#[_,AH (j:=0) rfl,rfl,?_];refine p _ ps us' rfl (by rw[CC hlt];exact hl) (by rw[B9];exact congrArg _^congrArg _ e1) #[by rw[hps];exact hp,?_,ok'] λb _ hb=>CC hb;refine hts.trans^kU ?_ e2.symm;refine List.Perm.cons _ ?_;refine kU (hu.filter _)^List.Perm.of_eq^gX λu h=>?_;rw[fC,j6,decide_eq_true_eq,fZ,Ne,betwB_iff,EM hne (okn.1.tin u^hu.mem_iff.mpr h).2.2.1,Ne,tk_eq]
 | take x y=>
  let#[#[u,hf],hx,hy,hne,rfl]:=hd;have mu:=et.mp (show u∈N.ts.filter (BE x y) by rw[hf];exact Rs.mpr rfl);have eu:=(EM hne (okn.1.tin u mu.1).2.2.1).mp^betwB_iff.mp mu.2;let#[j,j1,_,j3]:=Ri^hu.mem_iff.mp mu.1;refine#[_,AH (j:=0) rfl,?_];refine#[_,AH (j:=0) rfl,?_];refine#[_,AH (j:=0) rfl,?_];refine#[_,AH (j:=0) rfl,?_];refine HD ?_;refine#[t,rfl,#[_,ht,rfl],_,AH (j:=1) rfl,_,AH (j:=2) rfl,x,y,rfl,okn.1.names x hx,okn.1.names y hy,hne,rfl,_,ht,?_];refine#[_,_,_,tk u,j,.int u.len,rfl,rfl,by rw[show tk u=[.inr^lo x y,.inr^hi x y] by unfold tk;rw[eu.1,eu.2]];rfl,by rw[ZB,j1];rfl,by rw[ZB,j1];rfl,?_];rw[YU];refine#[Qp _,rfl,rfl,?_];refine p _ ps (us.eraseIdx j) rfl (by rw[CC hlt];exact hl) (B9 _ _ _) #[hp,?_,ok'] λb _ hb=>CC hb;have ndu:us.Nodup:=hu.nodup_iff.mp^Bo okn.1.trise;refine(hu.filter _).trans^kU (List.Perm.of_eq ?_) (GG ndu j3).symm;refine gX λw hw=>?_;have h1:w∈N.ts:=hu.mem_iff.mpr hw
  have h2:BE x y w=n_↔w=u:=by
   rw[show(BE x y w=n_)=(BE x y w=n_)from rfl];constructor
   .intro z
    have:=et.mpr #[h1,z]
    rw[hf]at this;exact Rs.mp this
   .rintro rfl;exact mu.2
  rw[fC,j6,decide_eq_true_eq,fZ,Ne,h2]
end
theorem LN{α:Type}[DecidableEq α]:∀{xs ys:p_ α},xs.Nodup->(∀x∈xs,x∈ys)->xs.length<=ys.length
 |[],_,_,_=>eP _
 |x::xs,ys,nd,h=>by
  rw[eQ]at nd;let#[j,_,_,hp]:=Ri^h x Re
  have:=LN (ys:=ys.eraseIdx j) nd.2 λz hz=>(XV.mp^hp.mem_iff.mpr^h z^TW _ hz).resolve_left λe=>nd.1^by rw[←e];exact hz
  have e:=hp.length_eq;rw[eo]at e ⊢;lk
def DA{xs:p_ Str}{r:Int}(h0:0<=r)(h1:r<xs.length):∃x∈xs,atI (xs.map D.str) r=P3^.str x/\xs[r.toNat]?=P3 x:=by
 have h:r.toNat<xs.length:=by lk
 refine#[xs[r.toNat],fe _,?_,No h]
 have:=AH (xs:=xs.map D.str) (j:=r.toNat) (v:=.str xs[r.toNat])^by rw[ZB,No h];rfl
 rwa[show((r.toNat:Nat):Int)=r by lk]at this
section
variable {ss:p_ Slot}{n:Sg}{Pd:D->Sg->Prop}
def SS(h:Ib ss n Pd):FG (EE Pd) n (ss++UF 7 .no):=by
 let#[N,ps,us,pool,k,rfl,#[hp,hu,okn],ndq,hq,q2,q20,hpq,lu,k0,k4,hn,p]:=h;have l25:=okn.2.1;have l60:=okn.2.2;have lp:=hp.length_eq;have szl:=PySem.sizeLine_eq;have nd:(us.map tk).Nodup:=(hu.map tk).nodup_iff.mp^PX okn.1;have ndp:ps.Nodup:=hp.nodup_iff.mp^Ea okn.1.rise;have nps:∀x∈ps,Ga x:=λx hx=>hq x^hpq x hx;unfold FG;refine Qu ?_;refine#[by show(pool.map D.str).length<=10000000;rw[Ev];lk,?_];refine CL (λd=>!((ps.map D.str).any λy=>Eo y d)) id (λρ=>∃s,ρ=[.sh^IH ps,s]) _ _ _ _ ?_ #[_,rfl] ?_
 .rintro d hd ρ m nx sk ⟨s,rfl⟩ h1 h2
  let#[x,hx,rfl]:=Sc.mp hd;refine#[CN^hq x hx,Cy nps,_,rfl,?_];exact ED (λc=>h1 _ #[_,rfl] c) λc=>h2 _ #[_,rfl]^fZ.mpr c
 have ef:(pool.map D.str).filter (λd=>!((ps.map D.str).any λy=>Eo y d))=(pool.filter λx=>decide (x∉ps)).map D.str:=by
  rw[ia]
  congr 1
  refine gX λx _=>?_;show(!((ps.map D.str).any λy=>Eo y^.str x))=decide (x∉ps);rw[NB,decide_not]
 rw[fE,iV,ef];generalize hnew:(pool.filter λx=>decide (x∉ps))=new
 have mnew:∀x∈new,x∈pool/\x∉ps:=λx hx=>by
  rw[←hnew]at hx;let#[a,b]:=et.mp hx;exact#[a,of_decide_eq_true b]
 have lnew:new.length<=20:=by rw[←hnew];exact eR (fP _ _) q20
 have full:new=[]->2<=ps.length:=λe=>by
  rw[e]at hnew
  have:∀x∈pool,x∈ps:=λx hx=>by
   rcases iI (x∈ps)with z|z
   .exact z
   .have h1:x∈pool.filter λx=>decide (x∉ps):=et.mpr #[hx,decide_eq_true z]
    rw[hnew]at h1;cases h1
  have:=LN ndq this
  omega
 refine#[9,rfl,by cbv,by cbv,by lk,λway w0 w9=>?_];refine#[z0,Cy λx hx=>hq x (mnew x hx).1,Cy (ps:=[]) (λx hx=>by cases hx),?_]
 have come:new≠[]->(Av^BA^AE (wC^D.str "come")^AE (AU Au (AA 5)^AY BR^AD (A3 0)^AD (AL^B0 Cs^AE (AA 5) AS) AR) AS) (EE Pd) (n - 1) [.fd,.sh^Hq (IH ps)^GZ us,.sh^.tup^pool.map .str,.sh^.int k,.sh^IH ps,.sh^.lst^new.map .str,.sh^.int way,.no,.no,.no,.no]:=λhne=>by
  have l1:1<=new.length:=List.length_pos_iff.mpr hne;refine#[_,_,rfl,rfl,((new.map D.str).length:Int),rfl,by rw[Ev];lk,by rw[Ev];lk,(by show 1<=n.n - 1;lk),λr r0 r1=>?_];rw[Ev]at r1;let#[x,hx,ex,_]:=DA r0 r1;exact#[_,ex,z2,p (.come x) (n.n - 1 - 1) (mnew x hx)^by lk]
 have rst:∀D5:D,2<=ps.length->(AZ (BG (Ab^AU (IA o_) (AA 6)^wC^D.int 2) (Av^BA^AE (wC^D.str "go")^AE (AU Au (AA 4)^AY BR^AD (A3 0)^AD (AL^B0 Cs^AE (AA 4) AS) AR) AS) Aw)
 (AZ (BG (HC (Ab^AU (IA o_) (AA 6)^wC^D.int 3)^Ab^AU Zk (AU A4 (AA 1)^wC^D.str "ties") PP) (AZ (A2 7^AU Au (B0 Mp^AE (AU A4 (AA 1)^wC^D.str "ties") AS)^AY BR^AD (A3 0)^AD (AL^B0 Vm^AE (AU A4 (AA 1)^wC^D.str "ties") AS) AR)
 (AZ (A2 8^AY BR^AD (A3 0)^AD (AL^wC^D.int 2) AR)
 (Av^BA^AE (wC^D.str "take")^AE (AU Au (AA 7)^AA 8)^AE (AU Au (AA 7)^AU Dq (wC^D.int 1)^AA 8) AS))) Aw)
 (AZ (A2 9^AY BR^AD (A3 0)^AD (AL^B0 Cs^AE (AA 4) AS) AR)
 (AZ (A2 10^AU (WJ (λ_ j=>0<j) λi j=>D.int (i % j)) (AU BU (AU BU (AA 9)^wC^D.int 1)^AY BR^AD (A3 0)^AD (AL^AU Dq (B0 Cs^AE (AA 4) AS)^wC^D.int 1) AR)^B0 Cs^AE (AA 4) AS)
 (Av^BA^AE (wC^D.str "lay")^AE (AU Au (AA 4)^AA 9)^AE (AU Au (AA 4)^AA 10)^AE (AY Lo^AD (A3 0)^AD (AL^aP (Ab^AU H_ (AA 3)^wC^D.int 4) (AA 3)^AY BR^AD (A3 0)^AD (AL^wC^D.int 4) AR) AR) AS)))))
   (EE Pd) (n - 1) [.fd,.sh^Hq (IH ps)^GZ us,.sh^.tup^pool.map .str,.sh^.int k,.sh^IH ps,.sh D5,.sh^.int way,.no,.no,.no,.no]:=λD5 p2=>by
  have lpl:(ps.map D.str).length=ps.length:=Ev ..;show if(way==2)=n_ then _ else _
  refine ED (λc=>?_) λc=>?_
  .refine#[_,_,rfl,rfl,((ps.map D.str).length:Int),rfl,by lk,by lk,(by show 1<=n.n - 1;lk),λr r0 r1=>?_]
   rw[lpl]at r1;let#[x,hx,ex,_]:=DA r0 r1;exact#[_,ex,z2,p (.go x) (n.n - 1 - 1) hx^by lk]
  have lay:(AZ (A2 9^AY BR^AD (A3 0)^AD (AL^B0 Cs^AE (AA 4) AS) AR)
 (AZ (A2 10^AU (WJ (λ_ j=>0<j) λi j=>D.int (i % j)) (AU BU (AU BU (AA 9)^wC^D.int 1)^AY BR^AD (A3 0)^AD (AL^AU Dq (B0 Cs^AE (AA 4) AS)^wC^D.int 1) AR)^B0 Cs^AE (AA 4) AS)
 (Av^BA^AE (wC^D.str "lay")^AE (AU Au (AA 4)^AA 9)^AE (AU Au (AA 4)^AA 10)^AE (AY Lo^AD (A3 0)^AD (AL^aP (Ab^AU H_ (AA 3)^wC^D.int 4) (AA 3)^AY BR^AD (A3 0)^AD (AL^wC^D.int 4) AR) AR) AS))) (EE Pd) (n - 1) [.fd,.sh^Hq (IH ps)^GZ us,.sh^.tup^pool.map .str,.sh^.int k,.sh^IH ps,.sh D5,.sh^.int way,.no,.no,.no,.no]:=by
   refine#[_,_,rfl,rfl,((ps.map D.str).length:Int),rfl,by lk,by lk,(by show 1<=n.n - 1;lk),λa a0 a1=>?_];refine#[_,_,rfl,rfl,((ps.map D.str).length:Int) - 1,rfl,by lk,by lk,(by show 1<=n.n - 1 - 1;lk),λq q0 q1=>?_];refine#[_,_,rfl,rfl,(by show(0:Int)<((ps.map D.str).length:Int);lk),?_];rw[lpl]at a1 q1 ⊢;have hb0:0<=(a+1+q) % (ps.length:Int)/\(a+1+q) % (ps.length:Int)<ps.length:=#[kQ _^by lk,jn _^by lk]
   have hab:(a+1+q) % (ps.length:Int)≠a:=by
    intro e
    rcases(show a+1+q<ps.length\/ps.length<=a+1+q by lk)with z|z
    .rw[Int.emod_eq_of_lt (by lk) z]at e;lk
    .have:(a+1+q) % (ps.length:Int)=a+1+q - ps.length:=by
      rw[←Int.sub_emod_right,Int.emod_eq_of_lt (by lk)^by lk]
     omega
   obtain⟨b,eb⟩:∃b,(a+1+q) % (ps.length:Int)=b:=#[_,rfl];rw[eb]at hb0 hab;let#[x,hx,ex,ix]:=DA a0 a1;let#[y,hy,ey,iy]:=DA hb0.1 hb0.2
   have hne:x≠y:=λe=>hab (by
    subst e;have h1:a.toNat<ps.length:=by lk
    have:=(List.getElem?_inj h1 ndp).mp^ix.trans iy.symm
    omega)
   subst eb;refine#[_,ex,_,ey,?_];have fin:∀(s:Int) (m:Nat),0<=s->s<=3->n.n<=m+4->1<=m->Lo [.fd,.sh^.int s] #[m,n.w] λd n'=>AS n' [.fd,.sh^Hq (IH ps)^GZ us,.sh^.tup^pool.map .str,.sh^.int k,.sh^IH ps,.sh D5,.sh^.int way,.no,.no,.sh^.int a,.sh^.int ((a+1+q) % (ps.length:Int))] λds n2=>[D.str "lay",.str x,.str y,d].length<=sizeLine/\Pd (.tup ([D.str "lay",.str x,.str y]++d::ds)) n2:=λs m s0 s3 hm m1=>#[s,rfl,s0,s3,m1,λr r1 r2=>#[(by cbv:4<=sizeLine),p (.lay x y r) (m - 1) #[hx,hy,hne,r1,r2]^by lk]];show if decide (k<4)=n_ then _ else _
   refine ED (λc=>?_) λc=>?_
   .exact fin k (n.n - 1 - 1 - 1) k0 (by have:=of_decide_eq_true c;lk) (by lk)^by lk
   .exact#[4,rfl,by cbv,by cbv,(by show 1<=n.n - 1 - 1 - 1;lk),λr r0 r1=>fin r (n.n - 1 - 1 - 1 - 1) r0 (by lk) (by lk)^by lk]
  show if(way==3)=n_ then _ else _
  refine ED (λc3=>?_) λc3=>Ck lay;refine HD ?_;refine#[_,_,rfl,by rw[Ev,Ev],rfl,?_];show if(!decide ((us.map tk).length=0))=n_ then _ else _
  rw[Ev]
  by_cases e0:us.length=0
  .rw[decide_eq_true e0];exact Ck lay
  rw[decide_eq_false e0];refine EC ?_;let#[s1,s2,s3,s4]:=UH okn hu;have lN:=hu.length_eq;refine HD ?_;refine#[_,_,rfl,s1,s2,s3,s4,Vg okn.1 hu,λks' h3 h4=>?_];have ek:=Ni okn.1 hu h3 h4;subst ek;refine HD ?_;refine#[_,_,rfl,by rw[Ev,Ev],((us.map tk).length:Int),rfl,by rw[Ev];lk,by rw[Ev];lk,(by show 1<=n.n - 1;lk),λr r0 r1=>?_];rw[Ev]at r1;have hr:r.toNat<N.ts.length:=by lk
  refine#[tupK (tk N.ts[r.toNat]),?_,?_]
  .have:=AH (xs:=(N.ts.map tk).map tupK) (j:=r.toNat) (v:=tupK (tk N.ts[r.toNat]))^by rw[ZB,ZB,No hr];rfl
   rwa[show((r.toNat:Nat):Int)=r by lk]at this
  have hm:N.ts[r.toNat]∈us:=hu.mem_iff.mp^fe _;generalize N.ts[r.toNat]=u at hm;refine#[2,rfl,by cbv,by cbv,(by show 1<=n.n - 1 - 1;lk),λv v0 v1=>?_]
  rcases(show v=0\/v=1 by lk)with rfl|rfl
  .exact#[_,AH (j:=0) rfl,_,AH (j:=1) rfl,z3,p (.take u.a u.b) (n.n - 1 - 1 - 1) #[u,hm,.inl #[rfl,rfl]]^by lk]
  .exact#[_,AH (j:=1) rfl,_,AH (j:=0) rfl,z3,p (.take u.b u.a) (n.n - 1 - 1 - 1) #[u,hm,.inr #[rfl,rfl]]^by lk]
 cases hc:new with
 |nil=>
  rw[hc]at full;exact Ck^Ck^rst _ (full rfl)
 |cons x0 r0=>
  rw[hc]at come;refine EC ?_;show if decide (way<2)=n_ then _ else _
  refine ED (λ_=>EC^come^fg _ _) λ_=>?_;refine#[_,_,rfl,rfl,?_];show if decide (((ps.map D.str).length:Int)<2)=n_ then _ else _
  rw[Ev];refine ED (λ_=>come^fg _ _) λc=>rst _^by have:=of_decide_eq_false^fZ.mpr c;lk
end
section
def XR{xs:p_ Str}:Eo (.tup^xs.map .str)^.tup []=decide (xs=[]):=by
 cases xs <;>rfl
end
theorem QH{α:Type}{r:α->α->Prop}(tr:∀a b c,r a b->r b c->r a c)(x:α):∀{xs:p_ α},xs.Pairwise r->(∀y∈xs,r x y\/r y x)->∃l:p_ α,l.Perm (x::xs)/\l.Pairwise r
 |[],_,_=>#[[x],.refl _,kM _ _]
 | y::xs,h,t=>by
  let#[h1,h2]:=fM.mp h
  rcases t y Re with z|z
  .refine#[x::y::xs,.refl _,fM.mpr #[λw hw=>?_,h]]
   rcases XV.mp hw with rfl|hw
   .exact z
   .exact tr _ _ _ z^h1 w hw
  .let#[l,p,q]:=QH tr x h2 λw hw=>t w^TW _ hw
   refine#[y::l,(p.cons y).trans^ko x y xs,fM.mpr #[λw hw=>?_,q]]
   rcases XV.mp^p.mem_iff.mp hw with rfl|hw
   .exact z
   .exact h1 w hw
def XS{a b c:A5}(h:Bp a b)(g:Bp b c):Bp a c:=by
 rcases h with h|⟨h,h'⟩ <;>rcases g with g|⟨g,g'⟩
 .exact .inl^iU h g
 .exact .inl (g▸h)
 .exact .inl (h▸g)
 .exact .inr #[h.trans g,iU h' g']
def QM{N:Net}{ps:p_ Str}{us:p_ A5}{pool:p_ Str}(S:NW N ps us)(hq:∀x∈pool,Ga x)(hp:∀x∈ps,x∈pool)(l1:N.ps.length<=18)(l2:N.ts.length<=18){d:Dd}
  (hd:match d with|.come x=>x∈pool/\x∉ps|.go x=>x∈ps|.lay x y l=>x∈ps/\y∈ps/\x≠y/\1<=l/\l<=1000000|.take x y=>∃u∈us,TV x y u):
  ∃N':Net,Qi N d N'/\okN N'/\(∀x∈N'.ps,x∈pool)/\N'.ps.length<=N.ps.length+1/\N'.ts.length<=N.ts.length+1:=by
 let#[s1,s2,okn]:=S;have ok:=okn.1;have hN:∀x∈N.ps,x∈pool:=λx hx=>hp x^s1.mem_iff.mp hx;have lf:∀p:A5->Bool,(N.ts.filter p).length<=N.ts.length:=λp=>fP _ _;cases d with
 | come x=>
  have hx:x∉N.ps:=λz=>hd.2^s1.mem_iff.mp z;let#[qs,h1,h2]:=QH (r:=λx y=>cs x<cs y) (λa b c h g=>iU h g) x ok.rise λy hy=>(K6 x y).elim .inl λz=>z.elim (λe=>absurd (e▸hy) hx) .inr;have lq:qs.length=N.ps.length+1:=h1.length_eq;refine#[#[qs,N.ts],#[hq x hd.1,hx,h1,rfl],#[#[λy hy=>?_,h2,λt ht=>?_,ok.trise],by show qs.length<=25;lk,okn.2.2],λy hy=>?_,by show qs.length<=_;lk,fR _]
  .rcases XV.mp^h1.mem_iff.mp hy with rfl|z
   .exact hq y hd.1
   .exact ok.names y z
  .let#[a1,a2,a3]:=ok.tin t ht
   exact#[h1.mem_iff.mpr^TW _ a1,h1.mem_iff.mpr^TW _ a2,a3]
  .rcases XV.mp^h1.mem_iff.mp hy with rfl|z
   .exact hd.1
   .exact hN y z
 |go x=>
  refine#[_,#[s1.mem_iff.mpr hd,rfl],#[#[λy hy=>ok.names y (et.mp hy).1,ok.rise.filter _,λt ht=>?_,ok.trise.filter _],eR (fP _ _) okn.2.1,eR (lf _) okn.2.2],λy hy=>hN y (et.mp hy).1,i_^fP _ _,i_^lf _];let#[h1,h2]:=et.mp ht;let#[a1,a2,a3]:=ok.tin t h1;have h3:¬(t.a=x\/t.b=x):=λz=>by rw[atB_iff.mpr z]at h2;cases h2
  exact#[et.mpr #[a1,decide_eq_true λz=>h3^.inl z],et.mpr #[a2,decide_eq_true λz=>h3^.inr z],a3]
 | lay x y l=>
  let#[hx,hy,hne,h1,h2]:=hd;have hx:=s1.mem_iff.mpr hx;have hy:=s1.mem_iff.mpr hy;let#[lh,lc]:=YM hne
  have hin:∀t∈N.ts.filter λu=>!BE x y u,t∈N.ts/\¬(t.a=lo x y/\t.b=hi x y):=λt ht=>by
   let#[g1,g2]:=et.mp ht;refine#[g1,λz=>?_];rw[betwB_iff.mpr^(EM hne (ok.tin t g1).2.2.1).mpr z]at g2;cases g2
  let#[ts,g1,g2]:=QH (r:=Bp) (λ_ _ _=>XS) (#[lo x y,hi x y,l]:A5) (ok.trise.filter λu=>!BE x y u) λt ht=>by
   let#[_,k]:=hin t ht
   rcases K6 (lo x y) t.a with z|z|z
   .exact .inl^.inl z
   .rcases K6 (hi x y) t.b with w|w|w
    .exact .inl^.inr #[z,w]
    .exact absurd #[z.symm,w.symm] k
    .exact .inr^.inr #[z.symm,w]
   .exact .inr^.inl z
  have lt:ts.length<=N.ts.length+1:=by
   have:=g1.length_eq
   have:=lf λu=>!BE x y u
   rw[eo]at *;lk
  refine#[#[N.ps,ts],#[hx,hy,hne,h1,h2,rfl,g1],#[#[ok.names,ok.rise,λt ht=>?_,g2],okn.2.1,by show ts.length<=60;lk],hN,fR _,lt]
  rcases XV.mp^g1.mem_iff.mp ht with rfl|z
  .have:lo x y∈N.ps/\hi x y∈N.ps:=by
    rcases lc with⟨e1,e2⟩|⟨e1,e2⟩ <;>rw[e1,e2] <;>exact#[by assumption,by assumption]
   exact#[this.1,this.2,lh,h1,h2]
  .exact ok.tin t (hin t z).1
 | take x y=>
  let#[u,hu,hb]:=hd;have hu:=s2.mem_iff.mpr hu;let#[u1,u2,u3,_]:=ok.tin u hu
  have hne:x≠y:=by
   rintro rfl
   rcases hb with⟨e1,e2⟩|⟨e1,e2⟩ <;>rw[e1,e2]at u3 <;>exact BP _ u3
  have hxy:x∈N.ps/\y∈N.ps:=by
   rcases hb with⟨e1,e2⟩|⟨e1,e2⟩ <;>rw[←e1,←e2] <;>exact#[by assumption,by assumption]
  have huf:u∈N.ts.filter^BE x y:=et.mpr #[hu,betwB_iff.mpr hb]
  have one:N.ts.filter^BE x y=[u]:=by
   have pw:=ok.trise.filter^BE x y
   have eqs:∀v∈N.ts.filter^BE x y,v.a=lo x y/\v.b=hi x y:=λv hv=>by
    let#[g1,g2]:=et.mp hv;exact(EM hne (ok.tin v g1).2.2.1).mp^betwB_iff.mp g2
   have no:∀v∈N.ts.filter^BE x y,∀w∈N.ts.filter^BE x y,¬Bp v w:=λv hv w hw h=>by
    let#[e1,e2]:=eqs v hv;let#[f1,f2]:=eqs w hw
    rcases h with h|⟨_,h⟩
    .rw[e1,f1]at h;exact BP _ h
    .rw[e2,f2]at h;exact BP _ h
   cases e:N.ts.filter^BE x y with
   |nil=>rw[e]at huf;cases huf
   | cons v r=>
    cases r with
    |nil=>rw[e]at huf;rw[Rs.mp huf]
    |cons w r=>
     rw[e]at pw no;exact absurd ((fM.mp pw).1 w Re)^no v Re w^TW _ Re
  exact#[_,#[#[u,one],hxy.1,hxy.2,hne,rfl],#[#[ok.names,ok.rise,λt ht=>ok.tin t (et.mp ht).1,ok.trise.filter _],okn.2.1,eR (lf _) okn.2.2],hN,fR _,i_^lf _]
def QN{N N':Net}{ps:p_ Str}{us:p_ A5}(S:NW N ps us):ps.length=N.ps.length/\us.length=N.ts.length:=#[S.1.length_eq.symm,S.2.1.length_eq.symm]
def Nx(w:Ch->q_ Wc)(xs:p_ Str):(xs.map D.str).map^Gj w=xs.map .str/\(xs.map D.str).flatMap^Gp w=[]:=by
 induction xs with
 |nil=>exact#[rfl,rfl]
 | cons x xs ih=>
  refine#[?_,?_]
  .show D.str x::(xs.map D.str).map^Gj w=_
   rw[ih.1];rfl
  .show([]:p_ Ch)++(xs.map D.str).flatMap^Gp w=_
   rw[ih.2];rfl
def TX(s:Sg)(L:p_ Ch):Sg.back (s.drop L) s L=s:=Sg.back_drop s L s.n
def ME{w:Ch->q_ Wc}{l t:Ch}{x y:D}(h1:w l=P3^.pl x)(h2:w t=P3^.pl y):Dp.Hs w^Hq (.ob l)^.ob t=Hq x y/\Gn w^Hq (.ob l)^.ob t=[l,t]:=by
 refine#[?_,?_]
 .show D.dic _ [Gj w^.ob l,Gj w^.ob t]=_
  rw[IF h1,IF h2];rfl
 .show Gp w^.ob l++(Gp w^.ob t++[])=_
  rw[F9 h1,F9 h2];rfl
def Bq(s:Sg)(a:Ch)(c:Wc):(s.put a c).w a=P3 c:=if_pos rfl
def Ah{s:Sg}{a b:Ch}{c:Wc}(h:b≠a):(s.put a c).w b=s.w b:=if_neg h
def Wx{A B l:p_ A5}(h:Xs A B l):l.length<=A.length:=by rw[h.1.length_eq];exact fP _ _
def DR{N:Net}(ok:okN N):Qv^enc N:=by
 let#[h1,h2,h3]:=Yy ok;exact WY (by cbv) h1 (by lk)^by lk
def K9{x:Str}{t e:Prop}(h:e):if(if n_=n_ then !(x==x)else x==x)=n_ then t else e:=by
 rw[if_pos rfl,beq_self_eq_true];exact h
theorem Ll:∀{xs:p_ D}{y:D},A9 xs=n_->flat y=n_->A9 (xs++[y])=n_
 |[],y,_,h=>by show(flat y&&n_)=n_;rw[h];rfl
 |x::xs,y,g,h=>by
  have g:(flat x&&A9 xs)=n_:=g;let#[g1,g2]:=Bool.and_eq_true_iff.mp g;show(flat x&&A9 (xs++[y]))=n_;rw[g1,Ll g2 h];rfl
def Xh(d:Dd):flat^LU d=n_:=by cases d <;>rfl
structure d8 (C:Ch) (t b:Int) (pool:List Str) (k:Nat) (n:Sg) (a l tt:Ch) (N M:Net) (ps:List Str) (us:List A5):Prop where
 nn:7*k<=n.n
 wa:n.w a=P3 (kc C t b N M)
 wl:n.w l=P3 (.pl^IH ps)
 wt:n.w tt=P3 (.pl^GZ us)
 al:a≠l
 at':a≠tt
 lt:l≠tt
 st:NW N ps us
 ok:okN M
 inp:∀x∈ps,x∈pool
 l1:N.ps.length+k<=18
 l2:N.ts.length+k<=18
end Nt
namespace L2
section
variable {X:Cx}
def PJ(X:Cx)(es:p_ eS)(t:Str->TE):Prop:=∀(acc:Str) (zG:p_ (Ch×Obj)) (s:Go) (Z:St) (H:Hp) (Q:VK),Inv X zG Z H s->t acc Z H Q->wpAny (model X.prog X.w) X.A (joinParts acc^evalEach es X.env) (EP X zG Z Q) X.xe s
def ZF:PJ X [] (λacc Z H Q=>acc.length<=sizeLine/\Q (.str acc) H):=by
 intro acc zG s Z H Q I h;exact joinParts_nil #[.str acc,H,I.tok _,#[_,rfl],h.2] h.1
def Wi{e:eS}{es:p_ eS}{te:TE}{tr:Str->TE}(he:PE X e te)(hr:PJ X es tr):PJ X (e::es) (λacc Z H Q=>te Z H λv H1=>∃z,v=.str z/\(acc++z).length<=sizeLine/\tr (acc++z) Z H1 Q):=by
 intro acc zG s Z H Q I h;refine joinParts_cons^BD (he zG s Z H _ I h) λu s1 #[x,H1,I1,r1,z,ex,hz,q]=>?_;subst ex;let#[t,rfl]:=r1;exact#[hz,hr (acc++z) zG s1 Z H1 Q I1 q]
def Wp{e1 e2:eS}{es:p_ eS}{t:Str->TE}{pos:Pos}(h:PJ X (e1::e2::es) t):PE X (.JoinedStr (e1::e2::es) pos)^t gk:=by
 intro zG s Z H Q I q;exact JoinedStr_many^h gk zG s Z H Q I q
def cY(te:TE):TE:=λZ H Q=>te Z H λv H1=>(∃z,v=.str z/\z.length<=sizeLine/\Q (.str z) H1)\/∃i:Int,v=.int i/\i.natAbs.log2<1920/\Q (.str^fX^toString i) H1
def ZK{e:eS}{te:TE}{pos:Pos}(he:PE X e te):PE X (.FormattedValue e (-1) m_ pos)^cY te:=by
 intro zG s Z H Q I h;refine FormattedValue_plain^BD (he zG s Z H _ I h) λu s1 #[x,H1,I1,r1,q]=>?_
 rcases q with⟨z,rfl,hz,q⟩|⟨i,rfl,hi,q⟩
 .let#[t,rfl]:=r1
  exact formatField_str (λt' tk=>#[.str z,H1,I1.tok _,#[_,rfl],q]) hz
 .let#[t,rfl]:=r1
  exact formatField_int_small hi #[.str _,H1,I1.tok _,#[_,rfl],q]
end
end L2
namespace Dp
open L2
section
variable {X:Cx}{e e1 e2:Expr}{es:p_ Expr}{κ:Kd}{wa:DW}{pos:Pos}
def WN(we:DW):DW:=λn ρ P=>we n ρ λd n1=>match d with
 |.str z=>P (.str z) n1
 |.int i=>i.natAbs.log2<1920/\(fX^toString i).length<=sizeLine/\P (.str^fX^toString i) n1
 |_=>False
def QO(h:DE X e κ wa):DE X (.FormattedValue e (-1) m_ pos) .sh^WN wa:=by
 let#[t,h1,h2]:=h;refine#[_,ZK h1,λC M H n ρ Z P Q R w q=>?_];refine h2 C M H n ρ Z _ _ R w λv H1 d n1 ee f1 r1 p=>?_;have R1:=R.step ee f1;have tx:=r1.tpOf R.dom R.vM;cases d with
 |str z=>exact .inl #[z,tx.str.1,tx.str.2,q _ H1 (.str z) n1 ee f1 #[rfl,tx.str.2] p]
 |int i=>exact .inr #[i,tx.int,p.1,q _ H1 (.str _) n1 ee f1 #[rfl,p.2.1] p.2.2]
 |_=>exact(show False from p).elim
def DJ(X:Cx)(es:p_ eS)(w:Str->DW):Prop:=∃t,PJ X es t/\∀(acc:Str) (C:Fm) (M:Ch->Prop) (H:Hp) (n:Sg) (ρ:p_ Slot) (Z:L2.St) (P:D->Sg->Prop) (Q:VK),Rel X.K C M H n ρ Z->w acc n ρ P->
 (∀v H' d n',Ext C.U H H'->FeedC X.K C.F M H' n'->VR X.K C.V M H H' .sh v d->P d n'->Q v H')->t acc Z H Q
def Xz:Str->DW:=λacc n _ P=>acc.length<=sizeLine/\P (.str acc) n
def Gc(we:DW)(wr:Str->DW):Str->DW:=λacc n ρ P=>we n ρ λd n1=>∃z,d=.str z/\(acc++z).length<=sizeLine/\wr (acc++z) n1 ρ P
def Zo:DJ X [] Xz:=#[_,ZF,λacc C M H n ρ Z P Q R w q=>#[w.1,q _ H (.str acc) n (Ext.refl _ _) R.feed #[rfl,w.1] w.2]]
def GH{wr:Str->DW}(h:DE X e .sh wa)(hr:DJ X es wr):DJ X (e::es)^Gc wa wr:=by
 let#[t,h1,h2]:=h;let#[u,g1,g2]:=hr;refine#[_,Wi h1 g1,λacc C M H n ρ Z P Q R w q=>?_];refine h2 C M H n ρ Z _ _ R w λv H1 d n1 ee f1 r1 p=>?_;let#[z,rfl,hz,p]:=p;have R1:=R.step ee f1;exact#[z,r1.1,hz,g2 (acc++z) C M H1 n1 ρ Z P _ R1 p λv H2 d n2 e2 f2 r2 p2=>q v H2 d n2 (ee.trans e2) f2 r2 p2]
def Xy(w:Str->DW):DW:=w gk
def Xd{w:Str->DW}(h:DJ X (e1::e2::es) w):DE X (.JoinedStr (e1::e2::es) pos) .sh^Xy w:=by
 let#[t,h1,h2]:=h;exact#[_,Wp h1,λC M H n ρ Z P Q R w q=>h2 gk C M H n ρ Z P Q R w q]
end
def YR(d:D)(ds:p_ D)(P:D->D->Prop):Prop:=∃xs,d=.lst xs/\ds=[]/\P (.lst xs.reverse) .non
def Z0{K:Frag}:Kw K N3 YR:=by
 intro M H a d ds vs P Q m t hv w q;let#[xs,rfl,rfl,w]:=w;let#[us,h1,h2]:=t;cases(show vs=[]from hv);exact#[a,us,rfl,rfl,h1,q _ (.lst xs.reverse) .non _ #[us.reverse,AM,h2.reverse.pres^CI m h1] rfl w]
section
variable {X:Cx}{κ:Kd}{pos:Pos}
def aO(i:Nat)(T:String)(f:D->p_ D->(D->D->Prop)->Prop):Aa:=λD2 n ρ=>∃d,ρ[i]?=P3^.ow d/\cv T d/\f d [] λe _=>D2.nx n^ρ.set i^.ow e
def Zn{x name:Str}{p apos cpos:Pos}{T id:String}{r:V->p_ V->Hp->VK->Prop}{f:D->p_ D->(D->D->Prop)->Prop}(i:Nat)(pa:iP T)(slot:PySem.Slot T name id)(hty:typeOf^.builtin id=pure^.type "method_descriptor")
  (hm:WK X id r) (hA:Kw X.K r f) (h:PE X (.Name x p)^Bv i)
  (hbase:attributeBase (.Name x p) name X.env^eval (.Name x p) X.env=eval (.Name x p) X.env:=by rfl) (hline:(apos.endLine==cpos.line)=n_:=by rfl)
  (hsw:swapsWith (.Call (.Attribute (.Name x p) name apos) [] [] cpos) m_ pos.line X.env=pure o_:=by rfl):
  DS X κ (.Expr (.Call (.Attribute (.Name x p) name apos) [] [] cpos) pos) (aO i T f):=by
 refine#[_,MN (ZN pa slot hty hm h hbase hline) hsw,λC M H n ρ Z D2 E R L #[d,hd,hT,hw]=>?_];let#[a,e1,m,nv,tt]:=R.sl i _ hd;refine#[.ref a,getD_some e1,VU hT^tt.att nv,?_];exact hA M H a d [] [] _ _ m tt rfl hw λo d' z v t2 hz pp=>L.nx M _ n _ Z (R.mut hd e1 t2) pp
end
end Dp
namespace Nt
open L2 Dp
def CQ(x y:Str):cs (x++y)=cs x++cs y:=PySem.W.KT.app_list x y
def M7(x:Str):(cs x).length=x.length:=fD
def L1{x y:Str}(h:cs x=cs y):x=y:=Str.ext'^Array.toList_inj.mp h
def DP(x y z:Str):x++y++z=x++(y++z):=L1^by rw[CQ,CQ,CQ,CQ,gW]
def RU(x:Str):gk++x=x:=L1^by rw[CQ];rfl
def len_app(x y:Str):(x++y).length=x.length+y.length:=by rw[←M7,CQ,eV,M7,M7]
def sp:Str:=" "
def bi:cs sp=[32]:=by decide +kernel
def Hx(i:Int):Str:=fX^toString i
theorem RX:∀(k m:Nat),m<10 ^ (k+1)->(ja 10 m).length<=k+1
 |0,m,h=>by rw[i6^by lk];exact Op _
 | k+1,m,h=>by
  by_cases hm:m<10
  .rw[i6 hm];show 1<=_;lk
  .have t:ja 10 (m / 10)++ja 10 (m % 10)=ja 10 (10*(m / 10)+m % 10):=Nat.toDigits_append_toDigits (by cbv) (by lk)^jZ m^by cbv
   rw[Nat.div_add_mod]at t
   have:=RX k (m / 10)^by rw[Nat.pow_succ]at h;lk
   rw[←t,eV,i6^jZ m^by cbv];show _+1<=_;lk
def VD{i:Int}(h:1<=i):∃m:Nat,i=(m:Int)/\1<=m/\cs^Hx i=(ja 10 m).map Char.toNat:=by
 let#[m,rfl]:=Int.eq_ofNat_of_zero_le (show 0<=i by lk);exact#[m,rfl,by lk,PySem.W.KIN.signs_num m]
def W7{i:Int}(h:1<=i):∀c∈cs^Hx i,48<=c/\c<=57:=by
 let#[m,rfl,_,e]:=VD h;rw[e];intro c hc;let#[ch,hch,rfl]:=Sc.mp hc;have r:=PyProof.Rows.digit_range^Nat.isDigit_of_mem_toDigits (by cbv) (by cbv) hch;exact r
def RD{i:Int}(h:1<=i)(h2:i<=1000000):(Hx i).length<=7:=by
 let#[m,rfl,_,e]:=VD h;rw[←M7,e,Ev];exact RX 6 m^by lk
def W6{i:Int}(h:1<=i)(h2:i<=1000000):i.natAbs.log2<1920:=by
 have:i.natAbs<2 ^ 1920:=gP (show i.natAbs<=1000000 by lk)^by decide +kernel
 exact(Nat.log2_lt^by lk).mpr this
def KJ(t:A5):Str:=Str.join sp [t.a,t.b,Hx t.len]
def YN(t:A5):Str:=Str.join sp ["tie",t.a,t.b,Hx t.len]
def RG(x:Str):Str:=Str.join sp ["place",x]
def linesOf(N:Net):p_ Str:=N.ps.map RG++N.ts.map YN
def Qq(t:A5):Prop:=Ga t.a/\Ga t.b/\cs t.a<cs t.b/\1<=t.len/\t.len<=1000000
def WD:W2:=λss n P=>∃ts:p_ A5,ss=[.sh^.tup^ts.map As]/\(∀t∈ts,Qq t)/\ts.length<=60/\P (.lst^ts.map λt=>.str^KJ t) n
def Qf:W2:=λss n P=>∃N:Net,ss=[.sh^enc N]/\N.Ok/\N.ps.length<=24/\N.ts.length<=60/\P (.lst^(linesOf N).map .str) n
def FC:Aa:=(Av^B6 [m_,m_,m_] (BF^AA 0) (Ko 3^BO (Ax 0)^BO (Ax 1)^BO (Ax 2) FA) Hl^Xy^Gc (WN^AA 0)^Gc (wC^D.str " ")^Gc (WN^AA 1)^Gc (wC^D.str " ")^Gc (WN^AA 2) Xz)
def Lh:Aa:=(Av^AU bd (B6 [m_] (BF^AU Au (AA 0)^wC^D.int 0) (Ax 0) Hl^AU BU (wC^D.str "place ")^AA 0)^B6 [m_] (BF^AY WD^AD (AL^AU Au (AA 0)^wC^D.int 1) AR) (Ax 0) Hl^AU BU (wC^D.str "tie ")^AA 0)
section
variable {ss:p_ Slot}{n:Sg}{Pd:D->Sg->Prop}
def Me{x:Str}(h:Ga x):x.length<=8:=h.2.1
def aV:D->D
 |.tup [.str a,.str b,.int l]=>.str^KJ #[a,b,l]
 |_=>.non
def WS(a b:Str)(l:Int):gk++a++sp++b++sp++Hx l=KJ #[a,b,l]:=by
 show _=a++sp++(b++sp++Hx l);rw[RU,DP,DP,DP,DP,DP]
def JE(h:WD ss n Pd):FC (EF Pd) n (ss++UF 0 .no):=by
 let#[ts,rfl,hts,hl,p]:=h;have szl:=PySem.sizeLine_eq;unfold FC;refine#[by show(ts.map As).length<=10000000;rw[Ev];lk,?_];refine B5 aV (λρ=>∃s1 s2 s3,ρ=[s1,s2,s3]) _ _ _ _ ?_ #[_,_,_,rfl] ?_
 .rintro d hd ρ n' nx ⟨s1,s2,s3,rfl⟩ hnx
  let#[t,ht,rfl]:=Sc.mp hd;let#[ha,hb,_,h1,h2]:=hts t ht;have la:=Me ha;have lb:=Me hb;have ln:=RD h1 h2;have l1:(gk++t.a).length=t.a.length:=by rw[RU]
  have l2:(gk++t.a++sp).length=t.a.length+1:=by rw[len_app,l1];rfl
  have l3:(gk++t.a++sp++t.b).length=t.a.length+1+t.b.length:=by rw[len_app,l2]
  have l4:(gk++t.a++sp++t.b++sp).length=t.a.length+1+t.b.length+1:=by rw[len_app,l3];rfl
  have l5:(gk++t.a++sp++t.b++sp++Hx t.len).length=t.a.length+1+t.b.length+1+(Hx t.len).length:=by rw[len_app,l4]
  have fin:=hnx [.sh^.str t.a,.sh^.str t.b,.sh^.int t.len] #[_,_,_,rfl];rw[show aV^As t=.str^KJ t from rfl,←WS t.a t.b t.len]at fin;exact#[rfl,rfl,t.a,rfl,by rw[l1];lk,sp,rfl,by rw[l2];lk,t.b,rfl,by rw[l3];lk,sp,rfl,by rw[l4];lk,W6 h1 h2,eR ln (by rw[szl];decide),Hx t.len,rfl,by rw[l5];lk,by rw[l5];lk,fin]
 .rw[fE,fY]
  exact p
def Yr:("tie ":Str)="tie"++sp:=L1^by decide +kernel
def Uu:("place ":Str)="place"++sp:=L1^by decide +kernel
def VN(t:A5):("tie ":Str)++KJ t=YN t:=by
 rw[Yr];rfl
def OJ(x:Str):("place ":Str)++x=RG x:=by
 rw[Uu];rfl
def S3{x:Str}(h:Ga x):("place ":Str).length+x.length<=sizeLine:=by
 have:=h.2.1
 rw[show("place ":Str).length=6 by decide +kernel,PySem.sizeLine_eq];lk
def Nj{t:A5}(h:Qq t):(KJ t).length<=25:=by
 let#[ha,hb,_,h1,h2]:=h;have la:=Me ha;have lb:=Me hb;have ln:=RD h1 h2;show(t.a++sp++(t.b++sp++Hx t.len)).length<=_;rw[len_app,len_app,len_app,len_app,show sp.length=1 by decide +kernel];lk
def S2{t:A5}(h:Qq t):("tie ":Str).length+(KJ t).length<=sizeLine:=by
 have:=Nj h
 rw[show("tie ":Str).length=4 by decide +kernel,PySem.sizeLine_eq];lk
def P2{N:Net}(ok:N.Ok){t:A5}(h:t∈N.ts):Qq t:=by
 let#[h1,h2,h3,h4,h5]:=ok.tin t h;exact#[ok.names _ h1,ok.names _ h2,h3,h4,h5]
def cj:D->D
 |.str x=>.str^RG x
 |_=>.non
def dO:D->D
 |.str x=>.str ("tie "++x)
 |_=>.non
def Pk(h:Qf ss n Pd):Lh (EF Pd) n (ss++UF 0 .no):=by
 let#[N,rfl,ok,lp,lt,p]:=h;have szl:=PySem.sizeLine_eq;unfold Lh;refine#[_,AH (j:=0) rfl,by show(N.ps.map D.str).length<=10000000;rw[Ev];lk,?_];refine B5 cj (λρ=>∃s1,ρ=[s1]) _ _ _ _ ?_ #[_,rfl] ?_
 .rintro d hd ρ n' nx ⟨s1,rfl⟩ hnx
  let#[x,hx,rfl]:=Sc.mp hd;have fin:=hnx [.sh^.str x] #[_,rfl];rw[show cj^.str x=.str^RG x from rfl,←OJ]at fin;exact#[S3^ok.names x hx,fin]
 .refine#[_,AH (j:=1) rfl,N.ts,rfl,λt ht=>P2 ok ht,lt,by show(N.ts.map λt=>D.str^KJ t).length<=10000000;rw[Ev];lk,?_]
  refine B5 dO (λρ=>∃s1,ρ=[s1]) _ _ _ _ ?_ #[_,rfl] ?_
  .rintro d hd ρ n' nx ⟨s1,rfl⟩ hnx
   let#[t,ht,rfl]:=Sc.mp hd;exact#[S2^P2 ok ht,hnx [.sh^.str^KJ t] #[_,rfl]]
  .have e:(linesOf N).map D.str=([]++(N.ps.map D.str).map cj)++([]++(N.ts.map λt=>D.str^KJ t).map dO):=by
    unfold linesOf;rw[fI,fY,fY,fY,fY,fE,fE]
    congr 1
   refine#[?_,?_]
   .rw[←eV,←e,Ev]
    unfold linesOf;rw[eV,Ev,Ev];lk
   .rw[e]at p
    exact p
end
def TD(xs:p_ Str):Eo (.lst^xs.map .str)^.lst^xs.map .str=n_:=by
 show jz (BJ^xs.map .str)^BJ^xs.map .str=n_
 induction xs with
 |nil=>rfl
 |cons x xs ih=>
  show((x==x)&&jz (BJ^xs.map .str)^BJ^xs.map .str)=n_;rw[ih,beq_self_eq_true];rfl
def QD{N:Net}(ok:N.Ok)(lp:N.ps.length<=24)(lt:N.ts.length<=60):G1 1000001^.lst^(linesOf N).map .str/\R8^.lst^(linesOf N).map .str<=40*84/\TF^.lst^(linesOf N).map .str<=1:=by
 have nm:∀{x:Str},Ga x->∀c∈cs x,c<1114112:=λh c hc=>by have:=h.2.2 c hc;lk
 have key:∀x∈linesOf N,(∀c∈cs x,c<1114112)/\x.length<=39:=by
  intro x hx;unfold linesOf at hx
  rcases eM.mp hx with hx|hx
  .let#[y,hy,rfl]:=Sc.mp hx
   have hn:=ok.names y hy;rw[←OJ];refine#[λc hc=>?_,by rw[len_app,show("place ":Str).length=6 by decide +kernel];have:=hn.2.1;lk];rw[CQ]at hc
   rcases eM.mp hc with hc|hc
   .exact(show ∀c∈cs "place ",c<1114112 by decide +kernel) c hc
   .exact nm hn c hc
  .let#[t,ht,rfl]:=Sc.mp hx
   have hk:=P2 ok ht;rw[←VN];refine#[λc hc=>?_,by rw[len_app,show("tie ":Str).length=4 by decide +kernel];have:=Nj hk;lk];rw[CQ]at hc
   rcases eM.mp hc with hc|hc
   .exact(show ∀c∈cs "tie ",c<1114112 by decide +kernel) c hc
   .have hc:c∈cs (t.a++sp++(t.b++sp++Hx t.len)):=hc
    rw[CQ,CQ,CQ,CQ,bi]at hc;simp only[eM,Rs]at hc
    rcases hc with(hc|hc)|(hc|hc)|hc
    .exact nm hk.1 c hc
    .lk
    .exact nm hk.2.1 c hc
    .lk
    .have:=W7 hk.2.2.2.1 c hc;lk
 have ll:(linesOf N).length<=84:=by unfold linesOf;rw[eV,Ev,Ev];lk
 refine#[fines_iff.mpr λd hd=>?_,?_,?_]
 .let#[x,hx,rfl]:=Sc.mp hd
  exact(key x hx).1
 .have:=Lz (k:=40) (ds:=(linesOf N).map D.str) λd hd=>by
   let#[x,hx,rfl]:=Sc.mp hd
   have:=(key x hx).2
   show x.length+1<=40;lk
  rw[Ev]at this;have h2:40*(linesOf N).length<=40*84:=Nat.mul_le_mul_left _ ll;exact eR this h2
 .have:LX^(linesOf N).map D.str<=0:=dps_le.mpr λd hd=>by
   let#[x,hx,rfl]:=Sc.mp hd;exact Op _
  show LX^(linesOf N).map D.str+1<=1;lk
def GW(C:Ch):W2:=λss n P=>∃(a:Ch) (t b:Int) (N M:Net),ss=[.sh^.ob a]/\Rw C n a t b N M/\N.ps.length<=24/\P (.lst^(linesOf N).map .str) n
def El(C:Ch):W2:=λss n P=>∃(a l tt:Ch) (t b:Int) (N M:Net) (ps:p_ Str) (us:p_ A5),ss=[.sh^.ob a,.sh^Hq (.ob l)^.ob tt,.sh^tD t b]/\Rw C n a t b N M/\IsT N t b M/\n.w l=P3^.pl^IH ps/\n.w tt=P3^.pl^GZ us/\NW N ps us/\N.ps.length<=24/\P (.bl n_) n
def Em(C:Ch):W2:=λss n P=>∃(a:Ch) (t b:Int) (N M:Net),ss=[.fd,.sh^.ob a]/\Rw C n a t b N M/\N.ps=M.ps/\1<=n.n/\∀m:Nat,n.n<=m+1->P (.bl n_) #[m,n.w]
def QU(C_Keeper:Ch):Aa:=(Av^AY Qf^AD (AL^Cc C_Keeper "whole"^AA 0) AR)
def Dr(C_Keeper:Ch):Aa:=(AZ (A2 3^Ls KI^AD (AL^AA 1) AR)
 (AZ (BG (Ig (Ab^AU (IA n_) (B0 OV^AE (BZ C_Keeper "net" (Qg C_Keeper) (AA 0) AR) AS)^B0 OV^AE (AA 3) AS)^Ab^AU (IA n_) (B0 OV^AE (BZ C_Keeper "thin" (NP C_Keeper) (AA 0) AR) AS)^B0 OV^AE (AY Cp^AD (AL^AA 3)^AD (AL^AA 2) AR) AS) (Av^wC^D.bl o_) Aw)
 (AZ (Fj 4^BZ C_Keeper "lines" (GW C_Keeper) (AA 0) AR)
 (AZ (A2 5^B0 QK^AE (Ar 4) AS)
 (AZ (Rz 4 "list" FX^AE (wC^D.str "tie") AS)
 (AZ (aO 4 "list" YR)
 (Av^aQ (AU Vn (BZ C_Keeper "lines" (GW C_Keeper) (AA 0) AR)^AA 5)^AU (IA o_) (B0 Cs^AE (AA 5) AS)^AU BU (B0 Cs^AE (AU Au (AA 3)^wC^D.int 0) AS)^B0 Cs^AE (AU Au (AA 3)^wC^D.int 1) AS)))))))
def Co(C_Keeper:Ch):Aa:=(AZ (A2 2^BZ C_Keeper "thin" (NP C_Keeper) (AA 1) AR)
 (AZ (BG (Ab^AU Vn (AU Au (AA 2)^wC^D.int 0)^BA AS) (Av^wC^D.bl n_) Aw)
 (AZ (A2 3^AU Au (AU Au (AA 2)^wC^D.int 0)^AY BR^AD (A3 0)^AD (AL^B0 Cs^AE (AU Au (AA 2)^wC^D.int 0) AS) AR)
 (AZ (A2 4^AY Cq^AD (Bg^AU Au (AA 2)^wC^D.int 1)^AD (AL^AA 3) AR)
 (Av^AU Vn (B6 [P3 3,P3 1,m_] (BF^AU Au (AA 2)^wC^D.int 0) (Ax 2) Hl^BZ C_Keeper "far" (IY C_Keeper) (AA 1)^AD (AL^AA 0)^AD (AL^AA 2) AR)^B6 [P3 4,m_] (BF^AU Au (AA 2)^wC^D.int 0) (Ax 1) Hl^Kz (AA 0)^AA 1)))))
def Rg(C_Keeper:Ch):Aa:=(AZ (A2 2^Cr^AE (AY GU^AD (A3 1) AR)^AE (AY GU^AD (A3 1) AR) AS)
 (AZ (A2 3^AY KH^AD (A3 1)^AD (AL^wC^D.int 6) AR)
 (AZ (A2 4^AY BR^AD (A3 1)^AD (AL^wC^D.int 5) AR)
 (AZ (A2 5^Cr^AE (Tw C_Keeper (IZ C_Keeper)^AD (AL^AU Au (AA 2)^wC^D.int 0) AR)^AE (Tw C_Keeper (IZ C_Keeper)^AD (AL^AU Au (AA 2)^wC^D.int 1) AR) AS)
 (AZ (A2 6^Cr^AE (PM "places" "ties" (Ih^Cr AS)^Ih PL)^AE (PM "places" "ties" (Ih^Cr AS)^Ih PL) AS)
 (AZ (Ho (Tv^AE (AU BU (wC^D.int 4)^AY BR^AD (A3 1)^AD (AL^wC^D.int 9) AR) AS) (Ax 7) (AZ (A2 8^AY BR^AD (A3 1)^AD (AL^wC^D.int 2) AR)
 (AZ (A2 9^Ls Ib^AD (A3 1)^AD (AL^AU Au (AA 6)^AA 8)^AD (AL^AA 3)^AD (AL^AA 4) AR)
 (AZ (A2 10^AY (IV C_Keeper)^AD (AL^AU Au (AA 5)^AA 8)^AD (AL^AA 9) AR)
 (AZ (CJ^AY Rt^AD (AL^AU Au (AA 6)^AA 8)^AD (AL^AA 9) AR)
 (AZ (CJ^Tx "list" FX (AU Au (AA 10)^wC^D.int 0)^AE (BA^AE (wC^D.str "a")^AE (wC^D.str "b")^AE (wC^D.int 1) AS) AS)
 (AZ (CJ^Tx "list" Vo (AU Au (AA 10)^wC^D.int 1) AS)
 (AZ (Ho (BF^Cr^AE (AU Dq (wC^D.int 1)^AA 8)^AE (AA 8) AS) (Ax 11)^BG (Dn^Ab^AY (El C_Keeper)^AD (AL^AU Au (AA 5)^AA 11)^AD (AL^AU Au (AA 6)^AA 11)^AD (AL^AU Au (AA 2)^AA 11) AR) (Av^wC^D.bl o_) Aw)
 (BG (Ig (Dn^Ab^AY (Em C_Keeper)^AD (A3 1)^AD (AL^AU Au (AA 5)^AU Dq (wC^D.int 1)^AA 8) AR)^Dn^Ab^AY (Em C_Keeper)^AD (A3 1)^AD (AL^AU Au (AA 5)^AA 8) AR) (Av^wC^D.bl o_) Aw)))))))))
 (Av^wC^D.bl n_)))))))
section
variable {ss:p_ Slot}{n:Sg}{Pd:D->Sg->Prop}{C:Addr}
theorem FU{b:BW}{te:DW}{P:p_ D->Sg->Prop}(g:D->D)(I:p_ Slot->Prop)(n:Sg):∀(ds acc:p_ D) (ρ:p_ Slot),
  (∀d∈ds,∀(ρ:p_ Slot) (nx:D->Sg->p_ Slot->Prop),I ρ->(∀zY,I zY->nx (g d) n zY)->b d ρ λzS=>te n zS λy n2=>nx y n2 zS)->I ρ->P (acc++ds.map g) n->HR b Hl te P ds acc n ρ
 |[],acc,ρ,_,_,h=>by rw[k7,e7]at h;exact h
 |d::ds,acc,ρ,ht,hρ,h=>ht d Re ρ _ hρ λzY hρ'=>
  FU g I n ds _ _ (λd hd=>ht d^TW _ hd) hρ' (by simp_all)
def Pp(h:GW C ss n Pd):QU C (EF Pd) n (ss++UF 0 .no):=by
 let#[a,t,b,N,M,rfl,k,l24,p]:=h;exact#[a,_,_,_,rfl,k.1,rfl,N,rfl,k.2.1.1,l24,k.2.1.2.2,p]
def LL{N:Net}(ok:okN N)(l:N.ps.length<=24):Ci^.lst^(linesOf N).map .str:=by
 let#[h1,h2,h3]:=QD ok.1 l ok.2.2;exact Ja (by cbv) h1^by lk
def S1(N:Net):((linesOf N).map D.str).length=N.ps.length+N.ts.length:=by
 rw[Ev];unfold linesOf;rw[eV,Ev,Ev]
def Ny(h:El C ss n Pd):Dr C (EE Pd) n (ss++UF 3 .no):=by
 let#[a,l,tt,t,b,N,M,ps,us,rfl,k,hT,wl,wt,st,l24,p]:=h;have tm:=k.2.2.2;unfold Dr;refine#[[l,tt],[.sh^Hq (IH ps)^GZ us],?_,?_,N,ps,us,rfl,st,Jl N,?_]
 .show [Slot.sh^Dp.Hs n.w^Hq (.ob l)^.ob tt]=_
  rw[(ME wl wt).1]
 .show Gn n.w^Hq (.ob l)^.ob tt++[]=_
  rw[(ME wl wt).2];rfl
 rw[TX];refine#[a,_,_,rfl,k.1,by cbv,a,t,b,N,M,rfl,k.1,_,rfl,DR k.2.1,_,rfl,DR k.2.1,?_];refine K9 ?_;refine#[a,_,_,rfl,k.1,by cbv,a,t,b,N,M,rfl,k.1,_,rfl,DR k.2.2.1,N,t,b,rfl,k.2.1,tm.1,tm.2.1,tm.2.2.1,tm.2.2.2,λord o1 o2=>?_];rw[show sub N^CV N t b [] ord=M from IsT.uniq #[ord,o1,o2,rfl] hT];refine#[_,rfl,DR k.2.2.1,?_];refine K9 ?_;have ll:=S1 N;have l60:=k.2.1.2.2;refine#[a,_,_,rfl,k.1,by cbv,a,t,b,N,M,rfl,k,l24,?_];refine#[_,rfl,rfl,_,_,rfl,rfl,gP (show _<=84 by rw[ll];lk)^by cbv,?_];refine#[_,rfl,rfl,_,rfl,rfl,?_];refine#[a,_,_,rfl,k.1,by cbv,a,t,b,N,M,rfl,k,l24,?_];refine#[LL k.2.1 l24,LL k.2.1 l24,?_];rw[TD];refine#[_,_,rfl,rfl,_,AH (j:=0) rfl,_,_,rfl,rfl,_,AH (j:=1) rfl,_,_,rfl,rfl,?_];have e1:(N.ps.map D.str).length=N.ps.length:=Ev ..;have e2:(N.ts.map As).length=N.ts.length:=Ev ..
 have z:((((linesOf N).map D.str).length:Int)==((N.ps.map D.str).length:Int)+((N.ts.map As).length:Int))=n_:=by
  rw[ll,e1,e2];exact beq_iff_eq.mpr^by lk
 show Pd (.bl (if o_=n_ then _ else((((linesOf N).map D.str).length:Int)==((N.ps.map D.str).length:Int)+((N.ts.map As).length:Int)))) n;rw[z];exact p
def U8{xs:p_^q_ Int}(h:∀o∈xs,∀d,o=P3 d->0<=d/\d<=30000000):Ci^.lst^xs.map C8:=by
 refine Ja (B:=30000000) (by cbv) (fines_iff.mpr λd hd=>?_) ?_
 .let#[o,ho,rfl]:=Sc.mp hd
  cases o with
  |none=>trivial
  |some d=>have:=h _ ho d rfl;show d.natAbs<=30000000;lk
 .have:LX^xs.map C8<=0:=dps_le.mpr λd hd=>by
   let#[o,ho,rfl]:=Sc.mp hd;cases o <;>exact Op _
  show LX^xs.map C8+1<=100;lk
def Wy(xs:p_^q_ Int):Eo (.lst^xs.map C8)^.lst^xs.map C8=n_:=by
 show jz (BJ^xs.map C8)^BJ^xs.map C8=n_
 induction xs with
 |nil=>rfl
 |cons x xs ih=>
  show(Eo (C8 x)^C8 x&&jz (BJ^xs.map C8)^BJ^xs.map C8)=n_;rw[ih];cases x with
  |none=>rfl
  |some d=>show((d==d)&&n_)=n_;rw[beq_self_eq_true];rfl
def SR(h:Em C ss n Pd):Co C (EE Pd) n (ss++UF 3 .no):=by
 let#[a,t,b,N,M,rfl,k,e,hn,p]:=h;have ok:=k.2.2.1;have l25:=ok.2.1;have lpl:(M.ps.map D.str).length=M.ps.length:=Ev ..;unfold Co;refine#[a,_,_,rfl,k.1,by cbv,a,t,b,N,M,rfl,k.1,?_];refine#[_,AH (j:=0) rfl,z0,D9 ok.1,Gv (ps:=[]) (λx hx=>by cases hx),?_];show if Eo (.tup^M.ps.map .str) (.tup [])=n_ then _ else _
 rw[XR];refine ED (λ_=>p n.n^by lk) λc=>?_;have c:M.ps≠[]:=λz=>c^decide_eq_true z;have l1:=List.length_pos_iff.mpr c;refine#[_,AH (j:=0) rfl,_,AH (j:=0) rfl,_,_,rfl,rfl,((M.ps.map D.str).length:Int),rfl,by lk,by lk,(by lk),λr r0 r1=>?_];rw[lpl]at r1;let#[x,hx,ex,_]:=DA r0 r1;refine#[_,ex,?_];refine#[_,AH (j:=1) rfl,M,x,_,M.ts,rfl,rfl,λ_=>Iff.rfl,ok,hx,λks ds Kn M1 L=>?_];have kn:Rw C (n - 1) a t b N M:=k;have hx':x∈N.ps:=by rw[e];exact hx
 have farK:∀v,Far M x v^Kn v:=λv=>by
  cases ev:Kn v with
  |none=>exact λd hw=>L.all v d hw ev
  |some d=>exact L.least v d ev
 refine#[_,AH (j:=0) rfl,by show(M.ps.map D.str).length<=10000000;rw[lpl];lk,?_];refine FU (λd=>match d with|.str v=>C8^Kn v|_=>.non) (λρ=>∃s,ρ=[.sh^.str x,.sh^.ob a,s]) _ _ _ _ ?_ #[_,rfl] ?_
 .rintro d hd ρ nx ⟨s,rfl⟩ hnx
  let#[v,hv,rfl]:=Sc.mp hd;refine#[a,_,_,rfl,k.1,by cbv,a,t,b,N,M,x,v,rfl,kn,e,hx',by rw[e];exact hv,λo ho=>?_];rw[ho.unique^farK v];exact hnx _ #[_,rfl]
 refine#[_,AH (j:=0) rfl,by show(M.ps.map D.str).length<=10000000;rw[lpl];lk,?_];refine FU (λd=>match d with|.str v=>C8^Kn v|_=>.non) (λρ=>∃s,ρ=[.sh^.dic ks ds,s]) _ _ _ _ ?_ #[_,rfl] ?_
 .rintro d hd ρ nx ⟨s,rfl⟩ hnx
  let#[v,hv,rfl]:=Sc.mp hd;refine#[ks,ds,rfl,_,A7 v,?_]
  have ev:(BS ks ds^.inr v).getD .non=C8^Kn v:=by
   rw[M1.at_];cases Kn v <;>rfl
  rw[ev];exact hnx _ #[_,rfl]
 have el:([]:p_ D)++(M.ps.map D.str).map (λd=>match d with|.str v=>C8^Kn v|_=>.non)=(M.ps.map Kn).map C8:=by
  rw[fE,fY,fY];rfl
 have ly:Ci^.lst^(M.ps.map Kn).map C8:=U8 λo ho d hd=>by
  let#[v,_,rfl]:=Sc.mp ho;exact#[(L.least v d hd).1.pos ok.1,L.top v d hd]
 refine#[by rw[el];exact ly,by rw[el];exact ly,?_];rw[el,Wy];exact p _^by show n.n<=n.n - 1+1;lk
end
def bP(C:Ch):Aa:=(AZ (A2 9^Ls Ib^AD (A3 1)^AD (AL^AU Au (AA 6)^AA 8)^AD (AL^AA 3)^AD (AL^AA 4) AR)
 (AZ (A2 10^AY (IV C)^AD (AL^AU Au (AA 5)^AA 8)^AD (AL^AA 9) AR)
 (AZ (CJ^AY Rt^AD (AL^AU Au (AA 6)^AA 8)^AD (AL^AA 9) AR)
 (AZ (CJ^Tx "list" FX (AU Au (AA 10)^wC^D.int 0)^AE (BA^AE (wC^D.str "a")^AE (wC^D.str "b")^AE (wC^D.int 1) AS) AS)
 (AZ (CJ^Tx "list" Vo (AU Au (AA 10)^wC^D.int 1) AS)
 (AZ (Ho (BF^Cr^AE (AU Dq (wC^D.int 1)^AA 8)^AE (AA 8) AS) (Ax 11)^BG (Dn^Ab^AY (El C)^AD (AL^AU Au (AA 5)^AA 11)^AD (AL^AU Au (AA 6)^AA 11)^AD (AL^AU Au (AA 2)^AA 11) AR) (Av^wC^D.bl o_) Aw)
 (BG (Ig (Dn^Ab^AY (Em C)^AD (A3 1)^AD (AL^AU Au (AA 5)^AU Dq (wC^D.int 1)^AA 8) AR)^Dn^Ab^AY (Em C)^AD (A3 1)^AD (AL^AU Au (AA 5)^AA 8) AR) (Av^wC^D.bl o_) Aw)))))))
structure Ho70 (C:Ch) (t b:Int) (pool:List Str) (k:Nat) (n:Sg) (a l tt:Ch) (N M:Net) (ps:List Str) (us:List A5):Prop where
 kp:Rw C n a t b N M
 tn:IsT N t b M
 wl:n.w l=P3 (.pl^IH ps)
 wt:n.w tt=P3 (.pl^GZ us)
 al:a≠l
 at':a≠tt
 lt:l≠tt
 st:NW N ps us
 inp:∀x∈ps,x∈pool
 l1:N.ps.length+k<=18
 l2:N.ts.length+k<=18
def Ho70.to{C:Ch}{t b:Int}{pool:p_ Str}{k k':Nat}{n n':Sg}{a l tt:Ch}{N M:Net}{ps:p_ Str}{us:p_ A5}(h:Ho70 C t b pool k n a l tt N M ps us)(hk:k'<=k)(e:∀y∈[a,l,tt],n'.w y=n.w y):Ho70 C t b pool k' n' a l tt N M ps us:=by
 let#[kp,tn,wl,wt,al,at',lt,st,inp,l1,l2]:=h;exact#[#[(e a^by simp).trans kp.1,kp.2],tn,(e l^by simp).trans wl,(e tt^by simp).trans wt,al,at',lt,st,inp,by lk,by lk]
def dE(T2 T5 T6:p_ D)(pool:p_ Str)(k:Int)(r:p_ Slot):p_ Slot:=[.no,.fd,.sh^.lst T2,.sh^.tup^pool.map .str,.sh^.int k,.sh^.lst T5,.sh^.lst T6]++r
def UA{C:Ch}{pool:p_ Str}{kk:Int}(nd:pool.Nodup)(hq:∀x∈pool,Ga x)(p2:2<=pool.length)(p20:pool.length<=20)(k0:0<=kk)(k4:kk<=4){c:Int}{T2 T5 T6:p_ D}{t b t' b':Int}{a l tt a' l' tt':Ch}{N M N1 M1:Net}{ps ps1:p_ Str}{us us1:p_ A5}{k:Nat}{n:Sg}{D2:E2}{s7 s9 s10 s11:Slot}
  (h2:atI T2 c=P3^tD t b) (h2':atI T2 (1 - c)=P3^tD t' b') (h5:atI T5 c=P3^.ob a) (h5':atI T5 (1 - c)=P3^.ob a') (h6:atI T6 c=P3^Hq (.ob l)^.ob tt) (h6':atI T6 (1 - c)=P3^Hq (.ob l')^.ob tt')
  (I:Ho70 C t b pool (k+1) n a l tt N M ps us) (J:Ho70 C t' b' pool (k+1) n a' l' tt' N1 M1 ps1 us1) (ap:∀y∈[a',l',tt'],y≠a/\y≠l/\y≠tt) (nn:7+8*k<=n.n)
  (q:∀(n':Sg) (N' M':Net) (ps':p_ Str) (us':p_ A5) (s9 s10 s11:Slot),8*k<=n'.n->Ho70 C t b pool k n' a l tt N' M' ps' us'->Ho70 C t' b' pool k n' a' l' tt' N1 M1 ps1 us1->D2.nx n'^dE T2 T5 T6 pool kk [s7,.sh^.int c,s9,s10,s11]):
  bP C D2 n (dE T2 T5 T6 pool kk [s7,.sh^.int c,s9,s10,s11]):=by
 let#[kp,hT0,wl,wt,al,at',lt,st,inp,l1,l2]:=I;have wa:=kp.1;have okn:=kp.2.1;have okM:=kp.2.2.1;have tm:=kp.2.2.2;have el:=QN (N':=N) st
 have js:∀y∈[a',l',tt'],n.w y≠m_:=λy hy=>by
  simp only[XV,ei,or_false]at hy
  rcases hy with rfl|rfl|rfl
  .rw[J.kp.1];exact λz=>by cases z
  .rw[J.wl];exact λz=>by cases z
  .rw[J.wt];exact λz=>by cases z
 unfold bP;refine#[_,h6,[l,tt],[.fd,.sh^Hq (IH ps)^GZ us,.sh^.tup^pool.map .str,.sh^.int kk],?_,?_,?_]
 .show [Slot.fd,.sh^Dp.Hs n.w^Hq (.ob l)^.ob tt,.sh^.tup^(pool.map D.str).map^Gj n.w,.sh^.int kk]=_
  rw[(ME wl wt).1,(Nx _ _).1]
 .show([]:p_ Ch)++(Gn n.w^Hq (.ob l)^.ob tt++((pool.map D.str).flatMap^Gp n.w++([]++[])))=_
  rw[(ME wl wt).2,(Nx _ _).2];rfl
 refine#[N,ps,us,pool,kk,rfl,st,nd,hq,p2,p20,inp,by lk,k0,k4,(by show 5<=n.n;lk),λd m hd hm=>#[Xh d,?_]];have hm:n.n<=m+5:=hm;rw[Sg.back_drop];let#[N',dN,okN',inN',ln1,ln2]:=QM st hq inp (by lk) (by lk) hd;refine#[_,h5,a,t,b,N,M,N',d,rfl,#[wa,okn,okM,tm],#[by lk,by lk],dN,okN',λT came went x1 x2 hT hc hw e1 e2 x12=>?_];have okT:=hT.okN okN';have e1:n.w x1=m_:=e1;have e2:n.w x2=m_:=e2;have n1a:x1≠a:=λz=>by rw[z,wa]at e1;cases e1
 have n2a:x2≠a:=λz=>by rw[z,wa]at e2;cases e2
 have n1l:x1≠l:=λz=>by rw[z,wl]at e1;cases e1
 have n2l:x2≠l:=λz=>by rw[z,wl]at e2;cases e2
 have n1t:x1≠tt:=λz=>by rw[z,wt]at e1;cases e1
 have n2t:x2≠tt:=λz=>by rw[z,wt]at e2;cases e2
 have nj:∀y∈[a',l',tt'],y≠x1/\y≠x2:=λy hy=>#[λz=>js y hy (z▸e1),λz=>js y hy (z▸e2)];obtain⟨n2,en2⟩:∃n2,n2=V4 ((⟨m,n.w⟩:Sg).put a^kc C t b N' T) x1 x2 came went:=#[_,rfl];rw[←en2];have n2n:n2.n=m:=by rw[en2];rfl
 have w1:n2.w x1=P3^.pl^.lst^came.map As:=by rw[en2];exact(Ah x12).trans (Bq ..)
 have w2:n2.w x2=P3^.pl^.lst^went.map As:=by rw[en2];exact Bq ..
 have w3:n2.w a=P3^kc C t b N' T:=by rw[en2];exact(Ah n2a.symm).trans^(Ah n1a.symm).trans (Bq ..)
 have w4:n2.w l=P3^.pl^IH ps:=by rw[en2];exact(Ah n2l.symm).trans^(Ah n1l.symm).trans^(Ah al.symm).trans wl
 have w5:n2.w tt=P3^.pl^GZ us:=by rw[en2];exact(Ah n2t.symm).trans^(Ah n1t.symm).trans^(Ah at'.symm).trans wt
 have wj:∀y∈[a',l',tt'],n2.w y=n.w y:=λy hy=>by rw[en2];exact(Ah (nj y hy).2).trans^(Ah (nj y hy).1).trans^Ah (ap y hy).1
 refine#[_,h6,l,tt,N,N',ps,us,d,rfl,lt,w4,w5,st,dN,okN',λn3 ps' us' en3 v4 v5 st' oth=>?_];have v1:n3.w x1=P3^.pl^.lst^came.map As:=(oth _ n1l n1t).trans w1;have v2:n3.w x2=P3^.pl^.lst^went.map As:=(oth _ n2l n2t).trans w2;have v3:n3.w a=P3^kc C t b N' T:=(oth _ al at').trans w3;have vj:∀y∈[a',l',tt'],n3.w y=n.w y:=λy hy=>(oth _ (ap y hy).2.1 (ap y hy).2.2).trans^wj y hy;have j1:(came.map As).length<=60:=by rw[Ev];exact eR (Wx hc) okT.2.2
 refine#[_,AH (j:=0) rfl,x1,rfl,#[_,v1,rfl],z3,rfl,_,v1,#[_,_,rfl,rfl,gP j1^by cbv,Ll (Dg _) rfl,rfl,?_]];refine#[_,AH (j:=1) rfl,x2,rfl,#[_,(Ah x12.symm).trans v2,rfl],rfl,_,(Ah x12.symm).trans v2,#[_,rfl,rfl,rfl,rfl,?_]];obtain⟨n4,en4⟩:∃n4,n4=(n3.put x1^.pl^.lst (came.map As++[.tup [.str "a",.str "b",.int 1]])).put x2^.pl^.lst []:=#[_,rfl];rw[←en4];have u3:n4.w a=P3^kc C t b N' T:=by rw[en4];exact(Ah n2a.symm).trans^(Ah n1a.symm).trans v3
 have u4:n4.w l=P3^.pl^IH ps':=by rw[en4];exact(Ah n2l.symm).trans^(Ah n1l.symm).trans v4
 have u5:n4.w tt=P3^.pl^GZ us':=by rw[en4];exact(Ah n2t.symm).trans^(Ah n1t.symm).trans v5
 have uj:∀y∈[a',l',tt'],n4.w y=n.w y:=λy hy=>by rw[en4];exact(Ah (nj y hy).2).trans^(Ah (nj y hy).1).trans^vj y hy
 have n4n:n4.n=m:=by rw[en4];exact en3.trans n2n
 have I4:Ho70 C t b pool k n4 a l tt N' T ps' us':=#[#[u3,okN',okT,tm],hT,u4,u5,al,at',lt,st',λx hx=>inN' x^st'.1.mem_iff.mpr hx,by lk,by lk];have J4:Ho70 C t' b' pool k n4 a' l' tt' N1 M1 ps1 us1:=J.to (fR _) uj;refine#[z2,?_];refine#[_,h5',_,h6',_,h2',a',l',tt',t',b',N1,M1,ps1,us1,rfl,J4.kp,J4.tn,J4.wl,J4.wt,J4.st,by have:=J4.l1;lk,?_];refine#[_,h5,_,h6,_,h2,a,l,tt,t,b,N',T,ps',us',rfl,I4.kp,I4.tn,I4.wl,I4.wt,I4.st,by have:=I4.l1;lk,?_];refine#[_,h5',a',t',b',N1,M1,rfl,J4.kp,J4.tn.ps.symm,by lk,λm1 hm1=>?_];have I5:Ho70 C t b pool k #[m1,n4.w] a l tt N' T ps' us':=I4.to (Op _) λ_ _=>rfl;refine#[_,h5,a,t,b,N',T,rfl,I5.kp,I5.tn.ps.symm,(by show 1<=m1;lk),λm2 hm2=>?_];have hm2:m1<=m2+1:=hm2;exact q _ N' T ps' us' _ _ _ (by show 8*k<=m2;lk) (I4.to (Op _) λ_ _=>rfl)^J4.to (Op _) λ_ _=>rfl
def FS{n:Sg}{x y:Ch}{c:Wc}(h:n.w x=P3 c)(g:n.w y=m_):x≠y:=λz=>by rw[z,g]at h;cases h
def Pq{C:Ch}{n0:Sg}(hn0:400<=n0.n):Rg C {nx:=λ_ _=>False,rt:=λd _=>d=.bl n_} n0 (.no::.fd::UF 10 .no):=by
 unfold Rg;refine#[rfl,by lk,λt b b0 bt tt=>?_];refine#[rfl,(by show 1<=n0.n - 1;lk),λt' b' b0' bt' tt'=>#[z2,?_]];have tm:WQ t b:=#[b0,by lk,by lk,tt];have tm':WQ t' b':=#[b0',by lk,by lk,tt'];refine#[6,rfl,by cbv,(by show 2<=n0.n - 1 - 1;lk),λpool lp hq rise=>?_];refine#[5,rfl,by cbv,by cbv,(by show 1<=n0.n - 1 - 1 - 2;lk),λkk k0 k5=>?_];have ok0:okN #[[],[]]:=#[#[λx hx=>(by cases hx),.nil,λx hx=>(by cases hx),.nil],eP _,eP _];refine#[_,AH (j:=0) rfl,λa ha=>#[a,t,b,rfl,Bq ..,rfl,?_]];generalize en1:Sg.put (Sg.put (n0 - 1 - 1 - 2 - 1) a^.ins C [] []) a^kc C t b #[[],[]] #[[],[]]=n1;have n1n:n1.n=n0.n - 1 - 1 - 2 - 1:=by rw[←en1];rfl
 have a1:n1.w a=P3^kc C t b #[[],[]] #[[],[]]:=by rw[←en1];exact Bq ..
 refine#[_,AH (j:=1) rfl,λa' ha'=>#[a',t',b',rfl,Bq ..,rfl,#[z2,?_]]];have ne1:a≠a':=FS a1 ha';generalize en2:Sg.put (Sg.put n1 a'^.ins C [] []) a'^kc C t' b' #[[],[]] #[[],[]]=n2;have n2n:n2.n=n1.n:=by rw[←en2];rfl
 have a2:n2.w a=P3^kc C t b #[[],[]] #[[],[]]:=by rw[←en2];exact(Ah ne1).trans^(Ah ne1).trans a1
 have b2:n2.w a'=P3^kc C t' b' #[[],[]] #[[],[]]:=by rw[←en2];exact Bq ..
 refine#[z0,rfl,λl hl=>#[rfl,λu hu=>#[z0,rfl,λl' hl'=>#[rfl,λu' hu'=>#[z2,?_]]]]];have al:a≠l:=FS a2 hl;have a'l:a'≠l:=FS b2 hl;have au:a≠u:=FS ((Ah al).trans a2) hu;have a'u:a'≠u:=FS ((Ah a'l).trans b2) hu;have lu:l≠u:=FS (Bq ..) hu;generalize en3:(n2.put l^.pl^.lst []).put u^.pl^.dit [] []=n3 at hl' hu';have n3n:n3.n=n2.n:=by rw[←en3];rfl
 have a3:n3.w a=P3^kc C t b #[[],[]] #[[],[]]:=by rw[←en3];exact(Ah au).trans^(Ah al).trans a2
 have b3:n3.w a'=P3^kc C t' b' #[[],[]] #[[],[]]:=by rw[←en3];exact(Ah a'u).trans^(Ah a'l).trans b2
 have c3:n3.w l=P3^.pl^IH []:=by rw[←en3];exact(Ah lu).trans (Bq ..)
 have d3:n3.w u=P3^.pl^GZ []:=by rw[←en3];exact Bq ..
 have al':a≠l':=FS a3 hl';have a'l':a'≠l':=FS b3 hl';have ll':l≠l':=FS c3 hl';have ul':u≠l':=FS d3 hl';have au':a≠u':=FS ((Ah al').trans a3) hu';have a'u':a'≠u':=FS ((Ah a'l').trans b3) hu';have lu':l≠u':=FS ((Ah ll').trans c3) hu';have uu':u≠u':=FS ((Ah ul').trans d3) hu';have l'u':l'≠u':=FS (Bq ..) hu';generalize en4:(n3.put l'^.pl^.lst []).put u'^.pl^.dit [] []=n4;have n4n:n4.n=n3.n:=by rw[←en4];rfl
 have e4:∀y,y≠l'->y≠u'->n4.w y=n3.w y:=λy h1 h2=>by rw[←en4];exact(Ah h2).trans^Ah h1
 have c4:n4.w l'=P3^.pl^IH []:=by rw[←en4];exact(Ah l'u').trans (Bq ..)
 have d4:n4.w u'=P3^.pl^GZ []:=by rw[←en4];exact Bq ..
 have T0:∀{t b:Int},IsT #[[],[]] t b #[[],[]]:=#[[],.refl _,.nil,rfl];have I4:Ho70 C t b pool 18 n4 a l u #[[],[]] #[[],[]] [] []:=#[#[(e4 _ al' au').trans a3,ok0,ok0,tm],T0,(e4 _ ll' lu').trans c3,(e4 _ ul' uu').trans d3,al,au,lu,#[.refl _,.refl _,ok0],(λx hx=>by cases hx),by cbv,by cbv];have J4:Ho70 C t' b' pool 18 n4 a' l' u' #[[],[]] #[[],[]] [] []:=#[#[(e4 _ a'l' a'u').trans b3,ok0,ok0,tm'],T0,c4,d4,a'l',a'u',l'u',#[.refl _,.refl _,ok0],(λx hx=>by cases hx),by cbv,by cbv]
 have ap:∀y∈[a',l',u'],y≠a/\y≠l/\y≠u:=λy hy=>by
  simp only[XV,ei,or_false]at hy
  rcases hy with rfl|rfl|rfl
  .exact#[ne1.symm,a'l,a'u]
  .exact#[al'.symm,ll'.symm,ul'.symm]
  .exact#[au'.symm,lu'.symm,uu'.symm]
 have ap':∀y∈[a,l,u],y≠a'/\y≠l'/\y≠u':=λy hy=>by
  simp only[XV,ei,or_false]at hy
  rcases hy with rfl|rfl|rfl
  .exact#[ne1,al',au']
  .exact#[a'l.symm,ll',lu']
  .exact#[a'u.symm,ul',uu']
 refine#[9,rfl,by cbv,by cbv,(by lk),λr r0 r9=>?_];refine#[_,rfl,#[by lk,by lk],?_];refine LK (λk n ρ=>8*k<=n.n/\∃N M ps us N1 M1 ps1 us1 s7 s8 s9 s10 s11,Ho70 C t b pool k n a l u N M ps us/\Ho70 C t' b' pool k n a' l' u' N1 M1 ps1 us1/\ρ=dE [tD t b,tD t' b'] [.ob a,.ob a'] [Hq (.ob l)^.ob u,Hq (.ob l')^.ob u'] pool kk [s7,s8,s9,s10,s11]) (λ_ _ _=>rfl) ?_ _ _ _ #[?_,#[[],[]],#[[],[]],[],[],#[[],[]],#[[],[]],[],[],_,_,_,_,_,I4.to (by rw[Fy];lk) λ_ _=>rfl,J4.to (by rw[Fy];lk) λ_ _=>rfl,rfl]
 .rintro k d n ρ nx ⟨hn,N,M,ps,us,N1,M1,ps1,us1,s7,s8,s9,s10,s11,I,J,rfl⟩ h
  refine#[2,rfl,by cbv,by cbv,(by lk),λc c0 c2=>?_];have I':Ho70 C t b pool (k+1) (n - 1) a l u N M ps us:=I.to (Op _) λ_ _=>rfl;have J':Ho70 C t' b' pool (k+1) (n - 1) a' l' u' N1 M1 ps1 us1:=J.to (Op _) λ_ _=>rfl
  rcases(show c=0\/c=1 by lk)with rfl|rfl
  .exact UA (Ea rise) hq (by lk) (by lk) k0 (by lk) rfl rfl rfl rfl rfl rfl I' J' ap (by show 7+8*k<=n.n - 1;lk) λn' N' M' ps' us' s9 s10 s11 hn' I2 J2=>h _ _ #[hn',N',M',ps',us',_,_,_,_,_,_,_,_,_,I2,J2,rfl]
  .exact UA (Ea rise) hq (by lk) (by lk) k0 (by lk) rfl rfl rfl rfl rfl rfl J' I' ap' (by show 7+8*k<=n.n - 1;lk) λn' N' M' ps' us' s9 s10 s11 hn' I2 J2=>h _ _ #[hn',_,_,_,_,N',M',ps',us',_,_,_,_,_,J2,I2,rfl]
 .rw[Fy];show 8*(4+r).toNat<=n4.n - 1;lk
end Nt
namespace K70
open L2 Dp Nt
section
variable (P:Program)(w:World)(K:Frag)(mg:Str->q_ Value)(base:Heap)(C_Keeper:Addr)
abbrev Tf:Prop:=Got P w K mg base "rank_of" 1 ["tie"] .sh Ln
abbrev Qc:Prop:=Got P w K mg base "order_of" 4 ["ties"] .fr EU
abbrev Qb:Prop:=Got P w K mg base "steps_of" 1 ["net"] .sh NR
abbrev Z7:Prop:=Got P w K mg base "only" 1 ["net","ties"] .sh Dl
abbrev Td:Prop:=Got P w K mg base "without" 2 ["net","ties"] .sh GS
abbrev Qe:Prop:=Got P w K mg base "left_out" 5 ["net","thin"] .fr IX
abbrev O2:Prop:=Got P w K mg base "tie_texts" 1 ["ties"] .fr WD
abbrev Xq:Prop:=Got P w K mg base "shown" 2 ["net"] .fr Qf
abbrev O3:Prop:=Got P w K mg base "length_of" 2 ["net","thing"] .sh Z9
abbrev NE:Prop:=Got P w K mg base "nearest_of" 1 ["waiting","found"] .sh WE
abbrev NF:Prop:=Got P w K mg base "least_ways" 2 ["net","start"] .fr NU
abbrev bw:Prop:=Got P w K mg base "far" 3 ["net","a","b"] .sh Xr
abbrev WC:Prop:=Got P w K mg base "way_of" 3 ["net","a","b"] .sh Z8
abbrev O4:Prop:=Got P w K mg base "is_within" 1 ["length","times","number"] .sh NN
abbrev Qd:Prop:=Got P w K mg base "near_way" 4 ["net","times","tie"] .sh NS
abbrev Te:Prop:=Got P w K mg base "thinned" 5 ["net","times"] .sh Cp
abbrev O8:Prop:=Got P w K mg base "_law_next" 1 ["_law_feed_here","_law_many"] .sh BR
abbrev NJ:Prop:=Got P w K mg base "_law_names" 1 [] .sh NT
abbrev Kq:Prop:=Got P w K mg base "_law_places" 2 ["_law_feed_here","_law_many"] .sh KH
abbrev Ks:Prop:=Got P w K mg base "_law_length" 2 ["_law_feed_here","_law_sort"] .sh Lo
abbrev NG:Prop:=Got P w K mg base "_law_times" 2 ["_law_feed_here"] .sh GU
abbrev O6:Prop:=Got P w K mg base "_law_rank" 1 ["_law_tie"] .sh Ln
abbrev NI:Prop:=Got P w K mg base "_law_order" 4 ["_law_ties"] .fr EU
abbrev NH:Prop:=Got P w K mg base "_law_reach" 1 ["_law_ties","_law_a"] .fr Cq
abbrev KD:Prop:=Got P w K mg base "_law_thinned" 5 ["_law_net","_law_times_here"] .sh Cp
abbrev Kr:Prop:=Got P w K mg base "_law_net_of" 1 ["_law_state"] .sh KI
abbrev O7:Prop:=Got P w K mg base "_law_pair" 1 ["_law_a","_law_b"] .sh IW
abbrev Tg:Prop:=Got P w K mg base "_law_do" 2 ["_law_state","_law_deed_here"] .sh Rt
abbrev HA:Prop:=Fg P w K mg base C_Keeper "turn_to" 6 ["self","net"] .sh^Dk C_Keeper
abbrev Kv:Prop:=Fg P w K mg base C_Keeper "come" 7 ["self","name"] .sh^NV C_Keeper
abbrev Fc:Prop:=Fg P w K mg base C_Keeper "ask_place" 1 ["self","name"] .sh^Fd C_Keeper
abbrev NM:Prop:=Fg P w K mg base C_Keeper "far" 4 ["self","a","b"] .sh^IY C_Keeper
abbrev O_:Prop:=Fg P w K mg base C_Keeper "go" 7 ["self","name"] .sh^WF C_Keeper
abbrev Dv:Prop:=Fg P w K mg base C_Keeper "ties_between" 2 ["self","a","b"] .fr^GV C_Keeper
abbrev NL:Prop:=Fg P w K mg base C_Keeper "lay" 7 ["self","a","b","length"] .sh^Qh C_Keeper
abbrev ET:Prop:=Fg P w K mg base C_Keeper "tie_between" 3 ["self","a","b"] .sh^NO C_Keeper
abbrev Ku:Prop:=Fg P w K mg base C_Keeper "take" 7 ["self","a","b"] .sh^NQ C_Keeper
abbrev O5:Prop:=Got P w K mg base "_law_told" 8 ["_law_keeper","_law_deed_here"] .sh^IV C_Keeper
abbrev O9:Prop:=Got P w K mg base "_law_deed" 3 ["_law_feed_here","_law_state","_law_pool","_law_sort"] .sh Ib
abbrev KG:Prop:=Fg P w K mg base C_Keeper "lines" 3 ["self"] .fr^GW C_Keeper
abbrev NK:Prop:=Fg P w K mg base C_Keeper "net" 1 ["self"] .sh^Qg C_Keeper
abbrev Kt:Prop:=Fg P w K mg base C_Keeper "thin" 1 ["self"] .sh^NP C_Keeper
abbrev Kp:Prop:=Got P w K mg base "_law_stands" 6 ["_law_keeper","_law_state","_law_times_here"] .sh^El C_Keeper
abbrev G_:Prop:=Got P w K mg base "_law_far_right" 5 ["_law_feed_here","_law_keeper"] .sh^Em C_Keeper
abbrev GR:Prop:=aH P w K mg base "Keeper" C_Keeper 1 ["self","times"]^IZ C_Keeper
end
def dX{d:fL}{ps:p_ Str}{n:Nat}(c:∀f:Nat->Db,bindArgs d #[(e8 n).map f,[]]=pure^ps.zip^(e8 n).map f)(us:p_ Db)(h:us.length=n):bindArgs d #[us,[]]=pure^ps.zip us:=by
 have e:us=(e8 n).map λi=>us.getD i .none:=by
  apply kI <;>simp_all
 rw[e];exact c _
local macro_rules|`(tactic|walk_at "L")=>`(tactic|(intro _ _ _ h;repeat (first|(obtain⟨e,_⟩:=h;subst e;rfl)|(obtain⟨_,h⟩:=h))))
local macro_rules|`(tactic|walk_at "B")=>`(tactic|(intro _ _ _ _ _ _;exact dX λ_=>rfl))
def Ht(K:Frag)(x:Str)(st:eZ):Prop:=∃(f:Ch) (oc:Db) (od an:q_ Ch) (sl:Array^q_ Db) (kV dc pm cd ct:Db),nsIn K mainGlobals x=P3^P3^.ref f/\K.lookup f=P3 #[oc,od,.func^fnOf x x (Bz st) (BQ st) (AI st) .none kV dc pm an cd ct,sl]/\codeIn K cd x=n_/\keepIn K^.ref f=n_
def Hn(K:Frag)(x:Str):Prop:=nsIn K mainGlobals x=P3 m_
def Hi(K:Frag)(x:Str)(i:Int):Prop:=∃t,nsIn K mainGlobals x=P3^P3^.int i t
def Ht.mk{K:Frag}{x:Str}{st:eZ}{f:Ch}{oc:Db}{od an:q_ Ch}{sl:Array^q_ Db}{kV dc pm cd ct:Db}(a:nsIn K mainGlobals x=P3^P3^.ref f)(l:K.lookup f=P3 #[oc,od,.func^fnOf x x (Bz st) (BQ st) (AI st) .none kV dc pm an cd ct,sl])(c:codeIn K cd x=n_)(k:keepIn K^.ref f=n_):Ht K x st:=#[f,oc,od,an,sl,kV,dc,pm,cd,ct,a,l,c,k]
def Hi.mk{K:Frag}{x:Str}{i:Int}{t:Tok}(a:nsIn K mainGlobals x=P3^P3^.int i t):Hi K x i:=#[t,a]
def Hn.mk{K:Frag}{x:Str}(a:nsIn K mainGlobals x=P3 m_):Hn K x:=a
def Hm(K:Frag)(C:Ch)(x q:Str)(st:eZ):Prop:=∃(f:Ch) (oc:Db) (od an:q_ Ch) (sl:Array^q_ Db) (kV dc pm cd ct:Db),PySem.W.findIn K (.ref C) x=P3^P3^.ref f/\K.lookup f=P3 #[oc,od,.func^fnOf x q (Bz st) (BQ st) (AI st) .none kV dc pm an cd ct,sl]/\codeIn K cd q=n_/\PySem.W.isFn K^.ref f=n_/\keepIn K^.ref f=n_
def Hm.mk{K:Frag}{C:Ch}{x q:Str}{st:eZ}{f:Ch}{oc:Db}{od an:q_ Ch}{sl:Array^q_ Db}{kV dc pm cd ct:Db}(a:PySem.W.findIn K (.ref C) x=P3^P3^.ref f)(l:K.lookup f=P3 #[oc,od,.func^fnOf x q (Bz st) (BQ st) (AI st) .none kV dc pm an cd ct,sl])(c:codeIn K cd q=n_)(n:PySem.W.isFn K^.ref f=n_)(k:keepIn K^.ref f=n_):Hm K C x q st:=#[f,oc,od,an,sl,kV,dc,pm,cd,ct,a,l,c,n,k]
def Ha(K:Frag)(x y:Str):Prop:=∃f:Ch,nsIn K mainGlobals x=P3^P3^.ref f/\nsIn K mainGlobals y=P3^P3^.ref f
def Ha.mk{K:Frag}{x y:Str}{f:Ch}(a:nsIn K mainGlobals x=P3^P3^.ref f)(b:nsIn K mainGlobals y=P3^P3^.ref f):Ha K x y:=#[f,a,b]
structure C0 (K:Frag) (mg:Str->Option Db) (h:eK) (C_Keeper:Ch):Prop where
 X:K.In h
 G:h.Ns mainGlobals mg
 c_Keeper:nsIn K mainGlobals "Keeper"=P3 (P3^.ref C_Keeper)
 cl_Keeper:Cls K C_Keeper
 na_Keeper_times:NoAttr K C_Keeper "times"
 na_Keeper_whole:NoAttr K C_Keeper "whole"
 na_Keeper_kept:NoAttr K C_Keeper "kept"
 mk_Keeper:PySem.W.makesIn K C_Keeper=n_
 kp_Keeper:keepIn K^.ref C_Keeper=n_
 h_rank_of:Ht K "rank_of" LC
 h_order_of:Ht K "order_of" JA
 h_steps_of:Ht K "steps_of" FO
 h_only:Ht K "only" UO
 h_without:Ht K "without" LA
 h_left_out:Ht K "left_out" JC
 h_tie_texts:Ht K "tie_texts" HE
 h_shown:Ht K "shown" Qw
 h_length_of:Ht K "length_of" HF
 h_nearest_of:Ht K "nearest_of" Fn
 h_least_ways:Ht K "least_ways" Fo
 h_far:Ht K "far" X4
 h_way_of:Ht K "way_of" Nv
 h_is_within:Ht K "is_within" HG
 h_near_way:Ht K "near_way" JB
 h_thinned:Ht K "thinned" LB
 h__law_feed:Ht K "_law_feed" D1
 h__law_next:Ht K "_law_next" Cu
 h__law_names:Ht K "_law_names" Ft
 h__law_places:Ht K "_law_places" Eu
 h__law_length:Ht K "_law_length" Ex
 h__law_times:Ht K "_law_times" Fp
 h__law_rank:Ht K "_law_rank" HI
 h__law_order:Ht K "_law_order" Fs
 h__law_reach:Ht K "_law_reach" Fq
 h__law_thinned:Ht K "_law_thinned" Dz
 h__law_net_of:Ht K "_law_net_of" Ew
 h__law_pair:Ht K "_law_pair" HJ
 h__law_do:Ht K "_law_do" LD
 h__law_told:Ht K "_law_told" HH
 h__law_deed:Ht K "_law_deed" HK
 h__law_stands:Ht K "_law_stands" Et
 h__law_far_right:Ht K "_law_far_right" C6
 h_law:Ht K "law" JD
 m_Keeper_turn_to:Hm K C_Keeper "turn_to" "Keeper.turn_to" C7
 m_Keeper_come:Hm K C_Keeper "come" "Keeper.come" E3
 m_Keeper_ask_place:Hm K C_Keeper "ask_place" "Keeper.ask_place" Cd
 m_Keeper_far:Hm K C_Keeper "far" "Keeper.far" Fx
 m_Keeper_go:Hm K C_Keeper "go" "Keeper.go" HL
 m_Keeper_ties_between:Hm K C_Keeper "ties_between" "Keeper.ties_between" CB
 m_Keeper_lay:Hm K C_Keeper "lay" "Keeper.lay" Fw
 m_Keeper_tie_between:Hm K C_Keeper "tie_between" "Keeper.tie_between" CK
 m_Keeper_take:Hm K C_Keeper "take" "Keeper.take" Ez
 m_Keeper_lines:Hm K C_Keeper "lines" "Keeper.lines" D4
 m_Keeper_net:Hm K C_Keeper "net" "Keeper.net" Fv
 m_Keeper_thin:Hm K C_Keeper "thin" "Keeper.thin" Ey
 m_Keeper___init__:Hm K C_Keeper "__init__" "Keeper.__init__" A6
 a_far_ways:Ha K "far" "far_ways"
 z0:Hn K "all"
 z1:Hn K "isinstance"
 z2:Hn K "len"
 z3:Hn K "list"
 z4:Hn K "max"
 z5:Hn K "min"
 z6:Hn K "range"
 z7:Hn K "repr"
 z8:Hn K "reversed"
 z9:Hn K "sorted"
 z10:Hn K "str"
 z11:Hn K "tuple"
 z12:Hn K "zip"
 v0:Hi K "MOST_PLACES" 24
 v1:Hi K "MOST_TIES" 60
def Ctx(P:eT)(w:eY)(K:Frag)(mg:Str->q_ Db)(base h:eK)(C:Ch):Prop:=C0 K mg h C
section
variable {P:Program}{w:World}{K:Frag}{mg:Str->q_ Value}{h base:Heap}{x:Str}{st:Stmt}
def Ht.fn(X:K.In h)(G:h.Ns mainGlobals mg)(H:Ht K x st):∃f fd,mg x=P3^.ref f/\Fun K x x st f fd:=by
 let#[f,oc,od,an,sl,kV,dc,pm,cd,ct,a,l,c,k]:=H;exact#[f,_,mg_of X G a,Mn (st:=st) l c k]
variable {C:Addr}
def C0.T(A:C0 K mg h C):Txt K mg:=#[mg_none_of A.X A.G A.z0,mg_none_of A.X A.G A.z1,mg_none_of A.X A.G A.z2,mg_none_of A.X A.G A.z3,mg_none_of A.X A.G A.z4,mg_none_of A.X A.G A.z5,mg_none_of A.X A.G A.z6,mg_none_of A.X A.G A.z7,mg_none_of A.X A.G A.z8,mg_none_of A.X A.G A.z9,mg_none_of A.X A.G A.z10,mg_none_of A.X A.G A.z11,mg_none_of A.X A.G A.z12,(let #[t,e]:=A.v0;#[t,mg_of A.X A.G e]),(let #[t,e]:=A.v1;#[t,mg_of A.X A.G e])]
def Ctx.got{k:Nat}{ps:p_ Str}{κ:Kd}{W:W2}(A:Ctx P w K mg base h C)(H:Ht K x st)
  (ok:∀{f:Ch}{fd:fL},Txt K mg->Fun K x x st f fd->mg x=P3^.ref f->Binds K fd ps []->FnOk P w K mg base Fi k f fd ps^R_ K κ W ps.length)
  (hW:∀ss n P,W ss n P->ss.length=ps.length:=by walk_at "L") (hb:∀(kV doc pm:Db) (an:q_ Ch) (cdv ct:Db) (us:p_ Db),us.length=ps.length->bindArgs (fnOf x x (Bz st) (BQ st) (AI st) .none kV doc pm an cdv ct) #[us,[]]=pure^ps.zip us:=by walk_at "B"):Got P w K mg base x k ps κ W:=by
 let#[f,fd,m,F]:=H.fn A.X A.G;exact#[f,fd,ok A.T F m^F.binds hb,m,F.kp,F.binds hb,hW]
def Ctx.gotM{q:Str}{k:Nat}{ps:p_ Str}{κ:Kd}{W:W2}(A:Ctx P w K mg base h C)(H:Hm K C x q st)
  (ok:∀{f:Ch}{fd:fL},Txt K mg->Fun K x q st f fd->FnOk P w K mg base Fi k f fd ps^R_ K κ W ps.length)
  (hW:∀ss n P,W ss n P->ss.length=ps.length:=by walk_at "L") (hb:∀(kV doc pm:Db) (an:q_ Ch) (cdv ct:Db) (us:p_ Db),us.length=ps.length->bindArgs (fnOf x q (Bz st) (BQ st) (AI st) .none kV doc pm an cdv ct) #[us,[]]=pure^ps.zip us:=by walk_at "B"):Fg P w K mg base C x k ps κ W:=by
 let#[f,oc,od,an,sl,kV,dc,pm,cd,ct,a,l,c,n,k]:=H;have F:=Mn (st:=st) l c k;exact#[f,_,ok A.T F,#[a,n,k],F.binds hb,hW]
def Ctx.gotC{k:Nat}{ps:p_ Str}{W:W2}(A:Ctx P w K mg base h C)
  (ok:∀{f:Ch}{fd:fL},Txt K mg->Fun K "__init__" "Keeper.__init__" A6 f fd->FnOk P w K mg base Fi k f fd ps^R_ K .sh W ps.length)
  (hW:∀ss n P,W ss n P->ss.length=ps.length:=by walk_at "L") (hb:∀(kV doc pm:Db) (an:q_ Ch) (cdv ct:Db) (us:p_ Db),us.length=ps.length->bindArgs (fnOf "__init__" "Keeper.__init__" (Bz A6) (BQ A6) (AI A6) .none kV doc pm an cdv ct) #[us,[]]=pure^ps.zip us:=by walk_at "B"):aH P w K mg base "Keeper" C k ps W:=by
 let#[f,oc,od,an,sl,kV,dc,pm,cd,ct,a,l,c,n,k]:=A.m_Keeper___init__;have F:=Mn (st:=A6) l c k;exact#[f,_,ok A.T F,#[A.mk_Keeper,a,n,A.kp_Keeper],mg_of A.X A.G A.c_Keeper,F.binds hb,hW]
end
section
variable {P:Program}{w:World}{K:Frag}{mg:Str->q_ Value}{base:Heap}
variable {h:Heap}{C_Keeper:Addr}(A:Ctx P w K mg base h C_Keeper)
include A
omit A in
def Pf:AX ["tie"] ["tie"]^AI LC:=by walk_at "s"
def P5:Tf P w K mg base:=A.got A.h_rank_of λT F m b=>Fh F Pf (λhr=>(AJ^Ac^Ao^AB (AW AN Ag (dv 0) AG)^AB (AW AN Ag (dv 0) AG)^AB (AW AN Ag (dv 0) AG) AQ)) JF
omit A in
def Nq:AX ["ties"] ["ties"]^AI JA:=by walk_at "s"
def HP:Qc P w K mg base:=A.got A.h_order_of λT F m b=>have k9:=P5 A;Fh F Nq (λhr=>(AJ^Ac (Ob k9 (hr.mono^by cbv) rfl T.Gab rfl (dv 0)))) HM
omit A in
def k_:AX ["net","steps","place","a","b","length"] ["net"]^AI FO:=#[rfl,rfl,rfl,by decide +kernel,rfl,by decide +kernel,by decide +kernel]
omit A in
def dq{f:Ch}{fd:fL}(F:Fun K "steps_of" "steps_of" FO f fd):FnOk P w K mg base Fi 1 f fd ["net"]^R_ K .sh NR 1:=by
 refine F.ok (k:=0) k_ (λvs H Q E h=>h.1) λcdv A outer s H vs Q E hr h=>?_;let#[hl,F0,U,V',M,n,ss,Pd,ra,#[N,rfl,ok,lp,lt,p],q]:=h;let#[dom,fU,uV,vM,fd0,pa]:=ra;cases pa with
 |cons r1 pa=>
 cases pa;let#[v,e1,h1]:=r1.1;cases e1;let#[an,vs,rfl,hn,v1,r,rfl,hp,v2,r2,rfl,ht,e2]:=h1;cases(show r2=[]from e2);let#[ap,us,rfl,hpn,hps]:=hp;let#[at_,ws,rfl,htn,hts]:=ht;have nd:=k_.nd;have hu:=GD hr;have szl:=PySem.sizeLine_eq;have lus:us.length=N.ps.length:=by rw[hps.length,Ev]
 have lws:ws.length=N.ts.length:=by rw[hts.length,Ev]
 refine#[_,BK (D7 (i:=1) nd rfl (eC rfl) JN)
  (BK (MM fQ rfl (Uw^Do ix_tup (pv 0) Az λ_ _=>rfl) (F3 (i:=2) nd rfl (eC rfl)) (Cv (IG hu (pv 1) (pv 2) JN rfl)))
  (BK (MM fQ rfl (Uw^Do ix_tup (pv 0) Az λ_ _=>rfl) (Uy rfl (F2 (F3 (i:=3) nd rfl (eC rfl))^F2 (F3 (i:=4) nd rfl (eC rfl))^F2 (F3 (i:=5) nd rfl (eC rfl)) Q8))
   (BK (IG hu (II hu (pv 1) (pv 3) λ_ _=>rfl) (pv 4) (pv 5) rfl)^Cv (IG hu (II hu (pv 1) (pv 4) λ_ _=>rfl) (pv 3) (pv 5) rfl)))
  (Cv^FP^ZJ^pv 1))),?_]
 refine λd hd=>?_;have old0:∀b o,H b=P3 o->Aq H d (.dK []) b=P3 o:=λb o e=>by rw[AK^Ai e hd];exact e
 have SqN:∀H':Hp,(∀b o,H b=P3 o->H' b=P3 o)->SqT K H' an [.ref ap,.ref at_]:=λH' o=>SqT.of^o _ _ hn;have SqP:∀H':Hp,(∀b o,H b=P3 o->H' b=P3 o)->SqT K H' ap us:=λH' o=>SqT.of^o _ _ hpn;have SqW:∀H':Hp,(∀b o,H b=P3 o->H' b=P3 o)->SqT K H' at_ ws:=λH' o=>SqT.of^o _ _ htn;refine#[_,rfl,an,_,0,_,rfl,rfl,SqN _ old0,rfl,ap,rfl,#[_,SqP _ old0],?_];refine RP (xs:=us) (λi Z H'=>∃(as:p_ (Str×Ch)) (x2 x3 x4 x5:q_ V),Z=[P3^.ref an,P3^.ref d,x2,x3,x4,x5]/\as.map (·.1)=N.ps.take i/\Stp H d as (λ_=>[]) H') ?_ (λi Z H' hi #[as,x2,x3,x4,x5,e,hm,st]=>SqP _ st.old) ?_ ?_
 .exact#[[],_,_,_,_,rfl,rfl,old0,hd,AM,(λx hx=>by cases hx),fF,fF]
 .rintro i x Z H' hx ⟨as,x2,x3,x4,x5,rfl,hm,st⟩
  have hi:i<N.ps.length:=by rw[←lus];exact(Uf.mp hx).1
  let#[x',hx',hAt]:=hps.get (i:=i) (d:=.str N.ps[i]) (by rw[ZB,No hi];rfl);rw[hx]at hx';cases hx';let#[rfl,_]:=hAt;intro q hq;have las:as.length<=i:=by have:=congrArg jj hm;rw[Ev,jE]at this;lk
  have nq:d≠q:=λe=>by rw[←e,st.top]at hq;cases hq
  have las2:(as.map λx=>((.inr x.1:Key),V.ref x.2)).length=as.length:=Ev ..;refine#[_,rfl,_,rfl,d,_,rfl,DPut.k (k:=.inr N.ps[i]) (by rw[AK nq];exact st.top)^by lk,?_];refine#[as++[(N.ps[i],q)],_,_,_,_,rfl,?_,st.more hq ?_ rfl]
  .rw[fI,hm,List.take_succ,No hi];rfl
  .rw[hm];exact P7 (MD ok.rise) hi
 .rintro Z H' ⟨as,x2,x3,x4,x5,rfl,hm,st⟩
  rw[lus,kH]at hm;refine#[_,rfl,an,_,1,_,rfl,rfl,SqN _ st.old,rfl,at_,rfl,#[_,SqW _ st.old],?_];refine RP (xs:=ws) (λi Z H'=>∃(x2 x3 x4 x5:q_ V),Z=[P3^.ref an,P3^.ref d,x2,x3,x4,x5]/\Stp H d as (λp=>(C_ (N.ts.take i) p).map kv) H') #[_,_,_,_,rfl,st] (λi Z H' hi #[x2,x3,x4,x5,e,st]=>SqW _ st.old) ?_ ?_
  .rintro i x Z H' hx ⟨x2,x3,x4,x5,rfl,st⟩
   have hi:i<N.ts.length:=by rw[←lws];exact(Uf.mp hx).1
   let#[x',hx',hAt]:=hts.get (i:=i) (d:=As N.ts[i]) (by rw[ZB,No hi];rfl);rw[hx]at hx';cases hx';have hmem:N.ts[i]∈N.ts:=fe hi;have hsnoc:N.ts.take (i+1)=N.ts.take i++[N.ts[i]]:=by rw[List.take_succ,No hi];rfl
   have hpre:(N.ts.take (i+1)).Pairwise Bp:=ok.trise.sublist^List.take_sublist _ _;have hlt2:∀s∈N.ts.take (i+1),cs s.a<cs s.b:=λs hs=>(ok.tin s^List.mem_of_mem_take hs).2.2.1;rw[hsnoc]at hpre hlt2;have new:=Vr hpre hlt2;have ltk:(N.ts.take i).length<=1000:=by rw[jE];lk
   generalize N.ts[i]=t at hAt hmem hsnoc new;generalize N.ts.take i=ts at hsnoc new st ltk;let#[m1,m2,m3,_]:=ok.tin t hmem;have hab:t.a≠t.b:=λe=>by rw[e]at m3;exact ir _ m3
   let#[ta,tb,tl]:=t;let#[tt,us3,rfl,htt,hit]:=hAt;let#[va,r3,rfl,#[rfl,_],vb,r4,rfl,#[rfl,_],vl,r5,rfl,rfl,e5]:=hit;cases(show r5=[]from e5);rw[←hm]at m1 m2;let#[#[xa,pa],ha,ea]:=Sc.mp m1;let#[#[xb,pb],hb,eb]:=Sc.mp m2;have ea':ta=xa:=ea.symm;have eb':tb=xb:=eb.symm;subst ea' eb';clear ea eb;replace hab:ta≠tb:=hab;replace new:tb∉(C_ ts ta).map (·.1)/\ta∉(C_ ts tb).map (·.1):=new;have ga:=DGet.k (k:=.inr ta) st.top;rw[IE st.nms ha]at ga;have l1:=RE ts ta;refine#[tt,_,rfl,SqT.of^st.old _ _ htt,rfl,_,_,rfl,_,_,rfl,_,_,rfl,rfl,?_];refine#[_,rfl,_,rfl,_,rfl,d,_,rfl,ga,_,rfl,pa,_,rfl,DPut.k (k:=.inr tb) (st.inn _ ha).2.2 (by show((C_ ts ta).map kv).length<sizeLine;rw[Ev];lk),?_];have st1:=st.put (tb2:=λp=>(C_ ts p++if ta=p then [(tb,tl)]else []).map kv) ha (kvs:=putK ((C_ ts ta).map kv) (.inr tb)^.int tl) (by rw[Q4 new.1,if_pos rfl]) (λq hq=>by rw[if_neg^fB hq,e7]);have gb:=DGet.k (k:=.inr tb) st1.top;rw[IE st1.nms hb]at gb;have l2:=RE ts tb;have ib:=(st1.inn _ hb).2.2;simp only[if_neg hab,e7]at ib;refine#[_,rfl,_,rfl,_,rfl,d,_,rfl,gb,_,rfl,pb,_,rfl,DPut.k (k:=.inr ta) ib (by rw[Ev];lk),?_];refine#[_,_,_,_,rfl,st1.put hb ?_ λq hq=>?_]
   .show(C_ (N.ts.take (i+1)) tb).map kv=_
    rw[hsnoc,OC,Q4 new.2];show((C_ ts tb++((if ta=tb then [(tb,tl)]else [])++if tb=tb then [(ta,tl)]else [])).map kv)=_;rw[if_neg hab,if_pos rfl];rfl
   .show(C_ (N.ts.take (i+1)) q).map kv=_
    rw[hsnoc,OC];show((C_ ts q++((if ta=q then [(tb,tl)]else [])++if tb=q then [(ta,tl)]else [])).map kv)=_;rw[if_neg^fB hq,e7]
  .rintro Z H' ⟨x2,x3,x4,x5,rfl,st⟩
   rw[lws,kH]at st
   have old:∀(f:Ch->Obj) b o,H b=P3 o->FV H' (as.map (·.2)) f b=P3 o:=λf b o e=>by
    rw[DD λhm=>by let#[x,hx,e2]:=Sc.mp hm;have:=(st.inn x hx).1;rw[e2,e]at this;cases this];exact st.old b o e
   refine#[_,rfl,(as.map fun(x:Str×Ch)=>x.2),λb hb=>?_,λf=>q (.ref d) (FV H' (as.map fun(x:Str×Ch)=>x.2) f) (Dy N) n (λb o e=>#[o,old f b o e,λ_ _=>rfl,λ_ _=>rfl]) #[λg hg=>?_,λb k hk=>(fd0.2 b k hk).to (λ_ _ z=>z) (λb vs e=>old f b _ e) (λb o e=>#[o,old f b o e]) λu e=>old f b _ e] (show At K M (FV H' (as.map fun(x:Str×Ch)=>x.2) f) (Dy N)^.ref d from st.at_ dom hm f) p]
   .let#[x,hx,rfl]:=Sc.mp hb
    exact#[_,(st.inn x hx).2.2]
   .let#[a,r,cells,hf,hcf,hc,rest]:=fd0.1 g hg
    exact#[a,r,cells,old f _ _ hf,hcf,#[hc.1,old f _ _ hc.2],rest]
def HN:Qb P w K mg base:=A.got A.h_steps_of λ_ F _ _=>dq F
omit A in
def Wa:AX ["net","ties"] ["net","ties"]^AI UO:=by walk_at "s"
def MU:Z7 P w K mg base:=A.got A.h_only λT F m b=>Fh F Wa (λhr=>(AJ^Ac^Ao^AB (AW AN Ag (dv 0) AG)^AB (Bu BI CO rfl T.Gac iB (AV (Af Jz Rn rfl T.Gab iD (AV (IN 1) Ae)) Ae)) AQ)) SM
omit A in
def Pe:AX ["net","ties"] ["net","ties"]^AI LA:=by walk_at "s"
def JR:Td P w K mg base:=A.got A.h_without λT F m b=>have lA:=MU A;Fh F Pe (λhr=>(AJ^Ac^cg hr lA^AC (AT^dv 0)^AC (E_^Tp [("ties":Str),("tie":Str)] [P3 1,m_] (Bk^AW AN Ag (dv 0) AG) (Ap (i:=1) (show fk [("ties":Str),("tie":Str)] by decide +kernel) rfl (eC rfl)) (Eh^Aj (C9 hr) KA (dv 1) (IN 0)^by with_unfolding_all rfl) (dv 1)^by kernel_rfl) AO)) MG
omit A in
def Nu:AX ["net","thin"] ["net","thin"]^AI JC:=by walk_at "s"
def OA:Qe P w K mg base:=A.got A.h_left_out λT F m b=>have lB:=HP A;Fh F Nu (λhr=>(AJ^Ac^cg hr lB^AC (AT^Tp [("thin":Str),("tie":Str)] [P3 1,m_] (Bk^AW AN Ag (dv 0) AG) (Ap (i:=1) (show fk [("thin":Str),("tie":Str)] by decide +kernel) rfl (eC rfl)) (Eh^Aj (C9 hr) KA (dv 1) (AW AN Ag (dv 0) AG)^by with_unfolding_all rfl) (dv 1)^by kernel_rfl) AO)) SN
omit A in
def L6:AX ["ties"] ["ties"]^AI HE:=by walk_at "s"
def MT:O2 P w K mg base:=A.got A.h_tie_texts λT F m b=>Fh F L6 (λhr=>(AJ^Ac^Tp [("a":Str),("b":Str),("length":Str)] [m_,m_,m_] (Bk^dv 0) (Js rfl (Bc (Ap (i:=0) (show fk [("a":Str),("b":Str),("length":Str)] by decide +kernel) rfl (eC rfl))^Bc (Ap (i:=1) (show fk [("a":Str),("b":Str),("length":Str)] by decide +kernel) rfl (eC rfl))^Bc (Ap (i:=2) (show fk [("a":Str),("b":Str),("length":Str)] by decide +kernel) rfl (eC rfl)) GI)) CZ (Xd^GH (QO^dv 0)^GH Ad^GH (QO^dv 1)^GH Ad^GH (QO^dv 2) Zo)^by kernel_rfl)) JE
omit A in
def UM:AX ["net"] ["net"]^AI Qw:=by walk_at "s"
def VC:Xq P w K mg base:=A.got A.h_shown λT F m b=>have lC:=MT A;Fh F UM (λhr=>(AJ^Ac^BL RB Lm (Tp [("place":Str)] [m_] (Bk^AW AN Ag (dv 0) AG) (Ap (i:=0) (show fk [("place":Str)] by decide +kernel) rfl (eC rfl)) CZ (BL Ba B3 Ad^dv 0)^by kernel_rfl)^Tp [("text":Str)] [m_] (Bk^cg hr lC^AC (AT^AW AN Ag (dv 0) AG) AO) (Ap (i:=0) (show fk [("text":Str)] by decide +kernel) rfl (eC rfl)) CZ (BL Ba B3 Ad^dv 0)^by kernel_rfl)) Pk
omit A in
def lD:AX ["net","thing","steps","length","here","there"] ["net","thing"]^AI HF:=by walk_at "s"
def MV:O3 P w K mg base:=A.got A.h_length_of λT F m b=>have lE:=HN A;Fh F lD (λhr=>(AF (BC (DTW.dt^LV (EH^FY (Vy kit_tuple (dv 1) rfl T.Gaf rfl T.Gac (by decide +kernel)))^G4^Aj CT Ep (Af BM DQ rfl T.Gaa PySem.boot_len (AV (dv 1) Ae)) AG^An _) (AJ^Ac CP) Al)
 (AF (BC (EH^FY (Af (V5 rfl) bu rfl T.Gam PyProof.Rows.boot_all (AV (Tp [("place":Str)] [m_] (Bk^dv 1) (Ap (i:=0) (show fk [("place":Str)] by decide +kernel) rfl (eC rfl)) CZ (Vy XB (dv 0) rfl T.Gaf rfl T.Gan (by decide +kernel))^by kernel_rfl) Ae))) (AJ^Ac CP) Al)
 (AF (Ak (i:=2) lD.nd rfl (eC rfl) (cg hr lE^AC (AT^dv 0) AO))
 (AF (BC (Aj (Ec hr) GQ (AW AN Ag (dv 1) AG) (dv 2)^by with_unfolding_all rfl) (AJ^Ac CP) Al)
 (AF (Ak (i:=3) lD.nd rfl (eC rfl) AG)
 (AF (EI fQ rfl (Zp rfl T.Gao (AB (dv 1)^AB (Vw Y1 V9 (dv 1) (Mw AG) Mx) AQ)) (Js rfl (Bc (Ap (i:=4) lD.nd rfl (eC rfl))^Bc (Ap (i:=5) lD.nd rfl (eC rfl)) GI)) (AF (BC (Aj (Ec hr) GQ (dv 5) (A8 hr (dv 2)^dv 4)^by with_unfolding_all rfl) (AJ^Ac CP) Al)
 (AJ (XZ (i:=3) lD.nd rfl (eC rfl) (A8 hr (A8 hr (dv 2)^dv 4)^dv 5)))))
 (AJ^Ac^dv 3)))))))) MI
omit A in
def KO:AX ["waiting","found"] ["waiting","found"]^AI Fn:=by walk_at "s"
def Ka:NE P w K mg base:=A.got A.h_nearest_of λT F m b=>Fh F KO (λhr=>(AJ^Ac^AW AN Ag (Af (TR hr) Z3 rfl T.Gah boot_min (AV (Tp [("found":Str),("place":Str)] [P3 1,m_] (Bk^IN 0) (Ap (i:=1) (show fk [("found":Str),("place":Str)] by decide +kernel) rfl (eC rfl)) CZ (Ao^AB (AW AN Ag (A8 hr (IN 0)^dv 1) AG)^AB (dv 1) AQ)^by kernel_rfl) Ae)) AG)) KS
omit A in
def lF:AX ["net","start","steps","found","waiting","place","other","step","length"] ["net","start"]^AI Fo:=by walk_at "s"
def E4:NF P w K mg base:=A.got A.h_least_ways λT F m b=>have lG:=Ka A;have lE:=HN A;Fh F lF (λhr=>(AF (Ak (i:=2) lF.nd rfl (eC rfl) (cg hr lE^AC (AT^dv 0) AO))
 (AF (Dh (i:=3) lF.nd rfl (eC rfl) (Oe (dv 1)^Ao^AB AG^AB CP AQ))
 (AF (Dh (i:=4) lF.nd rfl (eC rfl) (Bh^AB (dv 1) AQ))
 (AF (Jm fQ (QL^IN 4) (AF (Ak (i:=5) lF.nd rfl (eC rfl) (cg hr lG^AC (E_^IN 4)^AC (E_^IN 3) AO))
 (AF (LW 4 PySem.F.plainAttrs_list PySem.F.slot_list_remove PySem.F.type_list_remove (LI hr) Yb (pv 4)^AB (dv 5) AQ)
 (AJ (EI fQ rfl (Vu^A8 hr (dv 2)^dv 5) (Js rfl (Bc (Ap (i:=6) lF.nd rfl (eC rfl))^Bc (Ap (i:=7) lF.nd rfl (eC rfl)) GI)) (AF (Ak (i:=8) lF.nd rfl (eC rfl) (BL Ba B3 (AW AN Ag (A8 hr (IN 3)^dv 5) AG)^dv 7))
 (AJ (BC (Aj (Ec hr) GQ (dv 6) (IN 3)^by with_unfolding_all rfl) (AF (LW 4 PySem.F.plainAttrs_list PySem.F.slot_list_append PySem.F.type_list_append B4 KC (pv 4)^AB (dv 6) AQ)
 (AJ^Mv (i:=3) hr (pv 3) (dv 6)^Ao^AB (dv 8)^AB (dv 5) AQ))^AJ^BC (Aj (JQ hr) O1 (dv 8) (AW AN Ag (A8 hr (IN 3)^dv 6) AG)^An _) (AJ^Mv (i:=3) hr (pv 3) (dv 6)^Ao^AB (dv 8)^AB (dv 5) AQ) Al))))))))
 (AJ^RW 3^pv 3)))))) KW
omit A in
def lH:AX ["net","a","b","found"] ["net","a","b"]^AI X4:=by walk_at "s"
def ZV:bw P w K mg base:=A.got A.h_far λT F m b=>have lI:=E4 A;Fh F lH (λhr=>(AF (Ak (i:=3) lH.nd rfl (eC rfl) (cg hr lI^AC (AT^dv 0)^AC (AT^dv 1) AO))
 (AJ^Ac^YX (Aj (VA hr) Yd (dv 2) (dv 3)^by with_unfolding_all rfl) (AW AN Ag (A8 hr (dv 3)^dv 2) AG) CP))) Y6
def O0:Got P w K mg base "far_ways" 3 ["net","a","b"] .sh Xr:=by
 let#[f,a,b]:=A.a_far_ways;let#[f1,fd,ok,m,r]:=ZV A;cases m.symm.trans^mg_of A.X A.G a;exact#[f,fd,ok,mg_of A.X A.G b,r]
omit A in
def lJ:AX ["net","a","b","found","way","place"] ["net","a","b"]^AI Nv:=by walk_at "s"
def Sj:WC P w K mg base:=A.got A.h_way_of λT F m b=>have lI:=E4 A;Fh F lJ (λhr=>(AF (Ak (i:=3) lJ.nd rfl (eC rfl) (cg hr lI^AC (AT^dv 0)^AC (AT^dv 1) AO))
 (AF (BC (Aj (Ec hr) GQ (dv 2) (dv 3)^by with_unfolding_all rfl) (AJ^Ac CP) Al)
 (AF (Dh (i:=4) lJ.nd rfl (eC rfl) (Bh AQ))
 (AF (Ak (i:=5) lJ.nd rfl (eC rfl) (dv 2))
 (AF (Jm fQ (Aj W0 Z1 (dv 5) CP^An _) (AF (LW 4 PySem.F.plainAttrs_list PySem.F.slot_list_append PySem.F.type_list_append B4 KC (pv 4)^AB (dv 5) AQ)
 (AJ (Ak (i:=5) lJ.nd rfl (eC rfl) (AW AN Ag (A8 hr (dv 3)^dv 5) AG)))))
 (AJ^Ac (TJ rfl (IN 4) rfl T.Gac rfl T.Gal)))))))) SE
omit A in
def L7:AX ["length","times","number"] ["length","times","number"]^AI HG:=by walk_at "s"
def MW:O4 P w K mg base:=A.got A.h_is_within λT F m b=>Fh F L7 (λhr=>(AJ^Ac^M6 ZS bp (BL F7 J_ (dv 0)^AW AN Ag (dv 1) AG) (BL F7 J_ (dv 2)^AW AN Ag (dv 1) AG)^An _)) MJ
omit A in
def lK:AX ["net","times","tie","way"] ["net","times","tie"]^AI JB:=by walk_at "s"
def N_:Qd P w K mg base:=A.got A.h_near_way λT F m b=>have lL:=MW A;have lM:=MV A;have lO:=Sj A;Fh F lK (λhr=>(AF (Ak (i:=3) lK.nd rfl (eC rfl) (cg hr lO^AC (AT^dv 0)^AC (AT^AW AN Ag (dv 2) AG)^AC (AT^AW AN Ag (dv 2) AG) AO))
 (AF (BC (DTW.dt^LV (Aj P0 WA (dv 3) CP^An _)^G4^EH^FY^cg hr lL^AC (AT^cg hr lM^AC (AT^dv 0)^AC (AT^dv 3) AO)^AC (AT^dv 1)^AC (AT^AW AN Ag (dv 2) AG) AO) (AJ^Ac CP) Al)
 (AJ^Ac^dv 3)))) KU
omit A in
def lP:AX ["net","times","kept","tie"] ["net","times"]^AI LB:=by walk_at "s"
def P4:Te P w K mg base:=A.got A.h_thinned λT F m b=>have lQ:=N_ A;have lA:=MU A;have lB:=HP A;Fh F lP (λhr=>(AF (Dh (i:=2) lP.nd rfl (eC rfl) (Bh AQ))
 (AF (EI fQ rfl (Jr^cg hr lB^AC (AT^AW AN Ag (dv 0) AG) AO) (Ap (i:=3) lP.nd rfl (eC rfl)) (AJ^BC (Aj P0 WA (cg hr lQ^AC (AT^cg hr lA^AC (AT^dv 0)^AC (E_^IN 2) AO)^AC (AT^dv 1)^AC (AT^dv 3) AO) CP^An _) (AJ^LW 2 PySem.F.plainAttrs_list PySem.F.slot_list_append PySem.F.type_list_append B4 KC (pv 2)^AB (dv 3) AQ) Al))
 (AJ^Ac^cg hr lA^AC (AT^dv 0)^AC (E_^IN 2) AO)))) MH
def Bs:O8 P w K mg base:=A.got A.h__law_next λT F _ _=>W3 F T.Gaa
omit A in
def lR:AX ["_law_names_here"] []^AI Ft:=by walk_at "s"
def Ke:NJ P w K mg base:=A.got A.h__law_names λT F m b=>Fh F lR (λhr=>(AF (Ak (i:=0) lR.nd rfl (eC rfl) (Bh^AB Ad^AB Ad^AB Ad^AB Ad^AB Ad^AB Ad^AB Ad^AB Ad^AB Ad^AB Ad^AB Ad^AB Ad^AB Ad^AB Ad^AB Ad^AB Ad^AB Ad AQ))
 (AJ^Ac^BL Ba B3 (dv 0)^Bh^AB Ad^AB Ad^AB Ad^AB Ad^AB Ad^AB Ad^AB Ad^AB Ad^AB Ad AQ))) KY
omit A in
def lS:AX ["_law_feed_here","_law_many","_law_names_here","_law_at","_law_step"] ["_law_feed_here","_law_many"]^AI Eu:=by walk_at "s"
def JT:Kq P w K mg base:=A.got A.h__law_places λT F m b=>have lT:=Ke A;have lU:=Bs A;Fh F lS (λhr=>(AF (Ak (i:=2) lS.nd rfl (gc rfl) (TK lT (hr.mono^by cbv) rfl))
 (AF (Ak (i:=3) lS.nd rfl (gc rfl) (cg hr lU^AC (Bl 0)^AC (AT AG) AO))
 (AF (Ak (i:=4) lS.nd rfl (gc rfl) (AW AN Ag (Bh^AB AG^AB AG^AB AG^AB AG AQ)^cg hr lU^AC (Bl 0)^AC (AT AG) AO))
 (AJ^Ac (Bu BI CO rfl T.Gac iB (AV (Af J0 Ro rfl T.Gab iD (AV (Tp [("_law_names_here":Str),("_law_at":Str),("_law_step":Str),("_law_k":Str)] [P3 2,P3 3,P3 4,m_] (DI.c (LY rfl T.Gaj (AV (dv 1) Ae))) (Ap (i:=3) (show fk [("_law_names_here":Str),("_law_at":Str),("_law_step":Str),("_law_k":Str)] by decide +kernel) rfl (eC rfl)) CZ (AW AN Ag (dv 0)^BL DX G9 (BL Ba B3 (dv 1)^BL F7 J_ (dv 2)^dv 3) AG)^by kernel_rfl) Ae)) Ae))))))) JG
omit A in
def Iy:AX ["_law_feed_here","_law_sort"] ["_law_feed_here","_law_sort"]^AI Ex:=by walk_at "s"
def JV:Ks P w K mg base:=A.got A.h__law_length λT F m b=>have lU:=Bs A;Fh F Iy (λhr=>(AF (BC (Aj CT Ep (dv 1) AG^An _) (AJ^Ac^BL F6 J9 (BL MQ G9 AG AG)^cg hr lU^AC (Bl 0)^AC (AT AG) AO) Al)
 (AJ^Ac^BL Ba B3 AG^cg hr lU^AC (Bl 0)^AC (AT^AW AN Ag (Bh^AB AG^AB AG^AB AG AQ)^dv 1) AO))) JH
omit A in
def lV:AX ["_law_feed_here","_law_some"] ["_law_feed_here"]^AI Fp:=by walk_at "s"
def Kb:NG P w K mg base:=A.got A.h__law_times λT F m b=>have lU:=Bs A;Fh F lV (λhr=>(AF (Ak (i:=1) lV.nd rfl (eC rfl) (Bh^AB (Ao^AB AG^AB AG AQ)^AB (Ao^AB AG^AB AG AQ)^AB (Ao^AB AG^AB AG AQ)^AB (Ao^AB AG^AB AG AQ)^AB (Ao^AB AG^AB AG AQ)^AB (Ao^AB AG^AB AG AQ)^AB (Ao^AB (BL MQ G9 AG AG)^AB AG AQ)^AB (Ao^AB AG^AB AG AQ) AQ))
 (AJ^Ac^AW AN Ag (dv 1)^cg hr lU^AC (Bl 0)^AC (AT AG) AO))) Ph
omit A in
def L9:AX ["_law_tie"] ["_law_tie"]^AI HI:=by walk_at "s"
def MY:O6 P w K mg base:=A.got A.h__law_rank λT F m b=>Fh F L9 (λhr=>(AJ^Ac^Ao^AB (AW AN Ag (dv 0) AG)^AB (AW AN Ag (dv 0) AG)^AB (AW AN Ag (dv 0) AG) AQ)) Po
omit A in
def KP:AX ["_law_ties"] ["_law_ties"]^AI Fs:=by walk_at "s"
def Kc:NI P w K mg base:=A.got A.h__law_order λT F m b=>have lW:=MY A;Fh F KP (λhr=>(AJ^Ac (Ob lW (hr.mono^by cbv) rfl T.Gab rfl (dv 0)))) Nz
omit A in
def lX:AX ["_law_ties","_law_a","_law_found","_law_fresh","_law_one","_law_other","_law_length_here","_law_here","_law_there"] ["_law_ties","_law_a"]^AI Fq:=by walk_at "s"
def E5:NH P w K mg base:=A.got A.h__law_reach λT F m b=>Fh F lX (λhr=>(AF (Dh (i:=2) lX.nd rfl (eC rfl) (Oe (dv 1) AG))
 (AF (Ak (i:=3) lX.nd rfl (eC rfl) HY)
 (AF (Jm fQ (FY^dv 3) (AF (Ak (i:=3) lX.nd rfl (eC rfl) HY)
 (AJ (XY fQ rfl (pv 0) (Js rfl (Bc (Ap (i:=4) lX.nd rfl (eC rfl))^Bc (Ap (i:=5) lX.nd rfl (eC rfl))^Bc (Ap (i:=6) lX.nd rfl (eC rfl)) GI)) (AJ (EI fQ rfl (Jr^Bh^AB (Ao^AB (dv 4)^AB (dv 5) AQ)^AB (Ao^AB (dv 5)^AB (dv 4) AQ) AQ) (Js rfl (Bc (Ap (i:=7) lX.nd rfl (eC rfl))^Bc (Ap (i:=8) lX.nd rfl (eC rfl)) GI)) (AJ (BC (DTW.dt^Mt (Aj (VA hr) Yd (dv 7) (IN 2)^by with_unfolding_all rfl)^IM^Aj (JQ hr) O1 (BL Ba B3 (A8 hr (IN 2)^dv 7)^dv 6) (Xe hr (IN 2) (dv 8)^BL MQ G9 AG AG)^An _) (AF (Mv (i:=2) hr (pv 2) (dv 8)^BL Ba B3 (A8 hr (IN 2)^dv 7)^dv 6)
 (AJ (Ak (i:=3) lX.nd rfl (eC rfl) HY))) Al))))))))
 (AJ^RW 2^pv 2))))) Pl
omit A in
def lY:AX ["_law_net","_law_times_here","_law_kept","_law_tie","_law_by"] ["_law_net","_law_times_here"]^AI Dz:=by walk_at "s"
def Hv:KD P w K mg base:=A.got A.h__law_thinned λT F m b=>have lZ:=Kc A;have lg:=E5 A;Fh F lY (λhr=>(AF (Dh (i:=2) lY.nd rfl (eC rfl) (Bh AQ))
 (AF (EI fQ rfl (Jr^cg hr lZ^AC (AT^AW AN Ag (dv 0) AG) AO) (Ap (i:=3) lY.nd rfl (eC rfl)) (AF (Ak (i:=4) lY.nd rfl (eC rfl) (Ra hr (cg hr lg^AC (E_^IN 2)^AC (AT^AW AN Ag (dv 3) AG) AO)^AW AN Ag (dv 3) AG))
 (AJ^BC (DTW.dt^LV (Aj P0 WA (dv 4) CP^An _)^G4^Aj ZT bq (BL F7 J_ (dv 4)^AW AN Ag (dv 1) AG) (BL F7 J_ (AW AN Ag (dv 3) AG)^AW AN Ag (dv 1) AG)^An _) (AJ^LW 2 PySem.F.plainAttrs_list PySem.F.slot_list_append PySem.F.type_list_append B4 KC (pv 2)^AB (dv 3) AQ) Al)))
 (AJ^Ac^Ao^AB (AW AN Ag (dv 0) AG)^AB (Bu BI CO rfl T.Gac iB (AV (Af Jz Rn rfl T.Gab iD (AV (IN 2) Ae)) Ae)) AQ)))) Pn
omit A in
def li:AX ["_law_state","_law_ties"] ["_law_state"]^AI Ew:=by walk_at "s"
def JU:Kr P w K mg base:=A.got A.h__law_net_of λT F m b=>Fh F li (λhr=>(AF (Ak (i:=1) li.nd rfl (gc rfl) (A8 hr (dv 0) Ad))
 (AJ^Ac^Ao^AB (Bu BI CO rfl T.Gac iB (AV (Af J0 Ro rfl T.Gab iD (AV (A8 hr (dv 0) Ad) Ae)) Ae))^AB (Bu BI CO rfl T.Gac iB (AV (Tp [("_law_ties":Str),("_law_pair_here":Str)] [P3 1,m_] (Bk (Af (Jy rfl) Rm rfl T.Gab iD (AV (dv 1) Ae))) (Ap (i:=1) (show fk [("_law_ties":Str),("_law_pair_here":Str)] by decide +kernel) rfl (eC rfl)) CZ (BL Ba B3 (dv 1)^Ao^AB (Xb hr (dv 0)^dv 1) AQ)^by kernel_rfl) Ae)) AQ))) Pm
omit A in
def L_:AX ["_law_a","_law_b"] ["_law_a","_law_b"]^AI HJ:=by walk_at "s"
def MZ:O7 P w K mg base:=A.got A.h__law_pair λT F m b=>Fh F L_ (λhr=>(AJ^Ac^Ao^AB (Af (G6 rfl) QY rfl T.Gah boot_min (AV (dv 0)^AV (dv 1) Ae))^AB (Af (G7 rfl) QZ rfl T.Gak boot_max (AV (dv 0)^AV (dv 1) Ae)) AQ)) SK
omit A in
def lj:AX ["_law_state","_law_deed_here","_law_pair_here"] ["_law_state","_law_deed_here"]^AI LD:=by walk_at "s"
def P6:Tg P w K mg base:=A.got A.h__law_do λT F m b=>have lm:=MZ A;Fh F lj (λhr=>(AF (BC (Aj CT Ep (AW AN Ag (dv 1) AG) Ad^An _) (AJ^By^Of PySem.F.plainAttrs_list PySem.F.slot_list_append PySem.F.type_list_append B4 KC (A8 hr (dv 0) Ad)^AB (AW AN Ag (dv 1) AG) AQ) Al)
 (AF (BC (Aj CT Ep (AW AN Ag (dv 1) AG) Ad^An _) (AF (By^Of PySem.F.plainAttrs_list PySem.F.slot_list_remove PySem.F.type_list_remove (LI hr) Yb (A8 hr (dv 0) Ad)^AB (AW AN Ag (dv 1) AG) AQ)
 (AJ (EI fQ rfl (Jr (QP (QT rfl) Xo rfl T.Gai boot_list (AV (A8 hr (dv 0) Ad) Ae))) (Ap (i:=2) lj.nd rfl (eC rfl)) (AJ^BC (Aj (U_ hr) KA (AW AN Ag (dv 1) AG) (dv 2)^by with_unfolding_all rfl) (AJ^By^Of PySem.F.plainAttrs_dict PySem.F.slot_dict_pop PySem.F.type_dict_pop (RF hr) V_ (A8 hr (dv 0) Ad)^AB (dv 2) AQ) Al)))) Al)
 (AF (BC (Aj CT Ep (AW AN Ag (dv 1) AG) Ad^An _) (AJ^XX hr (A8 hr (dv 0) Ad) (cg hr lm^AC (AT^AW AN Ag (dv 1) AG)^AC (AT^AW AN Ag (dv 1) AG) AO)^AW AN Ag (dv 1) AG) Al)
 (AJ^BC (Aj CT Ep (AW AN Ag (dv 1) AG) Ad^An _) (AJ^By^Of PySem.F.plainAttrs_dict PySem.F.slot_dict_pop PySem.F.type_dict_pop (RF hr) V_ (A8 hr (dv 0) Ad)^AB (cg hr lm^AC (AT^AW AN Ag (dv 1) AG)^AC (AT^AW AN Ag (dv 1) AG) AO) AQ) Al))))) Wd
omit A in
def lr:AX ["self","net","before"] ["self","net"]^AI C7:=by walk_at "s"
def Bi:HA P w K mg base C_Keeper:=A.gotM A.m_Keeper_turn_to λT F=>have lw:=OA A;have lz:=P4 A;TC F lr (λhr=>(AF (Ak (i:=2) lr.nd rfl (eC rfl) (BY A.cl_Keeper A.na_Keeper_kept^dv 0))
 (AF (Jn A.cl_Keeper A.na_Keeper_whole (dv 0)^dv 1)
 (AF (Jn A.cl_Keeper A.na_Keeper_kept (dv 0)^cg hr lz^AC (AT^dv 1)^AC (AT^BY A.cl_Keeper A.na_Keeper_times^dv 0) AO)
 (AJ^Ac^Ao^AB (Ei^cg hr lw^AC (AT^BY A.cl_Keeper A.na_Keeper_kept^dv 0)^AC (AT^dv 2) AO)^AB (Ei^cg hr lw^AC (AT^dv 2)^AC (AT^BY A.cl_Keeper A.na_Keeper_kept^dv 0) AO) AQ))))) SF
omit A in
def I_:AX ["self","name"] ["self","name"]^AI E3:=by walk_at "s"
def JX:Kv P w K mg base C_Keeper:=A.gotM A.m_Keeper_come λT F=>have l0:=Bi A;by
 let#[_,Gad]:=T.Gad;exact TC F I_ (λhr=>(AF (BC (Aj (U_ hr) KA (dv 1) (AW AN Ag (BY A.cl_Keeper A.na_Keeper_whole^dv 0) AG)^by with_unfolding_all rfl) (AJ DL) Al)
 (AF (BC (Aj CT Ep (Af BM DQ rfl T.Gaa PySem.boot_len (AV (AW AN Ag (BY A.cl_Keeper A.na_Keeper_whole^dv 0) AG) Ae)) (Rb rfl Gad)^An _) (AJ DL) Al)
 (AJ^Ac^BN A.cl_Keeper l0 (hr.mono^by cbv) (dv 0)^AC (AT^Ao^AB (Bu BI CO rfl T.Gac iB (AV (Af QS Xn rfl T.Gab iD (AV (BL Ba B3 (AW AN Ag (BY A.cl_Keeper A.na_Keeper_whole^dv 0) AG)^Ao^AB (dv 1) AQ) Ae)) Ae))^AB (AW AN Ag (BY A.cl_Keeper A.na_Keeper_whole^dv 0) AG) AQ) AO)))) SU
omit A in
def En:AX ["self","name"] ["self","name"]^AI Cd:=by walk_at "s"
def Bw:Fc P w K mg base C_Keeper:=A.gotM A.m_Keeper_ask_place λT F=>TC F En (λhr=>(AJ^BC (Aj (C9 hr) KA (dv 1) (AW AN Ag (BY A.cl_Keeper A.na_Keeper_whole^dv 0) AG)^by with_unfolding_all rfl) (AJ DL) Al)) UW
omit A in
def KR:AX ["self","a","b"] ["self","a","b"]^AI Fx:=by walk_at "s"
def E6:NM P w K mg base C_Keeper:=A.gotM A.m_Keeper_far λT F=>have l7:=Bw A;have l8:=O0 A;TC F KR (λhr=>(AF (By^BN A.cl_Keeper l7 (hr.mono^by cbv) (dv 0)^AC (AT^dv 1) AO)
 (AF (By^BN A.cl_Keeper l7 (hr.mono^by cbv) (dv 0)^AC (AT^dv 2) AO)
 (AJ^Ac^cg hr l8^AC (AT^BY A.cl_Keeper A.na_Keeper_kept^dv 0)^AC (AT^dv 1)^AC (AT^dv 2) AO)))) SO
omit A in
def l9:AX ["self","name","places","ties"] ["self","name"]^AI HL:=by walk_at "s"
def Mc:O_ P w K mg base C_Keeper:=A.gotM A.m_Keeper_go λT F=>have l7:=Bw A;have l0:=Bi A;TC F l9 (λhr=>(AF (By^BN A.cl_Keeper l7 (hr.mono^by cbv) (dv 0)^AC (AT^dv 1) AO)
 (AF (Mu (i:=2) l9.nd rfl (eC rfl) rfl [("name":Str),("place":Str)] [P3 1,m_] (Bk^AW AN Ag (BY A.cl_Keeper A.na_Keeper_whole^dv 0) AG) (λ_ _ _ _ _=>(Ap (i:=1) (show fk [("name":Str),("place":Str)] by decide +kernel) rfl (eC rfl))) (λ_ _ _ _ _=>(Eh^Aj U9 Z2 (dv 1) (dv 0)^An _)) (λ_ _ _ _ _=>(dv 1)) (by kernel_rfl))
 (AF (Mu (i:=3) l9.nd rfl (eC rfl) rfl [("name":Str),("tie":Str)] [P3 1,m_] (Bk^AW AN Ag (BY A.cl_Keeper A.na_Keeper_whole^dv 0) AG) (λ_ _ _ _ _=>(Ap (i:=1) (show fk [("name":Str),("tie":Str)] by decide +kernel) rfl (eC rfl))) (λ_ _ _ _ _=>(Eh^Aj (C9 hr) KA (dv 0) (Vw Y1 V9 (dv 1) Mx^Mw AG)^by with_unfolding_all rfl)) (λ_ _ _ _ _=>(dv 1)) (by kernel_rfl))
 (AJ^Ac^BN A.cl_Keeper l0 (hr.mono^by cbv) (dv 0)^AC (AT^Ao^AB (Bu BI CO rfl T.Gac iB (AV (dv 2) Ae))^AB (Bu BI CO rfl T.Gac iB (AV (dv 3) Ae)) AQ) AO))))) Wb
omit A in
def DU:AX ["self","a","b"] ["self","a","b"]^AI CB:=by walk_at "s"
def B_:Dv P w K mg base C_Keeper:=A.gotM A.m_Keeper_ties_between λT F=>have l7:=Bw A;TC F DU (λhr=>(AF (By^BN A.cl_Keeper l7 (hr.mono^by cbv) (dv 0)^AC (AT^dv 1) AO)
 (AF (By^BN A.cl_Keeper l7 (hr.mono^by cbv) (dv 0)^AC (AT^dv 2) AO)
 (AJ^Ac^Tp [("a":Str),("b":Str),("tie":Str)] [P3 1,P3 2,m_] (Bk^AW AN Ag (BY A.cl_Keeper A.na_Keeper_whole^dv 0) AG) (Ap (i:=2) (show fk [("a":Str),("b":Str),("tie":Str)] by decide +kernel) rfl (eC rfl)) (Eh^Aj (MS hr) Rp (Vw Y1 V9 (dv 2) Mx^Mw AG) (Ao^AB (Af (G6 rfl) QY rfl T.Gah boot_min (AV (dv 0)^AV (dv 1) Ae))^AB (Af (G7 rfl) QZ rfl T.Gak boot_max (AV (dv 0)^AV (dv 1) Ae)) AQ)^An _) (dv 2)^by kernel_rfl)))) Pj
omit A in
def l_:AX ["self","a","b","length","ties","others"] ["self","a","b","length"]^AI Fw:=by walk_at "s"
def Kg:NL P w K mg base C_Keeper:=A.gotM A.m_Keeper_lay λT F=>have mB:=B_ A;have l0:=Bi A;have lA:=MU A;have mC:=JR A;by
 let#[_,Gae]:=T.Gae;exact TC F l_ (λhr=>(AF (Ak (i:=4) l_.nd rfl (eC rfl) (BN A.cl_Keeper mB (hr.mono^by cbv) (dv 0)^AC (AT^dv 1)^AC (AT^dv 2) AO))
 (AF (BC (Aj CT Ep (dv 1) (dv 2)^An _) (AJ DL) Al)
 (AF (BC (DTW.dt^Mt (EH^QL^IN 4)^IM^Aj CT Ep (Af BM DQ rfl T.Gaa PySem.boot_len (AV (AW AN Ag (BY A.cl_Keeper A.na_Keeper_whole^dv 0) AG) Ae)) (Rb rfl Gae)^An _) (AJ DL) Al)
 (AF (Ak (i:=5) l_.nd rfl (eC rfl) (AW AN Ag (cg hr mC^AC (AT^BY A.cl_Keeper A.na_Keeper_whole^dv 0)^AC (E_^IN 4) AO) AG))
 (AJ^Ac^BN A.cl_Keeper l0 (hr.mono^by cbv) (dv 0)^AC (AT^cg hr lA^AC (AT^BY A.cl_Keeper A.na_Keeper_whole^dv 0)^AC (E_^BL Ba B3 (dv 5)^Ao^AB (Ao^AB (Af (G6 rfl) QY rfl T.Gah boot_min (AV (dv 1)^AV (dv 2) Ae))^AB (Af (G7 rfl) QZ rfl T.Gak boot_max (AV (dv 1)^AV (dv 2) Ae))^AB (dv 3) AQ) AQ) AO) AO)))))) UV
omit A in
def mE:AX ["self","a","b","ties"] ["self","a","b"]^AI CK:=by walk_at "s"
def Du:ET P w K mg base C_Keeper:=A.gotM A.m_Keeper_tie_between λT F=>have mB:=B_ A;TC F mE (λhr=>(AF (Ak (i:=3) mE.nd rfl (eC rfl) (BN A.cl_Keeper mB (hr.mono^by cbv) (dv 0)^AC (AT^dv 1)^AC (AT^dv 2) AO))
 (AF (BC (EH^QL^IN 3) (AJ DL) Al)
 (AJ^Ac^AW AN Ag (IN 3) AG)))) SH
omit A in
def I0:AX ["self","a","b"] ["self","a","b"]^AI Ez:=by walk_at "s"
def JW:Ku P w K mg base C_Keeper:=A.gotM A.m_Keeper_take λT F=>have mF:=Du A;have l0:=Bi A;have mC:=JR A;TC F I0 (λhr=>(AJ^Ac^BN A.cl_Keeper l0 (hr.mono^by cbv) (dv 0)^AC (AT^cg hr mC^AC (AT^BY A.cl_Keeper A.na_Keeper_whole^dv 0)^AC (E_^Bh^AB (BN A.cl_Keeper mF (hr.mono^by cbv) (dv 0)^AC (AT^dv 1)^AC (AT^dv 2) AO) AQ) AO) AO)) SJ
omit A in
def L8:AX ["_law_keeper","_law_deed_here"] ["_law_keeper","_law_deed_here"]^AI HH:=by walk_at "s"
def MX:O5 P w K mg base C_Keeper:=A.got A.h__law_told λT F m b=>have mG:=JX A;have mH:=E6 A;have mI:=Mc A;have mJ:=Kg A;have mL:=JW A;Fh F L8 (λhr=>(AF (BC (Aj CT Ep (AW AN Ag (dv 1) AG) Ad^An _) (AJ^Ac^BN A.cl_Keeper mG (hr.mono^by cbv) (dv 0)^AC (AT^AW AN Ag (dv 1) AG) AO) Al)
 (AF (BC (Aj CT Ep (AW AN Ag (dv 1) AG) Ad^An _) (AJ^Ac^BN A.cl_Keeper mI (hr.mono^by cbv) (dv 0)^AC (AT^AW AN Ag (dv 1) AG) AO) Al)
 (AF (BC (Aj CT Ep (AW AN Ag (dv 1) AG) Ad^An _) (AJ^Ac^BN A.cl_Keeper mJ (hr.mono^by cbv) (dv 0)^AC (AT^AW AN Ag (dv 1) AG)^AC (AT^AW AN Ag (dv 1) AG)^AC (AT^AW AN Ag (dv 1) AG) AO) Al)
 (AF (BC (Aj CT Ep (AW AN Ag (dv 1) AG) Ad^An _) (AJ^Ac^BN A.cl_Keeper mL (hr.mono^by cbv) (dv 0)^AC (AT^AW AN Ag (dv 1) AG)^AC (AT^AW AN Ag (dv 1) AG) AO) Al)
 (AJ^Ac^BN A.cl_Keeper mH (hr.mono^by cbv) (dv 0)^AC (AT^AW AN Ag (dv 1) AG)^AC (AT^AW AN Ag (dv 1) AG) AO)))))) SG
omit A in
def mM:AX ["_law_feed_here","_law_state","_law_pool","_law_sort","_law_places_here","_law_new","_law_way","_law_pair_here","_law_side","_law_a","_law_b"] ["_law_feed_here","_law_state","_law_pool","_law_sort"]^AI HK:=by walk_at "s"
def Mb:O9 P w K mg base:=A.got A.h__law_deed λT F m b=>have mN:=JV A;have lU:=Bs A;Fh F mM (λhr=>(AF (Ak (i:=4) mM.nd rfl (gc rfl) (A8 hr (dv 1) Ad))
 (AF (Mu (i:=5) mM.nd rfl (eC rfl) rfl [("_law_places_here":Str),("_law_name":Str)] [P3 4,m_] (Bk^dv 2) (λ_ _ _ _ _=>(Ap (i:=1) (show fk [("_law_places_here":Str),("_law_name":Str)] by decide +kernel) rfl (eC rfl))) (λ_ _ _ _ _=>(Eh^Aj (C9 hr) KA (dv 1) (dv 0)^by with_unfolding_all rfl)) (λ_ _ _ _ _=>(dv 1)) (by kernel_rfl))
 (AF (Ak (i:=6) mM.nd rfl (eC rfl) (cg hr lU^AC (Bl 0)^AC (AT AG) AO))
 (AF (BC (DTW.dt^Mt (Aj (ZP hr) bn (dv 5) (Bh AQ)^An _)^IM^DTW.dt^LV (Aj (JQ hr) O1 (dv 6) AG^An _)^G4^Aj (JQ hr) O1 (Af BM DQ rfl T.Gaa PySem.boot_len (AV (dv 4) Ae)) AG^An _) (AJ^Ac^Ao^AB Ad^AB (AW AN Ag (dv 5)^cg hr lU^AC (Bl 0)^AC (AT (Af BM DQ rfl T.Gaa PySem.boot_len (AV (dv 5) Ae))) AO) AQ) Al)
 (AF (BC (Aj CT Ep (dv 6) AG^An _) (AJ^Ac^Ao^AB Ad^AB (AW AN Ag (dv 4)^cg hr lU^AC (Bl 0)^AC (AT (Af BM DQ rfl T.Gaa PySem.boot_len (AV (dv 4) Ae))) AO) AQ) Al)
 (AF (BC (DTW.dt^Mt (Aj CT Ep (dv 6) AG^An _)^IM^Aj (ZQ hr) bo (A8 hr (dv 1) Ad) Vz^An _) (AF (Ak (i:=7) mM.nd rfl (eC rfl) (AW AN Ag (Af (Jy rfl) Rm rfl T.Gab iD (AV (A8 hr (dv 1) Ad) Ae))^cg hr lU^AC (Bl 0)^AC (AT (Af TU Z4 rfl T.Gaa PySem.boot_len (AV (A8 hr (dv 1) Ad) Ae))) AO))
 (AF (Ak (i:=8) mM.nd rfl (eC rfl) (cg hr lU^AC (Bl 0)^AC (AT AG) AO))
 (AJ^Ac^Ao^AB Ad^AB (AW AN Ag (dv 7)^dv 8)^AB (AW AN Ag (dv 7)^BL F6 J9 AG^dv 8) AQ))) Al)
 (AF (Ak (i:=9) mM.nd rfl (eC rfl) (cg hr lU^AC (Bl 0)^AC (AT (Af BM DQ rfl T.Gaa PySem.boot_len (AV (dv 4) Ae))) AO))
 (AF (Ak (i:=10) mM.nd rfl (eC rfl) (BL DX G9 (BL Ba B3 (BL Ba B3 (dv 9) AG)^cg hr lU^AC (Bl 0)^AC (AT^BL F6 J9 (Af BM DQ rfl T.Gaa PySem.boot_len (AV (dv 4) Ae)) AG) AO) (Af BM DQ rfl T.Gaa PySem.boot_len (AV (dv 4) Ae))))
 (AJ^Ac^Ao^AB Ad^AB (AW AN Ag (dv 4)^dv 9)^AB (AW AN Ag (dv 4)^dv 10)^AB (cg hr mN^AC (Bl 0)^AC (AT^YX (Aj (JQ hr) O1 (dv 3) AG^An _) (dv 3)^cg hr lU^AC (Bl 0)^AC (AT AG) AO) AO) AQ)))))))))) SS
omit A in
def Hr:AX ["self"] ["self"]^AI D4:=by walk_at "s"
def Hw:KG P w K mg base C_Keeper:=A.gotM A.m_Keeper_lines λT F=>have mO:=VC A;TC F Hr (λhr=>(AJ^Ac^cg hr mO^AC (AT^BY A.cl_Keeper A.na_Keeper_whole^dv 0) AO)) Pp
omit A in
def KQ:AX ["self"] ["self"]^AI Fv:=by walk_at "s"
def Kf:NK P w K mg base C_Keeper:=A.gotM A.m_Keeper_net λT F=>TC F KQ (λhr=>(AJ^Ac^BY A.cl_Keeper A.na_Keeper_whole^dv 0)) UU
omit A in
def Iz:AX ["self"] ["self"]^AI Ey:=by walk_at "s"
def D8:Kt P w K mg base C_Keeper:=A.gotM A.m_Keeper_thin λT F=>TC F Iz (λhr=>(AJ^Ac^BY A.cl_Keeper A.na_Keeper_kept^dv 0)) SI
omit A in
def mP:AX ["_law_keeper","_law_state","_law_times_here","_law_net","_law_lines","_law_kept"] ["_law_keeper","_law_state","_law_times_here"]^AI Et:=by walk_at "s"
def JS:Kp P w K mg base C_Keeper:=A.got A.h__law_stands λT F m b=>have mQ:=Hw A;have mR:=Kf A;have mS:=D8 A;have mT:=JU A;have mU:=Hv A;Fh F mP (λhr=>(AF (Ak (i:=3) mP.nd rfl (eC rfl) (Og mT (hr.mono^by cbv) rfl (AC (AT^dv 1) AO)))
 (AF (BC (DTW.dt^LV (Aj U9 Z2 (Af (Ek hr) NC rfl T.Gag boot_repr (AV (EJ A.cl_Keeper mR (hr.mono^by cbv)^dv 0) Ae)) (Af (Ek hr) NC rfl T.Gag boot_repr (AV (dv 3) Ae))^An _)^G4^Aj U9 Z2 (Af (Ek hr) NC rfl T.Gag boot_repr (AV (EJ A.cl_Keeper mS (hr.mono^by cbv)^dv 0) Ae)) (Af (Ek hr) NC rfl T.Gag boot_repr (AV (cg hr mU^AC (AT^dv 3)^AC (AT^dv 2) AO) Ae))^An _) (AJ^Ac HY) Al)
 (AF (Dh (i:=4) mP.nd rfl (eC rfl) (EJ A.cl_Keeper mQ (hr.mono^by cbv)^dv 0))
 (AF (Ak (i:=5) mP.nd rfl (eC rfl) (Bu GK Xp rfl T.Gai boot_list (AV (IN 4) Ae)))
 (AF (LW 4 PySem.F.plainAttrs_list PySem.F.slot_list_append PySem.F.type_list_append B4 KC (pv 4)^AB Ad AQ)
 (AF (Zn 4 PySem.F.plainAttrs_list PySem.F.slot_list_reverse PySem.F.type_list_reverse P8 Z0^pv 4)
 (AJ^Ac^Zs (M6 (MS hr) Rp (EJ A.cl_Keeper mQ (hr.mono^by cbv)^dv 0) (dv 5)^An _)^Zq^M6 CT Ep (Af BM DQ rfl T.Gaa PySem.boot_len (AV (dv 5) Ae)) (BL Ba B3 (Af BM DQ rfl T.Gaa PySem.boot_len (AV (AW AN Ag (dv 3) AG) Ae)) (Af BM DQ rfl T.Gaa PySem.boot_len (AV (AW AN Ag (dv 3) AG) Ae)))^An _)))))))) Ny
omit A in
def mV:AX ["_law_feed_here","_law_keeper","_law_thin","_law_a","_law_due"] ["_law_feed_here","_law_keeper"]^AI C6:=by walk_at "s"
def F8:G_ P w K mg base C_Keeper:=A.got A.h__law_far_right λT F m b=>have mH:=E6 A;have mS:=D8 A;have lU:=Bs A;have lg:=E5 A;Fh F mV (λhr=>(AF (Ak (i:=2) mV.nd rfl (eC rfl) (EJ A.cl_Keeper mS (hr.mono^by cbv)^dv 1))
 (AF (BC (Aj (MS hr) Rp (AW AN Ag (dv 2) AG) (Ao AQ)^An _) (AJ^Ac HY) Al)
 (AF (Ak (i:=3) mV.nd rfl (gc rfl) (AW AN Ag (AW AN Ag (dv 2) AG)^cg hr lU^AC (Bl 0)^AC (AT (Af BM DQ rfl T.Gaa PySem.boot_len (AV (AW AN Ag (dv 2) AG) Ae))) AO))
 (AF (Ak (i:=4) mV.nd rfl (gc rfl) (cg hr lg^AC (E_^AW AN Ag (dv 2) AG)^AC (AT^dv 3) AO))
 (AJ^Ac^M6 (MS hr) Rp (Tp [("_law_a":Str),("_law_keeper":Str),("_law_b":Str)] [P3 3,P3 1,m_] (Bk^AW AN Ag (dv 2) AG) (Ap (i:=2) (show fk [("_law_a":Str),("_law_keeper":Str),("_law_b":Str)] by decide +kernel) rfl (eC rfl)) CZ (BN A.cl_Keeper mH (hr.mono^by cbv) (dv 1)^AC (AT^dv 0)^AC (AT^dv 2) AO)^by kernel_rfl) (Tp [("_law_due":Str),("_law_b":Str)] [P3 4,m_] (Bk^AW AN Ag (dv 2) AG) (Ap (i:=1) (show fk [("_law_due":Str),("_law_b":Str)] by decide +kernel) rfl (eC rfl)) CZ (Ra hr (dv 0)^dv 1)^by kernel_rfl)^An _)))))) SR
omit A in
def FN:AX ["self","times"] ["self","times"]^AI A6:=by walk_at "s"
def FQ:GR P w K mg base C_Keeper:=A.gotC λT F=>TC F FN (λhr=>(AF (Jn A.cl_Keeper A.na_Keeper_times (dv 0)^dv 1)
 (AF (Jn A.cl_Keeper A.na_Keeper_whole (dv 0)^Ao^AB (Ao AQ)^AB (Ao AQ) AQ)
 (AJ^Jn A.cl_Keeper A.na_Keeper_kept (dv 0)^Ao^AB (Ao AQ)^AB (Ao AQ) AQ)))) SQ
end
section
variable {P:Program}{w:World}{K:Frag}{mg:Str->q_ Value}{base:Heap}
def MA:AX ["_law_script"] ["_law_script"]^AI D1:=by constructor <;>first|rfl|decide +kernel
def Ma{f:Ch}{fd:fL}(T:Txt K mg)(F:Fun K "_law_feed" "_law_feed" D1 f fd):FnOk P w K mg base Fi 1 f fd ["_law_script"]^L3 K:=by
 refine F.ok MA (λvs H Q E h=>?_) λcdv A outer s H vs Q E hr h=>?_
 .let#[a,ns,rfl,_]:=h
  rfl
 .let#[a,ns,rfl,#[hl,hS],q]:=h
  refine#[_,Cv^FP^Pz^Br (Gm GK rfl T.Gai boot_list (Br (N8 sl_list (pv 0) Q7^Q6 Az) Cf))^Br Az^Br Az Cf,?_];refine#[_,rfl,63,rfl,a,_,rfl,hS,λp hp=>#[p,_,rfl,.inl^SqL.of AM,λc hc=>#[by show 3<=sizeLine;decide,λg hg=>?_]]];rw[bh hl]at hg ⊢;have ncg:c≠g:=λz=>by rw[←z,AM]at hg;cases hg
  exact q c g _ ncg (by rw[AK ncg,AM]) AM
def mW:AX ["_law_script","_law_feed_here","_law_times_here","_law_pool","_law_sort","_law_keepers","_law_states","_law_k","_law_at","_law_deed_here","_law_told_here","_law_j"] ["_law_script"]^AI JD:=by walk_at "s"
def ZU{h:eK}{C_Keeper f ff:Ch}{fd fdf:fL}(A:Ctx P w K mg base h C_Keeper)(Gf:FnOk P w K mg base Fi 1 ff fdf ["_law_script"]^L3 K)(mf:mg "_law_feed"=P3^.ref ff)(kf:keepIn K^.ref ff=n_)(bf:Binds K fdf ["_law_script"] [])(F:Fun K "law" "law" JD f fd):FnOk P w K mg base Fi 9 f fd ["_law_script"]^Np K:=by
 have mX:=FQ A;have mY:=Mb A;have mZ:=P6 A;have ma:=F8 A;have lU:=Bs A;have md:=JT A;have me:=JS A;have mh:=Kb A;have mi:=MX A;have T:=A.T
 exact bX (n0:=3000) F mW rfl (by cbv) (λcdv A0 outer s H E hr=>D7 (i:=1) mW.nd rfl (eC rfl) (MP Gf (hr.mono^by cbv) rfl mf kf bf .nil JO (Br (pv 0) Cf)))
  (λcdv A0 outer s H E hr=>(AF (Ak (i:=2) mW.nd rfl (eC rfl) (Bh^AB (cg hr mh^AC (Bl 1) AO)^AB (cg hr mh^AC (Bl 1) AO) AQ))
 (AF (Ak (i:=3) mW.nd rfl (eC rfl) (cg hr md^AC (Bl 1)^AC (AT AG) AO))
 (AF (Ak (i:=4) mW.nd rfl (eC rfl) (cg hr lU^AC (Bl 1)^AC (AT AG) AO))
 (AF (Ak (i:=5) mW.nd rfl (eC rfl) (Bh^AB (RZ mX (hr.mono^by cbv) rfl (AC (AT^AW AN Ag (dv 2) AG) AO))^AB (RZ mX (hr.mono^by cbv) rfl (AC (AT^AW AN Ag (dv 2) AG) AO)) AQ))
 (AF (Ak (i:=6) mW.nd rfl (eC rfl) (Bh^AB (Od (Ei^Bh AQ)^Ei Oc)^AB (Od (Ei^Bh AQ)^Ei Oc) AQ))
 (AF (EI fQ rfl (LY rfl T.Gaj (AV (BL Ba B3 AG^cg hr lU^AC (Bl 1)^AC (AT AG) AO) Ae)) (Ap (i:=7) mW.nd rfl (eC rfl)) (AF (Ak (i:=8) mW.nd rfl (eC rfl) (cg hr lU^AC (Bl 1)^AC (AT AG) AO))
 (AF (Ak (i:=9) mW.nd rfl (eC rfl) (Og mY (hr.mono^by cbv) rfl (AC (Bl 1)^AC (AT^AW AN Ag (dv 6)^dv 8)^AC (AT^dv 3)^AC (AT^dv 4) AO)))
 (AF (Ak (i:=10) mW.nd rfl (eC rfl) (cg hr mi^AC (AT^AW AN Ag (dv 5)^dv 8)^AC (AT^dv 9) AO))
 (AF (By^cg hr mZ^AC (AT^AW AN Ag (dv 6)^dv 8)^AC (AT^dv 9) AO)
 (AF (By^Of PySem.F.plainAttrs_list PySem.F.slot_list_append PySem.F.type_list_append B4 KC (AW AN Ag (dv 10) AG)^AB (Ao^AB Ad^AB Ad^AB AG AQ) AQ)
 (AF (By^Zr PySem.F.plainAttrs_list PySem.F.slot_list_clear PySem.F.type_list_clear VE Z6^AW AN Ag (dv 10) AG)
 (AF (EI fQ rfl (Jr^Bh^AB (BL F6 J9 AG^dv 8)^AB (dv 8) AQ) (Ap (i:=11) mW.nd rfl (eC rfl)) (AJ^BC (EH^FY^cg hr me^AC (AT^AW AN Ag (dv 5)^dv 11)^AC (AT^AW AN Ag (dv 6)^dv 11)^AC (AT^AW AN Ag (dv 2)^dv 11) AO) (AJ^Ac HY) Al))
 (AJ^BC (DTW.dt^LV (EH^FY^cg hr ma^AC (Bl 1)^AC (AT^AW AN Ag (dv 5)^BL F6 J9 AG^dv 8) AO)^G4^EH^FY^cg hr ma^AC (Bl 1)^AC (AT^AW AN Ag (dv 5)^dv 8) AO) (AJ^Ac HY) Al)))))))))
 (AJ^Ac HY)))))))) (Pq^by cbv)
end
local macro_rules|`(tactic|walk_at "B")=>`(tactic|(intro _ _ _ _ _ _;exact dX λ_=>rfl))
def all_mk{l:PySem.W.OpenLaw}{w:eY}{K:Frag}{h:eK}{mg:Str->q_ Db}{fa C_Keeper:Ch}(hfa:mg "law"=P3^.ref fa)(A:C0 K mg h C_Keeper):∃fd:fL,(∀(s:Go) (v:Db),kC s fd #[[v],[]] [("_law_script",v)])/\∀base:eK,K.In base->base.Ns mainGlobals mg->FnOk l.prog w K mg base Fi 9 fa fd ["_law_script"]^Np K:=by
 let#[ff,ffd,mf,Ff]:=A.h__law_feed.fn A.X A.G;have bf:=Ff.binds (ps:=["_law_script"]) (by walk_at "B");let#[f,oc,od,an,sl,kV,dc,pm,cd,ct,a,l',c,k]:=A.h_law;cases hfa.symm.trans^mg_of A.X A.G a;exact#[fnOf "law" "law" (Bz JD) (BQ JD) (AI JD) .none kV dc pm an cd ct,λs v=>.of_eq rfl,λbase _ _=>ZU A (Ma A.T Ff) mf Ff.kp bf^Mn (st:=JD) l' c k]
def walk{l:PySem.W.OpenLaw}{q:eT}{loose:p_ Str}{XP:(Str->q_ Db)->eK->Prop}{YP:eY->eK->Prop}{d:DefRec}{K:Params->Frag}(hn:l.most=P3 63)(hdf:d.params.defaults=[])
  (hY:∀(w:eY) (h:eK),YP w h->(K w.params).In h)
  (F:∀(w:eY) (mg:Str->q_ Db) (fa:Ch) (h:eK),(K w.params).In h->h.Ns mainGlobals mg->mg d.name=P3^.ref fa->
   ∃fd:fL,(∀(s:Go) (u:Db),kC s fd #[[u],[]] [("_law_script",u)])/\∀base:eK,(K w.params).In base->base.Ns mainGlobals mg->FnOk l.prog w (K w.params) mg base Fi 9 fa fd ["_law_script"]^Np^K w.params):
  PySem.W.WalkO q loose XP YP l.row.toRowW d [] (λf vs=>PySem.call f vs):=
 L2.Qj (n:=63) (k:=9) (x:="_law_script") (CX:=λ_=>Fi) (sp:=λw=>Np^K w.params) hn (by cbv) hdf #[rfl,by cbv,by cbv,rfl] hY F (λ_ _ a ns hl _ hS=>#[a,ns,rfl,#[hl,hS],λ_=>rfl]) λ_ _ _ _ _ z=>z
end K70
end _p
namespace PySem.W.Fast
theorem tw8526644571178271869:True:=⟨⟩
theorem tw4950948536239069007:True:=⟨⟩
theorem tw13653499398240117222:True:=⟨⟩
theorem tw2351796507531457017:True:=⟨⟩
theorem tw11869995011269337768:True:=⟨⟩
theorem tw7326431655376221107:True:=⟨⟩
theorem tw7580559452495010301:True:=⟨⟩
theorem tw8906794486628288104:True:=⟨⟩
theorem tw13298468870945805747:True:=⟨⟩
theorem tw15027951124414143051:True:=⟨⟩
theorem tw9392922701064758650:True:=⟨⟩
theorem tw1986351873874932473:True:=⟨⟩
theorem tw14530497666981411930:True:=⟨⟩
theorem tw6298788591861727184:True:=⟨⟩
theorem tw2543984747121805207:True:=⟨⟩
theorem tw2100438857362917585:True:=⟨⟩
theorem tw15656280266786122976:True:=⟨⟩
theorem tw13306197943863109593:True:=⟨⟩
theorem tw76466958882760889:True:=⟨⟩
theorem tw53497139325281288:True:=⟨⟩
theorem tw3452032109631458741:True:=⟨⟩
theorem tw9900481820847645861:True:=⟨⟩
theorem tw16687723347781827531:True:=⟨⟩
theorem tw963316777154974175:True:=⟨⟩
theorem tw9563468235341742880:True:=⟨⟩
theorem tw14573152208322653810:True:=⟨⟩
theorem tw17168442941138795906:True:=⟨⟩
theorem tw5830613215476412104:True:=⟨⟩
theorem tw17459717331191955699:True:=⟨⟩
theorem tw16095524363059191499:True:=⟨⟩
theorem tw11697342095890373968:True:=⟨⟩
theorem tw291931436090497017:True:=⟨⟩
theorem tw15127783538129918305:True:=⟨⟩
theorem tw9465021289416086931:True:=⟨⟩
theorem tw7372303821607065058:True:=⟨⟩
theorem tw13308373941807338039:True:=⟨⟩
theorem tw8830852021661342484:True:=⟨⟩
theorem tw2808261982012482842:True:=⟨⟩
theorem tw7740788180770831792:True:=⟨⟩
theorem tw175462391467953243:True:=⟨⟩
theorem tw13182576997200730573:True:=⟨⟩
theorem tw14624779125598209940:True:=⟨⟩
theorem tw3578220052433192079:True:=⟨⟩
theorem tw17116837476716450473:True:=⟨⟩
theorem tw1696564312691098735:True:=⟨⟩
theorem tw17949160705751380844:True:=⟨⟩
theorem tw8098961771335492723:True:=⟨⟩
theorem tw3286816325269224167:True:=⟨⟩
theorem tw8261416455127001841:True:=⟨⟩
theorem tw4342241630486872955:True:=⟨⟩
theorem tw16142757024726996313:True:=⟨⟩
theorem tw29216426766503745:True:=⟨⟩
theorem tw96564518136135873:True:=⟨⟩
theorem tw14725938052103796644:True:=⟨⟩
theorem tw12324111861323268257:True:=⟨⟩
theorem tw1161817997466054428:True:=⟨⟩
theorem tw992883955404055804:True:=⟨⟩
theorem tw13197954138374165512:True:=⟨⟩
theorem tw16541863935250707370:True:=⟨⟩
theorem tw7181398126825301236:True:=⟨⟩
theorem tw12413269620461504468:True:=⟨⟩
theorem tw15906845219884930720:True:=⟨⟩
theorem tw11303783894503510327:True:=⟨⟩
theorem tw6673899913368770456:True:=⟨⟩
theorem tw15129322012152970246:True:=⟨⟩
theorem tw13877307733964579609:True:=⟨⟩
theorem tw18323988893101637402:True:=⟨⟩
theorem tw13807836811574588983:True:=⟨⟩
theorem tw10105101030302632020:True:=⟨⟩
theorem tw5607057295643132734:True:=⟨⟩
theorem tw6391429526019439901:True:=⟨⟩
theorem tw17140405401268087526:True:=⟨⟩
theorem tw12865282452604766981:True:=⟨⟩
theorem tw8028601063500317837:True:=⟨⟩
theorem tw15504369198204090151:True:=⟨⟩
theorem tw7479581936107847594:True:=⟨⟩
theorem tw11778694025519639732:True:=⟨⟩
theorem tw6964398177373578869:True:=⟨⟩
theorem tw435070284142667493:True:=⟨⟩
theorem tw6438761370704969932:True:=⟨⟩
theorem tw11246171690617729235:True:=⟨⟩
theorem tw9448379456584129083:True:=⟨⟩
theorem tw14003064932341231016:True:=⟨⟩
theorem tw8785729974584629703:True:=⟨⟩
theorem tw13437876332338371514:True:=⟨⟩
theorem tw13810808425060462346:True:=⟨⟩
theorem tw17128921026027151699:True:=⟨⟩
theorem tw6740685595935136867:True:=⟨⟩
theorem tw527414753500673809:True:=⟨⟩
theorem tw7803550216890516293:True:=⟨⟩
theorem tw2869626619126844280:True:=⟨⟩
theorem tw1681918281335509844:True:=⟨⟩
theorem tw15826853059439392521:True:=⟨⟩
theorem tw11701424039906506107:True:=⟨⟩
theorem tw11495742054607857013:True:=⟨⟩
theorem tw9346378706171236798:True:=⟨⟩
theorem tw16275801081739500606:True:=⟨⟩
theorem tw15125714989359712093:True:=⟨⟩
theorem tw16793674003741655395:True:=⟨⟩
theorem tw2589480331691173381:True:=⟨⟩
theorem tw10319322534552496182:True:=⟨⟩
theorem tw1190629061173298828:True:=⟨⟩
theorem tw12963939985785772558:True:=⟨⟩
theorem tw11362789971087122402:True:=⟨⟩
theorem tw16149410226755731551:True:=⟨⟩
theorem tw11430522520528941493:True:=⟨⟩
theorem tw9937627206221303040:True:=⟨⟩
theorem tw1387032755949920954:True:=⟨⟩
theorem tw15313147210157445774:True:=⟨⟩
theorem tw8389842451368221600:True:=⟨⟩
theorem tw16934531607374837532:True:=⟨⟩
theorem tw18200629289416225512:True:=⟨⟩
theorem tw17267237958290063315:True:=⟨⟩
theorem tw2025402202211607092:True:=⟨⟩
theorem tw565083070157211983:True:=⟨⟩
theorem tw5385293666093436812:True:=⟨⟩
theorem tw7491256512664374996:True:=⟨⟩
theorem tw993554194002079344:True:=⟨⟩
theorem tw6048357326680736676:True:=⟨⟩
theorem tw13762144317752488622:True:=⟨⟩
theorem tw18378485792069755026:True:=⟨⟩
theorem tw7545869614497741908:True:=⟨⟩
theorem tw13933275997942336406:True:=⟨⟩
theorem tw331075734621085216:True:=⟨⟩
theorem tw4677521910493721884:True:=⟨⟩
theorem tw6138419735835000064:True:=⟨⟩
theorem tw13834834143046584021:True:=⟨⟩
theorem tw8724886769905368840:True:=⟨⟩
theorem tw11439099128793805603:True:=⟨⟩
theorem tw11162296072947353610:True:=⟨⟩
theorem tw10997536084690604393:True:=⟨⟩
theorem tw11736531129726830085:True:=⟨⟩
theorem tw2543785696398161189:True:=⟨⟩
theorem tw18370949338520973406:True:=⟨⟩
theorem tw2342856501118006221:True:=⟨⟩
theorem tw8274145459817200381:True:=⟨⟩
theorem tw17096252862359243616:True:=⟨⟩
theorem tw661024382200411192:True:=⟨⟩
theorem tw17307084380355653861:True:=⟨⟩
theorem tw3267665905432492569:True:=⟨⟩
theorem tw9133484017919788397:True:=⟨⟩
theorem tw13553610082515288806:True:=⟨⟩
theorem tw13696254076567780724:True:=⟨⟩
theorem tw15948397154519781028:True:=⟨⟩
theorem tw15113934998437011477:True:=⟨⟩
theorem tw5614185271038400058:True:=⟨⟩
theorem tw16239986291803006910:True:=⟨⟩
theorem tw1698922408535238481:True:=⟨⟩
theorem tw2580653733475726817:True:=⟨⟩
theorem tw16635144511212786542:True:=⟨⟩
theorem tw155490403581057733:True:=⟨⟩
theorem tw1857331525571717421:True:=⟨⟩
theorem tw3788790383125418515:True:=⟨⟩
theorem tw11162826511872351820:True:=⟨⟩
theorem tw966541938184788364:True:=⟨⟩
theorem tw14201119376490152428:True:=⟨⟩
theorem tw7065136681215121732:True:=⟨⟩
theorem tw17564481916578381556:True:=⟨⟩
theorem tw8534414756800815148:True:=⟨⟩
theorem tw8116796607446201220:True:=⟨⟩
theorem tw14350429282152749051:True:=⟨⟩
theorem tw16474362852694444325:True:=⟨⟩
theorem tw4395415362177026763:True:=⟨⟩
theorem tw16763381260890823831:True:=⟨⟩
theorem tw9893489714870848714:True:=⟨⟩
theorem tw5600882671173247171:True:=⟨⟩
theorem tw9068440340867306372:True:=⟨⟩
theorem tw3620463205992326406:True:=⟨⟩
theorem tw8158075609292272109:True:=⟨⟩
theorem tw15246178380737436843:True:=⟨⟩
theorem tw12092202259355973230:True:=⟨⟩
theorem tw16252770026471698744:True:=⟨⟩
theorem tw4317476760314147837:True:=⟨⟩
theorem tw14114469000838990099:True:=⟨⟩
theorem tw9846250133920446969:True:=⟨⟩
theorem tw17762496534795705792:True:=⟨⟩
theorem tw16837114769291833412:True:=⟨⟩
theorem tw11299106183760779825:True:=⟨⟩
theorem tw13049711673989678660:True:=⟨⟩
theorem tw10664313532165003318:True:=⟨⟩
theorem tw14861182643176955394:True:=⟨⟩
theorem tw7441292303424571311:True:=⟨⟩
theorem tw5336934554759970563:True:=⟨⟩
theorem tw9688775422633909255:True:=⟨⟩
theorem tw3887368144753901127:True:=⟨⟩
theorem tw10465490583118491540:True:=⟨⟩
theorem tw4409753326880489521:True:=⟨⟩
theorem tw5981256484479637784:True:=⟨⟩
theorem tw2326623315651692652:True:=⟨⟩
theorem tw13565421279489191355:True:=⟨⟩
theorem tw14622844665640032386:True:=⟨⟩
theorem tw829334909630685488:True:=⟨⟩
theorem tw13148889202392213764:True:=⟨⟩
theorem tw17383748088483486444:True:=⟨⟩
theorem tw5614582033064695815:True:=⟨⟩
theorem tw913953861867009893:True:=⟨⟩
theorem tw10160506798052892883:True:=⟨⟩
end PySem.W.Fast
open _p
open PySem.W
set_option maxRecDepth 100000 in
set_option maxHeartbeats 0 in
theorem PySem.Challenge.cw_thinnet_k70_two_keepers_holds : PySem.Challenge.rw_thinnet_k70_two_keepers.Holds := by
 w_on;o_law;k_head;(case hw=>w_witness2)
 k_fill
 refine K70.walk (l:=PySem.Challenge.rw_thinnet_k70_two_keepers) rfl rfl (λw h Y=>PySem.W.kIn_of Y) ?F
 case F =>
  intro w mg fa h KX G hmg
  refine' K70.all_mk (h:=h) hmg (K70.C0.mk KX G ?cK (L2.Cls.mk ?pg ?hd ?po ?sa) ?_ ?_ ?_ ?_ ?_ ?_ ?_ ?_ ?_ ?_ ?_ ?_ ?_ ?_ ?_ ?_ ?_ ?_ ?_ ?_ ?_ ?_ ?_ ?_ ?_ ?_ ?_ ?_ ?_ ?_ ?_ ?_ ?_ ?_ ?_ ?_ ?_ ?_ ?_ ?_ ?_ ?_ ?_ ?_ ?_ ?_ ?_ ?_ ?_ ?_ ?_ ?_ ?_ ?_ ?_ ?_ ?_ ?_ ?_ ?_ ?_ ?_ ?_ ?_ ?_ ?_ ?_ ?_)
  case cK=>k_is
  case pg=>k_is
  case hd=>k_is
  case po=>k_is
  case sa=>k_is
  all_goals first
   | (refine' K70.Ht.mk ?a ?l ?c ?k;(case a=>k_is);(case l=>k_is);(case c=>k_is);(case k=>k_is))
   | (refine' K70.Hm.mk ?a ?l ?c ?n ?k;(case a=>k_is);(case l=>k_is);(case c=>k_is);(case n=>k_is);(case k=>k_is))
   | (refine' K70.Hn.mk ?a;(case a=>k_is))
   | (refine' K70.Hi.mk ?a;(case a=>k_is))
   | (refine' K70.Ha.mk ?a ?b;(case a=>k_is);(case b=>k_is))
   | (unfold L2.NoAttr;k_is)
   | k_is
#print axioms PySem.Challenge.cw_thinnet_k70_two_keepers_holds

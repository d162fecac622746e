import PyProof.Rows.All
import Wide.All
import OpenK.AllK
import Wide.FinOn
import Lean
import PyProof.EqAt
import PyProof.EqKinds
import PyProof.TupleCall
import PyProof.StationsW
import PyProof.PassesOwn
import PyProof.RulesAs
import PyProof.ExcClass3
import PyProof.Rows.CatchOwn
import OpenK.KMake
import OpenK.KWalk
import PyProof.InstStoreFacts
import PyProof.ExcBaseAll.ValueError
import PyProof.RangeIter
import OpenK.KRaise
import PyProof.NsDelKeeps
import KE.KIsAll
import PyProof.P3In
import PyProof.NeData
import PyProof.ExcArgs
import PyProof.CompUse
import PyProof.ReprLen
import KE.KSortTup
import PyProof.SumAny
import PyProof.Rows.SeqCalls
import KE.KRevIter
import PyProof.TupleOfGen
import PyProof.CollectIter
import PyProof.Draws
import PyProof.EnumMake
import KE.KEqDict
import KE.KDictSum
import PyProof.ConsumeS
import PyProof.WalkInts
import KE.KIntText
import PyProof.Rows.FStr
import PyProof.StrBlockH
import PyProof.MeetsStr2
import PyProof.StrLawsTight
import PyProof.Rows.StrItems
import PyProof.Rows.StrSplitAre
import PyProof.StrLawsOcc
import PyProof.Rows.ReprOcc
import PySem.Challenge.RW_thinnet_k92_whole_a_keeper_through_deeds
open PySem.W (Frag nsIn keepIn fnOf codeIn mg_of mg_none_of)
set_option Elab.async false
set_option compiler.extract_closed false
set_option linter.all false
set_option maxRecDepth 100000
open Array renaming length_toList->eU,getElem?_eq_getElem->fj,getElem?_eq_some_iff->gU,getElem_mem->iy
open Array.Perm renaming refl->jK
open Bool renaming false_ne_true->cx,and_eq_true->dB,eq_iff_iff->dC,eq_false_iff->de,false_eq_true->eZ,not_eq_true'->g_,beq_eq_decide_eq->iE,and_true->ip
open Classical renaming byContradiction->fE,propDecidable->fL,em->fR
open False renaming elim->dQ
open ForInStep renaming yield->fF
open Int renaming mul_le_mul_of_nonneg_left->gI,toNat_natCast->gJ,le_refl->iX
open List renaming length_map->FM,getElem?_eq_getElem->No,mem_singleton->On,mem_cons_self->Op,mem_map->Sc,mem_cons_of_mem->TW,mem_cons->Tk,getElem?_eq_some_iff->Uf,mem_append_right->cW,getElem?_map->cX,size_toArray->cY,length_append->cZ,length_cons->ce,not_mem_nil->ci,length_filter_le->cj,mem_append->cn,mem_filter->cv,nil_append->cw,nodup_cons->cz,length_singleton->c7,toArray->c8,append_nil->c9,range->dA,map_append->dD,pairwise_cons->dE,map_cons->dL,getD_eq_getElem?_getD->dU,replicate->dX,getElem_mem->dY,mem_append_left->df,nodup_nil->di,mem_flatMap->dk,mem_range->d8,nodup_append->eG,length_nil->eK,cons_ne_nil->eO,getElem?_append_right->eP,all_eq_true->eg,map_map->ej,append_assoc->e6,filter_map->e7,map_id->e8,length_take->fA,drop_eq_getElem_cons->fD,flatMap_cons->fI,length_range->fJ,zip_cons_cons->fS,mem_iff_getElem?->fY,perm_ext_iff_of_nodup->fe,perm_append_singleton->fg,getElem?_append_left->fi,lookup_cons->fw,filter_cons_of_pos->f6,filter_cons_of_neg->f7,lookup->gD,filter_eq_nil_iff->gH,filter_congr->gL,mem_of_getElem?->gP,drop_length->gR,lt_trans->gX,length->gY,map_congr_left->gc,filter_eq_self->gf,forIn_cons->gh,length_set->gi,zipWith->gv,lt_irrefl->gz,getElem?_replicate->g7,length_eq_zero_iff->g8,reverse_cons->g9,pairwise_map->hX,any_eq_true->h_,getElem?_zipWith->iB,singleton_append->iC,getElem?_eq_none->iD,of_mem_zip->iG,length_zip->iQ,eq_nil_iff_forall_not_mem->iR,length_reverse->iS,length_pos_iff->iT,mem_filterMap->iZ,pairwise_iff_getElem->i6,mem_of_find?_eq_some->i7,getElem?_zip_eq_some->i8,take_length->jE,getElem?_cons_succ->jG,pairwise_singleton->jH,getElem?_set_self->jL,length_replicate->jQ,all_cons->jV,sum_cons->jW,map_nil->jd
open List.Pairwise renaming sublist->jT
open Nat renaming le_refl->Rs,ne_of_lt->cb,zero_le->cq,le_trans->c5,lt_of_lt_of_le->c6,le_succ->dO,lt_irrefl->dZ,lt_succ_of_lt->eF,lt_succ_self->fM,ne_of_gt->fm,succ_le_succ->ft,not_lt->f_,le_of_eq->gl,lt_of_le_of_lt->gq,le_succ_of_le->hV,min_le_right->h8,min_eq_left->iN,mod_lt->i9,le_of_lt->jA
open Ne renaming symm->dH
open Option renaming map_eq_some_iff->dJ,isSome_map->ir
open Option.some renaming inj->XV
open Or renaming inl->eA,inr->fu
open PyProof.Rows renaming slot_tuple_getitem->dq,callWith_type1->eM,boot_all->fC,listUpdate_at->fc,get?_update_seq->gB,boot_sorted->gG,AllBare->gM,listItems_at->iO,size_push'->iP,seqEpoch_at->iW,assignInOrder_cons->iY,boot_repr->ij,lt_int->jM
open PyProof.Rows.KeyOrd renaming kle_refl->eX,kle_of_klt->hU,kle_trans->h9,kle_antisymm->ja
open PySem renaming Addr->Ch,Value->Cn,wpAny_bind->Db,Shared->Go,wpAny_pure->UF,Heap->cf,Program->cm,Expr->cr,World->cy,Around->c_,wpAny_mono->dI,FuncData->dR,sizeLine_eq->dg,wpAny_pyIter_tuple->dh,Stmt->d6,wpAny_field->d7,wpAny_loadPart'->d9,wpAny_holding->eI,wpAny_Call_Name_kw->eN,wpAny_seqItems->eQ,wpAny_newObj_type->eR,wpAny_loadPart_at->eS,wpAny_pyIter_list->eT,wpAny_isSubtype_exc->eV,codeAny_builtin->eY,IsPair->eh,wpAny_callSpecial?_slot->eq,wpAny_truthy_bool->et,plainId_quiet->e_,Scope->fK,NameKind->fN,tupleKind_room_in1->fQ,wpAny_setField_rec->fT,wpAny_passesOwn->fX,Keyword->fk,codeAny_mono->fo,wpAny_call_entry->fq,wpAny_getItem_str_slice->fz,Builtin->f8,wpAny_execs_nil->f9,PyData->gA,wpAny_updateSeq->gC,wpAny_letGo->gE,IsZip->gK,wpAny_call->gO,wpAny_standAt->gS,ExceptHandler->gW,wpAny_typeOf->gn,wpAny_rule->gw,typeIs_str->gx,wpAny_setField->gy,wpAny_onRaise->h7,IsPart->iH,call_meetsIn->iI,codeAny_call_builtin->iJ,post_val_or_str->iK,wpAny_updateSeq_pair->iL,wpAny_tryCatch->iV,wpAny_newList->iq,BindsTo->i_,wpAny_execs_cons->jB,noFill_tuple_add->jC,PassesOwn->jI,wpAny_specialOf->jJ,wpAny_of_eq->jN
open PySem.Around renaming under_plainId->fG
open PySem.Builtin.Builtins renaming bindParams->ie
open PySem.Builtin.List renaming listExtendWith->fV,listLengthHint->ig,listSameRef->jF
open PySem.Builtin.Slice renaming slicePlaces->gg,sliceAdjust->iz
open PySem.Builtin.SmallTypes renaming nextOf->eB,ownedTupleIsFree->eo,ownedTupleHandOut->gu
open PySem.Builtin.Tuple renaming tupleExact->gp,tupleItemsOf->im,tupleIsExact->io
open PySem.Calls renaming spliced_cons->fB,callWith_builtin->fO,spliced_nil->fh,evalArgs_plain->gQ,Name_function_global->ik
open PySem.Code renaming quiet_builtin->ia
open PySem.EntryCells renaming newEntry->jX
open PySem.Expr renaming Call->ii
open PySem.F renaming slot_tuple_iterator_next->fb,slot_zip_next->iM,args_tuple_iterator_next_1->iU,entry_tuple_iterator_next->ic,called_tuple->jS
open PySem.Heap renaming get?_push_of_some->Ev,get?_push_size->Re,lt_size->TM,get?_update_other->ZB,size_push->dS,get?_update_self->d_,SameBut->gj,IsTuple->jD,IsList->jO
open PySem.Heap.SameBut renaming update->jZ
open PySem.Heap.UpToSlots renaming refl->jY
open PySem.NameKind renaming free->da,cell->hZ
open PySem.Obj renaming mapSeq->dW,mapFields->fZ,data_mapFields->gs
open PySem.PassesOwn renaming never->dM
open PySem.PyData renaming depthAll->eW,canLayAll0->fH,eqv->fP,hasDict->gN,hasDictAll->iw,leavesShortAll->jR
open PySem.SeqAt.EqAt renaming int_str->jb,str_int->jc
open PySem.Shared renaming heap->gF
open PySem.Str renaming ofString->eJ,length_append->iu
open PySem.Value renaming ref->cV,none->dG,type->dP,str->eE,bool->iF
open PySem.Walks renaming tuple->jP
open Std.Legacy.Range renaming size->jU
open Sum renaming inr->fW,inl->iA
open Sum.inr renaming inj->gZ
open True renaming intro->e9
open PySem PySem.Spec PyProof.Rows
local macro_rules | `(tactic| walk_at "s")=>`(tactic| (constructor <;> first | rfl | decide +kernel))
namespace _p

local macro_rules|`(tactic|let#[$x,*]:=$e)=>open Lean Parser Tactic in do
 let q k a:=mkNode ``rcasesPatLo #[mkNode ``rcasesPatMed #[mkNullNode #[mkNode k a]],mkNullNode]
 let p:Syntax:=(← `(term|⟨$x,*⟩)).raw.rewriteBottomUp fun s=>if s.isIdent then q ``rcasesPat.one #[s] else if s.getKind= ``Term.hole then q ``rcasesPat.ignore s.getArgs else if s.getKind= ``Term.anonymousCtor||s.getKind= `«term#[_,]» then q ``rcasesPat.tuple s.getArgs else s
 let m:TSyntax ``rcasesPatMed:=⟨p[0]⟩
 `(tactic|obtain $m:rcasesPatMed:=$e)
local macro_rules|`(tactic|exists $x,*)=>`(tactic|refine⟨$x,*, ?_⟩)
local macro_rules|`(tactic|lk)=>`(tactic|first|lia|omega)
local macro_rules|`(tactic|cbv)=>`(tactic|decide)
local macro_rules|`($f^$x)=>if f.raw.getTrailingSize>0 then Lean.Macro.throwUnsupported else match f with|`($g $a*)=>`($g $a* $x)|_=>`($f $x)
local macro_rules|`(#[%$t $y,*])=>if t.getTrailingSize>0||y.getElems.size=0 then Lean.Macro.throwUnsupported else `(⟨$y,*⟩)
open Option renaming some->P3,none->j_
open Bool renaming true->k_,false->l_
abbrev m_(a:Type u):=List a
abbrev n_(a:Type u):=Option a
namespace L2
abbrev Key:=Sum Int Str
def Jo:Key->Cn->Bool
 |.inl k,v=>Value.isInt k v
 |.inr x,v=>Value.isStrOf x v
def bC(w:cy):Key->Int
 |.inl k=>hashInt k
 |.inr x=>hashStr w x
theorem A_:∀{k:Key}{v:Cn},Jo k v=k_->(∃i t,k=iA i/\v=Value.int i t)\/(∃x t,k=fW x/\v=eE x t)
 |.inl i,v,h=>by
  let#[t,e]:=Value.isInt_shape h;exact .inl #[i,t,rfl,e]
 |.inr x,v,h=>by
  let#[t,e]:=Value.isStrOf_shape h;exact .inr #[x,t,rfl,e]
theorem P2(i:Int)(t:Tok):Jo (.inl i)^.int i t=k_:=by simp[Jo,Value.isInt]
theorem P1(x:Str)(t:Tok):Jo (.inr x)^.str x t=k_:=by simp[Jo,Value.isStrOf]
theorem Wp(a b:Int):decide ((iA a:Key)=iA b)=(a==b):=by
 grind
theorem Wm(a b:Str):decide ((fW a:Key)=fW b)=decide (a=b):=by
 grind
theorem Wo(a:Int)(b:Str):decide ((iA a:Key)=fW b)=l_:=decide_eq_false λq=>nomatch q
theorem Wn(a:Str)(b:Int):decide ((fW a:Key)=iA b)=l_:=decide_eq_false λq=>nomatch q
def A2(prog:cm)(w:cy):PySem.KeyKind prog w Key where
 is:=Jo
 hash:=bC w
 inj:=λv a b ha hb=>by
  rcases A_ ha with⟨i,t,rfl,rfl⟩|⟨x,t,rfl,rfl⟩
  .rcases A_ hb with⟨j,u,rfl,e⟩|⟨y,u,rfl,e⟩
   .injection e with e1 _; rw[e1]
   .exact nomatch e
  .rcases A_ hb with⟨j,u,rfl,e⟩|⟨y,u,rfl,e⟩
   .exact nomatch e
   .injection e with e1 _; rw[e1]
 byValue:=λk v h=>by
  rcases A_ h with⟨i,t,rfl,rfl⟩|⟨x,t,rfl,rfl⟩ <;>rfl
 pyHash:=λhv h=>by
  rcases A_ hv with⟨i,t,rfl,rfl⟩|⟨x,t,rfl,rfl⟩
  .exact wpAny_pyHash_int h
  .exact wpAny_pyHash_str h
 eqBool:=λhu hv h=>by
  rcases A_ hu with⟨i,t,rfl,rfl⟩|⟨x,t,rfl,rfl⟩
  .rcases A_ hv with⟨j,u,rfl,rfl⟩|⟨y,u,rfl,rfl⟩
   .rw[Wp]at h; exact wpAny_eqBool_int h
   .rw[Wo]at h; exact jb i t y u _ _ _ _ h
  .rcases A_ hv with⟨j,u,rfl,rfl⟩|⟨y,u,rfl,rfl⟩
   .rw[Wn]at h; exact jc x t j u _ _ _ _ h
   .rw[Wm]at h; exact wpAny_eqBool_str h
 «strs»:=λk x t v h=>by
  rcases A_ h with⟨i,u,rfl,e⟩|⟨y,u,rfl,e⟩
  .exact nomatch e
  .injection e with e1 _
   subst e1
   cases v <;>rfl
theorem L7(prog:cm)(w:cy)(i:Int)(t:Tok):(A2 prog w).is (.inl i)^.int i t=k_:=P2 i t
theorem L6(prog:cm)(w:cy)(x:Str)(t:Tok):(A2 prog w).is (.inr x)^.str x t=k_:=P1 x t
inductive V where
 |non|bl (b:Bool)|int (i:Int)|str (x:Str)|byt (b:Array UInt8)|flt (b:UInt64)|ref (a:Ch)|ty (n:String)
 deriving DecidableEq
def RelV:V->Cn->Prop
 |.non,u=>u=dG
 |.bl b,u=>u=iF b
 |.int i,u=>∃t,u=Value.int i t
 |.str x,u=>∃t,u=eE x t
 |.byt b,u=>∃t,u=Value.bytes b t
 |.flt b,u=>∃t,u=Value.float b t
 |.ref a,u=>u=cV a
 |.ty n,u=>u=dP n
abbrev Vals:m_ V->m_ Cn->Prop:=Paired RelV
theorem Vals.length{xs:m_ V}{us:m_ Cn}(r:Vals xs us):xs.length=us.length:=Paired.length r
theorem Vals.get:∀{xs:m_ V}{us:m_ Cn}{i:Nat}{x:V},Vals xs us->xs[i]?=P3 x->∃u,us[i]?=P3 u/\RelV x u
 |_,_,_,_,.nil,e=>by simp at e
 |_,_,0,_,.cons r _,e=>by simp_all
 |_,_,i+1,x,.cons _ t,e=>by
  let#[u,h1,h2]:=Vals.get t^by simpa using e
  simp_all
theorem Vals.set{x:V}{u:Cn}(r:RelV x u):∀{xs:m_ V}{us:m_ Cn} (i:Nat),Vals xs us->Vals (xs.set i x)^us.set i u
 |_,_,_,.nil=>.nil
 |_,_,0,.cons _ t=>.cons r t
 |_,_,i+1,.cons q t=>.cons q^Vals.set r i t
theorem Vals.append:∀{xs ys:m_ V}{us ws:m_ Cn},Vals xs us->Vals ys ws->Vals (xs++ys) (us++ws)
 |_,_,_,_,.nil,s=>s
 |_,_,_,_,.cons r t,s=>.cons r^Vals.append t s
theorem Vals.take:∀{xs:m_ V}{us:m_ Cn} (n:Nat),Vals xs us->Vals (xs.take n)^us.take n
 |_,_,0,_=>.nil
 |_,_,_+1,.nil=>.nil
 |_,_,n+1,.cons r t=>.cons r^Vals.take n t
theorem Vals.drop:∀{xs:m_ V}{us:m_ Cn} (n:Nat),Vals xs us->Vals (xs.drop n)^us.drop n
 |_,_,0,r=>r
 |_,_,_+1,.nil=>.nil
 |_,_,n+1,.cons _ t=>Vals.drop n t
def RelO:n_ V->n_ Cn->Prop
 |some v,P3 u=>RelV v u
 |none,j_=>True
 |_,_=>False
def KV{κ:Type}:m_ (κ×V)->m_ (κ×Cn)->Prop:=Paired fun(p:κ×V) (q:κ×Cn)=>p.1=q.1/\RelV p.2 q.2
def kV:Key->V
 |.inl i=>.int i
 |.inr x=>.str x
inductive HO where
 |lst (xs:List V)
 |tup (xs:List V)
 |dK (kvs:List (Key×V))|dT (kvs:List (List Key×V))
 |set (S:Int->Bool) (n:Nat)
 |ins (C dx:Ch) (fs:List (Str×V))
 |own (x:Ch)
 |xd (fs:List (Str×V))
 |met (f x:Ch)
 |rng (lo hi:Int)
 |frz (o:Obj) (u:HO)
 |tbl (ps:Array Cn)
 |ext (φ:cf->Prop)
 |vol (u:HO)
abbrev Hp:=Ch->n_ HO
def Ah(H:Hp)(a:Ch)(o:HO):Hp:=λb=>if b=a then P3 o else H b
theorem AM{H:Hp}{a:Ch}{o:HO}:Ah H a o a=P3 o:=by unfold Ah; grind
theorem AI{H:Hp}{a b:Ch}{o:HO}(h:b≠a):Ah H a o b=H b:=by unfold Ah; rw[if_neg h]
theorem Y7{H:Hp}{a b:Ch}{o u:HO}(h:H a=P3 o)(h':H b=P3 u)(d:o≠u):a≠b:=by
 grind
theorem AU{H:Hp}{a b:Ch}{o:HO}(h:H a=P3 o)(h':H b=j_):a≠b:=by
 grind
def IsTupN(h:cf)(a:Ch)(items:Array Cn):Prop:=∃o,h.get? a=P3 o/\o.cls=.type "tuple"/\∃n,o.data=.seq items n/\o.dict=j_/\o.slots=#[]
theorem IsTupN.tup{h:cf}{a:Ch}{items:Array Cn}(x:IsTupN h a items):IsTup h a items:=let #[o,h1,h2,n,h3,_]:=x; #[o,h1,h2,n,h3]
theorem IsTupN.new(h:cf)(items:Array Cn):IsTupN (h.push {cls:=.type "tuple",data:=.seq items}) h.objs.size items:=#[_,Re _ rfl,rfl,_,rfl,rfl,rfl]
section
variable (P:Program)(w:World)
def ObjOk(H:Hp)(h:cf)(a:Ch):HO->Prop
 |.lst xs=>xs.length<=sizeLine/\∃(its:m_ Cn) (n:Nat),Vals xs its/\h.get? a=P3 {cls:=.type "list",data:=.seq its.toArray n}
 |.tup xs=>xs.length<=sizeLine/\∃its:m_ Cn,Vals xs its/\IsTupN h a its.toArray
 |.dK kvs=>kvs.length<=sizeLine/\(a==sysModules)=l_/\∃vs,KV kvs vs/\h.DictOf (A2 P w) a vs
 | .dT kvs=>kvs.length<=sizeLine/\(a==sysModules)=l_/\∃xs:m_ (m_ Key×Ch×Cn),
   Paired (fun(p:m_ Key×V) (q:m_ Key×Ch×Cn)=>p.1=q.1/\H q.2.1=P3^.tup^p.1.map kV/\RelV p.2 q.2.2) kvs xs /\
   ∃o es ep,h.get? a=P3 o/\o.ExactDict/\o.data=.dict es ep/\es.toList=xs.map^entryOfKey^tupleKind^A2 P w/\(xs.map (·.1)).Nodup
 |.set S n=>h.SetOf (intKind P w) a S n
 | .ins C dx fs=>H dx=P3^.own a/\fs.length<=1000/\dx≠a/\h.get? a=P3^PySem.W.instObj C dx /\
   ∃mA,h.Ns1 dx mA/\(∀f,RelO (fs.lookup f)^mA f)/\PySem.Within mA (fs.map (·.1))
 |.own _=>∃o,h.get? a=P3 o
 |.xd fs=>∃mA,h.Ns1 a mA/\∀f,RelO (fs.lookup f)^mA f
 |.rng lo hi=>∃t u v,h.get? a=P3 {cls:=.type "range",data:=.fields #[ .int lo t,.int hi u,.int 1 v]}
 |.frz o u=>h.get? a=P3 o/\ObjOk H h a u
 |.tbl ps=>h.get? a=P3 {cls:=.none,data:=.fields ps}
 |.met f x=>h.get? a=P3^PySem.W.methodObj (.ref f)^.ref x
 |.vol u=>ObjOk H h a u
 |.ext φ=>φ h/\(∃o,h.get? a=P3 o)/\∀h1 h2:cf,φ h1->(∀o,h1.get? a=P3 o->h2.get? a=P3 o)->φ h2
def HOk(H:Hp)(h:cf):Prop:=∀a o,H a=P3 o->ObjOk P w H h a o
end
section
variable {P:Program}{w:World}{H H':Hp}{h h':Heap}{a:Addr}{o:HO}
theorem ObjOk.lt(x:ObjOk P w H h a o):a<h.objs.size:=by
 induction o with
 |lst xs=>let#[_,_,_,_,e]:=x; exact TM e
 |tup xs=>let#[_,_,_,p]:=x; exact p.tup.lt
 |dK kvs=>let#[_,_,_,_,o,_,_,e,_]:=x; exact TM e
 |dT kvs=>let#[_,_,_,_,o,_,_,e,_]:=x; exact TM e
 |set S n=>let#[o,_,_,_,e,_]:=x; exact TM e
 |ins C dx fs=>let#[_,_,_,e,_]:=x; exact TM e
 |own y=>let#[_,e]:=x; exact TM e
 |xd fs=>let#[_,#[_,_,_,e,_],_]:=x; exact TM e
 |rng lo hi=>let#[_,_,_,e]:=x; exact TM e
 |vol u ih=>exact ih x
 |frz ob u ih=>let#[e,_]:=x; exact TM e
 |tbl ps=>exact TM (show h.get? a=P3 _ from x)
 |met f y=>exact TM (show h.get? a=P3 _ from x)
 |ext φ=>let#[_,#[_,e],_]:=x; exact TM e
theorem Paired.mapP{α β:Type}{F G:α->β->Prop}:∀{l₁:m_ α}{l₂:m_ β},Paired F l₁ l₂->(∀a b,F a b->G a b)->Paired G l₁ l₂
 |_,_,.nil,_=>.nil
 |_,_,.cons r t,f=>.cons (f _ _ r)^Paired.mapP t f
theorem Paired.imp'{α β:Type}{F G:α->β->Prop}(f:∀a b,F a b->G a b){l₁:m_ α}{l₂:m_ β}(r:Paired F l₁ l₂):Paired G l₁ l₂:=Paired.mapP r f
theorem ObjOk.stay(x:ObjOk P w H h a o)(k:∀b u,(b=a\/H b=P3^.own a)->h.get? b=P3 u->h'.get? b=P3 u)
  (ho:∀b,H b=P3^.own a->H' b=P3^.own a) (ht:∀b xs,H b=P3^.tup xs->H' b=P3^.tup xs):ObjOk P w H' h' a o:=by
 induction o with
 |lst xs=>let#[z,its,n,r,e]:=x; exact#[z,its,n,r,k _ _ (.inl rfl) e]
 |tup xs=>let#[z,its,r,ob,e,c]:=x; exact#[z,its,r,ob,k _ _ (.inl rfl) e,c]
 |dK kvs=>let#[z,y,vs,r,ob,es,ep,e,c]:=x; exact#[z,y,vs,r,ob,es,ep,k _ _ (.inl rfl) e,c]
 |dT kvs=>
  let#[z,y,xs,r,ob,es,ep,e,c]:=x;exact#[z,y,xs,Paired.mapP r λp q z=>#[z.1,ht _ _ z.2.1,z.2.2],ob,es,ep,k _ _ (.inl rfl) e,c]
 |set S n=>let#[ob,es,ep,t,e,c]:=x; exact#[ob,es,ep,t,k _ _ (.inl rfl) e,c]
 |ins C dx fs=>
  let#[d,z,ne,e,mA,#[od,es,ep,e2,c],r]:=x;exact#[ho _ d,z,ne,k _ _ (.inl rfl) e,mA,#[od,es,ep,k _ _ (.inr d) e2,c],r]
 |own y=>let#[ob,e]:=x; exact#[ob,k _ _ (.inl rfl) e]
 |xd fs=>let#[mA,#[od,es,ep,e,c],r]:=x; exact#[mA,#[od,es,ep,k _ _ (.inl rfl) e,c],r]
 |rng lo hi=>let#[t,u,v,e]:=x; exact#[t,u,v,k _ _ (.inl rfl) e]
 |vol u ih=>exact ih x
 |frz ob u ih=>let#[e,q]:=x; exact#[k _ _ (.inl rfl) e,ih q]
 |tbl ps=>
  have e:h.get? a=P3 {cls:=.none,data:=.fields ps}:=x;show h'.get? a=P3 {cls:=.none,data:=.fields ps};exact k a _ (.inl rfl) e
 |met f y=>
  have e:h.get? a=P3^PySem.W.methodObj (.ref f)^.ref y:=x;show h'.get? a=P3^PySem.W.methodObj (.ref f)^.ref y;exact k a _ (.inl rfl) e
 |ext φ=>let#[p,#[o,e],st]:=x; exact#[st _ _ p λo q=>k _ _ (.inl rfl) q,#[o,k _ _ (.inl rfl) e],st]
theorem HOk.lt(x:HOk P w H h)(e:H a=P3 o):a<h.objs.size:=(x a o e).lt
theorem HOk.fresh(x:HOk P w H h)(e:h.objs.size<=a):H a=j_:=by
 cases q:H a with
 |none=>rfl
 |some u=>exact absurd (c6 (x.lt q) e)^dZ _
theorem HOk.kept(x:HOk P w H h)(k:∀b u,h.get? b=P3 u->h'.get? b=P3 u):HOk P w H h':=λa o e=>
 (x a o e).stay (λb u _ q=>k b u q) (λ_ q=>q) λ_ _ q=>q
theorem HOk.laid(x:HOk P w H h)(k:∀b u,h.get? b=P3 u->h'.get? b=P3 u)(hp:h.objs.size<=a)(new:ObjOk P w (Ah H a o) h' a o):HOk P w (Ah H a o) h':=λb u e=>by
 have hn:=x.fresh hp
 by_cases hb:b=a
 .subst hb; rw[AM]at e; grind
 .rw[AI hb]at e
  exact(x b u e).stay (λc v _ q=>k c v q) (λc q=>by rw[AI^AU q hn]; exact q) λc xs q=>by rw[AI^AU q hn]; exact q
end
def Rd(H:Hp)(a:Ch)(u:HO):Prop:=H a=P3 u\/∃o,H a=P3^.frz o u
theorem Rd.ok{P:cm}{w:cy}{H:Hp}{h:cf}{a:Ch}{u:HO}(r:Rd H a u)(x:HOk P w H h):ObjOk P w H h a u:=by
 rcases r with r|⟨o,r⟩
 .exact x a u r
 .let#[_,q]:=x a _ r
  exact q
def Z9:n_ HO->Prop
 |some (.lst _)=>True
 |some (.dK _)=>True
 |some (.dT _)=>True
 |some (.set _ _)=>True
 |some (.vol _)=>True
 |some (.ext _)=>True
 |_=>False
section
variable {P:Program}{w:World}{H:Hp}{h h':Heap}{x e:Addr}{o':HO}
theorem HOk.write(ok:HOk P w H h)(mu:Z9^H x)(he:e=x\/H e=P3^.own x)(k:∀b u,b≠e->h.get? b=P3 u->h'.get? b=P3 u)(heo:∃u,h'.get? e=P3 u)
  (new:ObjOk P w (Ah H x o') h' x o'):HOk P w (Ah H x o') h':=λb u q=>by
 have nown:∀c y,H c=P3^.own y->c≠x:=λc y r z=>by subst z; rw[r]at mu; exact mu
 have ntup:∀c xs,H c=P3^.tup xs->c≠x:=λc xs r z=>by subst z; rw[r]at mu; exact mu
 by_cases hb:b=x
 .subst hb; rw[AM]at q; cases q; exact new
 .rw[AI hb]at q
  by_cases hbe:b=e
  .have q':H b=P3^.own x:=by
    grind
   rw[q]at q'; cases q'
   let#[v,hv]:=heo;exact#[v,by rw[hbe]; exact hv]
  .refine(ok b u q).stay (λc v hc r=>k c v ?_ r) (λc r=>by rw[AI^nown c b r]; exact r) λc xs r=>by rw[AI^ntup c xs r]; exact r
   grind
end
structure Un (fs ex:List Ch) (H H':Hp) (h h':cf):Prop where
 keep:∀b o,h.get? b=P3 o->H b=j_->b∉fs->b∉ex->h'.get? b=P3 o
 slot:∀b o,h.get? b=P3 o->H b=j_->b∈fs->b∉ex->∃sl,h'.get? b=P3 {o with slots:=sl}
 free:∀b o,h.get? b=P3 o->H b=j_->b∉ex->H' b=j_
 there:∀b o,h.get? b=P3 o->b∉ex->∃o',h'.get? b=P3 o'
 tups:∀b xs,H b=P3^.tup xs->H' b=P3 (.tup xs)
 frzs:∀b o u,H b=P3^.frz o u->H' b=P3 (.frz o u)
 tbls:∀b ps,H b=P3^.tbl ps->∃more,H' b=P3^.tbl (ps++more)
section
variable {fs ex:m_ Addr}{H H1:Hp}{h h1 h':Heap}{a x e:Addr}{o:HO}
theorem Un.any(u:Un fs ex H H1 h h1){b:Ch}{ob:Obj}(q:h.get? b=P3 ob)(n:H b=j_)(hx:b∉ex):∃sl,h1.get? b=P3 {ob with slots:=sl}:=by
 by_cases hb:b∈fs
 .exact u.slot b ob q n hb hx
 .exact#[_,u.keep b ob q n hb hx]
theorem Un.kept(k:∀b u,h.get? b=P3 u->h'.get? b=P3 u):Un fs ex H H h h':=
 #[λb ob q _ _ _=>k b ob q,λb ob q _ _ _=>#[_,k b ob q],λ_ _ _ n _=>n,λb ob q _=>#[ob,k b ob q],λ_ _ q=>q,λ_ _ _ q=>q,λ_ ps q=>#[#[],by rw[q]; simp]]
theorem Un.refl:Un fs ex H H h h:=Un.kept λ_ _ q=>q
theorem Un.laid(k:∀b u,h.get? b=P3 u->h'.get? b=P3 u)(hp:h.objs.size<=a)(hn:H a=j_):Un fs ex H (Ah H a o) h h' where
 keep:=λb u q _ _ _=>k b u q
 slot:=λb u q _ _ _=>#[_,k b u q]
 free:=λb u q n _=>by rw[AI^cb^c6 (TM q) hp]; exact n
 there:=λb u q _=>#[u,k b u q]
 tups:=λb xs q=>by rw[AI^AU q hn]; exact q
 frzs:=λb u xs q=>by rw[AI^AU q hn]; exact q
 tbls:=λb ps q=>#[#[],by rw[AI^AU q hn,q]; simp]
theorem Un.write(mu:Z9^H x)(he:e=x\/H e=P3^.own x)(k:∀b u,b≠e->h.get? b=P3 u->h'.get? b=P3 u)(heo:∃u,h'.get? e=P3 u):Un fs ex H (Ah H x o) h h':=by
 have hx:∀b,H b=j_->b≠x:=λb n z=>by subst z; rw[n]at mu; exact mu
 have hb:∀b,H b=j_->b≠e:=λb n z=>by
  grind
 have hm:∀b u,H b=P3 u->¬Z9^P3 u->b≠x:=λb u q nm z=>by grind
 refine#[λb u q n _ _=>k b u (hb b n) q,λb u q n _ _=>#[u.slots,k b u (hb b n) q],λb u q n _=>by rw[AI^hx b n]; exact n,λb u q _=>?_,
  λb xs q=>by rw[AI^hm b _ q λz=>z]; exact q,λb u xs q=>by rw[AI^hm b _ q λz=>z]; exact q,λb ps q=>#[#[],by rw[AI^hm b _ q λz=>z,q]; simp]]
 by_cases hbe:b=e
 .simp_all
 .exact#[u,k b u hbe q]
end
def cF(h:cf)(H:Hp):m_ Ch:=(dA h.objs.size).filter λa=>(H a).isSome
def K7(h:cf)(H:Hp):cf:=PySem.W.hideAll h^cF h H
theorem P7(h:cf)(H:Hp):(K7 h H).objs.size=h.objs.size:=PySem.W.hideAll_size _ _
theorem R0{h:cf}{H:Hp}{b:Ch}{o:Obj}(e:h.get? b=P3 o)(n:H b=j_):(K7 h H).get? b=P3 o:=
 PySem.W.hideAll_get _ e λhm=>by
  have q:=(cv.mp hm).2
  grind
theorem Tj{h:cf}{H:Hp}{b:Ch}{o:Obj}(e:(K7 h H).get? b=P3 o):h.get? b=P3 o/\H b=j_:=by
 have e':=PySem.W.of_hideAll _ e;refine#[e',?_];cases q:H b with
 |none=>rfl
 |some x=>
  have z:(K7 h H).get? b=j_:=PySem.W.hideAll_none _^cv.mpr #[d8.mpr^TM e',by simp[q]]
  grind
structure Mod (K:Frag) (mg:Str->Option Cn) (base:cf):Prop where
 kin:K.In base
 glob:base.Ns mainGlobals mg
 blt:∃mb,base.Ns builtinsNs mb/\∀x:Str,x ≠ "__name__"->mb x=bootBuiltins x
 nolimit:base.NoLimit
/-- the context:a def's body (or a comprehension's block) running. base:fixed through the whole law; s₀,H₀:the entry; outer:the frames whose slots others may change (a def's callers); stack:all frames that run;
   ex:iterators that were made ahead of the entry and are walked here^a comprehension's; fn:the names whose cells were made at the entry (a def:all; a comprehension's block:its own); calm:not within an except suite; pn:zG that every state bears; xe:what is wanted of an exception that leaves the code -/
structure Cx where
 prog:cm
 w:cy
 K:Frag
 mg:Str->Option Cn
 base:cf
 A:c_
 N:List Str
 s₀:Go
 H₀:Hp
 env:Env
 outer:List Env
 stack:List Env
 ex:List Ch
 fn:Str->Bool
 calm:Bool
 pn:List (Ch×Obj)
 xe:Cn->Go->Prop
def Js(l:m_ Env):m_ Ch:=l.filterMap (·.frame)
abbrev Cx.fs(X:Cx):m_ Ch:=Js X.outer
def VZ(sc:fK)(x:Str):Prop:=sc.names.lookup x=P3 .local\/sc.names.lookup x=P3 .cell\/sc.names.lookup x=P3 .free
def Loc(sc:fK)(x:Str):Prop:=sc.names.lookup x=P3 .local\/sc.names.lookup x=P3 .cell
def Look(env:Env)(h:cf)(m:Str->n_ Cn)(x:Str)(u:Cn):Prop:=
 (env.kindOf x=P3 .local/\m x=P3 u)\/((env.kindOf x=P3 .cell\/env.kindOf x=P3 .free)/\∃c,env.cells.lookup x=P3 c/\h.IsCell c^P3 u)
structure Cx.Ok (X:Cx):Prop where
 mod:Mod X.K X.mg X.base
 kind:X.env.scope.kind=.function
 glob:X.env.globals=mainGlobals
 blt:X.env.builtins=builtinsNs
 above:X.s₀.heap.objs.size<=X.env.locals
 inj:∀x y c,X.env.cells.lookup x=P3 c->X.env.cells.lookup y=P3 c->x=y
 has:∀x,(X.env.kindOf x=P3 .cell\/X.env.kindOf x=P3 .free)->∃c,X.env.cells.lookup x=P3 c
 cab:∀x c,X.fn x=k_->X.env.cells.lookup x=P3 c->X.s₀.heap.objs.size<=c
 hd:X.calm=k_->X.A.handled=j_
 frames:X.A.frames=P3 X.stack
 stk:X.stack=X.outer\/(X.stack=X.env::X.outer/\X.env.frame=P3 X.env.locals)
 exf:∀b∈X.ex,b≠X.env.locals/\∀x c,X.env.cells.lookup x=P3 c->c≠b
 bs:∀b o,X.base.get? b=P3 o->X.s₀.heap.get? b=P3 o/\X.H₀ b=j_
 bsz:X.base.objs.size<=X.s₀.heap.objs.size
 noex:∀b o,X.base.get? b=P3 o->b∉X.ex
 exfs:∀b∈X.ex,b∉X.fs
 funs:X.s₀.heap.FunFrames X.base X.outer
 frf:∀b∈X.fs,X.H₀ b=j_
structure Inv (X:Cx) (zG:List (Ch×Obj)) (σ:List^Option V) (H:Hp) (s:Go):Prop where
 ok:X.Ok
 os:s.os=X.s₀.os
 bare:gM s.gens
 base:Un X.fs X.ex X.H₀ H X.s₀.heap s.heap
 loc:∃m,s.heap.Ns X.env.locals m/\∀(i:Nat) (x:Str) (v:V),X.N[i]?=P3 x->σ[i]?=P3^P3 v->VZ X.env.scope x->∃u,RelV v u/\Look X.env s.heap m x u
 cell:∀x c,X.env.cells.lookup x=P3 c->∃v,s.heap.IsCell c v
 free:H X.env.locals=j_
 freeC:∀x c,X.env.cells.lookup x=P3 c->H c=j_
 pin:∀p∈X.pn++zG,s.heap.get? p.1=P3 p.2/\H p.1=j_/\p.1≠X.env.locals/\p.1∉X.fs/\∀v,p.2.data≠.cell v
 hok:HOk X.prog X.w H s.heap
 len:σ.length=X.N.length
section
variable {X:Cx}{zG:m_ (Addr×Obj)}{σ:m_^n_ V}{H H':Hp}{s:Shared}{h':Heap}
theorem Cx.Ok.nofr(ok:X.Ok){b:Ch}{o:Obj}(e:X.base.get? b=P3 o):b∉X.fs:=λhb=>by
 have:=(ok.funs.mem hb).1
 grind
theorem Inv.bs(I:Inv X zG σ H s):∀b o,X.base.get? b=P3 o->s.heap.get? b=P3 o/\H b=j_:=λb o e=>
 #[I.base.keep b o (I.ok.bs b o e).1 (I.ok.bs b o e).2 (I.ok.nofr e)^I.ok.noex b o e,I.base.free b o (I.ok.bs b o e).1 (I.ok.bs b o e).2 (I.ok.noex b o e)]
theorem Inv.bk(I:Inv X zG σ H s):∀b o,X.base.get? b=P3 o->s.heap.get? b=P3 o:=λb o e=>(I.bs b o e).1
theorem Inv.mod(I:Inv X zG σ H s):Mod X.K X.mg X.base:=I.ok.mod
theorem Inv.kIn(I:Inv X zG σ H s):X.K.In s.heap:=I.ok.mod.kin.keeps I.bk
theorem Inv.lt(I:Inv X zG σ H s):X.env.locals<s.heap.objs.size:=let #[_,hn,_]:=I.loc; hn.lt
theorem Inv.sz(I:Inv X zG σ H s):X.s₀.heap.objs.size<=s.heap.objs.size:=c5 I.ok.above^jA I.lt
theorem Inv.nofs(I:Inv X zG σ H s){a:Ch}(h:s.heap.objs.size<=a):a∉X.fs:=λhb=>by
 let#[_,o,ho,_]:=I.ok.funs.mem hb;exact absurd (c6 (TM ho)^c5 I.sz h)^dZ _
theorem Inv.cne(I:Inv X zG σ H s):∀x c,X.env.cells.lookup x=P3 c->c≠X.env.locals:=λx c e z=>by
 let#[v,o,ho,hd]:=I.cell x c e;let#[m,#[o',es,ep,ho',hd',_],_]:=I.loc
 grind
theorem Inv.funs(I:Inv X zG σ H s):s.heap.FunFrames X.base X.outer:=by
 have all:∀(l:m_ _),(∀b∈Js l,b∈X.fs)->X.s₀.heap.FunFrames X.base l->s.heap.FunFrames X.base l:=by
  intro l
  induction l with
  |nil=>intro _ _; trivial
  |cons env r ih=>
   intro hs hl;let#[hk,#[L,o,hf,hn,ho,hd],hr]:=hl;have hL:=hs L (by unfold Js; simp_all);let#[sl,e]:=I.base.slot L o ho (I.ok.frf L hL) hL λz=>I.ok.exfs L z hL;exact#[hk,#[L,_,hf,hn,e,hd],ih (λb hb=>hs b^by unfold Js; rw[List.filterMap_cons,hf]; exact TW _ hb) hr]
 exact all _ (λ_ hb=>hb) I.ok.funs
theorem Inv.stack(I:Inv X zG σ H s):s.heap.FunFrames X.base X.stack:=by
 rcases I.ok.stk with e|⟨e,hf⟩
 .rw[e]; exact I.funs
 .rw[e]
  let#[m,hn,_]:=I.loc;exact .cons (by rw[I.ok.kind]; decide) hf hn (Heap.get?_none_of_le^c5 I.ok.bsz I.ok.above) I.funs
theorem Inv.stkSub(I:Inv X zG σ H s):∀b∈Js X.stack,b∈X.env.locals::X.fs:=λb hb=>by
 rcases I.ok.stk with e|⟨e,hf⟩
 .grind
 .rw[e]at hb
  unfold Js at hb;rw[List.filterMap_cons,hf]at hb;exact hb
theorem Inv.stkFree(I:Inv X zG σ H s):∀b∈Js X.stack,H b=j_:=λb hb=>by
 rcases Tk.mp^I.stkSub b hb with e|hb
 .rw[e]; exact I.free
 .let#[_,o,ho,_]:=I.ok.funs.mem hb
  exact I.base.free b o ho (I.ok.frf b hb) λz=>I.ok.exfs b z hb
theorem Inv.step{g':Array GenState}{t':Nat}{d':Drawn}{ch:m_ Ch}(I:Inv X zG σ H s)
  (hch:∀b∈ch,(b∈X.ex\/X.s₀.heap.objs.size<=b)/\b≠X.env.locals/\(∀x c,X.env.cells.lookup x=P3 c->c≠b)/\∀p∈X.pn++zG,p.1≠b)
  (keep:∀b o,b≠X.env.locals->b∉X.fs->b∉ch->s.heap.get? b=P3 o->H b=j_->h'.get? b=P3 o)
  (slot:∀b o,b≠X.env.locals->b∈X.fs->b∉ch->s.heap.get? b=P3 o->H b=j_->∃sl,h'.get? b=P3 {o with slots:=sl}) (free:∀b o,b∉ch->s.heap.get? b=P3 o->H b=j_->H' b=j_)
  (there:∀b o,b∉ch->s.heap.get? b=P3 o->∃o',h'.get? b=P3 o')
  (tups:∀b xs,H b=P3^.tup xs->H' b=P3^.tup xs) (frzs:∀b o u,H b=P3^.frz o u->H' b=P3^.frz o u) (tbls:∀b ps,H b=P3^.tbl ps->∃more,H' b=P3^.tbl (ps++more))
  (ns:∀m,s.heap.Ns X.env.locals m->h'.Ns X.env.locals m) (hok:HOk X.prog X.w H' h') (hg:gM g'):
  Inv X zG σ H' {s with heap:=h',gens:=g',drawn:=d',toks:=t'}:=by
 have neL:∀b o,X.s₀.heap.get? b=P3 o->b≠X.env.locals:=λb o e=>cb^c6 (TM e) I.ok.above
 have neC:∀b o,X.s₀.heap.get? b=P3 o->b∉X.ex->b∉ch:=λb o e hx hb=>by
  rcases(hch b hb).1 with z|z
  .exact hx z
  .exact absurd (c6 (TM e) z)^dZ _
 have cellK:∀x c,X.env.cells.lookup x=P3 c->∀v,s.heap.IsCell c v->h'.IsCell c v:=λx c e v #[o,ho,hd]=>by
  have nch:c∉ch:=λz=>(hch c z).2.2.1 x c e rfl
  by_cases hc:c∈X.fs
  .let#[sl,q]:=slot c o (I.cne x c e) hc nch ho^I.freeC x c e
   exact#[_,q,hd]
  .exact#[o,keep c o (I.cne x c e) hc nch ho^I.freeC x c e,hd]
 refine#[I.ok,I.os,hg,#[λb o e n hb hx=>?_,λb o e n hb hx=>?_,λb o e n hx=>?_,λb o e hx=>?_,λb xs e=>tups b xs^I.base.tups b xs e,λb o xs e=>frzs b o xs^I.base.frzs b o xs e,λb ps e=>?_],?_,λx c e=>?_,?_,λx c e=>?_,λp hp=>?_,hok,I.len]
 .exact keep b o (neL b o e) hb (neC b o e hx) (I.base.keep b o e n hb hx)^I.base.free b o e n hx
 .let#[sl,e1]:=I.base.slot b o e n hb hx
  let#[sl',e2]:=slot b _ (neL b o e) hb (neC b o e hx) e1^I.base.free b o e n hx;exact#[sl',e2]
 .let#[o',e1]:=I.base.there b o e hx
  exact free b o' (neC b o e hx) e1^I.base.free b o e n hx
 .let#[o',e1]:=I.base.there b o e hx
  exact there b o' (neC b o e hx) e1
 .let#[m1,e1]:=I.base.tbls b ps e
  let#[m2,e2]:=tbls b _ e1;exact#[m1++m2,by rw[e2,Array.append_assoc]]
 .let#[m,hn,hl]:=I.loc
  refine#[m,ns m hn,λi x v e1 e2 e3=>?_];let#[u,r,l]:=hl i x v e1 e2 e3;refine#[u,r,?_]
  rcases l with l|⟨k,c,e,z⟩
  .exact .inl l
  .exact .inr #[k,c,e,cellK x c e _ z]
 .let#[v,z]:=I.cell x c e
  exact#[v,cellK x c e v z]
 .let#[m,#[o,_,_,ho,_],_]:=I.loc
  exact free _ o (λz=>(hch _ z).2.1 rfl) ho I.free
 .let#[v,o,ho,hd]:=I.cell x c e
  exact free c o (λz=>(hch c z).2.2.1 x c e rfl) ho^I.freeC x c e
 .let#[e,n,ne,nf,d]:=I.pin p hp
  have nch:p.1∉ch:=λz=>(hch p.1 z).2.2.2 p hp rfl;exact#[keep p.1 p.2 ne nf nch e n,free p.1 p.2 nch e n,ne,nf,d]
theorem Inv.un{t':Nat}(I:Inv X zG σ H s)(u:Un X.fs [] H H' s.heap h')(hok:HOk X.prog X.w H' h'):Inv X zG σ H' {s with heap:=h',toks:=t'}:=by
 let#[m,#[o,es,ep,ho,r],_]:=id I.loc;let#[sl,hL]:=u.any ho I.free^by simp
 exact I.step (ch:=[]) (λ_ z=>nomatch z) (λb o _ hb _ e n=>u.keep b o e n hb^by simp) (λb o _ hb _ e n=>u.slot b o e n hb^by simp) (λb o _ e n=>u.free b o e n^by simp) (λb o _ e=>u.there b o e^by simp) u.tups u.frzs u.tbls (λm' hm=>by
  let#[o',es',ep',ho',r']:=hm;rw[ho]at ho'; cases ho'
  exact#[_,_,_,hL,r']) hok I.bare
theorem Inv.call{g':Array GenState}{t':Nat}{d':Drawn}{ch:m_ Ch}(I:Inv X zG σ H s)(u:Un (Js X.stack) ch H H' s.heap h')(hok:HOk X.prog X.w H' h')(hg:gM g')
  (hch:∀b∈ch,(b∈X.ex\/X.s₀.heap.objs.size<=b)/\b≠X.env.locals/\(∀x c,X.env.cells.lookup x=P3 c->c≠b)/\∀p∈X.pn++zG,p.1≠b):
  Inv X zG σ H' {s with heap:=h',gens:=g',drawn:=d',toks:=t'}:=by
 let#[m,#[o,es,ep,ho,r],_]:=id I.loc;let#[sl,hL]:=u.any ho I.free λz=>(hch _ z).2.1 rfl
 exact I.step hch (λb o hL hb hc e n=>u.keep b o e n (λz=>(Tk.mp^I.stkSub b z).elim hL hb) hc) (λb o _ _ hc e n=>u.any e n hc) (λb o hc e n=>u.free b o e n hc) (λb o hc e=>u.there b o e hc) u.tups u.frzs u.tbls (λm' hm=>by
  let#[o',es',ep',ho',r']:=hm;rw[ho]at ho'; cases ho'
  exact#[_,_,_,hL,r']) hok hg
theorem Inv.turned{t':Nat}{it:Ch}(I:Inv X zG σ H s)(k:∀b o,b≠it->s.heap.get? b=P3 o->h'.get? b=P3 o)(hn:H it=j_)(hL:it≠X.env.locals)
  (h1:it∈X.ex\/X.s₀.heap.objs.size<=it) (h2:∀x c,X.env.cells.lookup x=P3 c->c≠it) (h3:∀p∈X.pn++zG,p.1≠it):Inv X zG σ H {s with heap:=h',toks:=t'}:=by
 have nit:∀b u,H b=P3 u->b≠it:=λb u e z=>by grind
 refine I.step (g':=s.gens) (d':=s.drawn) (ch:=[it]) (λb hb=>?_) (λb o _ _ hc e _=>k b o (λz=>hc^by simp[z]) e) (λb o _ _ hc e _=>#[o.slots,k b o (λz=>hc^by simp[z]) e]) (λ_ _ _ _ n=>n)
  (λb o hc e=>#[o,k b o (λz=>hc^by simp[z]) e]) (λ_ _ e=>e) (λ_ _ _ e=>e) (λb ps e=>#[#[],by rw[e]; simp]) (λm hm=>?_) (λb u e=>?_) I.bare
 .have e:b=it:=by simpa using hb
  subst e;exact#[h1,hL,h2,h3]
 .let#[o,es,ep,ho,r]:=hm
  exact#[o,es,ep,k _ o (dH hL) ho,r]
 .refine(I.hok b u e).stay (λc v hc q=>k c v ?_ q) (λ_ q=>q) λ_ _ q=>q
  grind
theorem Inv.tok(I:Inv X zG σ H s)(t:Nat):Inv X zG σ H {s with toks:=t}:=I.un Un.refl I.hok
theorem Inv.kept{t':Nat}(I:Inv X zG σ H s)(k:∀b u,s.heap.get? b=P3 u->h'.get? b=P3 u):Inv X zG σ H {s with heap:=h',toks:=t'}:=I.un (Un.kept k)^I.hok.kept k
theorem Inv.laid{a:Ch}{o:HO}{t':Nat}(I:Inv X zG σ H s)(k:∀b u,s.heap.get? b=P3 u->h'.get? b=P3 u)(hp:s.heap.objs.size<=a)(new:ObjOk X.prog X.w (Ah H a o) h' a o):
  Inv X zG σ (Ah H a o) {s with heap:=h',toks:=t'}:=I.un (Un.laid k hp^I.hok.fresh hp)^I.hok.laid k hp new
theorem Inv.write{x e:Ch}{o:HO}{t':Nat}(I:Inv X zG σ H s)(mu:Z9^H x)(he:e=x\/H e=P3^.own x)(k:∀b u,b≠e->s.heap.get? b=P3 u->h'.get? b=P3 u)(heo:∃u,h'.get? e=P3 u)
  (new:ObjOk X.prog X.w (Ah H x o) h' x o):Inv X zG σ (Ah H x o) {s with heap:=h',toks:=t'}:=I.un (Un.write mu he k heo)^I.hok.write mu he k heo new
theorem Inv.pins_of{pins':m_ (Ch×Obj)}(I:Inv X zG σ H s)(h:∀p∈pins',s.heap.get? p.1=P3 p.2/\H p.1=j_/\p.1≠X.env.locals/\p.1∉X.fs/\∀v,p.2.data≠.cell v):Inv X pins' σ H s:=
 #[I.ok,I.os,I.bare,I.base,I.loc,I.cell,I.free,I.freeC,λp hp=>(cn.mp hp).elim (λz=>I.pin p^df _ z)^h p,I.hok,I.len]
theorem L3{N:m_ Str}(hN:N.Nodup){i j:Nat}{x:Str}(a:N[i]?=P3 x)(b:N[j]?=P3 x):i=j:=by
 let#[h1,e1]:=Uf.mp a;let#[h2,e2]:=Uf.mp b;exact(List.getElem_inj hN).mp^e1.trans e2.symm
theorem JZ{M:Model}{A:c_}{E:Cn->Go->Prop}{i:Nat}{x:Str}{v:V}{u:Cn}{Q:Unit->Go->Prop}(I:Inv X zG σ H s)(hN:X.N.Nodup)(hi:X.N[i]?=P3 x)(hx:Loc X.env.scope x)(r:RelV v u)
  (h:∀s',Inv X zG (σ.set i^P3 v) H s'->(∃a,gj a s.heap s'.heap/\(a=X.env.locals\/X.env.cells.lookup x=P3 a))->Q () s') (hf:X.fn x=k_\/X.env.scope.names.lookup x=P3 .local:=by first|exact .inl rfl|exact .inr rfl|assumption):wpAny M A (storeName X.env x u) Q E s:=by
 let#[m,hn,hl]:=id I.loc;have hcls:(X.env.scope.kind==.class||(X.env.scope.kind==.module&&X.env.locals !=X.env.globals))=l_:=by rw[I.ok.kind]; rfl
 have hiσ:i<σ.length:=by rw[I.len]; exact(Uf.mp hi).1
 have cne:=I.cne
 have tracked:∀{a:Ch}{h':cf},(∃o,s.heap.get? a=P3 o/\H a=j_)->gj a s.heap h'->HOk X.prog X.w H h':=λ{a h'} ha hs b ob e=>by
  let#[_,_,hfree]:=ha;refine(I.hok b ob e).stay (λc w' hc q=>(hs.2 c ?_).trans q) (λ_ q=>q) λ_ _ q=>q;rintro rfl
  rcases hc with rfl|hc
  .rw[hfree]at e; cases e
  .rw[hfree]at hc; cases hc
 rcases hx with hk|hk
 .refine wpAny_storeName_local hk hn (λh' hn' hs=>?_) hcls
  let#[oL,_,_,hoL,_]:=id hn;refine h _ #[I.ok,I.os,I.bare,#[λb o e n hb hx=>?_,λb o e n hb hx=>?_,I.base.free,λb o e hx=>?_,I.base.tups,I.base.frzs,I.base.tbls],#[_,hn',λj y v' e1 e2 e3=>?_],λy c e=>?_,I.free,I.freeC,λp hp=>?_,tracked #[oL,hoL,I.free] hs,by simpa using I.len] #[_,hs,.inl rfl]
  .exact(hs.2 b^cb^c6 (TM e) I.ok.above).trans^I.base.keep b o e n hb hx
  .let#[sl,e1]:=I.base.slot b o e n hb hx
   exact#[sl,(hs.2 b^cb^c6 (TM e) I.ok.above).trans e1]
  .let#[o',e1]:=I.base.there b o e hx
   exact#[o',(hs.2 b^cb^c6 (TM e) I.ok.above).trans e1]
  .by_cases hj:j=i
   .subst hj
    rw[hi]at e1; cases e1
    rw[jL hiσ]at e2;cases e2;exact#[u,r,.inl #[hk,by simp]]
   .rw[List.getElem?_set_ne^dH hj]at e2
    let#[u',r',q]:=hl j y v' e1 e2 e3;refine#[u',r',?_]
    rcases q with⟨k,e⟩|⟨k,c,e,z⟩
    .refine .inl #[k,?_]
     have:y≠x:=λe=>hj^L3 hN e1 (e▸hi)
     simp[this,e]
    .exact .inr #[k,c,e,z.sameBut hs^cne y c e]
  .let#[w',z]:=I.cell y c e
   exact#[w',z.sameBut hs^cne y c e]
  .let#[e,n,ne,nf,d]:=I.pin p hp
   exact#[(hs.2 p.1 ne).trans e,n,ne,nf,d]
 .have hfn:X.fn x=k_:=by
   rcases hf with z|z
   .exact z
   .rw[z]at hk; cases hk
  let#[c,hc]:=I.ok.has x^.inl hk;let#[w',z]:=I.cell x c hc;refine wpAny_storeName_cell I.ok.kind hk hc z λh' hc' hs=>?_;let#[oc,hoc,hocd]:=id z;refine h {s with heap:=h'} #[I.ok,I.os,I.bare,#[λb o e n hb hx=>?_,λb o e n hb hx=>?_,I.base.free,λb o e hx=>?_,I.base.tups,I.base.frzs,I.base.tbls],#[m,hn.sameBut hs^dH^cne x c hc,λj y v' e1 e2 e3=>?_],λy c' e=>?_,I.free,I.freeC,λp hp=>?_,tracked #[oc,hoc,I.freeC x c hc] hs,by simpa using I.len] #[c,hs,.inr hc]
  .exact(hs.2 b^cb^c6 (TM e)^I.ok.cab x c hfn hc).trans^I.base.keep b o e n hb hx
  .let#[sl,e1]:=I.base.slot b o e n hb hx
   exact#[sl,(hs.2 b^cb^c6 (TM e)^I.ok.cab x c hfn hc).trans e1]
  .let#[o',e1]:=I.base.there b o e hx
   exact#[o',(hs.2 b^cb^c6 (TM e)^I.ok.cab x c hfn hc).trans e1]
  .by_cases hj:j=i
   .subst hj
    rw[hi]at e1; cases e1
    rw[jL hiσ]at e2;cases e2;exact#[u,r,.inr #[.inl hk,c,hc,hc']]
   .rw[List.getElem?_set_ne^dH hj]at e2
    let#[u',r',q]:=hl j y v' e1 e2 e3;refine#[u',r',?_]
    rcases q with q|⟨k,c',e,z'⟩
    .exact .inl q
    .refine .inr #[k,c',e,z'.sameBut hs ?_]
     rintro rfl;exact hj^L3 hN e1 (I.ok.inj _ _ _ e hc▸hi)
  .by_cases hcc:c'=c
   .subst hcc; exact#[_,hc']
   .let#[w2,z2]:=I.cell y c' e
    exact#[w2,z2.sameBut hs hcc]
  .let#[e,n,ne,nf,d]:=I.pin p hp
   refine#[(hs.2 p.1 ?_).trans e,n,ne,nf,d];intro q;rw[q,hoc]at e;have q':oc=p.2:=XV e;exact d w'^by rw[←q']; exact hocd
theorem Dg{M:Model}{A:c_}{E:Cn->Go->Prop}{i:Nat}{x:Str}{v:V}{u:Cn}{Q:Unit->Go->Prop}(I:Inv X zG σ H s)(hN:X.N.Nodup)(hi:X.N[i]?=P3 x)(hx:Loc X.env.scope x)(r:RelV v u)
  (h:∀s',Inv X zG (σ.set i^P3 v) H s'->Q () s') (hf:X.fn x=k_\/X.env.scope.names.lookup x=P3 .local:=by first|exact .inl rfl|exact .inr rfl|assumption):wpAny M A (storeName X.env x u) Q E s:=
 JZ I hN hi hx r (λs' I' _=>h s' I') hf
theorem Inv.call'{s':Go}{ch:m_ Ch}(I:Inv X zG σ H s)(ho:s'.os=s.os)(u:Un (Js X.stack) ch H H' s.heap s'.heap)(hok:HOk X.prog X.w H' s'.heap)(hg:gM s'.gens)
  (hch:∀b∈ch,(b∈X.ex\/X.s₀.heap.objs.size<=b)/\b≠X.env.locals/\(∀x c,X.env.cells.lookup x=P3 c->c≠b)/\∀p∈X.pn++zG,p.1≠b):Inv X zG σ H' s':=by
 let#[h',g',d',t',o']:=s';subst ho;exact I.call u hok hg hch
end
abbrev XK:=Cn->n_ Ch->Hp->Prop
abbrev St:=m_^n_ V
abbrev VK:=V->Hp->Prop
abbrev TE:=St->Hp->VK->Prop
abbrev TT:=St->Hp->(Bool->Hp->Prop)->Prop
abbrev TA:=St->Hp->(m_ V->Hp->Prop)->Prop
structure Ends where
 nx:St->Hp->Prop
 rt:VK
 bk:St->Hp->Prop:=λ_ _=>False
 ct:St->Hp->Prop:=λ_ _=>False
abbrev TS:=Ends->St->Hp->Prop
def EP(X:Cx)(zG:m_ (Ch×Obj))(σ:St)(Q:VK)(u:Cn)(s':Go):Prop:=∃v H',Inv X zG σ H' s'/\RelV v u/\Q v H'
def TP(X:Cx)(zG:m_ (Ch×Obj))(σ:St)(Q:Bool->Hp->Prop)(b:Bool)(s':Go):Prop:=∃H',Inv X zG σ H' s'/\Q b H'
def AP(X:Cx)(zG:m_ (Ch×Obj))(σ:St)(Q:m_ V->Hp->Prop)(us:m_ Cn)(s':Go):Prop:=∃vs H',Inv X zG σ H' s'/\Vals vs us/\Q vs H'
def SP(X:Cx)(zG:m_ (Ch×Obj))(D:Ends)(f:Flow)(s':Go):Prop:=
 match f with
 |.next=>∃zZ H',Inv X zG zZ H' s'/\D.nx zZ H'
 |.brk=>∃zZ H',Inv X zG zZ H' s'/\D.bk zZ H'
 |.cont=>∃zZ H',Inv X zG zZ H' s'/\D.ct zZ H'
 |.ret u=>∃v zZ H',Inv X zG zZ H' s'/\RelV v u/\D.rt v H'
def PE(X:Cx)(e:cr)(t:TE):Prop:=
 ∀(zG:m_ (Ch×Obj)) (s:Go) (σ:St) (H:Hp) (Q:VK),Inv X zG σ H s->t σ H Q->wpAny (model X.prog X.w) X.A (eval e X.env) (EP X zG σ Q) X.xe s
def PT(X:Cx)(e:cr)(t:TT):Prop:=
 ∀(zG:m_ (Ch×Obj)) (s:Go) (σ:St) (H:Hp) (Q:Bool->Hp->Prop),Inv X zG σ H s->t σ H Q->wpAny (model X.prog X.w) X.A (isTrue e X.env^eval e X.env) (TP X zG σ Q) X.xe s
def PW(X:Cx)(e:cr)(t:TT):Prop:=
 ∀(whole:Sem Cn) (zG:m_ (Ch×Obj)) (s:Go) (σ:St) (H:Hp) (Q:Bool->Hp->Prop),Inv X zG σ H s->t σ H Q->wpAny (model X.prog X.w) X.A (isTrue e X.env whole) (TP X zG σ Q) X.xe s
theorem PW.pt{X:Cx}{e:cr}{t:TT}(h:PW X e t):PT X e t:=h _
def PA(X:Cx)(es:m_ cr)(t:TA):Prop:=
 ∀(pos:Pos) (zG:m_ (Ch×Obj)) (s:Go) (σ:St) (H:Hp) (Q:m_ V->Hp->Prop),Inv X zG σ H s->t σ H Q->wpAny (model X.prog X.w) X.A (spliced^backTo pos^starEach es X.env) (AP X zG σ Q) X.xe s
def PS(X:Cx)(st:d6)(t:TS):Prop:=
 ∀(zG:m_ (Ch×Obj)) (s:Go) (σ:St) (H:Hp) (D:Ends),Inv X zG σ H s->t D σ H->wpAny (model X.prog X.w) X.A (exec st X.env) (SP X zG D) X.xe s
def PSs(X:Cx)(st:m_ d6)(t:TS):Prop:=
 ∀(zG:m_ (Ch×Obj)) (s:Go) (σ:St) (H:Hp) (D:Ends),Inv X zG σ H s->t D σ H->wpAny (model X.prog X.w) X.A (execs st X.env) (SP X zG D) X.xe s
theorem A5{α:Type}{t:Sem α}{Q Q':α->Go->Prop}{M:Model}{A:c_}{E:Cn->Go->Prop}{s:Go}(h:wpAny M A t Q E s)(hQ:∀a s,Q a s->Q' a s):wpAny M A t Q' E s:=dI h hQ λ_ _ x=>x
section
variable {X:Cx}
def Bw(i:Nat):TE:=λσ H Q=>∃v,σ[i]?=P3^P3 v/\Q v H
def tC(v:V):TE:=λ_ H Q=>Q v H
theorem Kj{i:Nat}{x:Str}{pos:Pos}(hN:X.N[i]?=P3 x)(hv:VZ X.env.scope x)(hd:(x==("__debug__":Str))=l_:=by decide)(hcd:(x==("__classdict__":Str))=l_:=by decide):PE X (.Name x pos)^Bw i:=by
 intro zG s σ H Q I h;let#[v,e,h]:=h;let#[m,hn,hl]:=I.loc;let#[u,r,l]:=hl i x v hN e hv;have fin:EP X _ σ Q u s:=#[v,H,I,r,h]
 rcases l with⟨hk,hm⟩|⟨hk,c,hc,hcell⟩
 .exact wpAny_Name (wpAny_loadName_local I.ok.kind hk hn hm fin) hd
 .rcases hk with hk|hk
  .exact wpAny_Name (wpAny_loadName_cell I.ok.kind hk hc hcell fin) hd
  .exact wpAny_Name (wpAny_loadName_free I.ok.kind hk hc hcell fin hcd) hd
theorem Aq{i j pos}:PE X (.Constant (.int i) j pos)^tC^.int i:=λ_ _ _ H _ I h=>wpAny_Constant_int #[.int i,H,I.tok _,#[_,rfl],h]
theorem Y3{b j pos}:PE X (.Constant (.bool b) j pos)^tC^.bl b:=λ_ _ _ H _ I h=>Constant_bool #[.bl b,H,I,rfl,h]
theorem WS{j pos}:PE X (.Constant .none j pos)^tC .non:=λ_ _ _ H _ I h=>Constant_none #[.non,H,I,rfl,h]
theorem WQ{x j pos}:PE X (.Constant (.str x) j pos)^tC^.str x:=λ_ _ _ H _ I h=>Calls.Constant_str #[.str x,H,I.tok _,#[_,rfl],h]
def Gl(X:Cx)(x:Str):Prop:=X.env.kindOf x=P3 .globalImplicit
theorem Em{E:Cn->Go->Prop}{zG:m_ (Ch×Obj)}{s:Go}{σ:St}{H:Hp}{x:Str}{u:Cn}{pos:Pos}{Q:Cn->Go->Prop}(I:Inv X zG σ H s)(hg:Gl X x)(hm:X.mg x=P3 u)(h:Q u s)
  (hd:(x==("__debug__":Str))=l_:=by decide):wpAny (model X.prog X.w) X.A (eval (.Name x pos) X.env) Q E s:=
 ik I.ok.kind hg (Calls.loadGlobal_global (by rw[I.ok.glob]; exact I.mod.glob.keeps I.bk) hm h) hd
theorem D4{E:Cn->Go->Prop}{zG:m_ (Ch×Obj)}{s:Go}{σ:St}{H:Hp}{x:Str}{u:Cn}{pos:Pos}{Q:Cn->Go->Prop}(I:Inv X zG σ H s)(hg:Gl X x)(hm:X.mg x=j_)(hv:bootBuiltins x=P3 u)(h:Q u s)
  (hn:x ≠ "__name__":=by decide) (hd:(x==("__debug__":Str))=l_:=by decide):wpAny (model X.prog X.w) X.A (eval (.Name x pos) X.env) Q E s:=by
 let#[mb,h1,h2]:=I.mod.blt;exact ik I.ok.kind hg (Calls.loadGlobal_builtin (by rw[I.ok.glob]; exact I.mod.glob.keeps I.bk) hm (by rw[I.ok.blt]; exact h1.keeps I.bk) ((h2 x hn).trans hv) h) hd
theorem Tb{x:Str}{v:V}{u:Cn}{pos:Pos}(hg:Gl X x)(hm:X.mg x=P3 u)(r:RelV v u)(hd:(x==("__debug__":Str))=l_:=by decide):PE X (.Name x pos)^tC v:=
 λ_ _ _ H _ I h=>Em I hg hm #[v,H,I,r,h] hd
theorem Tf{x:Str}{v:V}{u:Cn}{pos:Pos}(hg:Gl X x)(hm:X.mg x=j_)(hv:bootBuiltins x=P3 u)(r:RelV v u)(hn:x ≠ "__name__":=by decide)(hd:(x==("__debug__":Str))=l_:=by decide):PE X (.Name x pos)^tC v:=
 λ_ _ _ H _ I h=>D4 I hg hm hv #[v,H,I,r,h] hn hd
variable {a b:Expr}{ta tb:TE}{pos:Pos}
def tB(t:TE):TT:=λσ H Q=>t σ H λx H1=>∃c,x=.bl c/\Q c H1
theorem WF{e:cr}{t:TE}(h:PE X e t)(he:∀whole,isTrue e X.env whole=(do let v ←whole; standAt e.pos; holding [v]^truthy v):=by intro _; rfl):PT X e^tB t:=by
 intro zG s σ H Q I hw;refine isTrue_plain (A5 (h _ s σ H _ I hw) λv s1 zz=>?_)^he _;let#[x,H1,I1,r1,q1]:=zz;let#[d,rfl,q]:=q1;cases r1;exact et #[H1,I1,q]
variable {tA tB':TT}{rest:m_ Expr}
def Ye(t u:TT):TT:=λσ H Q=>t σ H λc H1=>if c=k_ then u σ H1 Q else Q l_ H1
def cI(t u:TT):TT:=λσ H Q=>t σ H λc H1=>if c=k_ then Q k_ H1 else u σ H1 Q
def ar(t:TT):TT:=λσ H Q=>t σ H λc H1=>Q (!c) H1
theorem OD(ha:PT X a tA):PW X (.BoolOp .And [a] pos) tA:=by
 intro wh zG s σ H Q I h;refine isTrue_and^A5 (ha _ s σ H Q I h) λc s1 e=>?_;cases c with
 |true=>exact isTrue_and_nil e
 |false=>exact e
theorem WE(ha:PT X a tA):PW X (.BoolOp .Or [a] pos) tA:=by
 intro wh zG s σ H Q I h;refine isTrue_or^A5 (ha _ s σ H Q I h) λc s1 e=>?_;cases c with
 |false=>exact isTrue_or_nil e
 |true=>exact e
theorem Q_(ha:PT X a tA)(hb:PW X (.BoolOp .And (b::rest) pos) tB'):PW X (.BoolOp .And (a::b::rest) pos)^Ye tA tB':=by
 intro wh zG s σ H Q I h;refine isTrue_and^A5 (ha _ s σ H _ I h) λc s1 #[H1,I1,q1]=>?_;cases c with
 |true=>exact hb wh _ s1 σ H1 Q I1 q1
 |false=>assumption
theorem Y0(ha:PT X a tA)(hb:PW X (.BoolOp .Or (b::rest) pos) tB'):PW X (.BoolOp .Or (a::b::rest) pos)^cI tA tB':=by
 intro wh zG s σ H Q I h;refine isTrue_or^A5 (ha _ s σ H _ I h) λc s1 #[H1,I1,q1]=>?_;cases c with
 |true=>assumption
 |false=>exact hb wh _ s1 σ H1 Q I1 q1
theorem WG(ha:PT X a tA):PT X (.UnaryOp .Not a pos)^ar tA:=λzG s σ H Q I h=>isTrue_not^ha _ s σ H _ I h
def Yd(ta tb:TE):TE:=λσ H Q=>ta σ H λx H1=>∃c,x=.bl c/\if c=k_ then tb σ H1 Q else Q (.bl l_) H1
def aq(ta tb:TE):TE:=λσ H Q=>ta σ H λx H1=>∃c,x=.bl c/\if c=k_ then Q (.bl k_) H1 else tb σ H1 Q
def YX(ta:TE):TE:=λσ H Q=>ta σ H λx H1=>∃c,x=.bl c/\Q (.bl (!c)) H1
theorem WU(ha:PE X a ta)(hb:PE X (.BoolOp .And (b::rest) pos) tb):PE X (.BoolOp .And (a::b::rest) pos)^Yd ta tb:=by
 intro zG s σ H Q I h;refine BoolOp_and^A5 (ha _ s σ H _ I h) λv s1 zz=>?_;let#[x,H1,I1,r1,q1]:=zz;let#[c,rfl,q1]:=q1;cases r1;refine et ?_;cases c with
 |true=>exact hb _ s1 σ H1 Q I1 q1
 |false=>exact#[.bl _,H1,I1,rfl,q1]
theorem Y2(ha:PE X a ta)(hb:PE X (.BoolOp .Or (b::rest) pos) tb):PE X (.BoolOp .Or (a::b::rest) pos)^aq ta tb:=by
 intro zG s σ H Q I h;refine BoolOp_or^A5 (ha _ s σ H _ I h) λv s1 zz=>?_;let#[x,H1,I1,r1,q1]:=zz;let#[c,rfl,q1]:=q1;cases r1;refine et ?_;cases c with
 |false=>exact hb _ s1 σ H1 Q I1 q1
 |true=>exact#[.bl _,H1,I1,rfl,q1]
theorem WR(ha:PE X a ta):PE X (.UnaryOp .Not a pos)^YX ta:=by
 intro zG s σ H Q I h;refine UnaryOp_^A5 (ha _ s σ H _ I h) λv s1 zz=>?_;let#[x,H1,I1,r1,q1]:=zz;let#[c,rfl,q1]:=q1;cases r1;exact not_of^et #[.bl _,H1,I1,rfl,q1]
def cJ(t:TT)(ta tb:TE):TE:=λσ H Q=>t σ H λc H1=>if c=k_ then ta σ H1 Q else tb σ H1 Q
theorem Lz{c:cr}(hc:PT X c tA)(ha:PE X a ta)(hb:PE X b tb):PE X (.IfExp c a b pos)^cJ tA ta tb:=by
 intro zG s σ H Q I h;refine wpAny_IfExp^A5 (hc _ s σ H _ I h) λd s1 zz=>?_;let#[H1,I1,q1]:=zz;cases d with
 |true=>exact ha _ s1 σ H1 Q I1 q1
 |false=>exact hb _ s1 σ H1 Q I1 q1
end
def SqL(K:Frag)(H:Hp)(a:Ch)(xs:m_ V):Prop:=
 Rd H a (.lst xs) \/
  ∃(o:Obj) (its:Array Cn) (n:Nat),K.lookup a=P3 o/\o.cls=.type "list"/\o.dict=j_/\o.data=.seq its n/\its.size<=sizeLine/\Vals xs its.toList
def SqT(K:Frag)(H:Hp)(a:Ch)(xs:m_ V):Prop:=
 Rd H a (.tup xs) \/
  ∃(o:Obj) (its:Array Cn) (n:Nat),K.lookup a=P3 o/\o.cls=.type "tuple"/\o.data=.seq its n/\its.size<=sizeLine/\Vals xs its.toList
def bT:Cn->n_ V
 |.none=>P3 .non
 |.bool b=>P3^.bl b
 |.int i _=>P3^.int i
 |.str x _=>P3^.str x
 |.bytes b _=>P3^.byt b
 |.float b _=>P3^.flt b
 |.ref a=>P3^.ref a
 |.type n=>P3^.ty n
 |_=>j_
theorem RelV.abs{x:V}{u:Cn}(r:RelV x u):bT u=P3 x:=by
 cases x with
 |non=>cases r; rfl
 |bl _=>cases r; rfl
 |int _=>let#[t,rfl]:=r; rfl
 |str _=>let#[t,rfl]:=r; rfl
 |byt _=>let#[t,rfl]:=r; rfl
 |flt _=>let#[t,rfl]:=r; rfl
 |ref _=>cases r; rfl
 |ty _=>cases r; rfl
theorem RelV.inj{x y:V}{u:Cn}(r:RelV x u)(q:RelV y u):x=y:=XV^r.abs.symm.trans q.abs
theorem Vals.inj:∀{xs ys:m_ V}{us:m_ Cn},Vals xs us->Vals ys us->xs=ys
 |_,_,_,.nil,.nil=>rfl
 |_,_,_,.cons r t,.cons r' t'=>by rw[r.inj r',Vals.inj t t']
section
variable {X:Cx}{zG:m_ (Addr×Obj)}{σ:St}{H:Hp}{s:Shared}{a:Addr}{xs ys:m_ V}
theorem SqL.of{K:Frag}(h:H a=P3^.lst xs):SqL K H a xs:=.inl^.inl h
theorem SqT.of{K:Frag}(h:H a=P3^.tup xs):SqT K H a xs:=.inl^.inl h
theorem Inv.list(I:Inv X zG σ H s)(h:SqL X.K H a xs):∃its:m_ Cn,Vals xs its/\PlainL s.heap a its.toArray/\xs.length<=sizeLine:=by
 rcases h with h|⟨o,its,n,hk,hc,hd,hs,hz,r⟩
 .let#[z,its,n,r,e]:=h.ok I.hok
  exact#[_,r,#[_,n,e,rfl,rfl,rfl],z]
 .refine#[_,r,#[o,n,I.kIn a o hk,hc,hd,by lk],?_]
  have e:=r.length
  grind
theorem Inv.tuple(I:Inv X zG σ H s)(h:SqT X.K H a xs):∃its:m_ Cn,Vals xs its/\IsTup s.heap a its.toArray/\xs.length<=sizeLine:=by
 rcases h with h|⟨o,its,n,hk,hc,hs,hz,r⟩
 .let#[z,its,r,p]:=h.ok I.hok
  exact#[_,r,p.tup,z]
 .refine#[_,r,#[o,I.kIn a o hk,hc,n,by lk],?_]
  have e:=r.length
  grind
theorem Inv.list_inj(I:Inv X zG σ H s)(h:SqL X.K H a xs)(h':SqL X.K H a ys):xs=ys:=by
 let#[its,r,#[o,n,e,_,_,d],_]:=I.list h;let#[its',r',#[o',n',e',_,_,d'],_]:=I.list h'
 have:its=its':=by grind
 subst this;exact r.inj r'
theorem Inv.tuple_inj(I:Inv X zG σ H s)(h:SqT X.K H a xs)(h':SqT X.K H a ys):xs=ys:=by
 let#[its,r,#[o,e,_,n,d],_]:=I.tuple h;let#[its',r',#[o',e',_,n',d'],_]:=I.tuple h'
 have:its=its':=by grind
 subst this;exact r.inj r'
end
abbrev Cx.wish(X:Cx)(E:Cn->Go->Prop):Cx:={X with xe:=E}
abbrev Cx.nox(X:Cx):Cx:=X.wish λ_ _=>False
theorem Cx.Ok.wish{X:Cx}(ok:X.Ok)(E:Cn->Go->Prop):(X.wish E).Ok:=
 #[ok.mod,ok.kind,ok.glob,ok.blt,ok.above,ok.inj,ok.has,ok.cab,ok.hd,ok.frames,ok.stk,ok.exf,ok.bs,ok.bsz,ok.noex,ok.exfs,ok.funs,ok.frf]
theorem Cx.Ok.unwish{X:Cx}{E:Cn->Go->Prop}(ok:(X.wish E).Ok):X.Ok:=
 #[ok.mod,ok.kind,ok.glob,ok.blt,ok.above,ok.inj,ok.has,ok.cab,ok.hd,ok.frames,ok.stk,ok.exf,ok.bs,ok.bsz,ok.noex,ok.exfs,ok.funs,ok.frf]
section
variable {X:Cx}{zG:m_ (Addr×Obj)}{σ:St}{H:Hp}{s:Shared}{E:Value->Shared->Prop}
theorem Inv.wish(I:Inv X zG σ H s)(E:Cn->Go->Prop):Inv (X.wish E) zG σ H s:=#[I.ok.wish E,I.os,I.bare,I.base,I.loc,I.cell,I.free,I.freeC,I.pin,I.hok,I.len]
theorem Inv.unwish(I:Inv (X.wish E) zG σ H s):Inv X zG σ H s:=#[I.ok.unwish,I.os,I.bare,I.base,I.loc,I.cell,I.free,I.freeC,I.pin,I.hok,I.len]
theorem SP.unwish{D:Ends}{f:Flow}{s':Go}(h:SP (X.wish E) zG D f s'):SP X zG D f s':=by
 cases f with
 |next=>let#[zZ,H',I,q]:=h; exact#[_,H',I.unwish,q]
 |brk=>let#[zZ,H',I,q]:=h; exact#[_,H',I.unwish,q]
 |cont=>let#[zZ,H',I,q]:=h; exact#[_,H',I.unwish,q]
 |ret u=>let#[v,zZ,H',I,r,q]:=h; exact#[v,_,H',I.unwish,r,q]
theorem PSs.nox{st:m_ d6}{t:TS}(h:PSs X.nox st t):PSs X st t:=λzG s σ H D I hw=>
 dI (h _ s σ H D (I.wish _) hw) (λ_ _ q=>q.unwish) λ_ _ z=>dQ z
end
section
variable {X:Cx}{st:Stmt}{rest:m_ Stmt}{t u:TS}{e:Expr}{te:TE}{pos:Pos}
def Uu:TS:=λD σ H=>D.nx σ H
def PF(t u:TS):TS:=λD σ H=>t {D with nx:=u D} σ H
theorem Kg:PSs X [] Uu:=λ_ _ σ H _ I h=>f9 #[σ,H,I,h]
theorem A8(h1:PS X st t)(h2:PSs X rest u):PSs X (st::rest)^PF t u:=by
 intro zG s σ H D I h;refine jB^A5 (h1 _ s σ H _ I h) λf s1 q=>?_;cases f with
 |next=>
  let#[zZ,H',I',q]:=q;exact h2 _ s1 _ H' D I' q
 |ret v=>exact q
 |brk=>exact q
 |cont=>exact q
theorem Cq(h1:PS X st t):PSs X [st] t:=by
 intro zG s σ H D I h;refine jB^A5 (h1 _ s σ H D I h) λf s1 q=>?_;cases f with
 |next=>exact f9 q
 |ret v=>exact q
 |brk=>exact q
 |cont=>exact q
theorem Inv.quiet{zG:m_ (Ch×Obj)}{σ:St}{H:Hp}{s:Go}(I:Inv X zG σ H s):interactive X.env=l_:=by simp[interactive,I.ok.kind]
def Ya(te:TE):TS:=λD σ H=>te σ H λ_ H1=>D.nx σ H1
theorem OH(he:PE X e te)(hs:swapsWith e j_ pos.line X.env=pure l_:=by rfl):PS X (.Expr e pos)^Ya te:=λzG s σ H D I h=>wpAny_Expr_any (A5 (he _ s σ H _ I h) λv s1 #[x,H1,I1,r1,q1]=>#[σ,H1,I1,q1]) I.quiet hs
def TB(te:TE):TS:=λD σ H=>te σ H D.rt
theorem EQ(he:PE X e te):PS X (.Return (P3 e) pos)^TB te:=λzG s σ H D I h=>wpAny_Return_some^A5 (he _ s σ H _ I h) λv s1 #[x,H1,I1,r1,q1]=>#[x,σ,H1,I1,r1,q1]
def YZ(c:TT)(t u:TS):TS:=λD σ H=>c σ H λb H1=>if b=k_ then t D σ H1 else u D σ H1
theorem OG{c:cr}{a b:m_ d6}{tc:TT}(hc:PT X c tc)(ha:PSs X a t)(hb:PSs X b u):PS X (.If c a b pos)^YZ tc t u:=by
 intro zG s σ H D I h;refine wpAny_If^A5 (hc _ s σ H _ I h) λd s1 zz=>?_;let#[H1,I1,q1]:=zz;cases d with
 |true=>exact ha _ s1 σ H1 D I1 q1
 |false=>exact hb _ s1 σ H1 D I1 q1
end
abbrev TG:=V->St->Hp->(St->Hp->Prop)->Prop
abbrev Xs:=m_ V->St->Hp->(St->Hp->Prop)->Prop
def PG(X:Cx)(target:cr)(t:TG):Prop:=
 ∀(zG:m_ (Ch×Obj)) (s:Go) (σ:St) (H:Hp) (v:V) (u:Cn) (Q:St->Hp->Prop),Inv X zG σ H s->RelV v u->t v σ H Q->
  wpAny (model X.prog X.w) X.A (assign target X.env u) (λ_ s'=>∃zZ H',Inv X zG zZ H' s'/\Q zZ H') X.xe s
def Z7(X:Cx)(ts:m_ cr)(t:Xs):Prop:=
 ∀(zG:m_ (Ch×Obj)) (s:Go) (σ:St) (H:Hp) (vs:m_ V) (us:m_ Cn) (Q:St->Hp->Prop),Inv X zG σ H s->Vals vs us->t vs σ H Q->
  wpAny (model X.prog X.w) X.A (assignInOrder ((assignEach ts X.env).map (·.2)) us) (λ_ s'=>∃zZ H',Inv X zG zZ H' s'/\Q zZ H') X.xe s
abbrev Xr:=V->V->V->Hp->(Hp->Prop)->Prop
def Z5(X:Cx)(t:Xr):Prop:=
 ∀(zG:m_ (Ch×Obj)) (s:Go) (σ:St) (H:Hp) (o i v:V) (ov iv u:Cn) (Q:Hp->Prop),Inv X zG σ H s->RelV o ov->RelV i iv->RelV v u->t o i v H Q->
  wpAny (model X.prog X.w) X.A (setItem ov iv u) (λ_ s'=>∃H',Inv X zG σ H' s'/\Q H') X.xe s
abbrev aN:=V->V->Hp->VK->Prop
def cA(X:Cx)(op:Operator)(t:aN):Prop:=
 ∀(zG:m_ (Ch×Obj)) (s:Go) (σ:St) (H:Hp) (x y:V) (v u:Cn) (Q:VK),Inv X zG σ H s->RelV x v->RelV y u->t x y H Q->
  wpAny (model X.prog X.w) X.A (inplaceOp op v u) (EP X zG σ Q) X.xe s
section
variable {X:Cx}{pos:Pos}
def Gv(i:Nat):TG:=λv σ H Q=>Q (σ.set i^P3 v) H
theorem Fh{i:Nat}{x:Str}(hN:X.N.Nodup)(hi:X.N[i]?=P3 x)(hx:Loc X.env.scope x)(hf:X.fn x=k_\/X.env.scope.names.lookup x=P3 .local:=by first|exact .inl rfl|exact .inr rfl|assumption):PG X (.Name x pos)^Gv i:=λzG s σ H v u Q I r h=>wpAny_assign_Name^Dg I hN hi hx r (λs' I'=>#[_,H,I',h]) hf
def bM:Xs:=λvs σ H Q=>vs=[]/\Q σ H
def ZK(t:TG)(u:Xs):Xs:=λvs σ H Q=>∃v r,vs=v::r/\t v σ H λzZ H'=>u r zZ H' Q
theorem OK:Z7 X [] bM:=by
 intro zG s σ H vs us Q I r h;let#[e,h]:=h;exact assignInOrder_nil #[σ,H,I,h]
theorem Fg{e:cr}{es:m_ cr}{t:TG}{u:Xs}(h1:PG X e t)(h2:Z7 X es u)
  (hs:(assignEach (e::es) X.env).map (·.2)=assign e X.env::(assignEach es X.env).map (·.2):=by rfl):Z7 X (e::es)^ZK t u:=by
 intro zG s σ H vs us Q I r h;let#[v,vr,e1,h]:=h;subst e1;cases r with
 |cons r rr=>
  rw[hs];refine iY^A5 (h1 _ s σ H _ _ _ I r h) λ_ s1 zz=>?_;let#[_,H1,I1,q1]:=zz;exact h2 _ s1 _ H1 _ _ Q I1 rr q1
def bL(K:Frag)(n:Nat)(t:Xs):TG:=λv σ H Q=>∃a xs,v=.ref a/\SqT K H a xs/\xs.length=n/\t xs σ H Q
theorem RK{es:m_ cr}{k:Nat}{t:Xs}{n:Nat}(hc:X.calm=k_)(h:Z7 X es t)
  (hn:(assignEach es X.env).length=n:=by rfl) (hst:(assignEach es X.env).findIdx? (·.1)=j_:=by rfl):PG X (.Tuple es k pos)^bL X.K n t:=by
 intro zG s σ H v u Q I r hw;let#[a,xs,e1,hq,hl,hw]:=hw;subst e1;cases r;let#[its,rv,ht,hz]:=I.tuple hq;exact assign_Tuple_tuple (I.ok.hd hc) ht (by simp[hn,←hl,rv.length]) hst λh' hx=>h _ _ σ H xs _ Q (I.kept λb o e=>hx b o (cb^TM e) e) (by lk) hw
def ZJ(to ti:TE)(t:Xr):TG:=λv σ H Q=>to σ H λo H1=>ti σ H1 λi H2=>t o i v H2 λH3=>Q σ H3
theorem ND{o i:cr}{to ti:TE}{t:Xr}(ho:PE X o to)(hi:PE X i ti)(hs:Z5 X t)
  (ha:∀v,assign (.Subscript o i pos) X.env v=(do
   let ov ←holding [v]^eval o X.env
   let iv ←holding [v,ov] (eval i X.env)
   standAt pos
   holding [v,ov,iv] (setItem ov iv v)
   release [v,ov,iv] []):=by intro _; rfl):PG X (.Subscript o i pos)^ZJ to ti t:=λzG s σ H v u Q I r h=>Db^eI^A5 (ho _ s σ H _ I h) λov s1 #[x,H1,I1,r1,q1]=>Db^eI^A5 (hi _ s1 σ H1 _ I1 q1) λiv s2 #[y,H2,I2,r2,q2]=>Db^gS^Db^eI^A5 (hs _ s2 σ H2 x y v ov iv u _ I2 r1 r2 r q2) λ_ s3 #[H3,I3,q3]=>wpAny_release #[σ,H3,I3,q3]
def Lk(te:TE)(g:TG):TS:=λD σ H=>te σ H λx H1=>g x σ H1 D.nx
theorem Ki{tg e:cr}{te:TE}{g:TG}(he:PE X e te)(hg:PG X tg g)(hs:swapsWithSole [tg] e pos.line X.env=pure l_:=by rfl)(hw:swappedStores [tg] e X.env=pure j_:=by rfl)
  (h1:(assignEach [tg] X.env).map (·.2)=[assign tg X.env]:=by rfl):PS X (.Assign [tg] e pos)^Lk te g:=by
 intro zG s σ H D I h;refine wpAny_Assign_stores (A5 (he _ s σ H _ I h) λv s1 #[x,H1,I1,r1,q1]=>?_) hs hw;rw[h1];exact A5 (hg _ s1 σ H1 x v _ I1 r1 q1) λ_ s2 q=>q
theorem Dx{i:Nat}{x:Str}{e:cr}{te:TE}{pos':Pos}(hN:X.N.Nodup)(hi:X.N[i]?=P3 x)(hx:Loc X.env.scope x)(he:PE X e te)(hs:swapsWith e (P3^.Name x pos') pos.line X.env=pure l_:=by rfl)(hf:X.fn x=k_\/X.env.scope.names.lookup x=P3 .local:=by first|exact .inl rfl|exact .inr rfl|assumption):
  PS X (.Assign [.Name x pos'] e pos) (Lk te^Gv i):=λzG s σ H D I h=>wpAny_Assign_Name (A5 (he _ s σ H _ I h) λv s1 #[y,H1,I1,r1,q1]=>Dg I1 hN hi hx r1 (λs2 I2=>#[_,H1,I2,q1]) hf) hs
def ao(i j:Nat)(ta:TA):TS:=λD σ H=>ta σ H λvs H1=>∃v w,vs=[v,w]/\D.nx ((σ.set i^P3 v).set j^P3 w) H1
theorem WJ{i j:Nat}{x y:Str}{a b:cr}{ta:TA}{px py pt:Pos}{kt k2 pt2}(hc:X.calm=k_)(hN:X.N.Nodup)(hi:X.N[i]?=P3 x)(hj:X.N[j]?=P3 y)(hij:i≠j)
  (hx:X.env.scope.names.lookup x=P3 .local) (hy:X.env.scope.names.lookup y=P3 .local) (ha:PA X [a,b] ta)
  (hw:swappedStores [.Tuple [.Name x px,.Name y py] kt pt] (.Tuple [a,b] k2 pt2) X.env=pure^P3 [x,y])
  (hs:swapsWithSole [.Tuple [.Name x px,.Name y py] kt pt] (.Tuple [a,b] k2 pt2) pos.line X.env=pure l_:=by rfl):
  PS X (.Assign [.Tuple [.Name x px,.Name y py] kt pt] (.Tuple [a,b] k2 pt2) pos) (ao i j ta):=by
 intro zG s σ H D I h;rw[exec_Assign_arm];refine Db^gS ?_;rw[hs];refine Db^UF ?_;rw[if_neg^by cbv];refine Db^Tuple_^A5 (ha _ zG s σ H _ I h) λus s1 zz=>?_;let#[vs,H1,I1,r1,q1]:=zz;let#[v,w,e1,q1]:=q1;subst e1
 obtain⟨u1,u2,rfl,rv,rw'⟩:∃u1 u2,us=[u1,u2]/\RelV v u1/\RelV w u2:=by
  cases r1 with
  | cons p q=>
   cases q with
   |cons p' q'=>
    cases q';exact#[_,_,rfl,p,p']
 refine eR ?_ (by show 2<=sizeLine; decide);have I2:Inv X zG σ H1 {s1 with heap:=s1.heap.push {cls:=.type "tuple",data:=.seq [u1,u2].toArray}}:=I1.kept (t':=s1.toks) λb o e=>Ev _ e;rw[hw];refine Db^UF ?_;show wpAny (model X.prog X.w) X.A (do rule "assign.swapped-stores"; let items ←unpackItems (.ref s1.heap.objs.size) 2 j_; assignInOrder [λv=>bindName X.env y v,λv=>bindName X.env x v] items.reverse; pure Flow.next) _ _ _;refine Db^gw^Db^unpackItems_tuple (items:=#[ u1,u2]) (I.ok.hd hc) (IsTup.new s1.heap _) λh' hx'=>?_;have I3:=I2.kept (h':=h') (t':=s1.toks) λb o e=>hx' b o (cb^TM e) e;show wpAny _ _ (assignInOrder [λv=>bindName X.env y v,λv=>bindName X.env x v] [u2,u1] >>=λ_=>pure Flow.next) _ _ _;refine Db^iY^wpAny_bindName^Dg I3 hN hj (.inl hy) rw' (λs2 I4=>?_)^.inr hy;refine iY^wpAny_bindName^Dg I4 hN hi (.inl hx) rv (λs3 I5=>assignInOrder_nil^UF ?_)^.inr hx;rw[List.set_comm _ _^dH hij]at I5;exact#[_,H1,I5,q1]
def az(i:Nat)(te:TE)(ti:aN):TS:=λD σ H=>∃x,σ[i]?=P3^P3 x/\te σ H λy H1=>ti x y H1 λz H2=>D.nx (σ.set i^P3 z) H2
theorem WL{i:Nat}{x:Str}{e:cr}{te:TE}{op:Operator}{ti:aN}{pos':Pos}(hN:X.N.Nodup)(hi:X.N[i]?=P3 x)(hx:Loc X.env.scope x)(he:PE X e te)(ho:cA X op ti)(hf:X.fn x=k_\/X.env.scope.names.lookup x=P3 .local:=by first|exact .inl rfl|exact .inr rfl|assumption):
  PS X (.AugAssign (.Name x pos') op e pos) (az i te ti):=by
 intro zG s σ H D I h;let#[v,e1,h]:=h;let#[m,hn,hl]:=I.loc;have vis:VZ X.env.scope x:=by rcases hx with k|k; exact .inl k; exact .inr^.inl k
 let#[u,r,l]:=hl i x v hi e1 vis;refine wpAny_AugAssign_Name ?_
 have go:wpAny (model X.prog X.w) X.A (eval e X.env) (λw s₂=>wpAny (model X.prog X.w) X.A (inplaceOp op u w) (λr s₃=>wpAny (model X.prog X.w) X.A (storeName X.env x r) (λ_=>SP X zG D .next) X.xe s₃) X.xe s₂) X.xe s:=by
  refine A5 (he zG s σ H _ I h) λw s1 zz=>?_;let#[y,H1,I1,r1,q1]:=zz;refine A5 (ho zG s1 σ H1 v y u w _ I1 r r1 q1) λz s2 zz=>?_;let#[zv,H2,I2,r2,q2]:=zz;exact Dg I2 hN hi hx r2 (λs3 I3=>#[_,H2,I3,q2]) hf
 rcases l with⟨hk,hm⟩|⟨hk,c,hc,hcell⟩
 .exact wpAny_loadName_local I.ok.kind hk hn hm go
 .rcases hk with hk|hk
  .exact wpAny_loadName_cell I.ok.kind hk hc hcell go
  .rcases hx with k|k
   .have:X.env.scope.names.lookup x=P3 .free:=hk
    rw[k]at this; cases this
   .have:X.env.scope.names.lookup x=P3 .free:=hk
    rw[k]at this; cases this
def cN(f:Int->Int->Int):aN:=λx y H Q=>∃i j,x=.int i/\y=.int j/\Q (.int^f i j) H
theorem Wv:cA X .Add (cN λi j=>i+j):=by
 intro zG s σ H x y v u Q I r1 r2 h;let#[i,j,e1,e2,q]:=h;subst e1; subst e2
 let#[t,rfl]:=r1;let#[t',rfl]:=r2;exact iadd_int #[.int _,H,I.tok _,#[_,rfl],q]
end
section
variable {X:Cx}{pos:Pos}
def Vx(c:TT)(tb:TS):TS:=λD σ H=>∃W:Nat->St->Hp->Prop,(∃m,W m σ H)/\∀m σ H,W m σ H->
 c σ H λb H1=>if b=k_ then ∃N:St->Hp->Prop,(∀zZ H',N zZ H'->∃m',m'<m/\W m' zZ H')/\tb {D with nx:=N,ct:=N,bk:=D.nx} σ H1 else D.nx σ H1
theorem RD{c:cr}{body:m_ d6}{tc:TT}{tb:TS}(hp:jI (model X.prog X.w) X.A X.env X.xe)(hc:PT X c tc)(hb:PSs X body tb):PS X (.While c body [] pos)^Vx tc tb:=by
 intro zG s σ H D I h;let#[W,#[m0,w0],turn]:=h;refine wpAny_While^codeAny_whileLoop (λn s'=>∃zZ H',Inv X zG zZ H' s'/\W n zZ H') ?_ m0 #[σ,H,I,w0];rintro n s1 ⟨zJ,H1,I1,w1⟩;refine fX hp^A5 (hc zG s1 zJ H1 _ I1^turn n zJ H1 w1) λb s2 zz=>?_;let#[H2,I2,q2]:=zz;cases b with
 | true=>
  let#[N,hN,q2]:=q2;rw[if_pos rfl];refine fX hp^A5 (hb zG s2 zJ H2 _ I2 q2) λf s3 q3=>?_;cases f with
  |next=>
   let#[zV,H3,I3,n3]:=q3;let#[m',hm,w3]:=hN zV H3 n3;exact#[m',hm,zV,H3,I3,w3]
  |cont=>
   let#[zV,H3,I3,n3]:=q3;let#[m',hm,w3]:=hN zV H3 n3;exact#[m',hm,zV,H3,I3,w3]
  |brk=>exact q3
  |ret v=>exact q3
 |false=>
  rw[if_neg cx];exact f9 #[zJ,H2,I2,q2]
end
structure It where
 go:Nat->Hp->Prop
 yld:Nat->Hp->V->Hp->Prop
 stop:Nat->Hp->Prop
def GB(X:Cx)(zG:m_ (Ch×Obj))(H:Hp)(b:Ch):Prop:=
 H b=j_/\b≠X.env.locals/\b∉X.fs/\(b∈X.ex\/X.s₀.heap.objs.size<=b)/\(∀x c,X.env.cells.lookup x=P3 c->c≠b)/\∀p∈X.pn++zG,p.1≠b
theorem Inv.fpOk{X:Cx}{zG:m_ (Ch×Obj)}{σ:St}{H H':Hp}{s:Go}{b:Ch}(I:Inv X zG σ H s)(hb:s.heap.objs.size<=b)(hn:H' b=j_):GB X zG H' b:=by
 refine#[hn,fm^c6 I.lt hb,I.nofs hb,.inr^c5 I.sz hb,λx c e z=>?_,λp hp z=>?_]
 .let#[v,q]:=I.cell x c e
  exact absurd (c6 q.lt^by rw[z]; exact hb)^dZ _
 .exact absurd (c6 (TM (I.pin p hp).1)^by rw[z]; exact hb)^dZ _
structure Turn (P:cm) (w:cy) (K:Frag) (tg:cr) (J:It) (fp:List Ch) (it:Ch) (tn:Nat->cf->Prop):Prop where
 mem:it∈fp
 obj:∀i h,tn i h->∀b∈fp,∃o,h.get? b=P3 o/\∀v,o.data≠.cell v
 keep:∀i h h',tn i h->(∀b∈fp,∀o,h.get? b=P3 o->h'.get? b=P3 o)->tn i h'
 item:∀(X:Cx),X.prog=P->X.w=w->X.K=K->X.calm=k_->∀(i:Nat) (zG:List (Ch×Obj)) (s:Go) (σ:St) (H:Hp) (E:Cn->Go->Prop),Inv X zG σ H s->(∀b∈fp,GB X zG H b)->tn i s.heap->J.go i H->
  wpAny (model P w) X.A (pyNext^.ref it) (λr s1=>∃u,r=P3 u /\
   wpAny (model P w) X.A (letOwnedTupleGo tg (.ref it) u) (λ_ s2=>∃x H',Inv X zG σ H' s2/\RelV x u/\J.yld i H x H'/\tn (i+1) s2.heap/\∀b∈fp,H' b=j_) E s1) E s
 done:∀(X:Cx),X.prog=P->X.w=w->X.K=K->X.calm=k_->∀(i:Nat) (zG:List (Ch×Obj)) (s:Go) (σ:St) (H:Hp) (E:Cn->Go->Prop),Inv X zG σ H s->(∀b∈fp,GB X zG H b)->tn i s.heap->J.stop i H->
  wpAny (model P w) X.A (pyNext^.ref it) (λr s1=>r=j_/\Inv X zG σ H s1) E s
 self:∀(A:c_) (i:Nat) (s:Go) (Q:Cn->Go->Prop) (E:Cn->Go->Prop),tn i s.heap->Q (.ref it) s->wpAny (model P w) A (pyIter^.ref it) Q E s
abbrev TI:=St->Hp->(It->Hp->Prop)->Prop
def cB(X:Cx)(zG:m_ (Ch×Obj))(σ:St)(tg:cr)(R:It->Hp->Prop)(itv:Cn)(s2:Go):Prop:=
 ∃(it:Ch) (fp:m_ Ch) (tn:Nat->cf->Prop) (J:It) (H':Hp),itv=.ref it/\Inv X zG σ H' s2/\Turn X.prog X.w X.K tg J fp it tn/\tn 0 s2.heap/\(∀b∈fp,GB X zG H' b)/\R J H'
def PI(X:Cx)(tg iter:cr)(wi:TI):Prop:=
 ∀(zG:m_ (Ch×Obj)) (s:Go) (σ:St) (H:Hp) (R:It->Hp->Prop),Inv X zG σ H s->wi σ H R->
  wpAny (model X.prog X.w) X.A (eval iter X.env) (λv s1=>wpAny (model X.prog X.w) X.A (pyIter v) (cB X zG σ tg R) X.xe s1) X.xe s
theorem MF {M:Model}{A:c_}{E:Cn → Go → Prop}{s:Go}{tg:cr}{it:Ch}{u:Cn}{o:Obj}{n:String}{vs:Array Cn}{Q:Unit → Go → Prop} (ho:s.heap.get? it=P3 o) (hc:o.cls=.type n) (hd:o.data=.fields vs)
    (hn:["enumerate","zip","dict_itemiterator","dict_reverseitemiterator","odict_iterator","itertools.zip_longest","itertools.pairwise"].contains n=l_) (hQ:Q () s):wpAny M A (letOwnedTupleGo tg (.ref it) u) Q E s:=by
  unfold letOwnedTupleGo
  cases tg <;>first
    |exact UF hQ
    |(cases u <;>first
        |exact UF hQ
        | (refine Db^wpAny_load ho ?_
           rw[hc,hd];show wpAny M A (if(["enumerate","zip","dict_itemiterator","dict_reverseitemiterator","odict_iterator","itertools.zip_longest","itertools.pairwise"].contains n && vs[0]?==P3^rawInt _)=k_ then _ else _) Q E s;rw[if_neg^by grind];exact UF hQ))
def bh(K:Frag)(a:Ch):It:=
 #[λi H=>∃xs x,SqL K H a xs/\xs[i]?=P3 x,λi H x H'=>H'=H/\∀xs,SqL K H a xs->xs[i]?=P3 x,λi H=>∃xs,SqL K H a xs/\xs.length<=i]
def Xz(K:Frag)(a:Ch):It:=
 #[λi H=>∃xs x,SqT K H a xs/\xs[i]?=P3 x,λi H x H'=>H'=H/\∀xs,SqT K H a xs->xs[i]?=P3 x,λi H=>∃xs,SqT K H a xs/\xs.length<=i]
def aP(lo:Int)(n:Nat):It:=#[λi _=>i<n,λi H x H'=>H'=H/\x=.int (lo+i),λi _=>n<=i]
theorem PB{P:cm}{w:cy}{K:Frag}{tg:cr}(a it:Ch):Turn P w K tg (bh K a) [it] it (λi h=>h.IsListIter it a i) where
 mem:=by simp
 obj:=λi h st b hb=>by
  have e:b=it:=by simpa using hb
  subst e;let#[o,e,c,d]:=st;exact#[o,e,λv z=>by rw[d]at z; cases z]
 keep:=λi h h' st k=>st.at λo e=>k it (by simp) o e
 item:=by
  intro X hP hw hK hc i zG s σ H E I hf st hg;subst hP hw hK;let#[xs,x,hq,hx]:=hg;let#[its,rv,p,hz]:=I.list hq;let#[u,hu,ru]:=rv.get hx;let#[f0,f1,f2,f3,f4,f5]:=hf it (by simp);refine wpAny_pyNext_list_item st p.isList (x:=u) (by simpa using hu) λh' st' sb=>?_;have I1:Inv X zG σ H {s with heap:=h'}:=I.turned (t':=s.toks) (λb o hb e=>(sb.2 b hb).trans e) f0 f1 f3 f4 f5;let#[o,e,c,d]:=id st';exact#[u,rfl,MF (s:={s with heap:=h'}) e c d (by cbv) #[x,H,I1,ru,#[rfl,λys hy=>by rw[I.list_inj hy hq]; exact hx],st',λb hb=>(hf b hb).1]]
 done:=by
  intro X hP hw hK hc i zG s σ H E I hf st hg;subst hP hw hK;let#[xs,hq,hx]:=hg;let#[its,rv,p,hz]:=I.list hq;let#[f0,f1,f2,f3,f4,f5]:=hf it (by simp);have hl:=rv.length;exact wpAny_pyNext_list_end (I.ok.hd hc) st p.isList (by simp; omega) λh' eb=>#[rfl,I.turned (t':=s.toks) (λb o hb e=>eb b o hb e) f0 f1 f3 f4 f5]
 self:=λ_ _ _ _ _ st h=>wpAny_pyIter_listiter st h
theorem Hf{P:cm}{w:cy}{K:Frag}{tg:cr}(a it:Ch):Turn P w K tg (Xz K a) [it] it (λi h=>h.IsTupleIter it a i) where
 mem:=by simp
 obj:=λi h st b hb=>by
  have e:b=it:=by simpa using hb
  subst e;let#[o,e,c,d]:=st;exact#[o,e,λv z=>by rw[d]at z; cases z]
 keep:=λi h h' st k=>st.at λo e=>k it (by simp) o e
 item:=by
  intro X hP hw hK hc i zG s σ H E I hf st hg;subst hP hw hK;let#[xs,x,hq,hx]:=hg;let#[its,rv,p,hz]:=I.tuple hq;let#[u,hu,ru]:=rv.get hx;let#[f0,f1,f2,f3,f4,f5]:=hf it (by simp);refine wpAny_pyNext_tuple_item st (show s.heap.IsTuple a its.toArray from p) (x:=u) (by simpa using hu) λh' st' sb=>?_;have I1:Inv X zG σ H {s with heap:=h'}:=I.turned (t':=s.toks) (λb o hb e=>(sb.2 b hb).trans e) f0 f1 f3 f4 f5;let#[o,e,c,d]:=id st';exact#[u,rfl,MF (s:={s with heap:=h'}) e c d (by cbv) #[x,H,I1,ru,#[rfl,λys hy=>by rw[I.tuple_inj hy hq]; exact hx],st',λb hb=>(hf b hb).1]]
 done:=by
  intro X hP hw hK hc i zG s σ H E I hf st hg;subst hP hw hK;let#[xs,hq,hx]:=hg;let#[its,rv,p,hz]:=I.tuple hq;let#[f0,f1,f2,f3,f4,f5]:=hf it (by simp);have hl:=rv.length;exact wpAny_pyNext_tuple_end (I.ok.hd hc) st (show s.heap.IsTuple a its.toArray from p) (by simp; omega) λh' eb=>#[rfl,I.turned (t':=s.toks) (λb o hb e=>eb b o hb e) f0 f1 f3 f4 f5]
 self:=λ_ _ _ _ _ st h=>wpAny_pyIter_tupleiter st h
theorem Mr{P:cm}{w:cy}{K:Frag}{tg:cr}(it:Ch)(lo:Int)(n:Nat):Turn P w K tg (aP lo n) [it] it (λi h=>IsRangeIter h it (lo+(i:Nat)*1) ((n:Int) - (i:Nat)) 1) where
 mem:=by simp
 obj:=λi h st b hb=>by
  simp_all
 keep:=λi h h' st k=>k it (by simp) _ st
 item:=by
  intro X hP hw hK hc i zG s σ H E I hf st hg;subst hP hw hK;let#[f0,f1,f2,f3,f4,f5]:=hf it (by simp);have W:=Walks.range (prog:=X.prog) (w:=X.w) (I.ok.hd hc) it lo 1 n;refine W.item i s _ _ hg st λv h' tk hv st' kk=>?_;let#[t,rfl]:=hv;have I1:Inv X zG σ H {s with heap:=h',toks:=tk}:=I.turned (λb o hb e=>kk b o (by simpa using hb) e) f0 f1 f3 f4 f5;refine#[_,rfl,MF (s:={s with heap:=h',toks:=tk}) (n:="range_iterator") st' rfl rfl (by cbv) #[.int (lo+i),H,I1,#[t,?_],#[rfl,rfl],st',λb hb=>(hf b hb).1]];rw[Int.mul_one]
 done:=by
  intro X hP hw hK hc i zG s σ H E I hf st hg;subst hP hw hK;let#[f0,f1,f2,f3,f4,f5]:=hf it (by simp);exact wpAny_pyNext_range_end (I.ok.hd hc) st (by have:n<=i:=hg; omega) λh' eb=>#[rfl,I.turned (t':=s.toks) (λb o hb e=>eb b o hb e) f0 f1 f3 f4 f5]
 self:=λ_ _ _ _ _ st h=>wpAny_pyIter_rangeiter st h
section
variable {X:Cx}{tg:Expr}
def bJ(K:Frag)(tl:TE):TI:=λσ H R=>tl σ H λx H1=>∃a,x=.ref a/\(∃xs,SqT K H1 a xs)/\R (Xz K a) H1
theorem RH{l:cr}{tl:TE}(hl:PE X l tl):PI X tg l^bJ X.K tl:=by
 intro zG s σ H R I h;refine A5 (hl _ s σ H _ I h) λv s1 zz=>?_;let#[x,H1,I1,r1,q1]:=zz;let#[a,e,#[xs,hq],q]:=q1;subst e;cases r1;let#[its,rv,p,hz]:=I1.tuple hq;refine dh (p) ?_;refine#[_,_,_,_,H1,rfl,I1.kept λb o e=>Ev _ e,Hf a _,#[_,Re _ rfl,rfl,rfl],λb hb=>?_,q];have e:b=s1.heap.objs.size:=by grind
 subst e;exact I1.fpOk (Rs _)^I1.hok.fresh^Rs _
theorem Q3{zG:m_ (Ch×Obj)}{σ:St}{H:Hp}{s:Go}{R:It->Hp->Prop}{E:Cn->Go->Prop}{lo hi:Int}{t u v:Tok}{tk:Nat}(I:Inv X zG σ H s)(h1:-(2 ^ 62)<=lo)(h2:lo<2 ^ 62)(h3:-(2 ^ 62)<=hi)(h4:hi<2 ^ 62)
  (q:R (aP lo (hi - lo).toNat) H):wpAny (model X.prog X.w) X.A (pyIter^.ref s.heap.objs.size) (cB X zG σ tg R) E {s with heap:=s.heap.push {cls:=.type "range",data:=.fields #[ .int lo t,.int hi u,.int 1 v]},toks:=tk}:=by
 refine wpAny_pyIter_range (IsRange.new ..) (small_one h1 h2 h3 h4) ?_;have I1:Inv X zG σ H {s with heap:=s.heap.push {cls:=.type "range",data:=.fields #[ .int lo t,.int hi u,.int 1 v]},toks:=tk}:=I.kept λb o e=>Ev _ e
 refine#[(s.heap.push {cls:=.type "range",data:=.fields #[ .int lo t,.int hi u,.int 1 v]}).objs.size,[(s.heap.push {cls:=.type "range",data:=.fields #[ .int lo t,.int hi u,.int 1 v]}).objs.size],_,_,H,rfl,
  I1.kept (t':=tk) λb o e=>Ev _ e,Mr _ lo (hi - lo).toNat,?_,λb hb=>?_,q]
 .have e1:lo+((0:Nat):Int)*1=lo:=by simp
  have e2:(((hi - lo).toNat:Nat):Int) - ((0:Nat):Int)=Builtin.Range.rangeSize lo hi 1:=by rw[rangeSize_one]; grind
  show IsRangeIter _ _ (lo+((0:Nat):Int)*1) ((((hi - lo).toNat:Nat):Int) - ((0:Nat):Int)) 1;rw[e1,e2];exact Re _ rfl
 .have e:b=(s.heap.push {cls:=.type "range",data:=.fields #[ .int lo t,.int hi u,.int 1 v]}).objs.size:=by simpa using hb
  subst e;exact I1.fpOk (Rs _)^I1.hok.fresh^Rs _
def ZG(ta:TA):TI:=λσ H R=>ta σ H λvs H1=>∃j:Int,vs=[.int j]/\-(2 ^ 62)<=j/\j<2 ^ 62/\R (aP 0 j.toNat) H1
theorem PQ{a:cr}{ta:TA}{p pos:Pos}(hg:Gl X "range")(hm:X.mg "range"=j_)(ha:PA X [a] ta)(hs:starEach [a] X.env=[(l_,eval a X.env)]:=by rfl):PI X tg (.Call (.Name "range" p) [a] [] pos)^ZG ta:=by
 intro zG s σ H R I h;refine Call_^D4 I hg hm boot_range (eM (A5 (ha _ _ s σ H _ I h) λus s1 zz=>?_) hs rfl);let#[vs,H1,I1,r1,q1]:=zz;let#[j,e,q1,q2,q]:=q1;subst e;cases r1 with
 |cons r rr=>
  cases rr;let#[t,rfl]:=r;exact call_range_1^Q3 I1 (by lk) (by lk) q1 q2^by simpa using q
def ax(wi:TI)(g:TG)(tb:TS):TS:=λD σ H=>wi σ H λJ H1=>∃W:Nat->Nat->St->Hp->Prop,(∃m,W 0 m σ H1)/\∀i m σ H,W i m σ H->
 (J.stop i H/\D.nx σ H)\/(J.go i H/\∃N:St->Hp->Prop,(∀zZ H',N zZ H'->∃m',m'<m/\W (i+1) m' zZ H')/\∀x H',J.yld i H x H'->g x σ H' λzN H2=>tb {D with nx:=N,ct:=N,bk:=D.nx} zN H2)
def Hy(fp:m_ Ch)(h:cf):m_ (Ch×Obj):=fp.filterMap λb=>(h.get? b).map λo=>(b,o)
theorem Dz{fp:m_ Ch}{h:cf}{b:Ch}{o:Obj}(hb:b∈fp)(e:h.get? b=P3 o):(b,o)∈Hy fp h:=iZ.mpr #[b,hb,by rw[e]; rfl]
theorem Pf{fp:m_ Ch}{h:cf}{p:Ch×Obj}(hp:p∈Hy fp h):p.1∈fp/\h.get? p.1=P3 p.2:=by
 let#[b,hb,e]:=iZ.mp hp;cases q:h.get? b with
 |none=>grind
 |some o=>
  rw[q]at e;have e':=XV e;subst e'
  simp_all
theorem Inv.pinned{zG:m_ (Ch×Obj)}{σ:St}{H:Hp}{s:Go}{fp:m_ Ch}(I:Inv X zG σ H s)(hf:∀b∈fp,GB X zG H b)(ho:∀b∈fp,∃o,s.heap.get? b=P3 o/\∀v,o.data≠.cell v):Inv X (zG++Hy fp s.heap) σ H s:=
 I.pins_of λp hp=>(cn.mp hp).elim (λz=>I.pin p^cW _ z) λz=>by
  let#[hb,e]:=Pf z;let#[f0,f1,f2,_]:=hf _ hb;let#[o,e',d]:=ho _ hb
  grind
theorem Inv.unpinned{zG pl:m_ (Ch×Obj)}{σ:St}{H:Hp}{s:Go}(I:Inv X (zG++pl) σ H s):Inv X zG σ H s:=I.pins_of λp hp=>I.pin p^cW _^df _ hp
theorem Kh{iter:cr}{body:m_ d6}{wi:TI}{g:TG}{tb:TS}{pos:Pos}(hp:jI (model X.prog X.w) X.A X.env X.xe)(hc:X.calm=k_)(hi:PI X tg iter wi)(hg:PG X tg g)(hb:PSs X body tb)
  (hs:∀x,foldedSetIterable iter X.env x=pure x:=by intro _; rfl):PS X (.For tg iter body [] pos)^ax wi g tb:=by
 intro zG s σ H D I h;refine wpAny_For (A5 (hi zG s σ H _ I h) λv s1 h1=>A5 h1 λitv s2 h2=>?_) hs;let#[it,fp,tn,J,H2,e,I2,T,st2,f2,W,#[m0,w0],turn]:=h2;subst e;have stat:∀{H':Hp},(∀b∈fp,H' b=j_)->∀b∈fp,GB X zG H' b:=λhn b hb=>#[hn b hb,(f2 b hb).2];refine codeAny_forLoop_any (λn s'=>∃i zZ H',Inv X zG zZ H' s'/\tn i s'.heap/\(∀b∈fp,H' b=j_)/\W i n zZ H') ?_ m0 #[0,σ,H2,I2,st2,λb hb=>(f2 b hb).1,w0];rintro n s3 ⟨i,zV,H3,I3,st3,fr3,w3⟩
 rcases turn i n zV H3 w3 with⟨stop,qn⟩|⟨go,N,hN,step⟩
 .refine fX hp^A5 (T.done X rfl rfl rfl hc i zG s3 zV H3 X.xe I3 (stat fr3) st3 stop) λr s4 zz=>?_;let#[hr,I4]:=zz
  subst hr;exact f9 #[zV,H3,I4,qn]
 .refine fX hp^A5 (T.item X rfl rfl rfl hc i zG s3 zV H3 X.xe I3 (stat fr3) st3 go) λr s4 zz=>?_;let#[u,hr,h4]:=zz
  subst hr;refine fX hp^A5 h4 λ_ s5 zz=>?_;let#[x,H5,I5,r5,y5,st5,fr5]:=zz;have I5':=I5.pinned (stat fr5)^T.obj _ _ st5;refine fX hp^A5 (hg _ s5 zV H5 x u _ I5' r5^step x H5 y5) λ_ s6 zz=>?_;let#[σ6,H6,I6,q6]:=zz;refine fX hp^A5 (hb _ s6 σ6 H6 _ I6 q6) λf s7 q7=>?_
  have again:∀{zM:St}{H7:Hp},Inv X (zG++Hy fp s5.heap) zM H7 s7->N zM H7->∃m,m<n/\∃i zZ H',Inv X zG zZ H' s7/\tn i s7.heap/\(∀b∈fp,H' b=j_)/\W i m zZ H':=λ{zM H7} I7 n7=>by
   let#[m',hm,w7]:=hN zM H7 n7;refine#[m',hm,i+1,zM,H7,I7.unpinned,T.keep _ _ _ st5 λb hb o e=>(I7.pin (b,o)^cW _^cW _^Dz hb e).1,λb hb=>?_,w7];let#[o,e,d]:=T.obj _ _ st5 b hb;exact(I7.pin (b,o)^cW _^cW _^Dz hb e).2.1
  cases f with
  |next=>let#[zM,H7,I7,n7]:=q7; exact again I7 n7
  |cont=>let#[zM,H7,I7,n7]:=q7; exact again I7 n7
  |brk=>let#[zM,H7,I7,q7]:=q7; exact#[zM,H7,I7.unpinned,q7]
  |ret v=>let#[x7,zM,H7,I7,r7,q7]:=q7; exact#[x7,zM,H7,I7.unpinned,r7,q7]
end
theorem Od{K:Frag}{a:Ch}{xs:m_ V}{g:TG}{tb:TS}{D:Ends}{σ:St}{H:Hp}(Pv:Nat->St->Hp->Prop)(h0:Pv 0 σ H)(hl:∀i σ H,i<=xs.length->Pv i σ H->SqT K H a xs)
  (hs:∀i x σ H,xs[i]?=P3 x->Pv i σ H->g x σ H λzN H2=>tb {D with nx:=Pv (i+1),ct:=Pv (i+1),bk:=D.nx} zN H2) (hd:∀σ H,Pv xs.length σ H->D.nx σ H):
  ∃W:Nat->Nat->St->Hp->Prop,(∃m,W 0 m σ H)/\∀i m σ H,W i m σ H->
   ((Xz K a).stop i H/\D.nx σ H)\/((Xz K a).go i H/\∃N:St->Hp->Prop,(∀zZ H',N zZ H'->∃m',m'<m/\W (i+1) m' zZ H')/\∀x H',(Xz K a).yld i H x H'->g x σ H' λzN H2=>tb {D with nx:=N,ct:=N,bk:=D.nx} zN H2):=by
 refine#[λi m σ H=>m=xs.length - i/\i<=xs.length/\Pv i σ H,#[xs.length,by simp,cq _,h0],?_];rintro i m σ H ⟨rfl,hi,p⟩;have q:=hl i σ H hi p
 by_cases hlt:i<xs.length
 .refine .inr #[#[xs,xs[i],q,by simp],_,λzZ H' p'=>#[_,by lk,rfl,hlt,p'],λx H' y=>?_]
  let#[e,y]:=y;subst e;exact hs i x σ _ (y xs q) p
 .have e:i=xs.length:=by lk
  subst e;exact .inl #[#[xs,q,Rs _],hd σ H p]
abbrev R2:=V->V->Hp->VK->Prop
def OpR(X:Cx)(f:Cn->Cn->Sem Cn)(r:R2):Prop:=
 ∀(zG:m_ (Ch×Obj)) (s:Go) (σ:St) (H:Hp) (x y:V) (v u:Cn) (Q:VK),Inv X zG σ H s->RelV x v->RelV y u->r x y H Q->
  wpAny (model X.prog X.w) X.A (f v u) (EP X zG σ Q) X.xe s
def bW(X:Cx)(f:Cn->Sem Cn)(r:V->Hp->VK->Prop):Prop:=
 ∀(zG:m_ (Ch×Obj)) (s:Go) (σ:St) (H:Hp) (x:V) (v:Cn) (Q:VK),Inv X zG σ H s->RelV x v->r x H Q->
  wpAny (model X.prog X.w) X.A (f v) (EP X zG σ Q) X.xe s
def B9(X:Cx)(f:Cn)(r:m_ V->Hp->VK->Prop):Prop:=
 ∀(zG:m_ (Ch×Obj)) (s:Go) (σ:St) (H:Hp) (xs:m_ V) (us:m_ Cn) (Q:VK),Inv X zG σ H s->Vals xs us->r xs H Q->
  wpAny (model X.prog X.w) X.A (call f us) (EP X zG σ Q) X.xe s
def bX(X:Cx)(r:V->Hp->(Bool->Hp->Prop)->Prop):Prop:=
 ∀(zG:m_ (Ch×Obj)) (s:Go) (σ:St) (H:Hp) (x:V) (v:Cn) (Q:Bool->Hp->Prop),Inv X zG σ H s->RelV x v->r x H Q->
  wpAny (model X.prog X.w) X.A (truthy v) (TP X zG σ Q) X.xe s
def Df(r:R2)(ta tb:TE):TE:=λσ H Q=>ta σ H λx H1=>tb σ H1 λy H2=>r x y H2 Q
def cG(r:V->Hp->VK->Prop)(ta:TE):TE:=λσ H Q=>ta σ H λx H1=>r x H1 Q
def rI(C:Int->Int->Prop)(g:Int->Int->V):R2:=λx y H Q=>∃i j,x=.int i/\y=.int j/\C i j/\Q (g i j) H
def Gg(g:Int->Int->V):R2:=λx y H Q=>∃i j,x=.int i/\y=.int j/\Q (g i j) H
def rU(g:Int->V):V->Hp->VK->Prop:=λx H Q=>∃i,x=.int i/\Q (g i) H
section
variable {X:Cx}{a b:Expr}{ta tb:TE}{pos:Pos}
theorem XQ(ha:PE X a ta)(hb:PE X b tb){zG:m_ (Ch×Obj)}{s:Go}{σ:St}{H:Hp}{R:V->V->Hp->Prop}(I:Inv X zG σ H s)
  (h:ta σ H λx H1=>tb σ H1 λy H2=>R x y H2) {Q:Cn->Go->Prop}{f:Cn->Cn->Sem Cn}
  (hf:∀v u s2 x y H2,Inv X zG σ H2 s2->RelV x v->RelV y u->R x y H2->wpAny (model X.prog X.w) X.A (f v u) Q X.xe s2):
  wpAny (model X.prog X.w) X.A (eval a X.env) (λv s₁=>wpAny (model X.prog X.w) X.A (eval b X.env) (λu s₂=>wpAny (model X.prog X.w) X.A (f v u) Q X.xe s₂) X.xe s₁) X.xe s:=A5 (ha _ s σ H _ I h) λv s1 #[x,H1,I1,r1,q1]=>A5 (hb _ s1 σ H1 _ I1 q1) λu s2 #[y,H2,I2,r2,q2]=>hf v u s2 x y H2 I2 r1 r2 q2
theorem Bm{op:Operator}{r:R2}(ho:OpR X (binaryOp op) r)(ha:PE X a ta)(hb:PE X b tb):PE X (.BinOp a op b pos)^Df r ta tb:=λzG s σ H Q I h=>wpAny_BinOp^XQ ha hb I h λv u s2 x y H2 I2 rx ry q=>ho _ s2 σ H2 x y v u Q I2 rx ry q
theorem Y1{op:UnaryOp}{r:V->Hp->VK->Prop}(ho:bW X (unaryOp op) r)(ha:PE X a ta):PE X (.UnaryOp op a pos)^cG r ta:=λzG s σ H Q I h=>UnaryOp_^A5 (ha _ s σ H _ I h) λv s1 #[x,H1,I1,r1,q1]=>ho _ s1 σ H1 x v Q I1 r1 q1
theorem aI{f:Cn->Cn->Sem Cn}{C:Int->Int->Prop}{g:Int->Int->Int}
  (rule:∀(i j:Int) (t u:Tok) (s:Go) (Q:Cn->Go->Prop) (E:Cn->Go->Prop),C i j->Q (.int (g i j) s.toks) {s with toks:=s.toks+1}->wpAny (model X.prog X.w) X.A (f (.int i t)^.int j u) Q E s):
  OpR X f (rI C λi j=>.int^g i j):=by
 intro zG s σ H x y v u Q I rx ry h;let#[i,j,rfl,rfl,hc,q]:=h;let#[t,rfl]:=rx;let#[t',rfl]:=ry;exact rule i j t t' s _ _ hc #[.int _,H,I.tok _,#[_,rfl],q]
theorem Y6{f:Cn->Cn->Sem Cn}{g:Int->Int->Int}
  (rule:∀(i j:Int) (t u:Tok) (s:Go) (Q:Cn->Go->Prop) (E:Cn->Go->Prop),Q (.int (g i j) s.toks) {s with toks:=s.toks+1}->wpAny (model X.prog X.w) X.A (f (.int i t)^.int j u) Q E s):
  OpR X f (Gg λi j=>.int^g i j):=by
 intro zG s σ H x y v u Q I rx ry h;let#[i,j,rfl,rfl,q]:=h;let#[t,rfl]:=rx;let#[t',rfl]:=ry;exact rule i j t t' s _ _ #[.int _,H,I.tok _,#[_,rfl],q]
theorem Th{f:Cn->Cn->Sem Cn}{g:Int->Int->Bool}
  (rule:∀(i j:Int) (t u:Tok) (s:Go) (Q:Cn->Go->Prop) (E:Cn->Go->Prop),Q (.bool^g i j) s->wpAny (model X.prog X.w) X.A (f (.int i t)^.int j u) Q E s):
  OpR X f (Gg λi j=>.bl^g i j):=by
 intro zG s σ H x y v u Q I rx ry h;let#[i,j,rfl,rfl,q]:=h;let#[t,rfl]:=rx;let#[t',rfl]:=ry;exact rule i j t t' s _ _ #[.bl _,H,I,rfl,q]
def Up(i j:Int):Prop:=0<j/\j<1073741824
def aB(i j:Int):Prop:=0<=j/\j<=1000000/\i.natAbs<2 ^ 64
def CMul(i j:Int):Prop:=(-(2 ^ 64)<i/\i<2 ^ 64)\/(-(2 ^ 64)<j/\j<2 ^ 64)
theorem CMul.ok{i j:Int}(h:CMul i j):IntMulOk i j:=by
 rcases h with⟨h1,h2⟩|⟨h1,h2⟩
 .exact .of_left^intBits_le_64 h1 h2
 .exact .of_right^intBits_le_64 h1 h2
theorem op_add:OpR X (binaryOp .Add) (Gg λi j=>.int (i+j)):=Y6 λ_ _ _ _ _ _ _ q=>add_int q
theorem op_sub:OpR X (binaryOp .Sub) (Gg λi j=>.int (i - j)):=Y6 λ_ _ _ _ _ _ _ q=>sub_int q
theorem op_mul:OpR X (binaryOp .Mult) (rI CMul λi j=>.int (i*j)):=aI λ_ _ _ _ _ _ _ hc q=>mul_int q hc.ok
theorem HF:OpR X (binaryOp .FloorDiv) (rI Up λi j=>.int (i / j)):=aI λi j _ _ _ _ _ hc q=>by
 have h1:=hc.1;have h2:=hc.2;exact floordiv_int (by lk) (by grind)^.inl^PyProof.noPylong_small^by lk
theorem DV:OpR X (binaryOp .Mod) (rI (λ_ j=>0<j) λi j=>.int (i % j)):=aI λi j _ _ _ _ _ hc q=>mod_int' (by lk)^by rw[Int.fmod_eq_emod_of_nonneg i^by lk]; exact q
theorem RU:OpR X (binaryOp .Pow) (rI aB λi j=>.int (i ^ j.toNat)):=aI λ_ _ _ _ _ _ _ hc q=>pow_int_small hc.1 hc.2.1 hc.2.2 q
theorem cE{f:Cn->Sem Cn}{g:Int->Int}
  (rule:∀(i:Int) (t:Tok) (s:Go) (Q:Cn->Go->Prop) (E:Cn->Go->Prop),Q (.int (g i) s.toks) {s with toks:=s.toks+1}->wpAny (model X.prog X.w) X.A (f^.int i t) Q E s):
  bW X f (rU λi=>.int^g i):=by
 intro zG s σ H x v Q I rx h;let#[i,rfl,q]:=h;let#[t,rfl]:=rx;exact rule i t s _ _ #[.int _,H,I.tok _,#[_,rfl],q]
theorem Vr:bW X (unaryOp .USub) (rU λi=>.int (-i)):=cE λ_ _ _ _ _ q=>neg_int q
end
def Yf:V->V->Bool
 |.non,.non=>k_|.non,.int _=>k_|.int _,.non=>k_|.non,.bl _=>k_|.bl _,.non=>k_|.non,.str _=>k_|.str _,.non=>k_
 |.int _,.int _=>k_|.bl _,.bl _=>k_|.str _,.str _=>k_|.byt _,.byt _=>k_
 |.int _,.str _=>k_|.str _,.int _=>k_|.bl _,.str _=>k_|.str _,.bl _=>k_
 |_,_=>l_
def bw:R2:=λx y H Q=>Yf x y=k_/\Q (.bl (decide (x=y))) H
def bq:R2:=λx y H Q=>Yf x y=k_/\Q (.bl (!decide (x=y))) H
theorem HR{i j:Int}:decide (V.int i=V.int j)=(i==j):=by
 rw[dC];simp
theorem LF{i j:Bool}:decide (V.bl i=V.bl j)=(i==j):=by
 rw[dC];simp
theorem HQ{i j:Str}:decide (V.str i=V.str j)=(i==j):=by
 rw[dC];simp
theorem Oo{i j:Array UInt8}:decide (V.byt i=V.byt j)=(i.toList==j.toList):=by
 rw[dC]
 simp_all
section
variable {X:Cx}{a b:Expr}{ta tb:TE}{pos:Pos}
theorem Am{zG:m_ (Ch×Obj)}{σ:St}{H:Hp}{s:Go}{Q:VK}{k k':Bool}(I:Inv X zG σ H s)(q:Q (.bl k) H)(e:k=k'):EP X zG σ Q (.bool k') s:=by
 subst e;exact#[.bl k,H,I,rfl,q]
theorem Bx:OpR X (compareOp .Eq) bw:=by
 intro zG s σ H x y v u Q I rx ry h;let#[hs,q]:=h;cases x with
 |non=>
  cases rx;cases y with
  |non=>cases ry; exact PySem.EqNone.eq_none_none^Am I q^by simp
  |bl j=>cases ry; exact PySem.EqNone.eq_none_bool^Am I q^by simp
  |int j=>let#[t',rfl]:=ry; exact PySem.EqNone.eq_none_int^Am I q^by simp
  |str j=>let#[t',rfl]:=ry; exact PySem.EqNone.eq_none_str^Am I q^by simp
  |_=>exact absurd (show l_=k_ from hs) cx
 |bl i=>
  cases rx;cases y with
  |non=>cases ry; exact PySem.EqNone.eq_bool_none^Am I q^by simp
  |bl j=>cases ry; exact eq_bool^Am I q LF
  |str j=>let#[t',rfl]:=ry; exact PySem.EqMixed.eq_bool_str^Am I q^by simp
  |_=>exact absurd (show l_=k_ from hs) cx
 |int i=>
  let#[t,rfl]:=rx;cases y with
  |non=>cases ry; exact PySem.EqNone.eq_int_none^Am I q^by simp
  |int j=>let#[t',rfl]:=ry; exact eq_int^Am I q HR
  |str j=>let#[t',rfl]:=ry; exact PySem.EqMixed.eq_int_str^Am I q^by simp
  |_=>exact absurd (show l_=k_ from hs) cx
 |str i=>
  let#[t,rfl]:=rx;cases y with
  |non=>cases ry; exact PySem.EqNone.eq_str_none^Am I q^by simp
  |bl j=>cases ry; exact PySem.EqMixed.eq_str_bool^Am I q^by simp
  |int j=>let#[t',rfl]:=ry; exact PySem.EqMixed.eq_str_int^Am I q^by simp
  |str j=>let#[t',rfl]:=ry; exact eq_str^Am I q HQ
  |_=>exact absurd (show l_=k_ from hs) cx
 |byt i=>
  let#[t,rfl]:=rx;cases y with
  |byt j=>let#[t',rfl]:=ry; exact PySem.W.eq_bytes^Am I q Oo
  |_=>exact absurd (show l_=k_ from hs) cx
 |_=>cases y <;>exact absurd (show l_=k_ from hs) cx
theorem Gi:OpR X (compareOp .NotEq) bq:=by
 intro zG s σ H x y v u Q I rx ry h;let#[hs,q]:=h;cases x with
 |non=>
  cases rx;cases y with
  |non=>cases ry; exact PySem.EqNone.ne_none_none^Am I q^by simp
  |bl j=>cases ry; exact PySem.EqNone.ne_none_bool^Am I q^by simp
  |int j=>let#[t',rfl]:=ry; exact PySem.EqNone.ne_none_int^Am I q^by simp
  |str j=>let#[t',rfl]:=ry; exact PySem.EqNone.ne_none_str^Am I q^by simp
  |_=>exact absurd (show l_=k_ from hs) cx
 |bl i=>
  cases rx;cases y with
  |non=>cases ry; exact PySem.EqNone.ne_bool_none^Am I q^by simp
  |bl j=>cases ry; exact ne_bool^Am I q^congrArg not LF
  |str j=>let#[t',rfl]:=ry; exact PySem.EqMixed.ne_bool_str^Am I q^by simp
  |_=>exact absurd (show l_=k_ from hs) cx
 |int i=>
  let#[t,rfl]:=rx;cases y with
  |non=>cases ry; exact PySem.EqNone.ne_int_none^Am I q^by simp
  |int j=>let#[t',rfl]:=ry; exact ne_int^Am I q^congrArg not HR
  |str j=>let#[t',rfl]:=ry; exact PySem.EqMixed.ne_int_str^Am I q^by simp
  |_=>exact absurd (show l_=k_ from hs) cx
 |str i=>
  let#[t,rfl]:=rx;cases y with
  |non=>cases ry; exact PySem.EqNone.ne_str_none^Am I q^by simp
  |bl j=>cases ry; exact PySem.EqMixed.ne_str_bool^Am I q^by simp
  |int j=>let#[t',rfl]:=ry; exact PySem.EqMixed.ne_str_int^Am I q^by simp
  |str j=>let#[t',rfl]:=ry; exact ne_str^Am I q^congrArg not HQ
  |_=>exact absurd (show l_=k_ from hs) cx
 |byt i=>
  let#[t,rfl]:=rx;cases y with
  |byt j=>let#[t',rfl]:=ry; exact PySem.W.ne_bytes^Am I q^congrArg not Oo
  |_=>exact absurd (show l_=k_ from hs) cx
 |_=>cases y <;>exact absurd (show l_=k_ from hs) cx
theorem op_lt:OpR X (compareOp .Lt) (Gg λi j=>.bl (decide (i<j))):=Th λ_ _ _ _ _ _ _ q=>jM q
theorem op_le:OpR X (compareOp .LtE) (Gg λi j=>.bl (decide (i<=j))):=Th λ_ _ _ _ _ _ _ q=>le_int q
theorem VD:OpR X (compareOp .Gt) (Gg λi j=>.bl (decide (j<i))):=Th λ_ _ _ _ _ _ _ q=>gt_int q
theorem VE:OpR X (compareOp .GtE) (Gg λi j=>.bl (decide (j<=i))):=Th λ_ _ _ _ _ _ _ q=>ge_int q
theorem Pb:OpR X (compareOp .Lt) (λx y H Q=>∃i j,x=.str i/\y=.str j/\Q (.bl (decide (i.cps.toList<j.cps.toList))) H):=by
 intro zG s σ H x y v u Q I rx ry h;let#[i,j,rfl,rfl,q]:=h;let#[t,rfl]:=rx;let#[t',rfl]:=ry;exact lt_str (Am I q rfl)
theorem ES:OpR X (compareOp .Is) (λx y H Q=>y=.non/\Q (.bl (decide (x=.non))) H):=by
 intro zG s σ H x y v u Q I rx ry h;let#[rfl,q]:=h;cases ry;refine is_none_gen^Am I q ?_
 cases x <;>first
  |omega
  |(let#[t,rfl]:=rx; rfl)
theorem Kp:OpR X (compareOp .IsNot) (λx y H Q=>y=.non/\Q (.bl (!decide (x=.non))) H):=by
 intro zG s σ H x y v u Q I rx ry h;let#[rfl,q]:=h;cases ry;refine isnot_none_gen^Am I q ?_
 cases x <;>first
  |omega
  |(let#[t,rfl]:=rx; rfl)
theorem OpR.or{f:Cn->Cn->Sem Cn}{r r':R2}(h:OpR X f r)(h':OpR X f r'):OpR X f (λx y H Q=>r x y H Q\/r' x y H Q):=by
 intro zG s σ H x y v u Q I rx ry q
 rcases q with q|q
 .exact h _ s σ H x y v u Q I rx ry q
 .exact h' _ s σ H x y v u Q I rx ry q
theorem BV(b:cr){op:CmpOp}(h:op≠.In:=by decide)(h2:op≠.NotIn:=by decide):behindInMarks op b=l_:=by
 have e1:(op==CmpOp.In)=l_:=by grind
 have e2:(op==CmpOp.NotIn)=l_:=by grind
 cases b <;>simp[behindInMarks,e1,e2]
theorem Te{op:CmpOp}{r:R2}(ho:OpR X (compareOp op) r)(ha:PE X a ta)(hb:PE X b tb)(hm:behindInMarks op b=l_):PE X (.Compare a [op] [b] pos)^Df r ta tb:=λzG s σ H Q I h=>wpAny_Compare1 (XQ ha hb I h λv u s2 x y H2 I2 rx ry q=>ho _ s2 σ H2 x y v u Q I2 rx ry q) hm
def Qo(t:TE):TT:=λσ H Q=>t σ H λx H'=>∃k,x=.bl k/\Q k H'
theorem Fe{op:CmpOp}{r:R2}(ho:OpR X (compareOp op) r)(ha:PE X a ta)(hb:PE X b tb)(hm:behindInMarks op b=l_):PT X (.Compare a [op] [b] pos)^Qo^Df r ta tb:=by
 intro zG s σ H Q I h
 refine wpAny_isTrue_Compare1 (A5 (ha _ s σ H _ I h) λv s1 #[x,H1,I1,r1,q1]=>A5 (hb _ s1 σ H1 _ I1 q1) λu s2 #[y,H2,I2,r2,q2]=>
  A5 (ho _ s2 σ H2 x y v u _ I2 r1 r2 q2) λc s3 #[z,H3,I3,r3,k,e,q3]=>?_) hm
 subst e;cases r3;exact et #[H3,I3,q3]
def Xq(K:Frag)(x:V)(H:Hp)(k:Bool):Prop:=
 match x with
 |.non=>k=l_
 |.bl b=>k=b
 |.int i=>k=(i !=0)
 |.str y=>y.length<=sizeLine/\k=((y.length:Int) !=0)
 |.byt y=>y.size<=sizeLine/\k=((y.size:Int) !=0)
 |.ref p=>(∃xs,SqL K H p xs/\k=!xs.isEmpty)\/(∃xs,SqT K H p xs/\k=!xs.isEmpty)\/∃kvs,H p=P3^.dK kvs/\k=!kvs.isEmpty
 |_=>False
theorem NQ{κ:Type}{kvs:m_ (κ×V)}{vs:m_ (κ×Cn)}(r:KV kvs vs):(!vs.isEmpty)=!kvs.isEmpty:=by
 cases r <;>rfl
theorem IN{xs:m_ V}{its:m_ Cn}(r:Vals xs its):(!its.toArray.isEmpty)=!xs.isEmpty:=by
 cases r <;>simp
theorem GQ:(sizeLine:Nat)<2 ^ 63:=by cbv
theorem Vv:bX X (λx H Q=>∃k,Xq X.K x H k/\Q k H):=by
 intro zG s σ H x v Q I rx h;let#[k,e,q]:=h;have hl:=GQ;have hs:sizeLine=16777216:=dg;cases x with
 |non=>
  cases rx;have e':k=l_:=e;subst e';exact truthy_none #[H,I,q]
 |bl b=>
  cases rx;have e':k=b:=e;subst e';exact et #[H,I,q]
 |int i=>
  let#[t,rfl]:=rx;have e':k=(i !=0):=e;subst e';exact PySem.P.truthy_int #[H,I,q]
 |str y=>
  let#[t,rfl]:=rx;obtain⟨hy,e'⟩:y.length<=sizeLine/\k=((y.length:Int) !=0):=e;subst e';exact PySem.P.truthy_str (by lk) #[H,I.tok _,q]
 |byt y=>
  let#[t,rfl]:=rx;obtain⟨hy,e'⟩:y.size<=sizeLine/\k=((y.size:Int) !=0):=e;subst e';exact PySem.W.truthy_bytes (by lk) #[H,I.tok _,q]
 | ref p=>
  cases rx;have e':(∃xs,SqL X.K H p xs/\k=!xs.isEmpty)\/(∃xs,SqT X.K H p xs/\k=!xs.isEmpty)\/∃kvs,H p=P3^.dK kvs/\k=!kvs.isEmpty:=e
  rcases e' with⟨xs,hx,e'⟩|⟨xs,hx,e'⟩|⟨kvs,hx,e'⟩
  .subst e'
   let#[its,r,pl,hz]:=I.list hx;have hlen:=r.length;exact wpAny_truthy_list pl.isList (by simp only[cY]; omega) #[H,I.tok _,by rw[IN r]; exact q]
  .subst e'
   let#[its,r,pl,hz]:=I.tuple hx;have hlen:=r.length;exact truthy_tuple pl (by simp only[cY]; omega) #[H,I.tok _,by rw[IN r]; exact q]
  .subst e'
   obtain⟨hz,hS,vs,r,m⟩:kvs.length<=sizeLine/\(p==sysModules)=l_/\∃vs,KV kvs vs/\s.heap.DictOf (A2 X.prog X.w) p vs:=I.hok p _ hx;have hlen:kvs.length=vs.length:=Paired.length r;exact wpAny_truthy_dict hS m (by lk) #[H,I.tok _,by rw[NQ r]; exact q]
 |_=>exact(show False from e).elim
theorem RB(ha:PE X a ta)(he:∀whole,isTrue a X.env whole=(do let v ←whole; standAt a.pos; holding [v]^truthy v)):
  PT X a (λσ H Q=>ta σ H λx H'=>∃k,Xq X.K x H' k/\Q k H'):=λzG s σ H Q I h=>isTrue_plain (A5 (ha _ s σ H _ I h) λv s1 #[x,H1,I1,r1,q1]=>Vv _ s1 σ H1 x v Q I1 r1 q1)^he _
theorem NF:OpR X (binaryOp .Add) (λx y H Q=>∃i j,x=.str i/\y=.str j/\i.length+j.length<=sizeLine/\Q (.str (i++j)) H):=by
 intro zG s σ H x y v u Q I rx ry h;let#[i,j,rfl,rfl,hz,q]:=h;let#[t,rfl]:=rx;let#[t',rfl]:=ry;exact add_str (λt' tk=>#[.str _,H,I.tok _,#[_,rfl],q]) hz
theorem vals1{x:V}{us:m_ Cn}(r:Vals [x] us):∃u,us=[u]/\RelV x u:=by
 cases r with
 |cons r1 r2=>cases r2; grind
theorem vals2{x y:V}{us:m_ Cn}(r:Vals [x,y] us):∃u w',us=[u,w']/\RelV x u/\RelV y w':=by
 cases r with
 |cons r1 r2=>
  cases r2 with
  |cons r3 r4=>cases r4; exact#[_,_,rfl,r1,r3]
theorem SX:B9 X (.builtin "abs") (λxs H Q=>∃i,xs=[.int i]/\Q (.int (if i<0 then -i else i)) H):=by
 intro zG s σ H xs us Q I r h;let#[i,rfl,q]:=h;let#[u,rfl,t,rfl]:=vals1 r;exact call_abs_int λu tk=>#[.int _,H,I.tok _,#[_,rfl],q]
theorem QK(hc:X.calm=k_):B9 X (.builtin "min") (λxs H Q=>∃i j,xs=[.int i,.int j]/\Q (.int (if j<i then j else i)) H):=by
 intro zG s σ H xs us Q I r h;let#[i,j,rfl,q]:=h;let#[u,w',rfl,#[t,rfl],#[t',rfl]]:=vals2 r;refine min_two_ints (I.ok.hd hc) λh' tk k=>#[_,H,I.kept k,?_,q]
 by_cases hj:j<i
 .rw[if_pos hj,if_pos hj]; exact#[_,rfl]
 .rw[if_neg hj,if_neg hj]; exact#[_,rfl]
def Xy(K:Frag)(x:V)(H:Hp)(n:Nat):Prop:=
 match x with
 |.str y=>y.length<=sizeLine/\n=y.length
 |.byt y=>y.size<=sizeLine/\n=y.size
 |.ref p=>(∃xs,SqL K H p xs/\n=xs.length)\/∃xs,SqT K H p xs/\n=xs.length
 |_=>False
theorem Iq:B9 X (.builtin "len") (λxs H Q=>∃x n,xs=[x]/\Xy X.K x H n/\Q (.int n) H):=by
 intro zG s σ H xs us Q I r h;let#[x,n,rfl,e,q]:=h;let#[u,rfl,rx]:=vals1 r;have hl:=GQ;have hs:sizeLine=16777216:=dg;cases x with
 |str y=>
  let#[t,rfl]:=rx;obtain⟨hy,e'⟩:y.length<=sizeLine/\n=y.length:=e;subst e';exact len_str (by lk) #[.int _,H,I.tok _,#[_,rfl],q]
 |byt y=>
  let#[t,rfl]:=rx;obtain⟨hy,e'⟩:y.size<=sizeLine/\n=y.size:=e;subst e';exact PySem.W.len_bytes (by lk) #[.int _,H,I.tok _,#[_,rfl],q]
 | ref p=>
  cases rx;have e':(∃xs,SqL X.K H p xs/\n=xs.length)\/∃xs,SqT X.K H p xs/\n=xs.length:=e
  rcases e' with⟨xs,hx,e'⟩|⟨xs,hx,e'⟩
  .subst e'
   let#[its,r',pl,hz]:=I.list hx;have hlen:=r'.length;exact Calls.call_len_list pl.isList (by simp only[cY]; omega) #[.int xs.length,H,I.tok _,#[_,by simp only[cY]; rw[hlen]],q]
  .subst e'
   let#[its,r',pl,hz]:=I.tuple hx;have hlen:=r'.length;exact len_tuple pl (by simp only[cY]; omega) #[.int xs.length,H,I.tok _,#[_,by simp only[cY]; rw[hlen]],q]
 |_=>exact(show False from e).elim
end
structure ObjM (h:cf) (x dx C:Ch) (mA:Str->Option Cn):Prop where
 obj:h.get? x=P3 (PySem.W.instObj C dx)
 ns:h.Ns1 dx mA
 ne:dx≠x
theorem Pw{h:cf}{dx:Ch}{mA:Str->n_ Cn}(n:h.Ns1 dx mA):∃od,h.get? dx=P3 od/\∀name,PySem.W.lookIn name od=P3^mA name:=by
 let#[o,es,ep,ho,hd,hk,_,hm]:=n;refine#[o,ho,λname=>?_];have e:=hm name;unfold nsFind findBy at e;unfold PySem.W.lookIn;rw[hd]
 dsimp only
 split
 .simp_all
 .have a:es.toList.any (·.refKey)=l_:=by
   rw[List.any_eq_false];intro y hy;let#[z,t,hkey]:=hk y^Array.mem_toList_iff.mp hy;simp[DictEntry.refKey,hkey]
  grind
theorem ObjM.look{h:cf}{x dx C:Ch}{mA:Str->n_ Cn}(I:ObjM h x dx C mA):∃od,PySem.W.InstAt h x (PySem.W.instObj C dx) C^P3 od/\∀name,PySem.W.lookIn name od=P3^mA name:=
 let #[od,ho,hl]:=Pw I.ns
 #[od,#[I.obj,rfl,rfl,ho],hl]
section
variable {prog:Program}{w:World}{A:Around}{E:Value->Shared->Prop}{s:Shared}{K:Frag}{x dx C f:Addr}{mA:Str->n_ Value}{name:Str}{v:Value}
theorem T6{expr:Bool}{Q:Cn->Go->Prop}(X:K.In s.heap)(I:ObjM s.heap x dx C mA)(hg:PySem.W.plainGet K C name=k_)(hh:PySem.W.hasDictIn K C=k_)
  (ha:PySem.W.findIn K (.ref C) name=P3 j_) (hv:mA name=P3 v) (hv':PySem.W.handedIn v=k_) (h:Q v {s with toks:=s.toks+1}):
  wpAny (model prog w) A (getAttr (.ref x) name expr) Q E s:=by
 let#[od,J,hl]:=I.look;exact PySem.W.get_value X J (PySem.W.plainGet_of hg).1 (PySem.W.findObj_own hh ha rfl (by rw[hl,hv])) hv' h
theorem R6{pl:Sem Bool}{Q:Cn×m_ Cn->Go->Prop}(X:K.In s.heap)(I:ObjM s.heap x dx C mA)(hg:PySem.W.plainGet K C name=k_)
  (hf:PySem.W.findIn K (.ref C) name=P3^P3^.ref f) (ht:PySem.W.isFn K^.ref f=k_) (hv:mA name=j_) (h:Q (.ref f,[.ref x]) s):
  wpAny (model prog w) A (getMethod (.ref x) name pl) Q E s:=by
 let#[od,J,hl]:=I.look;exact PySem.W.method_fn X J (PySem.W.plainGet_of hg).1 (PySem.W.plainGet_of hg).2 hf (beq_iff_eq.mp ht) (by show(PySem.W.lookIn _ od).map _=P3 _; grind) h
theorem TK{ns:m_ Str}{Q:Unit->Go->Prop}(X:K.In s.heap)(I:ObjM s.heap x dx C mA)
  (hs:PySem.W.findIn K (.ref C) "__setattr__"=P3^P3^.builtin "object.__setattr__") (hp:PySem.W.plainOver K C=k_) (ht:PySem.W.takerIn K C name=P3 j_) (hh:PySem.W.hasDictIn K C=k_)
  (hw:PySem.Within mA ns) (hsz:ns.length<=sizeLine)
  (h:∀h',ObjM h' x dx C (λy=>if y=name then P3 v else mA y)->gj dx s.heap h'->Q () {s with heap:=h',toks:=s.toks+2}):
  wpAny (model prog w) A (setAttr (.ref x) name v) Q E s:=by
 let#[od,J,hl]:=I.look;refine PySem.W.set_plain X J hs^PySem.W.osa_open (s:={s with toks:=s.toks+1}) (r:=j_) X J hp ht λb=>?_;let#[cd,hc,hd']:=PySem.W.any_some hh;have hx:=I.obj;refine Db^UF^Db^Db^wpAny_loadPart hx^Db^PySem.W.Looks.here (s:={s with toks:=s.toks+1}) (PySem.W.looks_clsIn X hc) ?_;rw[hd'];refine UF (a:=P3 dx)^Db^UF^Db ?_;refine wpAny_nsSet1 (s:={s with toks:=s.toks+1}) I.ns λh' hn2 hs2=>?_;let#[oD,esD,epD,hoD,hdD,hcD]:=hn2.count^PySem.Within.cons name v hw;refine Db^wpAny_lookBehind hoD (by rw[hdD]; exact pastItsLine_dict^c5 hcD^by grind) ?_;exact UF^h _ #[(hs2.2 _^dH I.ne).trans I.obj,hn2,I.ne] hs2
theorem Rf{R:Result->Go->Prop}{vs:m_ Cn}{kw:m_ (Str×Cn)}(X:K.In s.heap)(hm:PySem.W.makesIn K C=k_)
  (hi:PySem.W.findIn K (.ref C) "__init__"=P3^P3^.ref f) (hf:PySem.W.typeIn K^.ref f=P3^.type "function")
  (h:codeAny (model prog w) (A.under^.builtin "type.__call__" #[.ref C::vs,kw]) (.call (.ref f) #[.ref (s.heap.objs.size+1)::vs,kw]) (PySem.W.InitBack (s.heap.objs.size+1) R)
   {s with heap:=(s.heap.push PySem.W.emptyDict).push^PySem.W.instObj C s.heap.objs.size}):
  codeAny (model prog w) A (.call (.ref C) #[vs,kw]) R s:=PySem.W.make_core (PySem.W.makes_of X hm) (PySem.W.looks_findIn X hi) (λself=>PySem.W.bind_fn X _ hf) (.inl rfl) h
end
def Dw(f:Str)(v:V):m_ (Str×V)->m_ (Str×V)
 |[]=>[(f,v)]
 |(g,x)::r=>if g=f then(g,v)::r else(g,x)::Dw f v r
theorem Gq(f g:Str)(v:V):∀fs:m_ (Str×V),(Dw f v fs).lookup g=if g=f then P3 v else fs.lookup g
 |[]=>by
  show gD g [(f,v)]=_
  by_cases h:g=f
  .simp_all
  simp_all
 | (k,x)::r=>by
  have ih:=Gq f g v r;rw[show Dw f v ((k,x)::r)=(if k=f then(k,v)::r else(k,x)::Dw f v r)from rfl]
  by_cases hk:k=f
  .rw[if_pos hk]
   by_cases h:g=k
   .simp_all
   .have hb:(g==k)=l_:=beq_eq_false_iff_ne.mpr h
    simp only[gD,hb,if_neg λe:g=f=>h^e.trans hk.symm]
  .rw[if_neg hk]
   by_cases h:g=k
   .simp_all
   .have hb:(g==k)=l_:=beq_eq_false_iff_ne.mpr h
    simp only[gD,hb];exact ih
theorem GR(f:Str)(v:V):∀fs:m_ (Str×V),f∈(Dw f v fs).map (·.1)/\∀g,g∈fs.map (·.1)->g∈(Dw f v fs).map (·.1)
 |[]=>#[by simp[Dw],λg h=>by simp at h]
 |(k,x)::r=>by
  let#[i1,i2]:=GR f v r;rw[show Dw f v _=(if k=f then(k,v)::r else(k,x)::Dw f v r)from rfl]
  grind
theorem Gr(f:Str)(v:V):∀fs:m_ (Str×V),(Dw f v fs).length<=fs.length+1
 |[]=>by simp[Dw]
 |(k,x)::r=>by
  have ih:=Gr f v r;rw[show Dw f v _=(if k=f then(k,v)::r else(k,x)::Dw f v r)from rfl]
  grind
theorem RelO.some_of{v:V}{o:n_ Cn}(r:RelO (P3 v) o):∃u,o=P3 u/\RelV v u:=by
 cases o with
 |none=>exact(r).elim
 |some u=>exact#[u,rfl,r]
theorem RelO.none_of{o:n_ Cn}(r:RelO j_ o):o=j_:=by
 cases o with
 |none=>rfl
 |some u=>exact(r).elim
theorem P8{v:V}{u:Cn}(r:RelV v u):PySem.W.handedIn u=k_:=by
 cases v with
 |non=>cases(r); rfl
 |bl b=>cases(r); rfl
 |int i=>let#[t,e]:=(r); cases e; rfl
 |str x=>let#[t,e]:=(r); cases e; rfl
 |byt b=>let#[t,e]:=(r); cases e; rfl
 |flt b=>let#[t,e]:=(r); cases e; rfl
 |ref a=>cases(r); rfl
 |ty n=>cases(r); rfl
section
variable {P:Program}{w:World}{H:Hp}{h:Heap}{a C dx:Addr}{fs:m_ (Str×V)}
theorem HH(hok:HOk P w H h)(e:H a=P3^.vol^.ins C dx fs):∃mA,ObjM h a dx C mA/\(∀f,RelO (fs.lookup f)^mA f)/\PySem.Within mA (fs.map (·.1))/\fs.length<=1000/\H dx=P3^.own a:=by
 let#[d,z,ne,ob,mA,n,r,q]:=(hok a _ e);exact#[mA,#[ob,n,ne],r,q,z,d]
end
structure Cls (K:Frag) (C:Ch):Prop where
 pg:PySem.W.plainGet K C Str.empty=k_
 hd:PySem.W.hasDictIn K C=k_
 po:PySem.W.plainOver K C=k_
 sa:PySem.W.findIn K (.ref C) "__setattr__"=P3^P3^.builtin "object.__setattr__"
theorem Cls.get{K:Frag}{C:Ch}(c:Cls K C)(f:Str):PySem.W.plainGet K C f=k_:=c.pg
def NoAttr(K:Frag)(C:Ch)(f:Str):Prop:=PySem.W.findIn K (.ref C) f=P3 j_
theorem NoAttr.taker{K:Frag}{C:Ch}{f:Str}(n:NoAttr K C f):PySem.W.takerIn K C f=P3 j_:=by
 unfold PySem.W.takerIn;rw[n];rfl
structure cU (K:Frag) (C:Ch) (f:Str) (v:V) (u:Cn):Prop where
 at_:PySem.W.findIn K (.ref C) f=P3 (P3 u)
 rel:RelV v u
 get:PySem.W.specialIn K u "__get__"=P3 j_
 cp:PySem.W.copiedNames.contains f=l_
structure QQ (K:Frag) (C:Ch) (m:Str) (f:Ch):Prop where
 at_:PySem.W.findIn K (.ref C) m=P3 (P3^.ref f)
 fn:PySem.W.isFn K^.ref f=k_
 kp:keepIn K^.ref f=k_
section
variable {X:Cx}{zG:m_ (Addr×Obj)}{σ:St}{H:Hp}{s:Shared}{a C dx:Addr}{fs:m_ (Str×V)}{f:Str}{v:V}{A:Around}{E:Value->Shared->Prop}
theorem NU{b:Bool}{Q:Cn->Go->Prop}(I:Inv X zG σ H s)(e:H a=P3^.vol^.ins C dx fs)(c:Cls X.K C)(n:NoAttr X.K C f)(l:fs.lookup f=P3 v)
  (h:∀u s',Inv X zG σ H s'->RelV v u->Q u s'):wpAny (model X.prog X.w) A (getAttr (.ref a) f b) Q E s:=by
 let#[mA,O,r,_,_,_]:=HH I.hok e;let#[u,hu,ru]:=RelO.some_of (v:=v) (o:=mA f) (by grind);exact T6 I.kIn O (c.get f) c.hd n hu (P8 ru)^h u _ (I.tok _) ru
theorem FK{m:Str}{g:Ch}{pl:Sem Bool}{Q:Cn×m_ Cn->Go->Prop}(I:Inv X zG σ H s)(e:H a=P3^.vol^.ins C dx fs)(c:Cls X.K C)(k:QQ X.K C m g)(l:fs.lookup m=j_)
  (h:Q (.ref g,[.ref a]) s):wpAny (model X.prog X.w) A (getMethod (.ref a) m pl) Q E s:=by
 let#[mA,O,r,_,_,_]:=HH I.hok e;exact R6 I.kIn O (c.get m) k.at_ k.fn (RelO.none_of^by grind) h
theorem Mx{y:V}{u:Cn}{Q:Unit->Go->Prop}(I:Inv X zG σ H s)(e:H a=P3^.vol^.ins C dx fs)(c:Cls X.K C)(n:NoAttr X.K C f)(hl:fs.length<1000)(ry:RelV y u)
  (h:∀s',Inv X zG σ (Ah H a^.vol^.ins C dx^Dw f y fs) s'->Q () s'):wpAny (model X.prog X.w) A (setAttr (.ref a) f u) Q E s:=by
 let#[mA,O,r,wi,_,ho]:=HH I.hok e;have hz:(fs.map (·.1)).length<=sizeLine:=by rw[FM,dg]; omega
 refine TK I.kIn O c.sa c.po n.taker c.hd wi hz λh' O' sb=>h _ ?_;have hd:∃o,h'.get? dx=P3 o:=let #[o,_,_,e',_]:=O'.ns; #[o,e']
 refine I.write (x:=a) (e:=dx) (by rw[e]; exact e9) (.inr ho) (λb q hb z=>(sb.2 b hb).trans z) hd ?_;refine#[by rw[AI O.ne]; exact ho,?_,O.ne,O'.obj,_,O'.ns,λg=>?_,λg hg=>?_]
 .have:=Gr f y fs; omega
 .show RelO ((Dw f y fs).lookup g) (if g=f then P3 u else mA g)
  rw[Gq]
  by_cases q:g=f
  .rw[if_pos q,if_pos q]; exact ry
  .rw[if_neg q,if_neg q]; exact r g
 .by_cases q:g=f
  .rw[q]; exact(GR f y fs).1
  .refine(GR f y fs).2 g^wi g λz=>hg ?_
   show(if g=f then P3 u else mA g)=j_;rw[if_neg q]; exact z
theorem Inv.made(I:Inv X zG σ H s):Inv X zG σ (Ah (Ah H s.heap.objs.size^.own (s.heap.objs.size+1)) (s.heap.objs.size+1)^.vol^.ins C s.heap.objs.size [])
  {s with heap:=(s.heap.push PySem.W.emptyDict).push^PySem.W.instObj C s.heap.objs.size}:=by
 have e1:(s.heap.push PySem.W.emptyDict).get? s.heap.objs.size=P3 PySem.W.emptyDict:=Re s.heap rfl
 have e2:((s.heap.push PySem.W.emptyDict).push^PySem.W.instObj C s.heap.objs.size).get? (s.heap.objs.size+1)=P3^PySem.W.instObj C s.heap.objs.size:=by
  have:=Re (s.heap.push PySem.W.emptyDict) (o:=PySem.W.instObj C s.heap.objs.size) rfl
  rwa[dS]at this
 have e3:(s.heap.push PySem.W.emptyDict).Ns s.heap.objs.size (λ_=>j_):=#[PySem.W.emptyDict,#[],_,e1,rfl,(λe he=>absurd he^by simp),λ_=>rfl];have I1:=I.laid (a:=s.heap.objs.size) (o:=.own (s.heap.objs.size+1)) (h':=s.heap.push PySem.W.emptyDict) (t':=s.toks) (λb u q=>Ev _ q) (Rs _) #[_,e1];refine I1.laid (a:=s.heap.objs.size+1) (o:=.vol^.ins C s.heap.objs.size []) (t':=s.toks) (λb u q=>Ev _ q) (gl^dS _ _) ?_;have ne:s.heap.objs.size≠s.heap.objs.size+1:=cb^fM _;refine#[by rw[AI ne,AM],cq _,ne,e2,λ_=>j_,(Heap.Ns1.of_empty e3).at λo q=>Ev _ q,λ_=>e9,λy hy=>absurd rfl hy]
theorem UW{prog:cm}{w:cy}{env:Env}{e:cr}{f:Str}{pos:Pos}{s:Go}{Q:Cn->Go->Prop}(hb:attributeBase e f env^eval e env=eval e env)
  (h:wpAny (model prog w) A (eval e env) (λo s₁=>wpAny (model prog w) A (getAttr o f k_) Q E s₁) E s):wpAny (model prog w) A (eval (.Attribute e f pos) env) Q E s:=
 Attribute_any_ h (by rw[arm_eval_Attribute,hb])
end
def ay(K:Frag)(ta:TE)(f:Str):TE:=λσ H Q=>ta σ H λx H1=>∃a C dx fs v,x=.ref a/\H1 a=P3^.vol^.ins C dx fs/\Cls K C/\NoAttr K C f/\fs.lookup f=P3 v/\Q v H1
def a9(K:Frag)(ta tv:TE)(f:Str):TS:=λD σ H=>tv σ H λy H1=>ta σ H1 λx H2=>∃a C dx fs,x=.ref a/\H2 a=P3^.vol^.ins C dx fs/\Cls K C/\NoAttr K C f/\fs.length<1000 /\
 D.nx σ (Ah H2 a^.vol^.ins C dx^Dw f y fs)
section
variable {X:Cx}{o e value:Expr}{f:Str}{pos pos':Pos}{ta tv:TE}
theorem WT(he:PE X e ta)(hb:attributeBase e f X.env^eval e X.env=eval e X.env):PE X (.Attribute e f pos)^ay X.K ta f:=by
 intro zG s σ H Q I h;refine UW hb^A5 (he _ s σ H _ I h) λu s1 zz=>?_;let#[x,H1,I1,rx,a,C,dx,fs,v,ex,ea,c,n,l,q]:=zz;subst ex;obtain rfl:u=cV a:=rx;exact NU I1 ea c n l λu' s2 I2 ru=>#[v,H1,I2,ru,q]
theorem WK(ha:PE X o ta)(hv:PE X value tv)(hs:swapsWith value (P3^.Attribute o f pos') pos.line X.env=pure l_):PS X (.Assign [.Attribute o f pos'] value pos)^a9 X.K ta tv f:=by
 intro zG s σ H D I h;refine plainObj_wpAny_Assign_Attribute (A5 (hv _ s σ H _ I h) λu s1 zz=>?_) hs;let#[y,H1,I1,ry,q]:=zz;refine A5 (ha _ s1 σ H1 _ I1 q) λov s2 zz=>?_;let#[x,H2,I2,rx,a,C,dx,fs,ex,ea,c,n,l,q2]:=zz;subst ex;obtain rfl:ov=cV a:=rx;exact Mx I2 ea c n l ry λs3 I3=>#[σ,_,I3,q2]
end
section
variable {X:Cx}{zG:m_ (Addr×Obj)}{σ:St}{H:Hp}{s:Shared}{A:Around}{E:Value->Shared->Prop}{Q:Value->Shared->Prop}{c:Value}{b:Bool}
inductive FT (K:Frag) (H:Hp):V->Cn->Prop where
 |non:FT K H .non^.type "NoneType"
 |bl (x:Bool):FT K H (.bl x)^.type "bool"
 |int (i:Int):FT K H (.int i)^.type "int"
 |str (x:Str):FT K H (.str x)^.type "str"
 |flt (x:UInt64):FT K H (.flt x)^.type "float"
 |lst {a:Ch}{xs:List V} (e:H a=P3^.lst xs):FT K H (.ref a)^.type "list"
 |frz {a:Ch}{o:Obj}{xs:List V} (e:H a=P3^.frz o^.lst xs):FT K H (.ref a)^.type "list"
 |tup {a:Ch}{xs:List V} (e:H a=P3^.tup xs):FT K H (.ref a)^.type "tuple"
 |dF {a:Ch}{o:Obj}{kvs:List (Key×V)} (e:H a=P3^.frz o^.dK kvs):FT K H (.ref a)^.type "dict"
 |dK {a:Ch}{kvs:List (Key×V)} (e:H a=P3^.dK kvs):FT K H (.ref a)^.type "dict"
 |dT {a:Ch}{kvs:List (List Key×V)} (e:H a=P3^.dT kvs):FT K H (.ref a)^.type "dict"
 | ins {a C dx:Ch}{fs:List (Str×V)} (e:H a=P3^.vol^.ins C dx fs) (cl:Cls K C) (ha:PySem.W.findIn K (.ref C) "__class__"=P3^P3^.builtin "object.__class__")
   (hn:PySem.W.specialIn K (.builtin "object.__class__") "__get__"=P3^P3^.builtin "getset_descriptor.__get__") (htk:PySem.W.takesIn K^.builtin "object.__class__"=P3 k_)
   (hm:PySem.W.mroIn K C^.type "object"=P3 k_):FT K H (.ref a)^.ref C
theorem P4{x:V}{u t:Cn}(I:Inv X zG σ H s)(rx:RelV x u)(ty:FT X.K H x t)(e:PySem.W.kitOne X.K t c=P3 b)(h:∀tk,Q (.bool b) {s with toks:=tk}):
  wpAny (model X.prog X.w) A (call (.builtin "isinstance") [u,c]) Q E s:=by
 cases ty with
 |non=>cases(show u=dG from rx); exact PySem.W.kia_one PySem.W.kitx_none I.kIn e9 e (λz=>nomatch z) h
 |bl y=>cases(show u=iF y from rx); exact PySem.W.kia_one PySem.W.kitx_bool I.kIn e9 e (λz=>nomatch z) h
 |int i=>let#[t,q]:=(show ∃t,u=Value.int i t from rx); cases q; exact PySem.W.kia_one PySem.W.kitx_int I.kIn e9 e (λz=>nomatch z) h
 |str y=>let#[t,q]:=(show ∃t,u=eE y t from rx); cases q; exact PySem.W.kia_one PySem.W.kitx_str I.kIn e9 e (λz=>nomatch z) h
 |flt y=>let#[t,q]:=(show ∃t,u=Value.float y t from rx); cases q; exact PySem.W.kia_one PySem.W.kitx_float I.kIn e9 e (λz=>nomatch z) h
 |@lst a xs ea=>
  cases(show u=cV a from rx);let#[_,_,n,_,h1]:=(show ObjOk X.prog X.w H s.heap a^.lst xs from I.hok a _ ea);exact PySem.W.kia_one PySem.W.kitx_list I.kIn #[_,h1,rfl] e (λz=>nomatch z) h
 |@frz a ob xs ea=>
  cases(show u=cV a from rx);let#[_,_,_,n,_,h1]:=(show ObjOk X.prog X.w H s.heap a^.frz ob^.lst xs from I.hok a _ ea);exact PySem.W.kia_one PySem.W.kitx_list I.kIn #[_,h1,rfl] e (λz=>nomatch z) h
 |@tup a xs ea=>
  cases(show u=cV a from rx);let#[_,_,_,p]:=(show ObjOk X.prog X.w H s.heap a^.tup xs from I.hok a _ ea);let#[o,h1,h2,_]:=p;exact PySem.W.kia_one PySem.W.kitx_tuple I.kIn #[o,h1,h2] e (λz=>nomatch z) h
 |@dF a ob kvs ea=>
  cases(show u=cV a from rx);let#[_,_,_,vs,_,p]:=(show ObjOk X.prog X.w H s.heap a^.frz ob^.dK kvs from I.hok a _ ea);let#[o,es,ep,h1,h2,_]:=p;exact PySem.W.kia_one PySem.W.kitx_dict I.kIn #[o,h1,h2.1] e (λz=>nomatch z) h
 |@dK a kvs ea=>
  cases(show u=cV a from rx);let#[_,_,vs,_,p]:=(show ObjOk X.prog X.w H s.heap a^.dK kvs from I.hok a _ ea);let#[o,es,ep,h1,h2,_]:=p;exact PySem.W.kia_one PySem.W.kitx_dict I.kIn #[o,h1,h2.1] e (λz=>nomatch z) h
 |@dT a kvs ea=>
  cases(show u=cV a from rx);let#[_,_,xs,_,o,es,ep,h1,h2,_]:=(show ObjOk X.prog X.w H s.heap a^.dT kvs from I.hok a _ ea);exact PySem.W.kia_one PySem.W.kitx_dict I.kIn #[o,h1,h2.1] e (λz=>nomatch z) h
 |@ins a C dx fs ea cl ha hn htk hm=>
  cases(show u=cV a from rx);let#[mA,O,_]:=HH I.hok ea;let#[od,J,_]:=O.look;exact PySem.W.kia_one (PySem.W.kitx_own (cl.get _) cl.hd ha hn htk hm) I.kIn J e (λz=>nomatch z) h
end
structure Room (k:Nat) (A:c_):Prop where
 hd:A.handled=j_
 dp:A.depth+3*k+5<recursionLimit
 un:A.units+16*k+200<cLine
 gd:A.guards=P3 []
theorem Room.mono{j k:Nat}{A:c_}(r:Room k A)(h:j<=k):Room j A:=#[r.hd,by have:=r.dp; omega,by have:=r.un; omega,by first|exact r.gd|grind|grind]
theorem Room.deeper{k:Nat}{A:c_}(r:Room (k+1) A)(env:Env):Room k^A.deeper env:=
 #[r.hd,by have:=r.dp; show A.depth+1+3*k+5<_; omega,by have:=r.un; show A.units+3+16*k+200<_; omega,by first|exact r.gd|omega|grind]
theorem Room.in1{k:Nat}{A:c_}(r:Room (k+1) A):Room k A.in1:=
 #[r.hd,by have:=r.dp; grind,by have:=r.un; grind,by first|exact r.gd|omega|grind]
theorem NN{A:c_}{C:Ch}{us:m_ Cn}{kw:m_ (Str×Cn)}:(A.under^.builtin "type.__call__" #[.ref C::us,kw]).depth=A.depth+1:=by
 first|rfl|omega
theorem NM{A:c_}{C:Ch}{us:m_ Cn}{kw:m_ (Str×Cn)}:(A.under^.builtin "type.__call__" #[.ref C::us,kw]).units=A.units+1:=by
 first|rfl|omega
theorem Room.make{k:Nat}{A:c_}(r:Room (k+1) A)(C:Ch)(us:m_ Cn)(kw:m_ (Str×Cn)):Room k^A.under^.builtin "type.__call__" #[.ref C::us,kw]:=
 #[r.hd,by have:=r.dp; rw[NN]; omega,by have:=r.un; rw[NM]; omega,by first|exact r.gd|omega|grind]
theorem Room.depth{k:Nat}{A:c_}(r:Room k A):A.depth<recursionLimit:=by have:=r.dp; omega
theorem Room.units{k:Nat}{A:c_}(r:Room k A):A.units+64<cLine:=by have:=r.un; omega
theorem Room.units0{k:Nat}{A:c_}(r:Room k A):A.units<cLine:=by have:=r.un; omega
def Qp:TA:=λ_ H Q=>Q [] H
def N5(ta:TE)(tr:TA):TA:=λσ H Q=>ta σ H λx H1=>tr σ H1 λxs H2=>Q (x::xs) H2
section
variable {X:Cx}{e:Expr}{es:m_ Expr}{te:TE}{t:TA}{pos:Pos}
theorem Cj:PA X [] Qp:=λ_ _ _ _ H Q I h=>fh #[[],H,I,.nil,h]
theorem BK(ha:PE X e te)(hr:PA X es t)(hs:starEach (e::es) X.env=(l_,eval e X.env)::starEach es X.env:=by rfl):PA X (e::es)^N5 te t:=by
 intro pos zG s σ H Q I h;rw[hs];refine fB^A5 (ha _ s σ H _ I h) λu s1 zz=>?_;let#[x,H1,I1,r1,q1]:=zz;refine A5 (hr _ _ s1 σ H1 _ I1 q1) λus s2 zz=>?_;let#[xs,H2,I2,r2,q2]:=zz;exact #[_,H2,I2,.cons r1 r2,q2]
def aj(t:TA):TE:=λσ H Q=>t σ H λxs H1=>xs.length<=sizeLine/\∀p,H1 p=j_->Q (.ref p)^Ah H1 p^.tup xs
def au(t:TA):TE:=λσ H Q=>t σ H λxs H1=>xs.length<=sizeLine/\∀p,H1 p=j_->Q (.ref p)^Ah H1 p^.lst xs
theorem WO{x1}(h:PA X es t):PE X (.Tuple es x1 pos)^aj t:=by
 intro zG s σ H Q I hq;refine wpAny_Tuple_spliced^A5 (h pos zG s σ H _ I hq) λus s1 zz=>?_;let#[xs,H1,I1,r,z,q]:=zz;refine #[by rw[←r.length]; exact z,?_];have hf:H1 s1.heap.objs.size=j_:=I1.hok.fresh^Rs _;refine#[.ref s1.heap.objs.size,Ah H1 s1.heap.objs.size^.tup xs,I1.laid (t':=s1.toks) (λb u e=>Ev _ e) (Rs _) ?_,rfl,q _ hf];exact#[z,us,r,IsTupN.new _ _]
theorem Kl(h:PA X es t):PE X (.List es pos)^au t:=by
 intro zG s σ H Q I hq;refine wpAny_List_spliced^A5 (h pos zG s σ H _ I hq) λus s1 zz=>?_;let#[xs,H1,I1,r,z,q]:=zz;refine #[by rw[←r.length]; exact z,?_];have hf:H1 s1.heap.objs.size=j_:=I1.hok.fresh^Rs _;refine#[.ref s1.heap.objs.size,Ah H1 s1.heap.objs.size^.lst xs,I1.laid (t':=s1.toks) (λb u e=>Ev _ e) (Rs _) ?_,rfl,q _ hf];exact#[z,us,0,r,Re _ rfl]
end
abbrev Sp:=m_ V->Hp->VK->XK->Prop
abbrev QX:=m_ Env->Hp->Go->XK->Cn->Go->Prop
structure Env0 (P:cm) (w:cy) (K:Frag) (mg:Str->Option Cn) (base:cf) (A:c_) (outer:List Env) (s:Go) (H:Hp):Prop where
 frames:A.frames=P3 outer
 mod:Mod K mg base
 bs:∀b o,base.get? b=P3 o->s.heap.get? b=P3 o/\H b=j_
 bsz:base.objs.size<=s.heap.objs.size
 funs:s.heap.FunFrames base outer
 frf:∀b∈Js outer,H b=j_
 hok:HOk P w H s.heap
 bare:gM s.gens
def CE(outer:m_ Env)(P:cm)(w:cy)(H:Hp)(s:Go)(Q:VK)(u:Cn)(s':Go):Prop:=
 ∃v H',s'.os=s.os/\gM s'.gens/\Un (Js outer) [] H H' s.heap s'.heap/\HOk P w H' s'.heap/\RelV v u/\Q v H'
def CR(CX:QX)(outer:m_ Env)(P:cm)(w:cy)(H:Hp)(s:Go)(Q:VK)(E:XK)(r:Result)(s':Go):Prop:=
 match r with
 |.ok (.ret u)=>CE outer P w H s Q u s'
 |.ok _=>False
 |.error e=>CX outer H s E e s'
structure FnOk (P:cm) (w:cy) (K:Frag) (mg:Str->Option Cn) (base:cf) (CX:QX) (k:Nat) (f:Ch) (fd:dR) (ps:List Str) (sp:Sp):Prop where
 len:∀vs H Q E,sp vs H Q E->vs.length=ps.length
 run:∀(A:c_) (outer:List Env) (s:Go) (H:Hp) (args:Args) (us:List Cn) (vs:List V) (Q:VK) (E:XK),Room k A->Env0 P w K mg base A outer s H->i_ s fd args^ps.zip us->Vals vs us->sp vs H Q E->
  codeAny (model P w) A (.call (.ref f) args) (CR CX outer P w H s Q E) s
theorem Env0.make{P:cm}{w:cy}{K:Frag}{mg:Str->n_ Cn}{base:cf}{A:c_}{outer:m_ Env}{s:Go}{H:Hp}(e:Env0 P w K mg base A outer s H)(C:Ch)(us:m_ Cn)(kw:m_ (Str×Cn)):
  Env0 P w K mg base (A.under^.builtin "type.__call__" #[.ref C::us,kw]) outer s H:=#[by first|exact e.frames|grind,e.mod,e.bs,e.bsz,e.funs,e.frf,e.hok,e.bare]
theorem Env0.in1{P:cm}{w:cy}{K:Frag}{mg:Str->n_ Cn}{base:cf}{A:c_}{outer:m_ Env}{s:Go}{H:Hp}(e:Env0 P w K mg base A outer s H):
  Env0 P w K mg base A.in1 outer s H:=#[e.frames,e.mod,e.bs,e.bsz,e.funs,e.frf,e.hok,e.bare]
section
variable {X:Cx}{zG:m_ (Addr×Obj)}{σ:St}{H:Hp}{s s':Shared}
theorem Inv.env0(I:Inv X zG σ H s):Env0 X.prog X.w X.K X.mg X.base X.A X.stack s H:=
 #[I.ok.frames,I.ok.mod,I.bs,c5 I.ok.bsz I.sz,I.stack,I.stkFree,I.hok,I.bare]
theorem Inv.after{Q:VK}{u:Cn}(I:Inv X zG σ H s)(h:CE X.stack X.prog X.w H s Q u s'):EP X zG σ Q u s':=by
 let#[v,H',os,bare,un,hok,r,q]:=h;let#[hh,g,d,t,os']:=s';obtain rfl:os'=s.os:=os;exact#[v,H',I.call un hok bare λb z=>absurd z^by simp,r,q]
end
def Qr(sp:Sp)(dvs:m_ V)(E:XK)(t:TA):TE:=λσ H Q=>t σ H λvs H1=>sp (vs++dvs) H1 Q E
def Uv(C:Ch)(m:Str)(sp:Sp)(dvs:m_ V)(E:XK)(ta:TE)(t:TA):TE:=λσ H Q=>ta σ H λx H1=>∃a dx fs,x=.ref a/\H1 a=P3^.vol^.ins C dx fs/\fs.lookup m=j_ /\
 t σ H1 λvs H2=>sp (x::(vs++dvs)) H2 Q E
def YY(C:Ch)(sp:Sp)(dvs:m_ V)(E:XK)(t:TA):TE:=λσ H Q=>t σ H λvs H1=>∀x dx,H1 x=j_->H1 dx=j_->dx≠x->
 sp (.ref x::(vs++dvs)) (Ah (Ah H1 dx^.own x) x^.vol^.ins C dx []) (λv H2=>v=.non/\Q (.ref x) H2) E
def Binds(K:Frag)(fd:dR)(ps:m_ Str)(ds:m_ Cn):Prop:=
 ∀(s:Go) (us:m_ Cn),K.In s.heap->(us++ds).length=ps.length->i_ s fd #[us,[]]^ps.zip (us++ds)
theorem Binds.all{K:Frag}{fd:dR}{ps:m_ Str}(h:∀us:m_ Cn,us.length=ps.length->bindArgs fd #[us,[]]=pure^ps.zip us):Binds K fd ps []:=λs us _ hl=>by
 rw[c9]at hl ⊢;exact .of_eq^h us hl
def DD(CX:QX)(X:Cx)(E:XK):Prop:=∀(zG:m_ (Ch×Obj)) (σ:St) (H:Hp) (s:Go) (e:Cn) (s':Go),Inv X zG σ H s->CX X.stack H s E e s'->X.xe e s'
section
variable {X:Cx}{CX:QX}{k:Nat}{f C:Addr}{fd:FuncData}{ps:m_ Str}{sp:Sp}{dvs:m_ V}{ds:m_ Value}{E:XK}{x m:Str}{p pos apos:Pos}{e o:Expr}{es:m_ Expr}{ta:TE}{t:TA}
theorem M5{zG:m_ (Ch×Obj)}{σ:St}{H:Hp}{s:Go}{Q:VK}{us:m_ Cn}{vs:m_ V}(F:FnOk X.prog X.w X.K X.mg X.base CX k f fd ps sp)(hr:Room k X.A)(hb:Binds X.K fd ps ds)(hd:Vals dvs ds)(hx:DD CX X E)
  (I:Inv X zG σ H s) (r:Vals vs us) (h:sp (vs++dvs) H Q E):wpAny (model X.prog X.w) X.A (call (.ref f) us) (EP X zG σ Q) X.xe s:=by
 have r2:Vals (vs++dvs) (us++ds):=r.append hd;have hl:(us++ds).length=ps.length:=by rw[←r2.length]; exact F.len _ _ _ _ h
 refine gO^fo (F.run X.A X.stack s H #[us,[]] (us++ds) (vs++dvs) Q E hr I.env0 (hb s us I.kIn hl) r2 h) λr s' hq=>?_;cases r with
 |error e=>exact hx zG σ H s e s' I hq
 |ok fl=>
  cases fl with
  |ret u=>exact I.after hq
  |next=>exact dQ hq
  |brk=>exact dQ hq
  |cont=>exact dQ hq
theorem HE(F:FnOk X.prog X.w X.K X.mg X.base CX k f fd ps sp)(hr:Room k X.A)(hg:Gl X x)(hm:X.mg x=P3^.ref f)(hk:keepIn X.K^.ref f=k_)(hb:Binds X.K fd ps ds)(hd:Vals dvs ds)(hx:DD CX X E)
  (ha:PA X (e::es) t) (hdb:(x==("__debug__":Str))=l_:=by decide) (he:starEach (e::es) X.env=(l_,eval e X.env)::starEach es X.env:=by rfl) (hpl:(backTo pos^starEach es X.env).any (·.1)=l_:=by rfl):
  PE X (.Call (.Name x p) (e::es) [] pos) (Qr sp dvs E t):=λzG s σ H Q I h=>eN^Em I hg hm (PySem.W.callWith_K I.ok.mod.kin hk (A5 (ha _ _ s σ H _ I h) λus s1 #[vs,H1,I1,r,q]=>#[I1.kIn,M5 F hr hb hd hx I1 r q]) he hpl) hdb
theorem Kk{pl:Sem Bool}(he:PE X o ta)(c:Cls X.K C)(hm:QQ X.K C m f)(F:FnOk X.prog X.w X.K X.mg X.base CX k f fd ps sp)(hr:Room k X.A)(hb:Binds X.K fd ps ds)(hd:Vals dvs ds)(hx:DD CX X E)(ha:PA X (e::es) t)
  (hst:starEach (e::es) X.env=(l_,eval e X.env)::starEach es X.env:=by rfl) (hpl:(backTo pos^starEach es X.env).any (·.1)=l_:=by rfl)
  (ht:eval (.Call (.Attribute o m apos) (e::es) [] pos) X.env=(do
   let ov ←eval o X.env
   standAt apos.atName
   let (f,first) ←holding [ov] (getMethod ov m pl)
   callWith pos f first (backTo pos^starEach (e::es) X.env) (backToKw pos^keywordEach [] X.env)):=by rfl):
  PE X (.Call (.Attribute o m apos) (e::es) [] pos) (Uv C m sp dvs E ta t):=by
 intro zG s σ H Q I h;refine PySem.W.methodCall_KW (A5 (he _ s σ H _ I h) λu s1 zz=>?_) ht;let#[x,H1,I1,rx,a,dx,fs,ex,ea,l,q]:=zz;subst ex;obtain rfl:u=cV a:=rx;refine FK I1 ea c hm l^PySem.W.callWith_K I.ok.mod.kin hm.kp (A5 (ha _ _ s1 σ H1 _ I1 q) λus s2 zz=>?_) hst hpl;let#[vs,H2,I2,r,q2]:=zz;exact #[I2.kIn,M5 (vs:=.ref a::vs) F hr hb hd hx I2 (.cons rfl r) q2]
theorem RN{pl:Sem Bool}(he:PE X o ta)(c:Cls X.K C)(hm:QQ X.K C m f)(F:FnOk X.prog X.w X.K X.mg X.base CX k f fd ps sp)(hr:Room k X.A)(hb:Binds X.K fd ps ds)(hd:Vals dvs ds)(hx:DD CX X E)
  (ht:eval (.Call (.Attribute o m apos) [] [] pos) X.env=(do
   let ov ←eval o X.env
   standAt apos.atName
   let (f,first) ←holding [ov] (getMethod ov m pl)
   callWith pos f first (backTo pos^starEach [] X.env) (backToKw pos^keywordEach [] X.env)):=by rfl):
  PE X (.Call (.Attribute o m apos) [] [] pos) (Uv C m sp dvs E ta Qp):=by
 intro zG s σ H Q I h;refine PySem.W.methodCall_KW (A5 (he _ s σ H _ I h) λu s1 zz=>?_) ht;let#[x,H1,I1,rx,a,dx,fs,ex,ea,l,q]:=zz;subst ex;obtain rfl:u=cV a:=rx;exact FK I1 ea c hm l^PySem.W.callWith_K0 I1.kIn hm.kp^M5 (vs:=[.ref a]) F hr hb hd hx I1 (.cons rfl .nil) q
structure Mk (K:Frag) (C f:Ch):Prop where
 makes:PySem.W.makesIn K C=k_
 init:PySem.W.findIn K (.ref C) "__init__"=P3 (P3^.ref f)
 fn:PySem.W.isFn K^.ref f=k_
 kp:keepIn K^.ref C=k_
theorem Qy{zG:m_ (Ch×Obj)}{σ:St}{H:Hp}{s:Go}{Q:VK}{us:m_ Cn}{vs:m_ V}(M:Mk X.K C f)(F:FnOk X.prog X.w X.K X.mg X.base CX k f fd ps sp)(hr:Room (k+1) X.A)(hb:Binds X.K fd ps ds)(hd:Vals dvs ds)
  (hx:DD CX X E) (I:Inv X zG σ H s) (r:Vals vs us)
  (h:∀x dx,H x=j_->H dx=j_->dx≠x->sp (.ref x::(vs++dvs)) (Ah (Ah H dx^.own x) x^.vol^.ins C dx []) (λv H2=>v=.non/\Q (.ref x) H2) E):
  wpAny (model X.prog X.w) X.A (call (.ref C) us) (EP X zG σ Q) X.xe s:=by
 have hq:=h (s.heap.objs.size+1) s.heap.objs.size (I.hok.fresh^dO _) (I.hok.fresh^Rs _)^cb^fM _;have I2:=Inv.made (C:=C) I;have r2:Vals (V.ref (s.heap.objs.size+1)::(vs++dvs)) (cV (s.heap.objs.size+1)::(us++ds)):=.cons rfl (r.append hd)
 have hl:(cV (s.heap.objs.size+1)::us++ds).length=ps.length:=by
  have e:=r2.length;rw[F.len _ _ _ _ hq]at e;exact e.symm
 refine gO (Rf (f:=f) I.kIn M.makes M.init (beq_iff_eq.mp M.fn) (fo (F.run _ X.stack _ _ #[cV (s.heap.objs.size+1)::us,[]] (cV (s.heap.objs.size+1)::(us++ds)) _ _ E (hr.make C us [])
  (I2.env0.make C us []) (hb _ (cV (s.heap.objs.size+1)::us) I2.kIn hl) r2 hq) λr s' hq'=>?_))
 cases r with
 |error e=>exact hx zG σ _ _ e s' I2 hq'
 | ok fl=>
  cases fl with
  |ret u=>
   let#[v,H',I3,rv,ev,q3]:=I2.after hq';subst ev;exact#[rv,#[V.ref (s.heap.objs.size+1),H',I3,rfl,q3]]
  |next=>exact dQ hq'
  |brk=>exact dQ hq'
  |cont=>exact dQ hq'
theorem Ta(M:Mk X.K C f)(F:FnOk X.prog X.w X.K X.mg X.base CX k f fd ps sp)(hr:Room (k+1) X.A)(hg:Gl X x)(hm:X.mg x=P3^.ref C)(hb:Binds X.K fd ps ds)(hd:Vals dvs ds)(hx:DD CX X E)
  (ha:PA X (e::es) t) (hdb:(x==("__debug__":Str))=l_:=by decide) (he:starEach (e::es) X.env=(l_,eval e X.env)::starEach es X.env:=by rfl) (hpl:(backTo pos^starEach es X.env).any (·.1)=l_:=by rfl):
  PE X (.Call (.Name x p) (e::es) [] pos) (YY C sp dvs E t):=λzG s σ H Q I h=>eN^Em I hg hm (PySem.W.callWith_K I.ok.mod.kin M.kp (A5 (ha _ _ s σ H _ I h) λus s1 #[vs,H1,I1,r,q]=>#[I1.kIn,Qy M F hr hb hd hx I1 r q]) he hpl) hdb
end
section
variable {fd:FuncData}{ps ks:m_ Str}
structure bc (K:Frag) (fd:dR) (ps ks:List Str) (g:List Cn->List Cn->List Cn) (gV:List V->List V->List V):Prop where
 to:∀(s:Go) (us ws:List Cn),K.In s.heap->(g us ws).length=ps.length->i_ s fd #[us,ks.zip ws] (ps.zip^g us ws)
 rel:∀{vs:List V}{us:List Cn}{zs:List V}{ws:List Cn},Vals vs us->Vals zs ws->Vals (gV vs zs)^g us ws
end
structure BF (N P:List Str) (sc:fK):Prop where
 kind:sc.kind=.function
 co:sc.isCoroutine=l_
 gen:sc.isGenerator=l_
 nd:N.Nodup
 pre:N.take P.length=P
 par:∀x∈P,sc.names.lookup x=P3 .local\/sc.names.lookup x=P3 .cell
 nofree:∀y∈sc.names,y.2≠.free
theorem J9{kindOf:Str->n_ fN}{x:Str}:∀{binds:m_ (Str×Cn)}{m:Str->n_ Cn},(∀v,(x,v)∉binds)->bindL kindOf binds m x=m x
 |[],_,_=>rfl
 |(n,v)::r,m,h=>by
  unfold bindL;rw[J9 λw hw=>h w^TW _ hw]
  split
  .grind
  .rfl
theorem KA{kindOf:Str->n_ fN}{x:Str}:∀{binds:m_ (Str×Cn)}{m:Str->n_ Cn},(∀v,(x,v)∉binds)->bindC kindOf binds m x=m x
 |[],_,_=>rfl
 |(n,v)::r,m,h=>by
  unfold bindC;rw[KA λw hw=>h w^TW _ hw]
  split
  .rfl
  grind
theorem J_{kindOf:Str->n_ fN}{x:Str}{v:Cn}:∀{P:m_ Str}{vs:m_ Cn}{i:Nat}{m:Str->n_ Cn},P.Nodup->P[i]?=P3 x->vs[i]?=P3 v->kindOf x=P3 .local->
  bindL kindOf (P.zip vs) m x=P3 v
 |[],_,_,_,_,h,_,_=>by simp at h
 |_::_,[],_,_,_,_,h,_=>by simp at h
 |p::P,w::vs,0,m,nd,h1,h2,hk=>by
  simp at h1 h2; subst h1; subst h2
  show bindL kindOf ((p,w)::P.zip vs) m p=_;unfold bindL;rw[J9 λv hv=>(cz.mp nd).1 (iG hv).1,if_pos hk];simp
 |p::P,w::vs,i+1,m,nd,h1,h2,hk=>by
  unfold bindL;exact J_ (i:=i) (cz.mp nd).2 (by simp_all) (by simp_all) hk
theorem KC{kindOf:Str->n_ fN}{x:Str}{v:Cn}:∀{P:m_ Str}{vs:m_ Cn}{i:Nat}{m:Str->n_ Cn},P.Nodup->P[i]?=P3 x->vs[i]?=P3 v->kindOf x≠P3 .local->
  bindC kindOf (P.zip vs) m x=P3 v
 |[],_,_,_,_,h,_,_=>by simp at h
 |_::_,[],_,_,_,_,h,_=>by simp at h
 |p::P,w::vs,0,m,nd,h1,h2,hk=>by
  simp at h1 h2; subst h1; subst h2
  show bindC kindOf ((p,w)::P.zip vs) m p=_;unfold bindC;rw[KA λv hv=>(cz.mp nd).1 (iG hv).1,if_neg hk];simp
 |p::P,w::vs,i+1,m,nd,h1,h2,hk=>by
  unfold bindC;exact KC (i:=i) (cz.mp nd).2 (by simp_all) (by simp_all) hk
def start(N:m_ Str)(vs:m_ V):St:=vs.map P3++dX (N.length - vs.length) j_
def D7(CX:QX)(P:cm)(w:cy)(K:Frag)(mg:Str->n_ Cn)(base:cf)(N:m_ Str)(qual:Str)(scope:fK)(f:Ch)(cd:Cn)(A:c_)(outer:m_ Env)(s:Go)(H:Hp)(E:XK):Cx where
 prog:=P
 w:=w
 K:=K
 mg:=mg
 base:=base
 A:=A.deeper (envOfC qual scope s.heap.objs.size f cd)
 N:=N
 s₀:=s
 H₀:=H
 env:=envOfC qual scope s.heap.objs.size f cd
 outer:=outer
 stack:=envOfC qual scope s.heap.objs.size f cd::outer
 ex:=[]
 calm:=k_
 fn:=λ_=>k_
 pn:=[]
 xe:=λe s'=>wpAny (model P w) (A.deeper^envOfC qual scope s.heap.objs.size f cd) (leaving (envOfC qual scope s.heap.objs.size f cd) e) (λ_ s''=>CX outer H s E e s'') (λe' s''=>CX outer H s E e' s'') s'
theorem MV{sc:fK}{n:Nat}{x:Str}(h:sc.names.lookup x=P3 .cell):∃c,(cellsFrom n sc.names []).lookup x=P3 c:=by
 have q:=PySem.W.cellsFrom_some sc.names n []^.inl h;exact Option.isSome_iff_exists.mp q
theorem P6{CX:QX}{P:cm}{w:cy}{K:Frag}{mg:Str->n_ Cn}{base:cf}{N ps:m_ Str}{qual:Str}{scope:fK}{f:Ch}{cd:Cn}{A:c_}{outer:m_ Env}{s s1:Go}{H:Hp}{E:XK}{us:m_ Cn}{vs:m_ V}
  (S:BF N ps scope) (hd:A.handled=j_) (e0:Env0 P w K mg base A outer s H) (hl:vs.length=ps.length) (r:Vals vs us)
  (x:InCallC s s.heap.objs.size (bindL (envOfC qual scope s.heap.objs.size f cd).kindOf (ps.zip us) λ_=>j_) (cellsFrom (s.heap.objs.size+1) scope.names []) (bindC (envOfC qual scope s.heap.objs.size f cd).kindOf (ps.zip us) λ_=>j_) s1):
  Inv (D7 CX P w K mg base N qual scope f cd A outer s H E) [] (start N vs) H s1:=by
 have hpl:ps.length<=N.length:=by have:=congrArg gY S.pre; rw[fA]at this; omega
 let#[h1,tk,rfl,hk]:=x.done;have noA:∀b:Ch,b∉(D7 CX P w K mg base N qual scope f cd A outer s H E).ex:=λb z=>absurd (show b∈([]:m_ Ch)from z)^by simp
 refine#[#[e0.mod,S.kind,rfl,rfl,Rs _,λy z c h1 h2=>?_,λy hy=>?_,λy c _ h=>?_,λ_=>hd,Around.frames_deeper e0.frames,.inr #[rfl,rfl],λb z=>absurd z^noA b,e0.bs,e0.bsz,λb _ _=>noA b,λb z=>absurd z^noA b,e0.funs,e0.frf],
  rfl,e0.bare,Un.kept hk,#[_,x.toInCall.ns,λi y v h1 h2 h3=>?_],λy c h=>#[_,x.cell y c h],e0.hok.fresh^Rs _,λy c h=>?_,λp hp=>absurd (show p∈([]:m_ (Ch×Obj))from hp)^by simp,e0.hok.kept hk,?_]
 .exact name_of_addr x.apart (PySem.mem_of_lookup h1)^PySem.mem_of_lookup h2
 .have hy:scope.names.lookup y=P3 .cell\/scope.names.lookup y=P3 .free:=hy
  rcases hy with hy|hy
  .exact MV hy
  .exact absurd rfl (S.nofree _^PySem.mem_of_lookup hy)
 .exact jA^x.above y c^PySem.mem_of_lookup h
 .have hi:i<vs.length:=by
   unfold start at h2
   by_cases hi:i<vs.length
   .exact hi
   .rw[eP^by simpa using hi]at h2
    rw[g7]at h2
    split at h2 <;>cases h2
  have ha:vs[i]?=P3 v:=by
   unfold start at h2;rw[fi (by simpa using hi),cX]at h2;cases e:vs[i]? with
   |none=>rw[e]at h2; cases h2
   |some a=>rw[e]at h2; cases h2; rfl
  let#[u,hu,rv]:=r.get ha
  have hp:ps[i]?=P3 y:=by
   rw[←S.pre,List.getElem?_take_of_lt^by lk]; exact h1
  have ndP:ps.Nodup:=by rw[←S.pre]; exact S.nd.sublist^List.take_sublist _ _
  refine#[u,rv,?_]
  rcases S.par y^gP hp with k|k
  .exact .inl #[k,J_ ndP hp hu k]
  .let#[c,e]:=MV (n:=s.heap.objs.size+1) k
   refine .inr #[.inl k,c,e,?_];have q:=x.cell y c e;rw[KC ndP hp hu^by show scope.names.lookup y≠_; rw[k]; decide]at q;exact q
 .exact e0.hok.fresh^jA^x.above y c^PySem.mem_of_lookup h
 .unfold start
  show _=N.length;rw[cZ,FM,jQ];lk
theorem VI{CX:QX}{P:cm}{w:cy}{K:Frag}{mg:Str->n_ Cn}{base:cf}{k:Nat}{f:Ch}{name qual:Str}{params:Arguments}{body:m_ d6}{scope:fK}{dV kV doc pm cdv ct oc:Cn}{an od:n_ Ch}
  {osl:Array^n_ Cn}{N ps:m_ Str}{sp:Sp} (lk:K.lookup f=P3 #[oc,od,.func^fnOf name qual params body scope dV kV doc pm an cdv ct,osl]) (hcd:codeIn K cdv qual=k_) (S:BF N ps scope)
  (len:∀vs H Q E,sp vs H Q E->vs.length=ps.length)
  (hbody:∀(A:c_) (outer:m_ Env) (s:Go) (H:Hp) (vs:m_ V) (Q:VK) (E:XK),Room k^A.deeper^envOfC qual scope s.heap.objs.size f cdv->sp vs H Q E->
   ∃t,PSs (D7 CX P w K mg base N qual scope f cdv A outer s H E) body t/\t {nx:=λ_ H'=>Q .non H',rt:=Q} (start N vs) H):
  FnOk P w K mg base CX (k+1) f (fnOf name qual params body scope dV kV doc pm an cdv ct) ps sp:=by
 refine#[len,λA outer s H args us vs Q E hr e0 hb r hsp=>?_];have hl:=len _ _ _ _ hsp;have KX:K.In s.heap:=e0.mod.kin.keeps λb o e=>(e0.bs b o e).1;have lim:s.heap.NoLimit:=e0.mod.nolimit.keeps λb o e=>(e0.bs b o e).1
 have hkind:∀y∈ps.zip us,scope.names.lookup y.1=P3 .local\/(scope.names.lookup y.1=P3 .cell/\((cellsFrom (s.heap.objs.size+1) scope.names []).lookup y.1).isSome=k_):=fun#[n,v] hy=>by
  rcases S.par n (iG hy).1 with q|q
  .exact .inl q
  .exact .inr #[q,PySem.W.cellsFrom_some _ _ _^.inl q]
 refine codeAny_call_function hr.depth (KX _ _ lk) rfl S.co S.gen rfl (PySem.W.codeRec_of KX hcd) (hb _ _ _ _ ?_);refine wpAny_newFunctionEnv_cells S.kind hkind λenv he s1 x=>?_;subst he;refine#[lim.keeps x.toInCall.keep,codeAny_func ?_];let#[t,ht,hq]:=hbody A outer s H vs Q E (hr.deeper _) hsp;have I:Inv (D7 CX P w K mg base N qual scope f cdv A outer s H E) [] (start N vs) H s1:=P6 S hr.hd e0 hl r x;refine dI (ht [] s1 (start N vs) H _ I hq) (λfl s' hs=>?_) λe s' hs=>hs
 have fin:∀{zZ:St}{H':Hp}{v:V}{u:Cn},Inv (D7 CX P w K mg base N qual scope f cdv A outer s H E) [] zZ H' s'->RelV v u->Q v H'->CE outer P w H s Q u s':=
  λ{zZ H' v u} J rv q=>#[v,H',J.os,J.bare,J.base,J.hok,rv,q]
 cases fl with
 |ret u=>
  let#[v,zZ,H',J,rv,q]:=hs;exact fin J rv q
 |next=>
  let#[zZ,H',J,q]:=hs;exact fin (v:=V.non) (u:=dG) J rfl q
 |brk=>
  let#[_,_,_,q]:=hs;exact dQ q
 |cont=>
  let#[_,_,_,q]:=hs;exact dQ q
section
variable {X:Cx}{x:Str}{p pos:Pos}{e:Expr}{es:m_ Expr}{t:TA}{id T:String}{r:m_ V->Hp->VK->Prop}
def aF(r:m_ V->Hp->VK->Prop)(t:TA):TE:=λσ H Q=>t σ H λvs H1=>r vs H1 Q
theorem Fi(hc:B9 X (.builtin id) r)(hg:Gl X x)(hm:X.mg x=j_)(hv:bootBuiltins x=P3^.builtin id)(ha:PA X (e::es) t)(hn:x ≠ "__name__":=by decide)(hdb:(x==("__debug__":Str))=l_:=by decide)
  (he:starEach (e::es) X.env=(l_,eval e X.env)::starEach es X.env:=by rfl) (hpl:(backTo pos^starEach es X.env).any (·.1)=l_:=by rfl):PE X (.Call (.Name x p) (e::es) [] pos)^aF r t:=λzG s σ H Q I h=>eN^D4 I hg hm hv (PyProof.Rows.callWith_builtin1 (A5 (ha _ _ s σ H _ I h) λus s1 #[vs,H1,I1,r1,q1]=>hc _ s1 σ H1 vs us Q I1 r1 q1) he hpl) hn hdb
theorem Jf(hc:B9 X (.type T) r)(hg:Gl X x)(hm:X.mg x=j_)(hv:bootBuiltins x=P3^.type T)(ha:PA X (e::es) t)(hn:x ≠ "__name__":=by decide)(hdb:(x==("__debug__":Str))=l_:=by decide)
  (he:starEach (e::es) X.env=(l_,eval e X.env)::starEach es X.env:=by rfl) (hpl:(backTo pos^starEach es X.env).any (·.1)=l_:=by rfl):PE X (.Call (.Name x p) (e::es) [] pos)^aF r t:=λzG s σ H Q I h=>eN^D4 I hg hm hv (eM (A5 (ha _ _ s σ H _ I h) λus s1 #[vs,H1,I1,r1,q1]=>hc _ s1 σ H1 vs us Q I1 r1 q1) he hpl) hn hdb
end
end L2
namespace HT
section
variable {prog:Program}{w:World}{A:Around}{E:Value->Shared->Prop}{s:Shared}
theorem cat_tup{t b:Ch}{vs ws:m_ Cn}{Q:Cn->Go->Prop}(ht:IsTup s.heap t vs.toArray)(hb:IsTup s.heap b ws.toArray)(hv:vs≠[])
  (h1:ws=[]->Q (.ref t) s) (h2:ws≠[]->Q (.ref s.heap.objs.size) {s with heap:=s.heap.push {cls:=.type "tuple",data:=.seq (vs++ws).toArray}})
  (hsz:vs.length+ws.length<=sizeLine):wpAny (model prog w) A (binaryOp .Add (.ref t)^.ref b) Q E s:=by
 let#[#[cls,dd,data,sl],ho,hc,n,hd]:=id ht;let#[#[cls2,dd2,data2,sl2],ho2,hc2,n2,hd2]:=id hb;simp only at hc hd hc2 hd2;subst hc hd hc2 hd2
 by_cases hw:ws=[]
 .exact concat_meets #[_,ho,rfl] #[_,ho2,rfl] jC seq_tuple_add PySem.F.slot_tuple_add PySem.F.entry_tuple_add (PySem.F.args_tuple_add_2 _ _)
   (tuple_addW1 t b vs.toArray ws.toArray n n2 dd dd2 sl sl2 (by simp_all)^by simp[hw]) #[ho,ho2,h1 hw]
 .refine concat_meets #[_,ho,rfl] #[_,ho2,rfl] jC seq_tuple_add PySem.F.slot_tuple_add PySem.F.entry_tuple_add (PySem.F.args_tuple_add_2 _ _)
   (tuple_addW2 t b vs.toArray ws.toArray n n2 dd dd2 sl sl2 (by grind) (by grind)^by lk) #[ho,ho2,?_]
  simp_all
def sIx(n d:Nat):n_ Int->Nat
 |none=>d
 |some v=>if v<0 then(v+(n:Int)).toNat else min v.toNat n
theorem sIx_none(n d:Nat):sIx n d j_=d:=rfl
theorem sIx_nat(n d k:Nat):sIx n d^P3 (k:Int)=min k n:=by
 show(if k<0 then((k:Int)+n).toNat else min _ n)=min k n;rw[if_neg^by lk,gJ]
theorem V9(n d:Nat)(hd:d<=n)(o:n_ Int):sIx n d o<=n:=by
 cases o with
 |none=>exact hd
 |some v=>
  show(if v<0 then(v+n).toNat else min _ n)<=n
  grind
theorem Ow(v:Int)(n d:Nat):(if v<0 then max (v+(n:Int)) 0 else min v (n:Int))=((sIx n d^P3 v:Nat):Int):=by
 show(if v<0 then max _ 0 else min v _)=(if v<0 then(v+n).toNat else min _ n)
 grind
theorem Nj(lo hi:n_ Int)(n:Nat):iz lo hi 1 (n:Int)=(((sIx n 0 lo:Nat):Int),((sIx n n hi:Nat):Int)):=by
 refine Prod.ext ?_ ?_
 .cases lo with
  |none=>rfl
  |some v=>exact Ow v n 0
 .cases hi with
  |none=>rfl
  |some v=>exact Ow v n n
theorem NB(i j:Nat):gg (i:Int) (j:Int) 1=j - i:=by
 unfold gg
 grind
theorem Ho{v:Cn}{o:n_ Int}{Q:n_ Int->Go->Prop}(p:iH v o)(h:Q o s):wpAny (model prog w) A (Builtin.Slice.slicePartIndex v) Q E s:=by
 cases p with
 |none=>exact slicePart_none h
 |int i t=>exact slicePart_int h
theorem sliceApplied_gen{sl:Ch}{vl vu:Cn}{lo hi:n_ Int}{n:Nat}{Q:Int×Int×Nat->Go->Prop}(hs:s.heap.IsSliceOf sl vl vu .none)(pl:iH vl lo)(pu:iH vu hi)
  (h:Q (((sIx n 0 lo:Nat):Int),1,sIx n n hi - sIx n 0 lo) s):wpAny (model prog w) A (Builtin.Slice.sliceApplied (.ref sl)^pure (n:Int)) Q E s:=by
 let#[os,hos,hcs,hds]:=id hs;refine Db^Db (d7 hos hds (x:=vl) rfl (Db (d7 hos hds (x:=vu) rfl (Db (d7 hos hds (x:=.none) rfl (UF ?_))))));refine Db^slicePart_none ?_;refine Db^Ho pl^Db^Ho pu^Db^UF ?_;show wpAny _ _ (match iz lo hi 1 (n:Int)with|(lo,hi)=>pure (lo,(1:Int),gg lo hi 1)) _ _ s;rw[Nj lo hi n];show wpAny _ _ (pure _) _ _ s;rw[NB];exact UF h
theorem RF(xs:Array Cn)(i k:Nat):((dA k).filterMap fun(m:Nat)=>xs[((i:Int)+(m:Int)*1).toNat]?).toArray=((xs.toList.drop i).take k).toArray:=by
 have e:(fun(m:Nat)=>xs[((i:Int)+(m:Int)*1).toNat]?)=λm=>xs[i+m]?:=by
  grind
 rw[e]
 have:=pick_run xs i k
 rw[List.filterMap_map]at this;have e2:((λx=>xs[x]?)∘λx=>i+x)=λm=>xs[i+m]?:=rfl
 grind
theorem getItem_tuple_cut{t sl:Ch}{items:Array Cn}{vl vu:Cn}{lo hi:n_ Int}{Q:Cn->Go->Prop}(ht:IsTup s.heap t items)(hs:s.heap.IsSliceOf sl vl vu .none)(pl:iH vl lo)(pu:iH vu hi)
  (hw:¬(sIx items.size 0 lo=0/\sIx items.size items.size hi=items.size))
  (h:Q (.ref s.heap.objs.size) {s with heap:=s.heap.push {cls:=.type "tuple",data:=.seq ((items.toList.drop^sIx items.size 0 lo).take (sIx items.size items.size hi - sIx items.size 0 lo)).toArray}})
  (hsz:items.size<=sizeLine):wpAny (model prog w) A (getItem (.ref t)^.ref sl) Q E s:=by
 have htake:sizeOk^.seq ((items.toList.drop^sIx items.size 0 lo).take (sIx items.size items.size hi - sIx items.size 0 lo)).toArray:=by
  show((items.toList.drop^sIx items.size 0 lo).take (sIx items.size items.size hi - sIx items.size 0 lo)).toArray.size<=sizeLine;rw[cY,fA,List.length_drop,eU];lk
 have hj:sIx items.size items.size hi<=items.size:=V9 _ _ (Rs _) hi;let#[os,hos,hcs,hds]:=id hs;have hTs:s.TypeIs (.ref sl) "slice":=#[os,hos,hcs];unfold getItem
 try with_reducible refine eI ?_
 first|refine Db^UF ?_|skip
 refine Db^wpAny_sequenceKey ht.typeIs (by cbv) ?_
 refine Db (eq (name:=eJ "__getitem__") ht.typeIs dq
  (fq dq ht.typeIs entry_tuple_getitem ?_^args_tuple_getitem _ _))
 show wpAny _ _ (im^.ref t >>=_) _ _ s;refine Db^tupleItemsOf_ ht ?_;refine Db^gn hTs ?_;rw[if_pos^by cbv];refine Db^sliceApplied_gen hs pl pu ?_
 have hno:¬((((sIx items.size 0 lo:Nat):Int)==0&&(1:Int)==1&&(sIx items.size items.size hi - sIx items.size 0 lo)==items.size)=k_):=by
  grind
 show wpAny _ _ (if(((sIx items.size 0 lo:Nat):Int)==0&&(1:Int)==1&&(sIx items.size items.size hi - sIx items.size 0 lo)==items.size)=k_ then _ else _) _ _ s;rw[if_neg hno,RF]
 first
  |exact Db (m:=gp _)^eR (UF #[_,rfl,UF h]) htake
  |grind
  |grind
  |grind
end
end HT
namespace L2
abbrev TO:=St->Hp->(n_ Int->Hp->Prop)->Prop
def PO(X:Cx)(e:n_ cr)(t:TO):Prop:=
 ∀(zG:m_ (Ch×Obj)) (s:Go) (σ:St) (H:Hp) (Q:n_ Int->Hp->Prop),Inv X zG σ H s->t σ H Q->
  wpAny (model X.prog X.w) X.A (evalPart e X.env) (λu s'=>∃o H',Inv X zG σ H' s'/\iH u o/\Q o H') X.xe s
def TD:TO:=λ_ H Q=>Q j_ H
def YW(t:TE):TO:=λσ H Q=>t σ H λx H1=>∃i,x=.int i/\Q (P3 i) H1
section
variable {X:Cx}{e:Expr}{te:TE}{lo hi:n_ Expr}{tl th:TO}{pos p2:Pos}
theorem OJ:PO X j_ TD:=λzG s σ H Q I h=>UF #[_,H,I,.none,h]
theorem OI(h:PE X e te):PO X (P3 e)^YW te:=by
 intro zG s σ H Q I hw;refine A5 (h _ s σ H _ I hw) λu s1 zz=>?_;let#[x,H1,I1,r1,q1]:=zz;let#[i,rfl,q]:=q1;let#[t,rfl]:=r1;exact#[_,H1,I1,.int i t,q]
def SlR(X:Cx)(r:V->n_ Int->n_ Int->Hp->VK->Prop):Prop:=
 ∀(zG:m_ (Ch×Obj)) (s:Go) (σ:St) (H:Hp) (x:V) (v vl vu:Cn) (lo hi:n_ Int) (sl:Ch) (Q:VK),Inv X zG σ H s->RelV x v->s.heap.IsSliceOf sl vl vu .none->iH vl lo->iH vu hi->r x lo hi H Q->
  ∃T id,typeLookup (.type T) "__getitem__"=pure^P3^.builtin id/\s.TypeIs v T/\wpAny (model X.prog X.w) X.A (getItem v^.ref sl) (EP X zG σ Q) X.xe s
theorem SlR.or{r r':V->n_ Int->n_ Int->Hp->VK->Prop}(h:SlR X r)(h':SlR X r'):SlR X (λx lo hi H Q=>r x lo hi H Q\/r' x lo hi H Q):=by
 intro zG s σ H x v vl vu lo hi sl Q I rx hs pl pu q
 rcases q with q|q
 .exact h _ s σ H x v vl vu lo hi sl Q I rx hs pl pu q
 .exact h' _ s σ H x v vl vu lo hi sl Q I rx hs pl pu q
def cH(r:V->n_ Int->n_ Int->Hp->VK->Prop)(te:TE)(tl th:TO):TE:=λσ H Q=>te σ H λx H1=>tl σ H1 λl H2=>th σ H2 λu H3=>r x l u H3 Q
theorem Ly{r:V->n_ Int->n_ Int->Hp->VK->Prop}(hr:SlR X r)(he:PE X e te)(hl:PO X lo tl)(hu:PO X hi th):PE X (.Subscript e (.Slice lo hi j_ p2) pos)^cH r te tl th:=by
 intro zG s σ H Q I h;refine Subscript_^A5 (he zG s σ H _ I h) λv s1 zz=>?_;let#[x,H1,I1,r1,q1]:=zz;refine wpAny_Slice^A5 (hl zG s1 σ H1 _ I1 q1) λvl s2 zz=>?_;let#[l,H2,I2,pl,q2]:=zz;refine A5 (hu zG s2 σ H2 _ I2 q2) λvu s3 zz=>?_;let#[u,H3,I3,pu,q3]:=zz;rw[evalPart_none];refine UF ?_;have I4:Inv X zG σ H3 {s3 with heap:=s3.heap.push {cls:=.type "slice",data:=.fields #[ vl,vu,.none]}}:=I3.kept (t':=s3.toks) λb ob q=>Ev _ q;let#[T,id,hT,ht,hg]:=hr zG {s3 with heap:=s3.heap.push {cls:=.type "slice",data:=.fields #[ vl,vu,.none]}} σ H3 x v vl vu l u s3.heap.objs.size Q I4 r1 (Heap.IsSliceOf.new ..) pl pu q3;show wpAny (model X.prog X.w) X.A (subscriptTail e (.Slice lo hi j_ p2) v^.ref s3.heap.objs.size) (EP X zG σ Q) X.xe {s3 with heap:=s3.heap.push {cls:=.type "slice",data:=.fields #[ vl,vu,.none]}};exact tail_any (ops:=[.ref s3.heap.objs.size,v]) ht hT hg^by with_unfolding_all rfl
def MR(xs:m_ V)(lo hi:n_ Int):m_ V:=(xs.drop^HT.sIx xs.length 0 lo).take (HT.sIx xs.length xs.length hi - HT.sIx xs.length 0 lo)
theorem Gy(xs:m_ V)(lo hi:n_ Int):(MR xs lo hi).length<=xs.length:=by
 unfold MR
 grind
def Yk(K:Frag):V->n_ Int->n_ Int->Hp->VK->Prop:=λx lo hi H Q=>∃a xs,x=.ref a/\SqT K H a xs /\
 ¬(HT.sIx xs.length 0 lo=0/\HT.sIx xs.length xs.length hi=xs.length)/\∀p,H p=j_->Q (.ref p)^Ah H p^.tup^MR xs lo hi
theorem sl_tup:SlR X^Yk X.K:=by
 intro zG s σ H x v vl vu lo hi sl Q I rx hs pl pu h;let#[a,xs,rfl,hx,hw,q]:=h;cases rx;let#[its,r,ht,hz]:=I.tuple hx;have hlen:its.toArray.size=xs.length:=by exact r.length.symm
 refine#[_,_,dq.lookup,ht.typeIs,?_];refine HT.getItem_tuple_cut ht hs pl pu (by grind) ?_ (by simp_all);rw[hlen];refine#[.ref _,_,I.laid (λb ob q=>Ev _ q) (Rs _) ?_,rfl,q _^I.hok.fresh^Rs _];exact#[c5 (Gy xs lo hi) hz,_,(r.drop _).take _,IsTupN.new _ _]
def Q8(K:Frag):R2:=λx y H Q=>∃a b xs ys,x=.ref a/\y=.ref b/\SqT K H a xs/\SqT K H b ys/\xs≠[]/\xs.length+ys.length<=sizeLine /\
 (ys=[]->Q (.ref a) H)/\(ys≠[]->∀p,H p=j_->Q (.ref p)^Ah H p^.tup (xs++ys))
theorem Vals.nil_iff{xs:m_ V}{us:m_ Cn}(r:Vals xs us):us=[]↔xs=[]:=by
 cases r with
 |nil=>simp
 |cons _ _=>simp
theorem op_catT:OpR X (binaryOp .Add)^Q8 X.K:=by
 intro zG s σ H x y v u Q I rx ry h;let#[a,b,xs,ys,rfl,rfl,ha,hb,hx,hz,q1,q2]:=h;cases rx;cases ry;let#[its,r1,p1,_]:=I.tuple ha;let#[its2,r2,p2,_]:=I.tuple hb;refine HT.cat_tup p1 p2 (λz=>hx^r1.nil_iff.mp z) (λz=>#[.ref a,H,I,rfl,q1^r2.nil_iff.mp z]) (λz=>?_) (by rw[←r1.length,←r2.length]; exact hz);refine#[.ref _,_,I.laid (λb ob q=>Ev _ q) (Rs _) ?_,rfl,q2 (λw=>z^r2.nil_iff.mpr w) _^I.hok.fresh^Rs _];exact#[by simp_all,_,r1.append r2,IsTupN.new _ _]
end
def Tx(n:Nat)(i:Int):n_ Nat:=if 0<=i then(if i<n then P3 i.toNat else j_)else if -(n:Int)<=i then P3 (i+n).toNat else j_
def atI{α:Type}(xs:m_ α)(i:Int):n_ α:=(Tx xs.length i).bind λj=>xs[j]?
theorem OZ{n:Nat}{i:Int}{j:Nat}(h:Tx n i=P3 j):seqIndex? i n=P3 j/\j<n/\-(n:Int)<=i/\i<n:=by
 unfold Tx at h
 by_cases h0:0<=i
 .rw[if_pos h0]at h
  by_cases h1:i<n
  .rw[if_pos h1]at h
   have e:i.toNat=j:=XV h;exact#[by rw[seqIndex_of h0 h1,e],by lk,by lk,h1]
  grind
 .rw[if_neg h0]at h
  by_cases h1:-(n:Int)<=i
  .rw[if_pos h1]at h
   have e:(i+n).toNat=j:=XV h;exact#[by rw[seqIndex_neg (by lk) h1,e],by lk,h1,by lk]
  grind
theorem LM{α:Type}{xs:m_ α}{i:Int}{v:α}(h:atI xs i=P3 v):∃j,seqIndex? i xs.length=P3 j/\xs[j]?=P3 v/\j<xs.length/\-(xs.length:Int)<=i/\i<xs.length:=by
 unfold atI at h;cases e:Tx xs.length i with
 |none=>simp_all
 |some j=>
  let#[h1,h2,h3,h4]:=OZ e
  simp_all
theorem AA{α:Type}{xs:m_ α}{j:Nat}{v:α}(h:xs[j]?=P3 v):atI xs (j:Int)=P3 v:=by
 have hj:=(Uf.mp h).1
 have e:Tx xs.length j=P3 j:=by
  unfold Tx
  simp_all
 unfold atI; grind
def LW(b:cr):Prop:=∀o i,subscripted b l_ o i=operate [o,i]^getItem o i
def IxR(X:Cx)(r:R2):Prop:=
 ∀(value slice:cr) (zG:m_ (Ch×Obj)) (s:Go) (σ:St) (H:Hp) (x y:V) (v u:Cn) (Q:VK),Inv X zG σ H s->RelV x v->RelV y u->r x y H Q->
  subscripted slice l_ v u=operate [v,u]^getItem v u->wpAny (model X.prog X.w) X.A (subscriptTail value slice v u) (EP X zG σ Q) X.xe s
def Xx(X:Cx)(id:String)(r:V->m_ V->Hp->VK->Prop):Prop:=
 ∀(zG:m_ (Ch×Obj)) (s:Go) (σ:St) (H:Hp) (x:V) (xs:m_ V) (v:Cn) (us:m_ Cn) (Q:VK),Inv X zG σ H s->RelV x v->Vals xs us->r x xs H Q->
  wpAny (model X.prog X.w) X.A (call (.builtin id) (v::us)) (EP X zG σ Q) X.xe s
section
variable {X:Cx}{a b:Expr}{ta tb:TE}{pos:Pos}
theorem IxR.or{r r':R2}(h:IxR X r)(h':IxR X r'):IxR X (λx y H Q=>r x y H Q\/r' x y H Q):=by
 intro value slice zG s σ H x y v u Q I rx ry q hs
 rcases q with q|q
 .exact h _ _ _ s σ H x y v u Q I rx ry q hs
 .exact h' _ _ _ s σ H x y v u Q I rx ry q hs
theorem EA{r:R2}(hr:IxR X r)(ha:PE X a ta)(hb:PE X b tb)(hs:LW b):PE X (.Subscript a b pos)^Df r ta tb:=λzG s σ H Q I h=>Subscript_^XQ ha hb I h λv u s2 x y H2 I2 rx ry q=>hr a b _ s2 σ H2 x y v u Q I2 rx ry q^hs _ _
def WC(K:Frag):R2:=λx y H Q=>∃p xs i v,x=.ref p/\y=.int i/\SqL K H p xs/\atI xs i=P3 v/\Q v H
def Yq(K:Frag):R2:=λx y H Q=>∃p xs i v,x=.ref p/\y=.int i/\SqT K H p xs/\atI xs i=P3 v/\Q v H
def Yr:R2:=λx y H Q=>∃z i c,x=.str z/\y=.int i/\z.length<=sizeLine/\atI z.cps.toList i=P3 c/\Q (.str #[#[ c]]) H
theorem ix_list:IxR X^WC X.K:=by
 intro value slice zG s σ H x y v u Q I rx ry h hs;let#[p,xs,i,z,rfl,rfl,hq,he,q]:=h;cases rx;let#[t,rfl]:=ry;let#[its,r,pl,hz]:=I.list hq;let#[j,h1,h2,h3,h4,h5]:=LM he;let#[w,ew,rw']:=r.get h2;have hl:=r.length;have hn:=GQ;have fin:EP X zG σ Q w s:=#[z,H,I,rw',q]
 by_cases h0:0<=i
 .have hj:i.toNat=j:=by
   rw[seqIndex_of h0 h5]at h1
   grind
  exact item_listR pl.isList h0 (by lk) (by rw[hj]; simpa using ew) fin hs
 .have hj:(i+(its.toArray.size:Int)).toNat=j:=by
   rw[seqIndex_neg (by lk) h4]at h1
   grind
  exact subscriptTail_builtinR (x:=w) pl.isList.typeIs slot_list_getitem.lookup
   (wpAny_getItem_list_neg (Q:=λr s'=>r=w/\EP X zG σ Q r s') pl.isList (by lk) (by grind) (by lk) (by grind) #[rfl,fin]) hs
theorem ix_tup:IxR X^Yq X.K:=by
 intro value slice zG s σ H x y v u Q I rx ry h hs;let#[p,xs,i,z,rfl,rfl,hq,he,q]:=h;cases rx;let#[t,rfl]:=ry;let#[its,r,pl,hz]:=I.tuple hq;let#[j,h1,h2,h3,h4,h5]:=LM he;let#[w,ew,rw']:=r.get h2;have hl:=r.length;have hn:=GQ
 exact subscriptTail_builtinR pl.typeIs dq.lookup
  (getItem_tuple (j:=j) pl (by lk) (by lk) (by grind) (by grind) #[rfl,#[z,H,I,rw',q]]) hs
theorem Wq:IxR X Yr:=by
 intro value slice zG s σ H x y v u Q I rx ry h hs;let#[z,i,c,rfl,rfl,hz,he,q]:=h;let#[t,rfl]:=rx;let#[t',rfl]:=ry;let#[j,h1,h2,h3,h4,h5]:=LM he;have hl:z.cps.toList.length=z.length:=by simp[Str.length]
 have hn:=GQ
 exact tail_any (gx s z t) slot_str_getitem.lookup (getItem_str (by
  grind) (by grind) #[.str _,H,I.tok _,#[_,rfl],q]) hs
def bu(K:Frag):R2:=λx y H Q=>WC K x y H Q\/Yq K x y H Q\/Yr x y H Q
theorem Ws:IxR X^bu X.K:=ix_list.or^ix_tup.or Wq
theorem NL(its:m_ Cn)(n j:Nat)(u:Cn):dW (·.setIfInBounds j u) {cls:=.type "list",data:=.seq its.toArray n}={cls:=.type "list",data:=.seq (its.set j u).toArray n}:=by
 simp[dW]
theorem Inv.lst{zG:m_ (Ch×Obj)}{σ:St}{H:Hp}{s:Go}{p:Ch}{xs:m_ V}(I:Inv X zG σ H s)(h:H p=P3^.lst xs):
  ∃(its:m_ Cn) (n:Nat),Vals xs its/\s.heap.get? p=P3 {cls:=.type "list",data:=.seq its.toArray n}/\xs.length<=sizeLine:=by
 let#[z,its,n,r,e]:=I.hok p _ h;exact#[_,n,r,e,z]
theorem Inv.lstUpd{zG:m_ (Ch×Obj)}{σ:St}{H:Hp}{s:Go}{p:Ch}{xs ys:m_ V}{its its':m_ Cn}{n n':Nat}{f:Obj->Obj}(I:Inv X zG σ H s)(h:H p=P3^.lst xs)
  (ho:s.heap.get? p=P3 {cls:=.type "list",data:=.seq its.toArray n}) (hf:f {cls:=.type "list",data:=.seq its.toArray n}={cls:=.type "list",data:=.seq its'.toArray n'}) (r:Vals ys its') (hz:ys.length<=sizeLine) (t:Nat):
  Inv X zG σ (Ah H p^.lst ys) {s with heap:=s.heap.update p f,toks:=t}:=by
 have e:(s.heap.update p f).get? p=P3 {cls:=.type "list",data:=.seq its'.toArray n'}:=by
  rw[d_ f ho (by rw[hf] <;>rfl),hf]
 exact I.write (by rw[h]; trivial) (.inl rfl) (λb u hb q=>(ZB _ _^dH hb).trans q) #[_,e] #[hz,_,n',r,e]
def U1:V->V->V->Hp->(Hp->Prop)->Prop:=λo i v H Q=>∃p xs k j,o=.ref p/\i=.int k/\H p=P3^.lst xs/\Tx xs.length k=P3 j/\Q^Ah H p^.lst^xs.set j v
theorem set_list:Z5 X U1:=by
 intro zG s σ H o i v ov iv u Q I ro ri rv h;let#[p,xs,k,j,rfl,rfl,hp,hj,q]:=h;cases ro;let#[t,rfl]:=ri;let#[its,n,r,ho,hz]:=I.lst hp;let#[h1,h2,h3,h4]:=OZ hj;have hl:=r.length;have hn:=GQ
 have I':Inv X zG σ (Ah H p^.lst^xs.set j v) {s with heap:=s.heap.update p (dW (·.setIfInBounds j u))}:=
  I.lstUpd hp ho (NL its n j u) (r.set rv j) (by simp_all) s.toks
 by_cases h0:0<=k
 .have hk:k.toNat=j:=by
   rw[seqIndex_of h0 h4]at h1
   grind
  exact PySem.W.ki_setAt ho h0 (by lk) (by grind)^by rw[hk]; exact#[_,I',q]
 .have hk:(k+(its.toArray.size:Int)).toNat=j:=by
   rw[seqIndex_neg (by lk) h3]at h1
   grind
  exact PySem.W.ki_setBack ho (by lk) (by grind) (by lk)^by rw[hk]; exact#[_,I',q]
theorem KW(lo hi:n_ Int)(n:Nat):(sliceBounds lo hi j_ n).1=((HT.sIx n 0 lo:Nat):Int)/\(sliceBounds lo hi j_ n).2.1=((HT.sIx n n hi:Nat):Int)/\(sliceBounds lo hi j_ n).2.2=1:=by
 refine#[?_,?_,rfl]
 .cases lo with
  |none=>simp[sliceBounds,HT.sIx]
  |some i=>
   simp only[sliceBounds,HT.sIx,Option.getD_none,show(1:Int) > 0 by cbv,if_true]
   by_cases h:i<0
   .grind
   .simp only[h,if_false] <;>lk
 .cases hi with
  |none=>simp[sliceBounds,HT.sIx]
  |some i=>
   simp only[sliceBounds,HT.sIx,Option.getD_none,show(1:Int) > 0 by cbv,if_true]
   by_cases h:i<0
   .grind
   .simp only[h,if_false] <;>lk
theorem JA(its:m_ Cn)(lo hi:n_ Int):slicePick its.toArray lo hi j_=((its.drop^HT.sIx its.length 0 lo).take (HT.sIx its.length its.length hi - HT.sIx its.length 0 lo)).toArray:=by
 let#[h1,h2,h3]:=KW lo hi _;unfold slicePick;rw[h1,h2,h3];simp only[sliceRange_one,pick_run] <;>rfl
def WA(K:Frag):V->n_ Int->n_ Int->Hp->VK->Prop:=λx lo hi H Q=>∃a xs,x=.ref a/\SqL K H a xs/\∀p,H p=j_->Q (.ref p)^Ah H p^.lst^MR xs lo hi
theorem sl_list:SlR X^WA X.K:=by
 intro zG s σ H x v vl vu lo hi sl Q I rx hs pl pu h;let#[a,xs,rfl,hx,q]:=h;cases rx;let#[its,r,ht,hz]:=I.list hx;have hlen:=r.length;refine#[_,_,slot_list_getitem.lookup,ht.isList.typeIs,?_];refine wpAny_getItem_list_slice ht.isList hs pl pu .none (by simp) ?_ (by grind);rw[JA,←hlen];refine#[.ref _,_,I.laid (λb ob q=>Ev _ q) (Rs _) ?_,rfl,q _^I.hok.fresh^Rs _];exact#[c5 (Gy xs lo hi) hz,_,0,(r.drop _).take _,Re _ rfl]
def VJ:V->Bool
 |.non=>k_
 |.bl _=>k_
 |.int _=>k_
 |.str _=>k_
 |_=>l_
def Zd:V->V->Bool
 |.non,.non=>k_
 |.bl a,.bl b=>a==b
 |.bl a,.int b=>(if a then 1 else 0)==b
 |.int a,.bl b=>a==(if b then 1 else 0)
 |.int a,.int b=>a==b
 |.str a,.str b=>a==b
 |_,_=>l_
theorem K_{A:c_}{s:Go}{y x:V}{u v:Cn}(ry:RelV y u)(rx:RelV x v)(fy:VJ y=k_)(fx:VJ x=k_):SeqAt.EqAt A s u v^Zd y x:=by
 cases y with
 |non=>
  cases ry;cases x with
  |non=>cases rx; exact SeqAt.EqAt.same _
  |bl b=>cases rx; exact SeqAt.EqAt.none_bool b
  |int b=>let#[t,rfl]:=rx; exact SeqAt.EqAt.none_int b t
  |str b=>let#[t,rfl]:=rx; exact SeqAt.EqAt.none_str b t
  |_=>exact absurd (show l_=k_ from fx) cx
 |bl a=>
  cases ry;cases x with
  |non=>cases rx; exact SeqAt.EqAt.bool_none a
  |bl b=>cases rx; exact SeqAt.EqAt.bool_bool a b
  |int b=>let#[t,rfl]:=rx; exact SeqAt.EqAt.bool_int a b t
  |str b=>let#[t,rfl]:=rx; exact SeqAt.EqAt.bool_str a b t
  |_=>exact absurd (show l_=k_ from fx) cx
 |int a=>
  let#[t',rfl]:=ry;cases x with
  |non=>cases rx; exact SeqAt.EqAt.int_none a t'
  |bl b=>cases rx; exact SeqAt.EqAt.int_bool a t' b
  |int b=>let#[t,rfl]:=rx; exact SeqAt.EqAt.int_int a t' b t
  |str b=>let#[t,rfl]:=rx; exact jb a t' b t
  |_=>exact absurd (show l_=k_ from fx) cx
 |str a=>
  let#[t',rfl]:=ry;cases x with
  |non=>cases rx; exact SeqAt.EqAt.str_none a t'
  |bl b=>cases rx; exact SeqAt.EqAt.str_bool a t' b
  |int b=>let#[t,rfl]:=rx; exact jc a t' b t
  |str b=>let#[t,rfl]:=rx; exact SeqAt.EqAt.str_str a t' b t
  |_=>exact absurd (show l_=k_ from fx) cx
 |_=>exact absurd (show l_=k_ from fy) cx
theorem LL:B9 X (.type "list") (λxs H Q=>∃p ys,xs=[.ref p]/\(SqL X.K H p ys\/SqT X.K H p ys)/\∀l,H l=j_->Q (.ref l)^Ah H l^.lst ys):=by
 intro zG s σ H xs us Q I r h;let#[p,ys,rfl,hq,q]:=h;let#[u,rfl,rx]:=vals1 r;cases rx
 have fin:∀(its:m_ Cn),Vals ys its->ys.length<=sizeLine->∀(h':cf) (c':Nat),(∀b o',s.heap.get? b=P3 o'->h'.get? b=P3 o')->
   h'.get? s.heap.objs.size=P3 _->EP X zG σ Q (.ref s.heap.objs.size) {s with heap:=h'}:=λits r' hz h' c' kp e=>
  #[.ref s.heap.objs.size,_,I.laid (t':=s.toks) kp (Rs _) (show ObjOk X.prog X.w _ h' _^.lst ys from#[hz,its,c',r',e]),rfl,q _^I.hok.fresh^Rs _]
 rcases hq with hq|hq
 .let#[its,r',pl,hz]:=I.list hq
  have hlen:=r'.length;let#[o,ho,hc,n,hd]:=pl.isList;exact call_list_seq p (.inl rfl) ho hc hd (λh' c' kp e=>fin its r' hz h' c' kp e)^by grind
 .let#[its,r',pl,hz]:=I.tuple hq
  have hlen:=r'.length;let#[o,ho,hc,n,hd]:=pl;exact call_list_seq p (.inr rfl) ho hc hd (λh' c' kp e=>fin its r' hz h' c' kp e)^by grind
theorem JN:B9 X (.type "tuple") (λxs H Q=>∃p ys,xs=[.ref p]/\((SqL X.K H p ys/\∀l,H l=j_->Q (.ref l)^Ah H l^.tup ys)\/(SqT X.K H p ys/\Q (.ref p) H))):=by
 intro zG s σ H xs us Q I r h;let#[p,ys,rfl,h]:=h;let#[u,rfl,rx]:=vals1 r;cases rx
 rcases h with⟨hq,q⟩|⟨hq,q⟩
 .let#[its,r',pl,hz]:=I.list hq
  have hlen:=r'.length;refine call_tuple_list pl.isList (λh' kp=>?_) (by grind);have I1:=I.kept (t':=s.toks) kp;exact#[.ref _,_,I1.laid (t':=s.toks) (λb o e=>Ev _ e) (Rs _) (show ObjOk _ _ _ _ _^.tup ys from#[hz,_,r',IsTupN.new _ _]),rfl,q _^I1.hok.fresh^Rs _]
 .let#[its,r',pl,hz]:=I.tuple hq
  exact call_tuple_same pl #[.ref p,H,I,rfl,q]
def ag(K:Frag)(T:String)(x:V)(H:Hp):Prop:=match x with
 |.str _=>T="str"
 |.int _=>T="int"
 | .ref p=>(T="list"/\∃xs,SqL K H p xs)\/(T="tuple"/\∃o,K.lookup p=P3 o/\o.cls=.type "tuple"/\o.dict=j_) \/
   (T="dict"/\((∃kvs,H p=P3^.dK kvs)\/∃kvs,H p=P3^.dT kvs))\/(T="set"/\∃S n,H p=P3^.set S n)
 |_=>False
theorem Vs{zG:m_ (Ch×Obj)}{σ:St}{H:Hp}{s:Go}{T:String}{x:V}{v:Cn}(I:Inv X zG σ H s)(r:RelV x v)(ty:ag X.K T x H):
  s.TypeIs v T/\∀a,v=.ref a->∃ob,s.heap.get? a=P3 ob/\ob.dict=j_:=by
 cases x with
 |str z=>
  let#[t,rfl]:=r;cases(show T="str" from ty);exact#[gx s z t,λ_ e=>nomatch e]
 |int i=>
  let#[t,rfl]:=r;cases(show T="int" from ty);exact#[typeIs_int s i t,λ_ e=>nomatch e]
 | ref p=>
  cases r
  rcases ty with⟨rfl,xs,hq⟩|⟨rfl,o,hk,hc,hd⟩|⟨rfl,hk⟩|⟨rfl,S,n,hk⟩
  .let#[its,_,pl,_]:=I.list hq
   refine#[pl.isList.typeIs,λa e=>?_];cases e;let#[o,n,e,c,hd,_]:=pl;exact#[o,e,hd]
  .refine#[#[o,I.kIn p o hk,hc],λa e=>?_]
   cases e;exact#[o,I.kIn _ o hk,hd]
  .have z:∃o,s.heap.get? p=P3 o/\o.ExactDict:=by
    rcases hk with⟨kvs,hk⟩|⟨kvs,hk⟩
    .let#[_,_,_,_,o,_,_,e,ex,_]:=I.hok p _ hk
     exact#[o,e,ex]
    .let#[_,_,_,_,o,_,_,e,ex,_]:=I.hok p _ hk
     exact#[o,e,ex]
   let#[o,e,ex]:=z;refine#[#[o,e,ex.1],λa e2=>?_];cases e2;exact#[o,e,ex.2.1]
  .let#[o,_,_,_,e,ex,_]:=I.hok p _ hk
   refine#[#[o,e,ex.1],λa e2=>?_];cases e2;exact#[o,e,ex.2.1]
 |_=>exact dQ ty
def cL(K:Frag)(T:String)(r:V->m_ V->Hp->VK->Prop)(to:TE)(t:TA):TE:=λσ H Q=>to σ H λx H1=>ag K T x H1/\t σ H1 λxs H2=>r x xs H2 Q
variable {o e:Expr}{es:m_ Expr}{to:TE}{t:TA}{name:Str}{apos cpos:Pos}{T id:String}{r:V->m_ V->Hp->VK->Prop}
theorem VC(pa:PlainAttrs T)(slot:Slot T name id)(hty:typeOf^.builtin id=pure^.type "method_descriptor")(hm:Xx X id r)(ho:PE X o to)(ha:PA X (e::es) t)
  (hbase:attributeBase o name X.env^eval o X.env=eval o X.env:=by rfl)
  (hfew:((backTo cpos^starEach (e::es) X.env).all (λx=>!x.1)&&(backToKw cpos^keywordEach [] X.env).all (λx=>x.1.isSome)
   && decide ((e::es).length+([]:m_ fk).length+(if([]:m_ fk).isEmpty then 0 else 1)<30))=k_:=by rfl)
  (hline:(apos.endLine==cpos.line)=k_:=by rfl) (hs:starEach (e::es) X.env=(l_,eval e X.env)::starEach es X.env:=by rfl) (hplain:(backTo cpos^starEach es X.env).any (·.1)=l_:=by rfl):
  PE X (.Call (.Attribute o name apos) (e::es) [] cpos) (cL X.K T r to t):=by
 intro zG s σ H Q I h;refine wpAny_Call_method_late hbase hfew hline rfl (A5 (ho _ s σ H _ I h) λv s1 zz=>?_);let#[x,H1,I1,r1,ty,q1]:=zz;let#[h1,h2]:=Vs I1 r1 ty;refine#[T,id,pa,slot,hty,h1,h2,?_];have hA:=ha cpos _ s1 σ H1 _ I1 q1;rw[hs]at hA ⊢;refine fO (by simp_all)^gQ ?_;refine A5 hA λus s2 zz=>?_;let#[vs,H2,I2,r2,q2]:=zz;exact hm _ s2 σ H2 x vs v us Q I2 r1 r2 q2
end
def cQ(X:Cx)(id:String)(r:V->m_ V->Hp->VK->Prop):Prop:=
 ∀(zG:m_ (Ch×Obj)) (s:Go) (σ:St) (H:Hp) (x:V) (xs:m_ V) (v:Cn) (us:m_ Cn) (Q:VK),Inv X zG σ H s->RelV x v->Vals xs us->r x xs H Q->
  wpAny (model X.prog X.w) X.A (call (.builtin id) (v::us)) (EP X zG σ Q) X.xe s
theorem Vals.one:∀{x:V}{us:m_ Cn},Vals [x] us->∃u,us=[u]/\RelV x u
 |_,_,.cons r .nil=>#[_,rfl,r]
theorem Vals.eraseIdx:∀{xs:m_ V}{us:m_ Cn} (i:Nat),Vals xs us->Vals (xs.eraseIdx i)^us.eraseIdx i
 |_,_,_,.nil=>.nil
 |_,_,0,.cons _ t=>t
 |_,_,i+1,.cons r t=>.cons r^Vals.eraseIdx i t
theorem Vals.reverse{xs:m_ V}{us:m_ Cn}(h:Vals xs us):Vals xs.reverse us.reverse:=by
 induction h with
 |nil=>exact .nil
 |cons r t ih=>rw[g9,g9]; exact Vals.append ih^.cons r .nil
theorem Jm{α:Type}:∀(l:m_ α) (i:Nat),(l.eraseIdx i).length<=l.length
 |[],_=>Rs _
 |_::_,0=>dO _
 |_::r,i+1=>ft^Jm r i
section
variable {X:Cx}{zG:m_ (Addr×Obj)}{σ:St}{H:Hp}{s:Shared}{l:Addr}{xs ys:m_ V}
theorem Inv.lset{its its':m_ Cn}{n:Nat}{f:Array Cn->Array Cn}{t':Nat}(I:Inv X zG σ H s)(hH:H l=P3^.lst xs)
  (e:s.heap.get? l=P3 {cls:=.type "list",data:=.seq its.toArray n}) (hf:f its.toArray=its'.toArray) (hv:Vals ys its') (hz:ys.length<=sizeLine):
  Inv X zG σ (Ah H l^.lst ys) {s with heap:=s.heap.update l^dW f,toks:=t'}:=by
 have q:=PySem.IsL.update e f;rw[hf]at q;exact I.write (by rw[hH]; exact trivial) (.inl rfl) (λb' u hb hu=>(ZB _ _^dH hb).trans hu) #[_,q] #[hz,_,_,hv,q]
theorem Inv.lnew{its:m_ Cn}{t':Nat}(I:Inv X zG σ H s)(hv:Vals ys its)(hz:ys.length<=sizeLine):
  Inv X zG σ (Ah H s.heap.objs.size^.lst ys) {s with heap:=s.heap.push {cls:=.type "list",data:=.seq its.toArray},toks:=t'}:=
 I.laid (λ_ _ q=>Ev _ q) (Rs _) #[hz,_,0,hv,Re _ rfl]
theorem Inv.fresh(I:Inv X zG σ H s):H s.heap.objs.size=j_:=I.hok.fresh^Rs _
theorem Inv.lstM(I:Inv X zG σ H s)(hH:H l=P3^.lst xs):xs.length<=sizeLine/\∃(its:m_ Cn) (n:Nat),Vals xs its/\xs.length=its.length/\s.heap.get? l=P3 {cls:=.type "list",data:=.seq its.toArray n}:=by
 let#[z,its,n,r,e]:=I.hok l _ hH;exact#[z,_,n,r,r.length,e]
end
section
variable {X:Cx}
def OC:V->m_ V->Hp->VK->Prop:=λx vs H Q=>∃l xs y,x=.ref l/\vs=[y]/\H l=P3^.lst xs/\xs.length<sizeLine/\Q .non^Ah H l^.lst (xs++[y])
theorem CO:cQ X "list.append" OC:=by
 intro zG s σ H x vs v us Q I rx rv h;let#[l,xs,y,rfl,rfl,hH,hz,q]:=h;cases rx;let#[u,rfl,ru]:=rv.one;let#[z,its,n,r,hl,e]:=I.lstM hH;refine call_meets F.slot_list_append #[_,e,rfl] F.entry_list_append (F.args_list_append_2 _ _) (PySem.list_append l _ n u^by grind) #[e,?_];refine#[.non,_,I.lset hH e (by simp) (r.append^.cons ru .nil) ?_,rfl,q]
 grind
end
end L2
namespace Att
open PySem.W PySem.Calls
theorem G9{P:Params}{h:cf}:∀(ns:m_ Int) (vs:m_ Cn),WellAll P h vs^ns.map WData.int->IntsAre vs ns:=by
 intro ns
 induction ns with
 |nil=>
  intro vs w;cases w;exact .nil
 | cons n ns ih=>
  intro vs w;cases w with
  |cons a b=>
   cases a;exact .cons _ _^ih _ b
theorem PL{l:OpenLaw}{n:Nat}(hn:l.most=P3 n){P:Params}{h:cf}{args:m_ WData}{vals:m_ Cn}
  (hpre:l.row.toRowW.claim.pre args=k_) (hwl:WellAll P h vals args):
  ∃a vs ns,vals=[cV a]/\args=[WData.list^ns.map WData.int]/\h.get? a=P3 {cls:=.type "list",data:=.seq vs.toArray}/\IntsAre vs ns/\ns.length<=n:=by
 have hsh:WShape.hasAll [] args [.list .int]=k_:=(pre_splitW hpre).1;have hc:l.pre.holds [] {args:=args}=k_:=(pre_splitW hpre).2;let#[d,r,rfl,h1,h2]:=hasAllW_cons hsh;obtain rfl:=hasAllW_nil h2;let#[xs,rfl,h3]:=hasW_list h1;let#[ns,rfl]:=items_int h3
 have hlen:ns.length<=n:=by
  unfold OpenLaw.pre at hc
  have h4:(WTm.not^.lt (.lit^.int (n:Int))^.len^.arg 0).holds [] {args:=[.list^ns.map .int]}=k_:=by
   have h4:=(holds_andW hc).1
   grind
  have h5:=condW_of h4^w_not^w_lt w_lit^w_len_list (w_arg rfl)
  grind
 cases hwl with
 |cons w1 w2=>
  cases w2;cases w1 with
  |list ho hall=>exact#[_,_,ns,rfl,rfl,ho,G9 ns _ hall,hlen]
theorem PP(l:OpenLaw)(args:m_ WData):l.row.toRowW.claim.post args (.bool k_) args=k_:=
 postW_of
  (show WShape.has [] _ _=k_ by first|rfl|decide|omega)
  (w_eq_bool (w_res rfl) w_lit) rfl
theorem attach_call{l:OpenLaw}{n:Nat}{q:cm}{loose:m_ Str}{XP:(Str->n_ Cn)->cf->Prop}{YP:cy->cf->Prop}{d:DefRec}
  (hn:l.most=P3 n) (hdf:d.params.defaults=[])
  (call:∀(w:cy) (s₀ s₁:Go) (mg mb:Str->n_ Cn) (fa:Ch) (o:Obj) (pm cd doc:Cn) (a:Ch) (vs:m_ Cn) (ns:m_ Int),
   Ground q loose [] XP w s₀ mg mb s₁.heap->YP w s₁.heap->
   s₁.heap.get? fa=P3 o->o.data=.func^docDef d.name d.params d.body d.scope pm cd doc->s₁.heap.CodeRec cd d.name->mg d.name=P3^.ref fa->
   s₁.heap.get? a=P3 {cls:=.type "list",data:=.seq vs.toArray}->IntsAre vs ns->ns.length<=n->s₁.gens=#[]->
   codeAny (model l.prog w) callerA (.call (.ref fa) #[[.ref a],[]]) (λr s'=>r=.ok^.ret^.bool k_/\OldK s₁.heap s'.heap/\s'.os=s₁.os/\gM s'.gens) s₁):
  WalkO q loose XP YP l.row.toRowW d [] (λf vs=>PySem.call f vs):=by
 intro w s₀ s₁ mg mb G Y fa o pm cd doc dV kV ho hd hcd hD hmg hg args vals as hpre hlay hrd hwl hlo;obtain rfl:dV=.none:=Dflts.none hD hdf;obtain rfl:kV=.none:=Dflts.noKw hD;let#[a,vs,ns,rfl,rfl,hobj,hints,hlen]:=PL hn hpre hwl;refine enter_call^fo (call w s₀ s₁ mg mb fa o pm cd doc a vs ns G Y ho (fd_plain hd) hcd hmg hobj hints hlen hg) λr s' hq=>?_;let#[rfl,h2,h3,h4]:=hq;exact#[.inl #[.bool k_,.bool k_,[],rfl,λ_=>rfl,.bool k_,PP l _,λ_=>#[List.Pairwise.nil,λ_ hm=>(nomatch hm)]],h2,h3,h4]
end Att
namespace L2
theorem JU:∀{vs:m_ Cn}{ns:m_ Int},IntsAre vs ns->Vals (ns.map V.int) vs
 |_,_,.nil=>.nil
 |_,_,.cons n t h=>.cons #[t,rfl]^JU h
def Xu(H:Hp):Prop:=∀b,H b=j_\/∃o xs,H b=P3^.frz o^.lst xs
theorem Rl{P:cm}{w:cy}{K:Frag}{mg mb:Str->n_ Cn}{CX:QX}{k:Nat}{fa a:Ch}{fd:dR}{x:Str}{sp:Sp}{s₁:Go}{vs:m_ Cn}{ns:m_ Int}
  (KX:K.In s₁.heap) (hns:s₁.heap.Ns mainGlobals mg) (hb:s₁.heap.Ns builtinsNs mb) (hbb:∀x:Str,x ≠ "__name__"->mb x=bootBuiltins x) (hlim:s₁.heap.NoLimit) (hg:s₁.gens=#[])
  (ha:s₁.heap.get? a=P3 {cls:=.type "list",data:=.seq vs.toArray}) (hi:IntsAre vs ns) (hl:ns.length<=sizeLine) (hr:Room k callerA)
  (F:∀base:cf,K.In base->base.Ns mainGlobals mg->FnOk P w K mg base CX k fa fd [x] sp) (hbind:∀(s:Go) (u:Cn),i_ s fd #[[u],[]] [(x,u)])
  (hsp:∀H:Hp,Xu H->SqL K H a^ns.map V.int->sp [.ref a] H (λv _=>v=.bl k_) λ_ _ _=>False)
  (hCX:∀H e s',CX [] H s₁ (λ_ _ _=>False) e s'->False):
  codeAny (model P w) callerA (.call (.ref fa) #[[.ref a],[]]) (λr s'=>r=.ok^.ret^.bool k_/\OldK s₁.heap s'.heap/\s'.os=s₁.os/\gM s'.gens) s₁:=by
 have rv:=JU hi;have lenV:=hi.length
 have core:∀H:Hp,Xu H->SqL K H a^ns.map V.int->HOk P w H s₁.heap->(∀b,H b≠j_->b=a)->(H a≠j_->K.lookup a=j_)->
   codeAny (model P w) callerA (.call (.ref fa) #[[.ref a],[]]) (λr s'=>r=.ok^.ret^.bool k_/\OldK s₁.heap s'.heap/\s'.os=s₁.os/\gM s'.gens) s₁:=by
  intro H hO hS hok hA hK;have base_of:∀{b:Ch}{o:Obj},s₁.heap.get? b=P3 o->H b=j_->(K7 s₁.heap H).get? b=P3 o:=λe n=>R0 e n
  have noA:∀{b:Ch}{o:Obj}{es:Array DictEntry}{ep:Nat},s₁.heap.get? b=P3 o->o.data=.dict es ep->H b=j_:=λ{b o es ep} e d=>by
   cases q:H b with
   |none=>rfl
   |some u=>
    have e':b=a:=hA b (by rw[q]; simp);subst e';rw[ha]at e; cases e
    have d':Data.seq vs.toArray _=Data.dict es ep:=d;cases d'
  have nsK:∀{b:Ch}{m:Str->n_ Cn},s₁.heap.Ns b m->(K7 s₁.heap H).Ns b m:=λ{b m} #[o,es,ep,e,d,r]=>#[o,es,ep,base_of e^noA e d,d,r]
  have hKb:K.In^K7 s₁.heap H:=λb o e=>base_of (KX b o e) (by
   cases q:H b with
   |none=>rfl
   |some u=>
    have e':b=a:=hA b (by rw[q]; simp);subst e';rw[hK^by rw[q]; simp]at e; cases e)
  have hM:Mod K mg^K7 s₁.heap H:=#[hKb,nsK hns,#[mb,nsK hb,hbb],let #[mc,h1,h2]:=hlim; #[mc,nsK h1,h2]];have e0:Env0 P w K mg (K7 s₁.heap H) callerA [] s₁ H:=#[rfl,hM,λb o e=>Tj e,gl^P7 _ _,trivial,λb hb=>absurd (show b∈([]:m_ Ch)from hb)^by simp,hok,.of_eq hg];refine fo ((F _ hKb^nsK hns).run callerA [] s₁ H #[[.ref a],[]] [.ref a] [.ref a] _ _ hr e0 (hbind s₁^.ref a) (.cons rfl .nil)^hsp H hO hS) λr s' h=>?_;cases r with
  |error e=>exact(hCX H e s' h).elim
  | ok fl=>
   cases fl with
   |next=>exact dQ h
   |brk=>exact dQ h
   |cont=>exact dQ h
   | ret u=>
    let#[v,H',os,bare,un,hok',r',q]:=h;have q':v=.bl k_:=q;subst q';obtain rfl:u=iF k_:=r';refine#[rfl,OldK.of_keep λb o e=>?_,os,bare];cases q:H b with
    |none=>exact un.keep b o e q (by intro z; exact absurd (show b∈([]:m_ Ch)from z)^by simp)^by simp
    | some u=>
     rcases hO b with z|⟨ob,xs,z⟩
     .rw[q]at z; cases z
     .have z2:=un.frzs b ob _ z
      let#[e1,_]:=hok b _ z;let#[e2,_]:=hok' b _ z2;rw[e]at e1; cases e1
      exact e2
 cases hk:K.lookup a with
 |some o=>
  have e:=KX a o hk;rw[ha]at e;cases e;refine core (λ_=>j_) (λ_=>.inl rfl) (.inr #[_,vs.toArray,_,hk,rfl,rfl,rfl,by rw[cY,lenV]; exact hl,by simpa using rv]) (λb u z=>by have z':(j_:n_ HO)=P3 u:=z; cases z') (λb z=>absurd rfl z) λz=>absurd rfl z
 | none=>
  refine core (λb=>if b=a then P3^.frz {cls:=.type "list",data:=.seq vs.toArray}^.lst^ns.map V.int else j_) (λb=>?_) (.inl^.inr #[{cls:=.type "list",data:=.seq vs.toArray},if_pos rfl]) (λb u z=>?_) (λb z=>?_) λ_=>hk
  .by_cases hb:b=a
   .exact .inr #[_,_,if_pos hb]
   .exact .inl^if_neg hb
  .by_cases hb:b=a
   .have z':=(if_pos hb).symm.trans z
    cases z';subst hb;exact#[ha,by rw[FM]; exact hl,vs,_,rv,ha]
   .have z':=(if_neg hb).symm.trans z
    cases z'
  .by_cases hb:b=a
   .exact hb
   .exact absurd (if_neg hb) z
theorem Nv{l:PySem.W.OpenLaw}{n k:Nat}{q:cm}{loose:m_ Str}{XP:(Str->n_ Cn)->cf->Prop}{YP:cy->cf->Prop}{d:DefRec}{K:Params->Frag}{CX:cy->QX}{sp:cy->Sp}{x:Str}
  (hn:l.most=P3 n) (hn2:n<=sizeLine) (hdf:d.params.defaults=[]) (hr:Room k callerA)
  (hY:∀(w:cy) (h:cf),YP w h->(K w.params).In h)
  (F:∀(w:cy) (mg:Str->n_ Cn) (fa:Ch) (h:cf),(K w.params).In h->h.Ns mainGlobals mg->mg d.name=P3^.ref fa->
   ∃fd:dR,(∀(s:Go) (u:Cn),i_ s fd #[[u],[]] [(x,u)]) /\
    ∀base:cf,(K w.params).In base->base.Ns mainGlobals mg->FnOk l.prog w (K w.params) mg base (CX w) k fa fd [x]^sp w)
  (hsp:∀(w:cy) (H:Hp) (a:Ch) (ns:m_ Int),ns.length<=n->Xu H->SqL (K w.params) H a^ns.map V.int->sp w [.ref a] H (λv _=>v=.bl k_) λ_ _ _=>False)
  (hCX:∀(w:cy) (H:Hp) (s:Go) (e:Cn) (s':Go),CX w [] H s (λ_ _ _=>False) e s'->False):
  PySem.W.WalkO q loose XP YP l.row.toRowW d [] (λf vs=>PySem.call f vs):=by
 refine Att.attach_call hn hdf λw s₀ s₁ mg mb fa o pm cd doc a vs ns G Y ho hd hcd hmg hobj hints hlen hg=>?_;have KX:=hY w _ Y;let#[fd,hb,hF]:=F w mg fa _ KX G.T.g hmg;exact Rl KX G.T.g G.T.b G.T.builtins G.T.nolimit hg hobj hints (c5 hlen hn2) hr hF hb (λH hO hS=>hsp w H a ns hlen hO hS) λH e s'=>hCX w H _ e s'
end L2
/- THE LAST THEOREM (shape; LID,My.* are yours):
   My.Adr:a structure of the addresses that your layer names (classes,functions); My.Txt K t:a structure (Prop) of the equations over K;
   My.txt_mk:{K}{implicit addresses ..} (e1:nsIn K mainGlobals "law"=P3^P3^.ref f) (e2:K.lookup f=P3 #[oc,od,.func^fnOf "law" "law" params body scope dV kV doc pm an cdv ct,sl]) (e3:codeIn K cdv "law"=k_) ..:∃ t,My.Txt K t
set_option maxRecDepth 100000 in
set_option maxHeartbeats 0 in
theorem PySem.Challenge.cw_LID_holds:PySem.Challenge.rw_LID.Holds:=by
 w_on; o_law; k_head; (case hw=>w_witness2)
 k_fill
 refine L2.Nv (l:=PySem.Challenge.rw_LID) (n:=63) (k:=40) (x:="script") (CX:=λw=>..) (sp:=λ_=>My.sp_law) rfl (by cbv) rfl #[rfl,by cbv,by cbv] (λw h Y=>PySem.W.kIn_of Y) ?F ?S ?C
 case F=>
  intro w mg fa h KX G hmg
  have T:∃t,My.Txt (L2.KOf KX) t:=by
   dsimp only[L2.KOf] -- K must stand as «<heap const> w.params» for k_is
   refine' My.txt_mk ?e1 ?e2 ?e3 ..
   (case e1=>PySem.W.k_is) -- in the order:a name->its address->its object->its parts
   (case e2=>PySem.W.k_is)
   ..
  let#[t,T]:=T;have e0:=hmg.symm.trans^mg_of KX G T.law;cases e0 -- fa is the law's own address;exact#[_,λs u=>.of_eq rfl,λbase kb nb=>My.law_fn T kb nb] -- if «.of_eq rfl» comes too early:refine' #[_,?b,λbase kb nb=>My.law_fn T kb nb]; exact λs u=>.of_eq rfl
 case S=>exact λw H a ns hl hO hS=>..
 case C=>exact ..
(the tactic k_is has no namespace:write k_is) -/
namespace L2
def BL(s:d6):Arguments:=match s with
 |.FunctionDef _ a _ _ _ _ _ _ _ _=>a
 |_=>{posonlyargs:=[],args:=[],vararg:=j_,kwonlyargs:=[],kw_defaults:=[],kwarg:=j_,defaults:=[]}
def An(s:d6):m_ d6:=match s with
 |.FunctionDef _ _ b _ _ _ _ _ _ _=>b
 |_=>[]
def AK(s:d6):fK:=match s with
 |.FunctionDef _ _ _ _ _ _ sc _ _ _=>sc
 |_=>{kind:=.function,names:=[],isGenerator:=l_,isCoroutine:=l_}
abbrev E6:QX:=λ_ _ _ _ _ _=>False
abbrev E0:XK:=λ_ _ _=>False
theorem Gh{X:Cx}:DD E6 X E0:=λ_ _ _ _ _ _ _ h=>h.elim
structure Fun (K:Frag) (x qual:Str) (st:d6) (f:Ch) (fd:dR):Prop where
 ex:∃(oc:Cn) (od:Option Ch) (kV doc pm:Cn) (an:Option Ch) (cdv ct:Cn) (osl:Array^Option Cn),
  fd=fnOf x qual (BL st) (An st) (AK st) .none kV doc pm an cdv ct/\K.lookup f=P3 #[oc,od,.func fd,osl]/\codeIn K cdv qual=k_
 kp:keepIn K^.ref f=k_
section
variable {P:Program}{w:World}{K:Frag}{mg:Str->n_ Value}{base:Heap}
theorem Fun.ok{x qual:Str}{st:d6}{f:Ch}{fd:dR}{N ps:m_ Str}{k:Nat}{sp:Sp}(F:Fun K x qual st f fd)(S:BF N ps^AK st)(len:∀vs H Q E,sp vs H Q E->vs.length=ps.length)
  (hbody:∀(cdv:Cn) (A:c_) (outer:m_ Env) (s:Go) (H:Hp) (vs:m_ V) (Q:VK) (E:XK),Room k^A.deeper^envOfC qual (AK st) s.heap.objs.size f cdv->sp vs H Q E->
   ∃t,PSs (D7 E6 P w K mg base N qual (AK st) f cdv A outer s H E).nox (An st) t/\t {nx:=λ_ H'=>Q .non H',rt:=Q} (start N vs) H):FnOk P w K mg base E6 (k+1) f fd ps sp:=by
 let#[oc,od,kV,doc,pm,an,cdv,ct,osl,rfl,lk,hcd]:=F.ex;refine VI lk hcd S len λA outer s H vs Q E hr hsp=>?_;let#[t,h,q]:=hbody _ A _ s H vs Q E hr hsp;exact#[t,h.nox,q]
theorem Fun.binds{x qual:Str}{st:d6}{f:Ch}{fd:dR}{ps:m_ Str}(F:Fun K x qual st f fd)
  (h:∀(kV doc pm:Cn) (an:n_ Ch) (cdv ct:Cn) (us:m_ Cn),us.length=ps.length->bindArgs (fnOf x qual (BL st) (An st) (AK st) .none kV doc pm an cdv ct) #[us,[]]=pure^ps.zip us):Binds K fd ps []:=by
 let#[oc,od,kV,doc,pm,an,cdv,ct,osl,rfl,lk,hcd]:=F.ex;exact .all^h kV _ pm an _ ct
theorem IS{x qual:Str}{st:d6}{f:Ch}{oc:Cn}{od an:n_ Ch}{osl:Array^n_ Cn}{kV doc pm cdv ct:Cn}(l:K.lookup f=P3 #[oc,od,.func^fnOf x qual (BL st) (An st) (AK st) .none kV doc pm an cdv ct,osl])
  (c:codeIn K cdv qual=k_) (k:keepIn K^.ref f=k_):Fun K x qual st f^fnOf x qual (BL st) (An st) (AK st) .none kV doc pm an cdv ct:=#[#[oc,od,kV,_,pm,an,_,ct,_,rfl,l,c],k]
end
theorem IQ{A:c_}{k:Nat}(hr:Room k A):A.units+1<cLine:=gq (Nat.add_le_add_left (by cbv) _) hr.units
section
variable {X:Cx}
theorem pv(i:Nat){x:Str}{pos:Pos}(hN:X.N[i]?=P3 x:=by rfl)(hv:VZ X.env.scope x:=by first|exact eA rfl|exact fu (eA rfl)|exact fu (fu rfl))(hd:(x==("__debug__":Str))=l_:=by decide)
  (hcd:(x==("__classdict__":Str))=l_:=by decide):PE X (.Name x pos)^Bw i:=Kj hN hv hd hcd
end
theorem B4{A B:Prop}(h:B):if l_=k_ then A else B:=by
 grind
theorem CU{A B:Prop}(h:A):if k_=k_ then A else B:=by
 grind
theorem B_{c A B:Prop}[Decidable c](h1:c->A)(h2:¬c->B):if c then A else B:=by
 grind
section
variable {κ:Type}[DecidableEq κ]
def EH(kvs:m_ (κ×V))(k:κ):n_ V:=(kvs.find? λkv=>decide (kv.1=k)).map (·.2)
def putK(kvs:m_ (κ×V))(k:κ)(v:V):m_ (κ×V):=
 if(kvs.any λkv=>decide (kv.1=k))=k_ then kvs.map (λkv=>if kv.1=k then(kv.1,v)else kv)else kvs++[(k,v)]
theorem EK{p:κ×V}{r:m_ (κ×V)}{k:κ}(e:p.1=k):EH (p::r) k=P3 p.2:=by simp[EH,e]
theorem EL{p:κ×V}{r:m_ (κ×V)}{k:κ}(e:¬p.1=k):EH (p::r) k=EH r k:=by simp[EH,e]
theorem Le(k:κ):∀kvs:m_ (κ×V),(kvs.any λkv=>decide (kv.1=k))=(EH kvs k).isSome
 |[]=>rfl
 |p::r=>by
  rw[List.any_cons]
  by_cases e:p.1=k
  .simp[EK e,decide_eq_true e,Bool.true_or]
  .rw[EL e,decide_eq_false e]; exact Le k r
theorem EV(kvs:m_ (κ×V))(k:κ)(v:V):(putK kvs k v).length<=kvs.length+1:=by
 unfold putK
 grind
theorem RelO.isSome_eq{o:n_ V}{u:n_ Cn}(r:RelO o u):o.isSome=u.isSome:=by
 cases o with
 |none=>cases u with
  |none=>rfl
  |some _=>exact(r).elim
 |some _=>cases u with
  |none=>exact(r).elim
  |some _=>rfl
theorem RelO.getD{o:n_ V}{u:n_ Cn}{d:V}{d':Cn}(r:RelO o u)(rd:RelV d d'):RelV (o.getD d)^u.getD d':=by
 cases o with
 |none=>cases u with
  |none=>exact rd
  |some _=>exact(r).elim
 |some _=>cases u with
  |none=>exact(r).elim
  |some _=>exact r
theorem KV.val{kvs:m_ (κ×V)}{vs:m_ (κ×Cn)}(r:KV kvs vs)(k:κ):RelO (EH kvs k)^valueAt vs k:=by
 induction r with
 |nil=>exact e9
 | @cons p q ps qs h t ih=>
  let#[h1,h2]:=h
  by_cases e:p.1=k
  .have e':=h1.symm.trans e
   have b:valueAt (q::qs) k=P3 q.2:=by simp[valueAt,e']
   rw[EK e,b]; exact h2
  .have e':¬q.1=k:=λz=>e^h1.trans z
   have b:valueAt (q::qs) k=valueAt qs k:=by simp[valueAt,e']
   rw[EL e,b]; exact ih
theorem KV.any{kvs:m_ (κ×V)}{vs:m_ (κ×Cn)}(r:KV kvs vs)(k:κ):(kvs.any λkv=>decide (kv.1=k))=vs.any λkv=>decide (kv.1=k):=by
 induction r with
 |nil=>rfl
 |cons h t ih=>simp_all
theorem KV.repl{kvs:m_ (κ×V)}{vs:m_ (κ×Cn)}(r:KV kvs vs)(k:κ){y:V}{u:Cn}(ry:RelV y u):
  KV (kvs.map λkv=>if kv.1=k then(kv.1,y)else kv) (vs.map λkv=>if kv.1=k then(kv.1,u)else kv):=by
 induction r with
 |nil=>exact .nil
 |@cons p q ps qs h t ih=>
  refine .cons ?_ ih
  by_cases e:p.1=k
  .simp_all
  simp_all
theorem KV.put{kvs:m_ (κ×V)}{vs:m_ (κ×Cn)}(r:KV kvs vs)(k:κ){y:V}{u:Cn}(ry:RelV y u):KV (putK kvs k y)^stored vs k u:=by
 unfold putK stored;rw[r.any k]
 by_cases e:(vs.any λkv=>decide (kv.1=k))=k_
 .rw[if_pos e,if_pos e]; exact r.repl k ry
 .rw[if_neg e,if_neg e]; exact Paired.snoc r #[rfl,ry]
theorem KV.length{kvs:m_ (κ×V)}{vs:m_ (κ×Cn)}(r:KV kvs vs):kvs.length=vs.length:=Paired.length r
end
theorem Gs{P:cm}{w:cy}{k:Key}{u:Cn}(r:RelV (kV k) u):(A2 P w).is k u=k_:=by
 cases k with
 |inl i=>let#[t,e]:=(r); subst e; exact L7 P w i t
 |inr x=>let#[t,e]:=(r); subst e; exact L6 P w x t
theorem Jp{P:cm}{w:cy}:∀{ks:m_ Key}{us:m_ Cn},Vals (ks.map kV) us->ItemsAre (A2 P w) ks us
 |[],_,r=>by cases r; exact .nil
 |k::ks,_,r=>by
  cases r with
  |cons h t=>exact .cons (Gs h)^Jp t
abbrev KT(H:Hp):m_ (m_ Key×V)->m_ (m_ Key×Ch×Cn)->Prop:=Paired λp q=>p.1=q.1/\H q.2.1=P3^.tup^p.1.map kV/\RelV p.2 q.2.2
theorem KT.val{H:Hp}{kvs:m_ (m_ Key×V)}{xs:m_ (m_ Key×Ch×Cn)}(r:KT H kvs xs)(k:m_ Key):RelO (EH kvs k) ((atKey xs k).map (·.2)):=by
 induction r with
 |nil=>exact e9
 | @cons p q ps qs h t ih=>
  let#[h1,_,h2]:=h
  by_cases e:p.1=k
  .have e':=h1.symm.trans e
   have b:atKey (q::qs) k=P3 q.2:=by simp[atKey,e']
   rw[EK e,b]; exact h2
  .have e':¬q.1=k:=λz=>e^h1.trans z
   have b:atKey (q::qs) k=atKey qs k:=by simp[atKey,e']
   rw[EL e,b]; exact ih
theorem KT.repl{H:Hp}{kvs:m_ (m_ Key×V)}{xs:m_ (m_ Key×Ch×Cn)}(r:KT H kvs xs)(k:m_ Key){y:V}{u:Cn}(ry:RelV y u):
  KT H (kvs.map λkv=>if kv.1=k then(kv.1,y)else kv) (xs.map^putAt k u):=by
 induction r with
 |nil=>exact .nil
 |@cons p q ps qs h t ih=>
  refine .cons ?_ ih;unfold putAt
  by_cases e:p.1=k
  .simp_all
  simp_all
theorem KT.put{H:Hp}{kvs:m_ (m_ Key×V)}{xs:m_ (m_ Key×Ch×Cn)}(r:KT H kvs xs)(k:m_ Key){b:Ch}{y:V}{u:Cn}(hb:H b=P3^.tup^k.map kV)(ry:RelV y u):
  KT H (putK kvs k y) (storedH xs k b u):=by
 have e:(kvs.any λkv=>decide (kv.1=k))=(atKey xs k).isSome:=by
  rw[Le,(r.val k).isSome_eq,ir]
 unfold putK storedH;rw[e]
 by_cases q:(atKey xs k).isSome=k_
 .rw[if_pos q,if_pos q]; exact r.repl k ry
 .rw[if_neg q,if_neg q]; exact Paired.snoc r #[rfl,hb,ry]
theorem KT.keeps{H H':Hp}{kvs:m_ (m_ Key×V)}{xs:m_ (m_ Key×Ch×Cn)}(r:KT H kvs xs)(ht:∀b ys,H b=P3^.tup ys->H' b=P3^.tup ys):KT H' kvs xs:=
 Paired.mapP r λ_ _ z=>#[z.1,ht _ _ z.2.1,z.2.2]
section
variable {P:Program}{w:World}{H:Hp}{h:Heap}{a:Addr}
theorem Uw{u:HO}(ok:HOk P w H h)(e:Rd H a u):ObjOk P w H h a u:=e.ok ok
theorem E4{kvs:m_ (Key×V)}(ok:HOk P w H h)(e:Rd H a^.dK kvs):kvs.length<=sizeLine/\(a==sysModules)=l_/\∃vs,KV kvs vs/\h.DictOf (A2 P w) a vs:=
 Uw ok e
theorem VQ{kvs:m_ (Key×V)}(ok:HOk P w H h)(e:H a=P3^.dK kvs):kvs.length<=sizeLine/\(a==sysModules)=l_/\∃vs,KV kvs vs/\h.DictOf (A2 P w) a vs:=E4 ok^.inl e
theorem FJ{ks:m_ Key}(ok:HOk P w H h)(e:H a=P3^.tup^ks.map kV):(tupleKind^A2 P w).is h ks a:=by
 let#[_,its,r,o,h1,h2,n,h3,_]:=(ok a _ e);exact#[o,_,n,h1,h2,h3,by simpa using Jp r]
theorem Gw{kvs:m_ (m_ Key×V)}(ok:HOk P w H h)(e:Rd H a^.dT kvs):kvs.length<=sizeLine/\(a==sysModules)=l_ /\
  ∃xs,KT H kvs xs/\h.DictOfH (tupleKind^A2 P w) a xs:=by
 let#[z,y,xs,r,o,es,ep,h1,h2,h3,h4,h5]:=(Uw ok e);refine#[z,y,xs,r,o,es,ep,h1,h2,h3,h4,λx hx=>?_,h5]
 have all:∀{l:m_ _}{m:m_ _},KT H l m->∀x∈m,(tupleKind^A2 P w).is h x.1 x.2.1:=by
  intro l m q
  induction q with
  |nil=>grind
  |@cons p q ps qs hq t ih=>
   intro x hx
   rcases Tk.mp hx with e|hx
   .exact FJ ok^by grind
   .exact ih x hx
 exact all r x hx
theorem Zf{kvs:m_ (m_ Key×V)}(ok:HOk P w H h)(e:H a=P3^.dT kvs):kvs.length<=sizeLine/\(a==sysModules)=l_ /\
  ∃xs,KT H kvs xs/\h.DictOfH (tupleKind^A2 P w) a xs:=Gw ok^.inl e
end
def DGet(H:Hp)(a:Ch)(y:V)(r:n_ V):Prop:=
 (∃kvs k,Rd H a^.dK kvs/\y=kV k/\r=EH kvs k)\/∃kvs k b,Rd H a^.dT kvs/\y=.ref b/\H b=P3^.tup^k.map kV/\r=EH kvs k
def DPut(H:Hp)(a:Ch)(y v:V)(H':Hp):Prop:=
 (∃kvs k,H a=P3^.dK kvs/\y=kV k/\kvs.length<sizeLine/\H'=Ah H a^.dK^putK kvs k v) \/
 ∃kvs k b,H a=P3^.dT kvs/\y=.ref b/\H b=P3^.tup^k.map kV/\kvs.length<sizeLine/\H'=Ah H a^.dT^putK kvs k v
theorem DGet.k{H:Hp}{a:Ch}{kvs:m_ (Key×V)}{k:Key}(e:H a=P3^.dK kvs):DGet H a (kV k)^EH kvs k:=.inl #[_,k,.inl e,rfl,rfl]
theorem DPut.k{H:Hp}{a:Ch}{kvs:m_ (Key×V)}{k:Key}{v:V}(e:H a=P3^.dK kvs)(hl:kvs.length<sizeLine):DPut H a (kV k) v^Ah H a^.dK^putK kvs k v:=.inl #[_,k,e,rfl,hl,rfl]
section
variable {X:Cx}{zG:m_ (Addr×Obj)}{σ:St}{H:Hp}{s:Shared}{a:Addr}{y v:V}{u r:Value}{o:n_ V}{A:Around}{E:Value->Shared->Prop}
theorem Inv.big(I:Inv X zG σ H s):sysModules<s.heap.objs.size:=Nat.lt_trans (by cbv) (I.mod.glob.keeps I.bk).lt
theorem QH{Q:Cn->Go->Prop}(hu:A.units+1<cLine)(I:Inv X zG σ H s)(g:DGet H a y^P3 v)(ry:RelV y u)(h:∀w' s',Inv X zG σ H s'->RelV v w'->Q w' s'):
  wpAny (model X.prog X.w) A (getItem (.ref a) u) Q E s:=by
 rcases g with⟨kvs,k,e,ey,l⟩|⟨kvs,k,b,e,ey,eb,l⟩
 .subst ey
  let#[z,hd,vs,rel,dd]:=E4 I.hok e;let#[w',hw,rw']:=RelO.some_of (v:=v) (o:=valueAt vs k) (by rw[l]; exact rel.val k);exact wpAny_getItem_of (Gs ry) dd.mapOf hw^h w' _ (I.tok _) rw'
 .subst ey
  cases(show u=cV b from ry);let#[z,hd,xs,rel,dd]:=Gw I.hok e;let#[w',hw,rw']:=RelO.some_of (v:=v) (o:=(atKey xs k).map (·.2)) (by rw[l]; exact rel.val k);let#[p,hp,hp2]:=dJ.mp hw;refine wpAny_getItem_heap (fQ hu) (FJ I.hok eb) dd hp ?_;rw[hp2];exact h w' _ (I.tok _) rw'
theorem bR{Q:Cn->Go->Prop}(hu:A.units+1<cLine)(I:Inv X zG σ H s)(g:DGet H a y o)(ry:RelV y u)(h:∀s',Inv X zG σ H s'->Q (.bool o.isSome) s'):
  wpAny (model X.prog X.w) A (compareOp .In u^.ref a) Q E s:=by
 rcases g with⟨kvs,k,e,ey,l⟩|⟨kvs,k,b,e,ey,eb,l⟩
 .subst ey
  let#[z,hd,vs,rel,dd]:=E4 I.hok e;refine wpAny_in_of (Gs ry) hd dd.mapOf ?_;rw[←(rel.val k).isSome_eq,←l];exact h _^I.tok _
 .subst ey
  cases(show u=cV b from ry);let#[z,hd,xs,rel,dd]:=Gw I.hok e;refine wpAny_in_heap (fQ hu) (FJ I.hok eb) hd dd ?_;have q:=(rel.val k).isSome_eq;rw[ir]at q;rw[←q,←l];exact h _^I.tok _
theorem UU{Q:Cn->Go->Prop}(hu:A.units+1<cLine)(I:Inv X zG σ H s)(g:DGet H a y o)(ry:RelV y u)(h:∀s',Inv X zG σ H s'->Q (.bool (!o.isSome)) s'):
  wpAny (model X.prog X.w) A (compareOp .NotIn u^.ref a) Q E s:=by
 rcases g with⟨kvs,k,e,ey,l⟩|⟨kvs,k,b,e,ey,eb,l⟩
 .subst ey
  let#[z,hd,vs,rel,dd]:=E4 I.hok e;refine wpAny_notIn_of (Gs ry) hd dd.mapOf ?_;rw[←(rel.val k).isSome_eq,←l];exact h _^I.tok _
 .subst ey
  cases(show u=cV b from ry);let#[z,hd,xs,rel,dd]:=Gw I.hok e;refine wpAny_notIn_heap (fQ hu) (FJ I.hok eb) hd dd ?_;have q:=(rel.val k).isSome_eq;rw[ir]at q;rw[←q,←l];exact h _^I.tok _
theorem LG{h':cf}{t':Nat}{ob:HO}(I:Inv X zG σ H s)(mu:Z9^H a)(hs:gj a s.heap h')(he:∃q,h'.get? a=P3 q)(new:ObjOk X.prog X.w (Ah H a ob) h' a ob):
  Inv X zG σ (Ah H a ob) {s with heap:=h',toks:=t'}:=
 I.write mu (.inl rfl) (λb q hb z=>(hs.2 b hb).trans z) he new
theorem SE{P:cm}{w:cy}{H':Hp}{h':cf}{kvs:m_ (Key×V)}{vs:m_ (Key×Cn)}(z:kvs.length<=sizeLine)(hd:(a==sysModules)=l_)(rel:KV kvs vs)(dd:h'.DictOf (A2 P w) a vs):
  ObjOk P w H' h' a (.dK kvs):=#[z,hd,vs,rel,dd]
theorem QG{H':Hp}{Q:Unit->Go->Prop}(hu:A.units+1<cLine)(I:Inv X zG σ H s)(g:DPut H a y v H')(ry:RelV y u)(rv:RelV v r)(h:∀s',Inv X zG σ H' s'->Q () s'):
  wpAny (model X.prog X.w) A (setItem (.ref a) u r) Q E s:=by
 rcases g with⟨kvs,k,e,ey,l,eH⟩|⟨kvs,k,b,e,ey,eb,l,eH⟩
 .subst ey eH
  let#[z,hd,vs,rel,dd]:=VQ I.hok e;have hz:vs.length<=sizeLine:=by rw[←rel.length]; exact z
  have hl:(putK kvs k v).length<=sizeLine:=by have:=EV kvs k v; omega
  refine wpAny_setItem_pairs (hsz:=hz) (Gs ry) dd λh' dd' hs=>h _ ?_;have he:∃q,h'.get? a=P3 q:=let #[q,_,_,hq,_]:=dd'; #[q,hq]
  exact LG I (by rw[e]; exact e9) hs he^SE hl hd (rel.put k rv) dd'
 .subst ey eH
  cases(show u=cV b from ry);let#[z,hd,xs,rel,dd]:=Zf I.hok e;have hz:xs.length<=sizeLine:=by rw[←Paired.length rel]; exact z
  have hl:(putK kvs k v).length<=sizeLine:=by have:=EV kvs k v; omega
  refine wpAny_setItem_heap (hsz:=hz) (fQ hu) (FJ I.hok eb) dd λh' dd' hs=>h _ ?_;let#[q,es,ep,hq,h2,h3,h4,_,h5]:=dd';refine LG I (by rw[e]; exact e9) hs #[q,hq] #[hl,hd,_,(rel.put k eb rv).keeps λc ys ec=>?_,q,es,ep,hq,h2,h3,h4,h5];rw[AI^Y7 ec e λz=>nomatch z];exact ec
end
def Xv(i:cr):Prop:=∀ov iv,subscripted i l_ ov iv=operate [ov,iv]^getItem ov iv
theorem TF{prog:cm}{w:cy}{A:c_}{E:Cn->Go->Prop}{s:Go}{env:Env}{value slice:cr}{pos:Pos}{T id:String}{Q:Cn->Go->Prop}
  (hl:typeLookup (.type T) "__getitem__"=pure^P3^.builtin id) (hs:Xv slice)
  (h:wpAny (model prog w) A (eval value env) (λo s₁=>wpAny (model prog w) A (eval slice env) (λi s₂=>s₂.TypeIs o T/\wpAny (model prog w) A (getItem o i) Q E s₂) E s₁) E s):
  wpAny (model prog w) A (eval (.Subscript value slice pos) env) Q E s:=by
 refine Subscript_^dI h (λo s₁ h₁=>dI h₁ (λi s₂ h₂=>?_) λ_ _ x=>x) λ_ _ x=>x;let#[hT,h₂]:=h₂;refine Db ?_;refine Db^jJ hT hl ?_
 first
  |exact UF (Db (by
  rw[hs o i];exact wpAny_operating^dI h₂ (λr s₃ h₃=>Db^wpAny_letTemporaryGo^UF h₃) λ_ _ x=>x))
  |grind
  |grind
theorem MO{X:Cx}{zG:m_ (Ch×Obj)}{σ:St}{H:Hp}{s:Go}{a:Ch}{y:V}{o:n_ V}(I:Inv X zG σ H s)(g:DGet H a y o):s.TypeIs (.ref a) "dict":=by
 rcases g with⟨kvs,k,e,_,_⟩|⟨kvs,k,b,e,_,_,_⟩
 .let#[_,_,vs,_,dd]:=E4 I.hok e
  exact dd.typeIs
 .let#[_,_,xs,_,dd]:=Gw I.hok e
  exact dd.typeIs
def Yc(td ty:TE):TE:=λσ H Q=>td σ H λx H1=>ty σ H1 λy H2=>∃a v,x=.ref a/\DGet H2 a y^P3 v/\Q v H2
def Yg(td ty tv:TE):TS:=λD σ H=>tv σ H λv H1=>td σ H1 λx H2=>ty σ H2 λy H3=>∃a H4,x=.ref a/\DPut H3 a y v H4/\D.nx σ H4
section
variable {X:Cx}{o i value:Expr}{pos pos':Pos}{td ty tv:TE}
theorem Km(hu:X.A.units+1<cLine)(ho:PE X o td)(hi:PE X i ty)(hs:Xv i):PE X (.Subscript o i pos)^Yc td ty:=by
 intro zG s σ H Q I h;refine TF PySem.F.slot_dict_getitem.lookup hs^A5 (ho _ s σ H _ I h) λu s1 zz=>?_;let#[x,H1,I1,rx,q1]:=zz;refine A5 (hi _ s1 σ H1 _ I1 q1) λiv s2 zz=>?_;let#[y,H2,I2,ry,a,v,ex,g,q2]:=zz;subst ex;obtain rfl:u=cV a:=rx;exact#[MO I2 g,QH hu I2 g ry λw' s3 I3 rw'=>#[v,H2,I3,rw',q2]]
theorem HD(hu:X.A.units+1<cLine)(ho:PE X o td)(hi:PE X i ty)(hv:PE X value tv)(hs:swapsWith value (P3^.Subscript o i pos') pos.line X.env=pure l_):
  PS X (.Assign [.Subscript o i pos'] value pos) (Yg td ty tv):=by
 intro zG s σ H D I h;refine wpAny_Assign_Subscript (A5 (hv _ s σ H _ I h) λr s1 zz=>?_) hs;let#[v,H1,I1,rv,q1]:=zz;refine A5 (ho _ s1 σ H1 _ I1 q1) λu s2 zz=>?_;let#[x,H2,I2,rx,q2]:=zz;refine A5 (hi _ s2 σ H2 _ I2 q2) λiv s3 zz=>?_;let#[y,H3,I3,ry,a,H4,ex,g,q3]:=zz;subst ex;obtain rfl:u=cV a:=rx;exact QG hu I3 g ry rv λs4 I4=>#[σ,H4,I4,q3]
end
theorem MN{P:cm}{w:cy}{H:Hp}(h:cf)(hb:sysModules<h.objs.size):ObjOk P w H (h.push {cls:=.type "dict",data:=.dict #[]}) h.objs.size^.dK []:=
 #[cq _,beq_eq_false_iff_ne.mpr^dH^cb hb,[],.nil,Heap.DictOf.new h]
def V2:TE:=λ_ H Q=>∀p,H p=j_->Q (.ref p)^Ah H p^.dK []
section
variable {X:Cx}{pos:Pos}
theorem L0:PE X (.Dict [] [] pos) V2:=λzG s σ H Q I h=>
 wpAny_Dict_empty #[.ref _,_,I.laid (λ_ _ q=>Ev _ q) (Rs _)^MN _ I.big,rfl,h _^I.hok.fresh^Rs _]
end
def Mt:m_ (TE×TE)->St->Hp->(m_ (V×V)->Hp->Prop)->Prop
 |[],_,H,Q=>Q [] H
 |(tk,tv)::r,σ,H,Q=>tk σ H λx H1=>tv σ H1 λy H2=>Mt r σ H2 λps H3=>Q ((x,y)::ps) H3
abbrev VV:m_ (V×V)->m_ (Cn×Cn)->Prop:=Paired λp q=>RelV p.1 q.1/\RelV p.2 q.2
def aO(X:Cx)(pos:Pos)(keys:m_^n_ cr)(values:m_ cr)(trs:m_ (TE×TE)):Prop:=
 ∀(zG:m_ (Ch×Obj)) (s:Go) (σ:St) (H:Hp) (Q:m_ (V×V)->Hp->Prop),Inv X zG σ H s->Mt trs σ H Q->
  wpAny (model X.prog X.w) X.A (evalPairs^pairTrees keys values X.env pos) (λvs s'=>∃ps H',Inv X zG σ H' s'/\VV ps vs/\Q ps H') X.xe s
theorem TR{X:Cx}{pos:Pos}:aO X pos [] [] []:=λzG s σ H Q I h=>pairTrees_nil_walk #[[],H,I,.nil,h]
theorem RE{X:Cx}{pos:Pos}{k v:cr}{ks:m_^n_ cr}{vs:m_ cr}{tk tv:TE}{trs:m_ (TE×TE)}(hk:PE X k tk)(hv:PE X v tv)(hr:aO X pos ks vs trs):
  aO X pos (P3 k::ks) (v::vs) ((tk,tv)::trs):=λzG s σ H Q I h=>
 pairTrees_cons_walk (A5 (hk _ s σ H _ I h) λu s1 #[x,H1,I1,rx,q1]=>A5 (hv _ s1 σ H1 _ I1 q1) λw2 s2 #[y,H2,I2,ry,q2]=>
  A5 (hr _ s2 σ H2 _ I2 q2) λws s3 #[ps,H3,I3,rel,q3]=>#[_,H3,I3,.cons #[rx,ry] rel,q3])
def II(kvs more:m_ (Key×V)):m_ (Key×V):=more.foldl (λacc kv=>putK acc kv.1 kv.2) kvs
theorem KV.merge:∀{more:m_ (Key×V)}{rs:m_ (Key×Cn)}{kvs:m_ (Key×V)}{vs:m_ (Key×Cn)},KV more rs->KV kvs vs->KV (II kvs more)^merged vs rs:=by
 intro more rs kvs vs r
 induction r generalizing kvs vs with
 |nil=>intro q; exact q
 | @cons p q ps qs h t ih=>
  intro r0
  exact ih (by
   have:=r0.put p.1 h.2
   simp_all)
theorem Ez:∀(more kvs:m_ (Key×V)),(II kvs more).length<=kvs.length+more.length
 |[],kvs=>by show kvs.length<=kvs.length+0; omega
 |p::r,kvs=>by
  have h1:=Ez r^putK kvs p.1 p.2;have h2:=EV kvs p.1 p.2;show(II _ r).length<=_
  grind
theorem Il{P:cm}{w:cy}:∀{kvs:m_ (Key×V)}{ws:m_ (Cn×Cn)},VV (kvs.map λkv=>(kV kv.1,kv.2)) ws->∃rs,Carries (A2 P w) ws rs/\KV kvs rs
 |[],_,r=>by cases r; exact#[[],e9,.nil]
 | p::kvs,_,r=>by
  cases r with
  |@cons a b as bs h t=>
   let#[rs,c,q]:=Il t;let#[b1,b2]:=b;exact#[(p.1,b2)::rs,#[Gs h.1,rfl,c],.cons #[rfl,h.2] q]
def Yb(trs:m_ (TE×TE)):TE:=λσ H Q=>∀p,H p=j_->Mt trs σ (Ah H p^.dK []) λps H2=>H2 p=P3^.dK []/\∃kvs:m_ (Key×V),ps=kvs.map (λkv=>(kV kv.1,kv.2))/\kvs.length<=15/\Q (.ref p)^Ah H2 p^.dK^II [] kvs
theorem Tc{X:Cx}{pos:Pos}{keys:m_^n_ cr}{values:m_ cr}{trs:m_ (TE×TE)}(h:aO X pos keys values trs)(hall:keys.all (·.isSome)=k_)(hl:keys.length=values.length)(h0:keys≠[])
  (h15:keys.length<=15):PE X (.Dict keys values pos)^Yb trs:=by
 intro zG s σ H Q I q;have hn:=I.hok.fresh^Rs s.heap.objs.size;have I1:=I.laid (a:=s.heap.objs.size) (o:=.dK []) (h':=s.heap.push {cls:=.type "dict",data:=.dict #[]}) (t':=s.toks) (λ_ _ q=>Ev _ q) (Rs _)^MN s.heap I.big;refine wpAny_Dict_walk (knd:=A2 X.prog X.w) hall hl h0 h15^A5 (h zG _ σ _ _ I1^q _ hn) λws s2 zz=>?_;let#[ps,H2,I2,rel,e,kvs,ep,lk,q2]:=zz;subst ep;let#[rs,c,rk]:=Il (P:=X.prog) (w:=X.w) rel;let#[z,hd,vs0,r0,dd]:=VQ I2.hok e;cases r0;refine#[rs,c,dd,λh' dd' hs=>#[.ref s.heap.objs.size,_,?_,rfl,q2]]
 have hz:(II [] kvs).length<=sizeLine:=by
  have h1:=Ez kvs [];rw[eK]at h1;rw[dg]; omega
 have he:∃q,h'.get? s.heap.objs.size=P3 q:=let #[q,_,_,hq,_]:=dd'; #[q,hq]
 exact LG I2 (by rw[e]; exact e9) hs he^SE hz hd (rk.merge .nil) dd'
structure M1 (X:Cx) (o:cr) (m:Str) (apos:Pos) (e:cr) (cpos:Pos):Prop where
 base:attributeBase o m X.env^eval o X.env=eval o X.env
 few:((backTo cpos^starEach [e] X.env).all (λx=>!x.1)&&(backToKw cpos^keywordEach [] X.env).all (λx=>x.1.isSome)
  && decide (([e]:List cr).length+([]:List fk).length+(if([]:List fk).isEmpty then 0 else 1)<30))=k_
 line:(apos.endLine==cpos.line)=k_
 trees:backTo cpos^starEach [e] X.env=[(l_,eval e X.env)]
structure M2 (X:Cx) (o:cr) (m:Str) (apos:Pos) (e f:cr) (cpos:Pos):Prop where
 base:attributeBase o m X.env^eval o X.env=eval o X.env
 few:((backTo cpos^starEach [e,f] X.env).all (λx=>!x.1)&&(backToKw cpos^keywordEach [] X.env).all (λx=>x.1.isSome)
  && decide (([e,f]:List cr).length+([]:List fk).length+(if([]:List fk).isEmpty then 0 else 1)<30))=k_
 line:(apos.endLine==cpos.line)=k_
 trees:backTo cpos^starEach [e,f] X.env=[(l_,eval e X.env),(l_,eval f X.env)]
def aQ(H:Hp)(a:Ch):Prop:=(∃kvs,Rd H a^.dK kvs)\/∃kvs,Rd H a^.dT kvs
theorem NR{X:Cx}{zG:m_ (Ch×Obj)}{σ:St}{H:Hp}{s:Go}{a:Ch}(I:Inv X zG σ H s)(d:aQ H a):
  s.TypeIs (.ref a) "dict"/\(∀b,cV a=.ref b->∃ob,s.heap.get? b=P3 ob/\ob.dict=j_)/\(a==sysModules)=l_:=by
 rcases d with⟨kvs,e⟩|⟨kvs,e⟩
 .let#[_,hd,vs,_,dd]:=E4 I.hok e
  refine#[dd.typeIs,λb q=>?_,hd];cases q;let#[ob,_,_,h1,h2,_]:=dd;exact#[ob,h1,h2.2.1]
 .let#[_,hd,xs,_,dd]:=Gw I.hok e
  refine#[dd.typeIs,λb q=>?_,hd];cases q;let#[ob,_,_,h1,h2,_]:=dd;exact#[ob,h1,h2.2.1]
section
variable {X:Cx}{zG:m_ (Addr×Obj)}{σ:St}{H:Hp}{s:Shared}{a:Addr}{y d:V}{u r:Value}{o:n_ V}{A:Around}{E:Value->Shared->Prop}
theorem XH{Q:Cn->Go->Prop}(hu:A.units+1<cLine)(I:Inv X zG σ H s)(g:DGet H a y o)(ry:RelV y u)(h:∀w' s',Inv X zG σ H s'->RelV (o.getD .non) w'->Q w' s'):
  wpAny (model X.prog X.w) A (call (.builtin "dict.get") [.ref a,u]) Q E s:=by
 rcases g with⟨kvs,k,e,ey,l⟩|⟨kvs,k,b,e,ey,eb,l⟩
 .subst ey
  let#[z,hd,vs,rel,dd]:=E4 I.hok e;refine iI PySem.F.slot_dict_get dd.typeIs PySem.F.entry_dict_get (PySem.F.args_dict_get_2 _ _) (meets_dict_get (A2 X.prog X.w) a (Gs ry) hd) #[_,dd.mapOf,h _ _ (I.tok _) ?_];rw[l];exact(rel.val k).getD rfl
 .subst ey
  cases(ry);let#[z,hd,xs,rel,dd]:=Gw I.hok e;refine iI PySem.F.slot_dict_get dd.typeIs PySem.F.entry_dict_get (PySem.F.args_dict_get_2 _ _) (meetsH_dict_get _ a b hd) #[fQ hu,k,xs,FJ I.hok eb,dd,h _ _ (I.tok _) ?_];rw[l];exact(rel.val k).getD rfl
theorem XG{Q:Cn->Go->Prop}(hu:A.units+1<cLine)(I:Inv X zG σ H s)(g:DGet H a y o)(ry:RelV y u)(rd:RelV d r)(h:∀w' s',Inv X zG σ H s'->RelV (o.getD d) w'->Q w' s'):
  wpAny (model X.prog X.w) A (call (.builtin "dict.get") [.ref a,u,r]) Q E s:=by
 rcases g with⟨kvs,k,e,ey,l⟩|⟨kvs,k,b,e,ey,eb,l⟩
 .subst ey
  let#[z,hd,vs,rel,dd]:=E4 I.hok e;refine iI PySem.F.slot_dict_get dd.typeIs PySem.F.entry_dict_get (PySem.F.args_dict_get_3 _ _ _) (meets_dict_get_default (A2 X.prog X.w) a (Gs ry) hd r) #[_,dd.mapOf,h _ _ (I.tok _) ?_];rw[l];exact(rel.val k).getD rd
 .subst ey
  cases(ry);let#[z,hd,xs,rel,dd]:=Gw I.hok e;refine iI PySem.F.slot_dict_get dd.typeIs PySem.F.entry_dict_get (PySem.F.args_dict_get_3 _ _ _) (meetsH_dict_get_default _ a b hd r) #[fQ hu,k,xs,FJ I.hok eb,dd,h _ _ (I.tok _) ?_];rw[l];exact(rel.val k).getD rd
end
def V4(td ty:TE):TE:=λσ H Q=>td σ H λx H1=>∃a,x=.ref a/\aQ H1 a/\ty σ H1 λy H2=>∃o,DGet H2 a y o/\Q (o.getD .non) H2
def V3(td ty tx:TE):TE:=λσ H Q=>td σ H λx H1=>∃a,x=.ref a/\aQ H1 a/\ty σ H1 λy H2=>tx σ H2 λz H3=>∃o,DGet H3 a y o/\Q (o.getD z) H3
section
variable {X:Cx}{o e f:Expr}{apos cpos:Pos}{td ty tx:TE}
theorem RQ(hu:X.A.units+1<cLine)(ho:PE X o td)(he:PE X e ty)(m:M1 X o "get" apos e cpos):PE X (.Call (.Attribute o "get" apos) [e] [] cpos)^V4 td ty:=by
 intro zG s σ H Q I h;refine wpAny_Call_method m.base m.few m.line PySem.F.plainAttrs_dict PySem.F.slot_dict_get PySem.F.type_dict_get^A5 (ho _ s σ H _ I h) λu s1 zz=>?_;let#[x,H1,I1,rx,a,ex,d,q1]:=zz;subst ex;obtain rfl:u=cV a:=rx;let#[t1,t2,_]:=NR I1 d;refine#[t1,t2,?_];rw[m.trees];refine fO rfl (gQ^fB^A5 (he _ s1 σ H1 _ I1 q1) λiv s2 zz=>?_);let#[y,H2,I2,ry,ov,g,q2]:=zz;exact fh^XH hu I2 g ry λw' s3 I3 rw'=>#[_,H2,I3,rw',q2]
theorem RP(hu:X.A.units+1<cLine)(ho:PE X o td)(he:PE X e ty)(hf:PE X f tx)(m:M2 X o "get" apos e f cpos):PE X (.Call (.Attribute o "get" apos) [e,f] [] cpos)^V3 td ty tx:=by
 intro zG s σ H Q I h;refine wpAny_Call_method m.base m.few m.line PySem.F.plainAttrs_dict PySem.F.slot_dict_get PySem.F.type_dict_get^A5 (ho _ s σ H _ I h) λu s1 zz=>?_;let#[x,H1,I1,rx,a,ex,d,q1]:=zz;subst ex;obtain rfl:u=cV a:=rx;let#[t1,t2,_]:=NR I1 d;refine#[t1,t2,?_];rw[m.trees]
 exact fO rfl (gQ (fB (A5 (he _ s1 σ H1 _ I1 q1) λiv s2 #[y,H2,I2,ry,q2]=>
  fB (A5 (hf _ s2 σ H2 _ I2 q2) λfv s3 #[z,H3,I3,rz,ov,g,q3]=>fh^XG hu I3 g ry rz λw' s4 I4 rw'=>#[_,H3,I4,rw',q3]))))
end
end L2
set_option maxHeartbeats 4000000
namespace L2
section
theorem Ng{env:Env}:∀(names:m_ (Str×fN)) (cs:m_ (Str×Ch)),(∀x,(x,da)∈names->∃c,env.cells.lookup x=P3 c)->(∀x c,cs.lookup x=P3 c->env.cells.lookup x=P3 c)->
  ∃cl,(forIn names cs fun(x:Str×fN) (r:m_ (Str×Ch))=>(if(x.2==da)=k_ then do let a ←cellOf env x.1; pure^fF ((x.1,a)::r) else pure^fF r:Sem^ForInStep^m_ (Str×Ch)))=(pure cl:Sem _) /\
   (∀x c,cl.lookup x=P3 c->env.cells.lookup x=P3 c)/\(∀x,((x,da)∈names\/∃c,cs.lookup x=P3 c)->∃c,cl.lookup x=P3 c):=by
 intro names
 induction names with
 |nil=>
  intro cs _ h2;exact#[cs,rfl,h2,λx hx=>hx.elim (λz=>absurd z^by simp) λz=>z]
 | cons p r ih=>
  intro cs h1 h2;let#[n,k]:=p
  by_cases hk:k=da
  .subst hk
   let#[c,hc]:=h1 n Op;have hcell:cellOf env n=pure c:=by simp only[cellOf,hc]
   let#[cl,e,a,b]:=ih ((n,c)::cs) (λx hx=>h1 x^TW _ hx) (λx c' hx=>by
    rw[fw]at hx;cases hb:x==n with
    |true=>
     rw[hb]at hx;have hx':P3 c=P3 c':=hx;cases hx'
     have:x=n:=by simpa using hb
     rw[this]; exact hc
    |false=>rw[hb]at hx; exact h2 x c' hx)
   refine#[cl,?_,a,λx hx=>b x ?_]
   .rw[gh]
    simp only[beq_self_eq_true,if_true,hcell,pure_bind];exact e
   .by_cases hxn:x=n
    .subst hxn
     exact .inr #[c,by simp[fw]]
    .rcases hx with hx|⟨c',hx⟩
     .rcases Tk.mp hx with hx|hx
      .cases hx; exact absurd rfl hxn
      .exact .inl hx
     .refine .inr #[c',?_]
      have:(x==n)=l_:=by simpa using hxn
      rw[fw,this];exact hx
  .have hk':(k==da)=l_:=by simpa using hk
   let#[cl,e,a,b]:=ih cs (λx hx=>h1 x^TW _ hx) h2;refine#[cl,?_,a,λx hx=>b x ?_]
   .rw[gh]
    simp only[hk',eZ,if_false,pure_bind];exact e
   .rcases hx with hx|hx
    .rcases Tk.mp hx with hx|hx
     .cases hx; exact absurd rfl hk
     .exact .inl hx
    .exact .inr hx
theorem Ik{scope:fK}{env:Env}(h:∀x,(x,da)∈scope.names->∃c,env.cells.lookup x=P3 c):
  ∃cl,closureFor scope env=pure cl/\(∀x c,cl.lookup x=P3 c->env.cells.lookup x=P3 c)/\(∀x,(x,da)∈scope.names->∃c,cl.lookup x=P3 c):=by
 let#[cl,e,a,b]:=Ng _ [] h (λx c hx=>by simp at hx);refine#[cl,?_,a,λx hx=>b x^.inl hx];simp[closureFor]
 simp_all
variable {prog:Program}{w:World}{A:Around}{R:Result->Shared->Prop}{s:Shared}
theorem LI{elt target iter:cr}{ifs:m_ cr}{scope:fK}{pos:Pos}{it acc:Cn}{env:Env}(I:Nat->Go->Prop)
  (turn:∀n s,I n s->wpAny (model prog w) A (pyNext it) (λr s₁=>match r with
   |none=>R (.ok .next) s₁
   | some v=>wpAny (model prog w) A (letOwnedTupleGo target it v) (λ_ s₁'=>wpAny (model prog w) A (assign target env v) (λ_ s₂=>
     wpAny (model prog w) A (forIn ifs k_ λc r=>if r=k_ then do let ok ←isTrue c env^eval c env; pure^fF ok else pure^fF r) (λok s₃=>
      if ok=k_ then wpAny (model prog w) A (eval elt env) (λx s₄=>
       wpAny (model prog w) A (call (.builtin "list.append") [acc,x]) (λ_ s₅=>∃m,m<n/\I m s₅) (λ_ _=>False) s₄) (λ_ _=>False) s₃
      else ∃m,m<n/\I m s₃) (λ_ _=>False) s₂) (λ_ _=>False) s₁') (λ_ _=>False) s₁) (λ_ _=>False) s)
  (n:Nat) (h:I n s):
  codeAny (model prog w) A (.compLoop (.ListComp elt [#[target,iter,ifs,0]] scope pos) 0 it acc env) R s:=by
 refine codeAny_loop rfl I (λn s hI=>?_) n h;refine wpAny_noted ?_;refine Db^gS^Db^dI (turn n s hI) (λr s₁ h₁=>?_) λ_ _ h'=>h'.elim;cases r with
 |none=>exact UF h₁
 | some v=>
  refine Db^dI h₁ (λ_ s₁' h₁'=>?_) λ_ _ h'=>h'.elim;refine Db^dI h₁' (λ_ s₂ h₂=>Db^dI h₂ (λok s₃ h₃=>?_) λ_ _ h'=>h'.elim) λ_ _ h'=>h'.elim;cases ok with
  |false=>exact UF #[rfl,h₃]
  |true=>
   exact Db^Db^dI h₃ (λx s₄ h₄=>Db^dI h₄ (λ_ s₅ h₅=>UF^UF #[rfl,h₅]) λ_ _ h'=>h'.elim) λ_ _ h'=>h'.elim
end
def Af(X:Cx)(sc:fK)(N':m_ Str)(cl:m_ (Str×Ch))(C:Ch)(s:Go)(H:Hp)(ex:m_ Ch):Cx where
 prog:=X.prog
 w:=X.w
 K:=X.K
 mg:=X.mg
 base:=X.base
 A:=X.A
 N:=N'
 s₀:=s
 H₀:=H
 env:=compEnvC sc cl C X.env
 outer:=X.stack
 stack:=X.stack
 ex:=ex
 fn:=λ_=>l_
 calm:=k_
 pn:=[]
 xe:=λ_ _=>False
def CP(js:m_^n_ Nat)(σ:St):St:=js.map λo=>match o with
 |some i=>(σ[i]?).getD j_
 |none=>j_
def T3(o:n_ fN):Bool:=match o with
 |some .cell=>k_
 |some .free=>k_
 |_=>l_
theorem Ob{o:n_ fN}(h:T3 o=k_):o=P3 .cell\/o=P3 .free:=by
 unfold T3 at h
 split at h
 .grind
 .grind
 .cases h
def isFree(o:n_ fN):Bool:=match o with
 |some .free=>k_
 |_=>l_
theorem P5{o:n_ fN}(h:isFree o=k_):o=P3 .free:=by
 unfold isFree at h
 split at h
 .rfl
 .cases h
def Rv(o:n_ fN):Bool:=match o with
 |some .local=>k_
 |_=>l_
theorem Ru{o:n_ fN}(h:Rv o=k_):o=P3 .local:=by
 unfold Rv at h
 split at h
 .rfl
 .cases h
def Rx(k:ScopeKind):Bool:=match k with
 |.function=>k_
 |_=>l_
theorem Rw{k:ScopeKind}(h:Rx k=k_):k=.function:=by
 unfold Rx at h
 split at h
 .rfl
 .cases h
def a_(sc esc:fK)(p:Str×fN):Bool:=match p.2 with
 |.cell=>l_
 |.free=>T3^esc.names.lookup p.1
 |.local=>Rv^sc.names.lookup p.1
 |_=>k_
def bQ(x:n_ Str)(y:Str):Bool:=match x with
 |some z=>z==y
 |none=>l_
theorem W0{x:n_ Str}{y:Str}(h:bQ x y=k_):x=P3 y:=by
 unfold bQ at h
 split at h
 .grind
 .cases h
def Im(sc esc:fK)(N:m_ Str):m_ Str->m_^n_ Nat->Bool
 |[],[]=>k_
 |x::xs,P3 j::js=>isFree^sc.names.lookup x&&bQ (N[j]?) x&&T3^esc.names.lookup x&&Im sc esc N xs js
 |_::xs,j_::js=>Im sc esc N xs js
 |_,_=>l_
def F6(sc esc:fK)(N N':m_ Str)(js:m_^n_ Nat):Bool:=Rx sc.kind&&sc.names.all^a_ sc esc&&Im sc esc N N' js
theorem Eb{sc esc:fK}{N:m_ Str}:∀{N':m_ Str}{js:m_^n_ Nat},Im sc esc N N' js=k_->js.length=N'.length
 |[],[],_=>rfl
 |x::xs,P3 j::js,h=>by
  unfold Im at h;rw[dB]at h;rw[ce,ce,Eb h.2]
 |x::xs,j_::js,h=>by
  unfold Im at h;rw[ce,ce,Eb h]
 |[],P3 _::_,h=>by cases h
 |[],j_::_,h=>by cases h
 |_::_,[],h=>by cases h
theorem LJ{sc esc:fK}{N:m_ Str}:∀{N':m_ Str}{js:m_^n_ Nat},Im sc esc N N' js=k_->∀{k:Nat}{x:Str}{j:Nat},N'[k]?=P3 x->js[k]?=P3^P3 j->
  sc.names.lookup x=P3 .free/\N[j]?=P3 x/\(esc.names.lookup x=P3 .cell\/esc.names.lookup x=P3 .free)
 |[],_,_,k,x,j,h1,_=>by simp at h1
 |_::_,[],h,_,_,_,_,_=>by unfold Im at h; cases h
 | y::ys,P3 i::js,h,k,x,j,h1,h2=>by
  unfold Im at h;rw[dB,dB,dB]at h;cases k with
  |zero=>
   simp at h1 h2;subst h1 h2;exact#[P5 h.1.1.1,W0 h.1.1.2,Ob h.1.2]
  |succ k=>exact LJ h.2 (k:=k) (by simpa using h1)^by simpa using h2
 |y::ys,j_::js,h,k,x,j,h1,h2=>by
  unfold Im at h;cases k with
  |zero=>simp at h2
  |succ k=>exact LJ h (k:=k) (by simpa using h1)^by simpa using h2
theorem Px{js:m_^n_ Nat}{σ:St}{k:Nat}{v:V}(h:(CP js σ)[k]?=P3^P3 v):∃j,js[k]?=P3^P3 j/\σ[j]?=P3^P3 v:=by
 unfold CP at h;rw[cX]at h;cases e:js[k]? with
 |none=>simp_all
 | some o=>
  rw[e]at h;cases o with
  |none=>cases h
  |some j=>
   cases q:σ[j]? with
   |none=>simp_all
   |some w=>simp_all
theorem Cp{env:Env}:∀{names:m_ (Str×fN)}{x:Str},names.lookup x=P3 .free->
  (names.map fun(n,k)=>if(k==da&&env.scope.kind==.function&&env.kindOf n==P3 .cell)then(n,hZ)else(n,k)).lookup x=P3 .cell \/
  (names.map fun(n,k)=>if(k==da&&env.scope.kind==.function&&env.kindOf n==P3 .cell)then(n,hZ)else(n,k)).lookup x=P3 .free
 |[],_,h=>by simp at h
 | (n,k)::r,x,h=>by
  have ih:=@Cp env r x;show gD x ((if(k==da&&env.scope.kind==.function&&env.kindOf n==P3 .cell)=k_ then(n,hZ)else(n,k))::_)=_\/gD x ((if(k==da&&env.scope.kind==.function&&env.kindOf n==P3 .cell)=k_ then(n,hZ)else(n,k))::_)=_
  by_cases hc:(k==da&&env.scope.kind==.function&&env.kindOf n==P3 .cell)=k_
  .rw[if_pos hc]
   cases hx:x==n with
   |true=>exact .inl^by simp only[fw,hx]
   |false=>
    simp only[fw,hx]at h ⊢;exact ih h
  .rw[if_neg hc]
   cases hx:x==n with
   |true=>
    simp_all
   |false=>
    simp only[fw,hx]at h ⊢;exact ih h
theorem M7{env:Env}{sc:fK}(hcell:∀y∈sc.names,y.2≠.cell){x:Str}(h:(relabel sc env).names.lookup x=P3 .cell\/(relabel sc env).names.lookup x=P3 .free):(x,da)∈sc.names:=by
 have hm:(x,hZ)∈(relabel sc _).names\/(x,da)∈(relabel sc _).names:=h.elim (λz=>.inl^PySem.mem_of_lookup z) λz=>.inr^PySem.mem_of_lookup z
 have go:∀k,(k=.cell\/k=.free)->(x,k)∈(relabel sc env).names->(x,da)∈sc.names:=by
  intro k hk hmem;unfold relabel at hmem
  grind
 exact hm.elim (go _ (.inl rfl))^go _ (.inr rfl)
section
variable {X:Cx}{zG:m_ (Addr×Obj)}{σ:St}{H:Hp}{s:Shared}
structure CompOk (X:Cx) (sc:fK) (N':List Str) (js:List^Option Nat):Prop where
 kind:sc.kind=.function
 cell:∀y∈sc.names,y.2≠.cell
 free:∀x,(x,da)∈sc.names->X.env.scope.names.lookup x=P3 .cell\/X.env.scope.names.lookup x=P3 .free
 names:∀y∈sc.names,y.2=.local->sc.names.lookup y.1=P3 .local
 cap:Im sc X.env.scope X.N N' js=k_
theorem CompOk.of{sc:fK}{N':m_ Str}{js:m_^n_ Nat}(h:F6 sc X.env.scope X.N N' js=k_):CompOk X sc N' js:=by
 unfold F6 at h;rw[dB,dB,eg]at h;let#[#[h1,h2],h3]:=h;refine#[Rw h1,λy hy e=>?_,λx hx=>?_,λy hy e=>?_,h3]
 .have q:=h2 y hy
  unfold a_ at q
  simp_all
 .have q:=h2 _ hx
  exact Ob q
 .have q:=h2 y hy
  unfold a_ at q;rw[e]at q;exact Ru q
theorem ME{sc:fK}{N':m_ Str}{js:m_^n_ Nat}{cl:m_ (Str×Ch)}{fp:m_ Ch}{h₁:cf}{tk:Nat}(I:Inv X zG σ H s)(hc:X.calm=k_)(O:CompOk X sc N' js)
  (hcl:∀x c,cl.lookup x=P3 c->X.env.cells.lookup x=P3 c) (hcl2:∀x,(x,da)∈sc.names->∃c,cl.lookup x=P3 c)
  (hf:∀b∈fp,GB X zG H b) (ho:∀b∈fp,∃o,s.heap.get? b=P3 o)
  (hns:h₁.Ns (s.heap.objs.size+1) λ_=>j_) (hk:∀b o,s.heap.get? b=P3 o->h₁.get? b=P3 o) (hD:∃n,h₁.get? s.heap.objs.size=P3 {cls:=.type "list",data:=.seq #[] n}):
  Inv (Af X sc N' cl (s.heap.objs.size+1) s H fp) [] (CP js σ) (Ah H s.heap.objs.size^.lst []) {s with heap:=h₁,toks:=tk}:=by
 have fr:∀a,s.heap.objs.size<=a->H a=j_:=λa ha=>I.hok.fresh ha
 have cellLt:∀x c,cl.lookup x=P3 c->c<s.heap.objs.size:=λx c e=>by
  let#[v,q]:=I.cell x c^hcl x c e;exact q.lt
 have ok:(Af X sc N' cl (s.heap.objs.size+1) s H fp).Ok:=by
  refine#[I.ok.mod,O.kind,I.ok.glob,I.ok.blt,dO _,λx y c h1 h2=>I.ok.inj x y c (hcl x c h1)^hcl y c h2,λx hx=>?_,λx c hx=>?_,λ_=>I.ok.hd hc,I.ok.frames,.inl rfl,λb hb=>#[?_,λx c e=>?_],I.bs,c5 I.ok.bsz I.sz,λb o e hb=>?_,λb hb hb2=>?_,I.stack,I.stkFree]
  .exact hcl2 x^M7 (env:=X.env) O.cell hx
  .exact absurd (show l_=k_ from hx) cx
  .let#[o,e]:=ho b hb
   exact cb^eF^TM e
  .exact(hf b hb).2.2.2.2.1 x c^hcl x c e
  .rcases(hf b hb).2.2.2.1 with z|z
   .exact I.ok.noex b o e z
   .have h1:b<X.base.objs.size:=TM e
    exact absurd (c6 h1^c5 I.ok.bsz z)^dZ _
  .rcases Tk.mp^I.stkSub b hb2 with z|z
   .exact(hf b hb).2.1 z
   .exact(hf b hb).2.2.1 z
 refine#[ok,rfl,I.bare,?_,#[_,hns,λi x v h1 h2 h3=>?_],λx c e=>?_,?_,λx c e=>?_,λp hp=>absurd (show p∈([]:m_ (Ch×Obj))from hp)^by simp,?_,?_]
 .exact Un.laid hk (Rs _)^fr _^Rs _
 .let#[j,e1,e2]:=Px h2
  let#[c1,c2,c3]:=LJ O.cap h1 e1;let#[m,_,hl]:=I.loc;let#[u,r,l]:=hl j x v c2 e2^.inr c3;refine#[u,r,.inr #[Cp c1,?_]]
  rcases l with⟨l1,_⟩|⟨_,c,l2,l3⟩
  .have l1':X.env.scope.names.lookup x=P3 .local:=l1
   rcases c3 with c3|c3 <;>(rw[l1']at c3; cases c3)
  .let#[c',e']:=hcl2 x^PySem.mem_of_lookup c1
   have:c'=c:=XV^(hcl x c' e').symm.trans l2
   subst this;let#[oc,hoc,hocd]:=id l3;exact#[c',e',oc,hk _ _ hoc,hocd]
 .let#[v,oc,hoc,hocd]:=I.cell x c^hcl x c e
  exact#[v,oc,hk _ _ hoc,hocd]
 .show Ah H s.heap.objs.size (.lst []) (s.heap.objs.size+1)=j_
  rw[AI^Nat.succ_ne_self _];exact fr _^dO _
 .show Ah H s.heap.objs.size (.lst []) c=j_
  rw[AI^cb^cellLt x c e];exact I.freeC x c^hcl x c e
 .refine I.hok.laid hk (Rs _) ?_
  let#[n,e]:=hD;exact#[cq _,[],n,.nil,e]
 .unfold CP
  show(js.map _).length=N'.length;rw[FM];exact Eb O.cap
theorem Un.but{fs ex:m_ Ch}{H H1:Hp}{h h1 h':cf}{C:Ch}(u:Un fs ex H H1 h h1)(hC:h.get? C=j_)(hs:∀b,b≠C->h'.get? b=h1.get? b):Un fs ex H H1 h h':=by
 have ne:∀{b:Ch}{o:Obj},h.get? b=P3 o->b≠C:=λ{b o} e z=>by grind
 refine#[λb o e n h1 h2=>(hs b^ne e).trans^u.keep b o e n h1 h2,λb o e n h1 h2=>?_,u.free,λb o e h1=>?_,u.tups,u.frzs,u.tbls]
 .let#[sl,q]:=u.slot b o e n h1 h2
  exact#[sl,(hs b^ne e).trans q]
 .let#[o',q]:=u.there b o e h1
  simp_all
theorem IP{sc:fK}{N':m_ Str}{cl:m_ (Str×Ch)}{C:Ch}{fp:m_ Ch}{pins':m_ (Ch×Obj)}{zZ:St}{H':Hp}{s':Go}{h':cf}(I:Inv X zG σ H s)(hf:∀b∈fp,GB X zG H b)(hC:s.heap.objs.size<=C)
  (J:Inv (Af X sc N' cl C s H fp) pins' zZ H' s') (hs:∀b,b≠C->h'.get? b=s'.heap.get? b):Inv X zG σ H' {s' with heap:=h'}:=by
 have hC':H' C=j_:=J.free
 refine I.call' J.os (Un.but J.base (by
  cases e:s.heap.get? C with
  |none=>rfl
  |some o=>exact absurd (TM e)^f_.mpr hC) hs) (λa o e=>(J.hok a o e).stay (λb u hb q=>(hs b (λz=>by
   grind)).trans q) (λ_ q=>q) λ_ _ q=>q) J.bare λb hb=>?_
 .let#[f0,f1,f2,f3,f4,f5]:=hf b hb
  exact#[f3,f1,f4,f5]
end
def Z6(X:Cx)(ifs:m_ cr)(t:TT):Prop:=
 ∀(zG:m_ (Ch×Obj)) (s:Go) (σ:St) (H:Hp) (Q:Bool->Hp->Prop),Inv X zG σ H s->t σ H Q->
  wpAny (model X.prog X.w) X.A (forIn ifs k_ λc r=>if r=k_ then do let ok ←isTrue c X.env^eval c X.env; pure^fF ok else pure^fF r) (TP X zG σ Q) X.xe s
def ah:TT:=λ_ H Q=>Q k_ H
theorem TV{X:Cx}:Z6 X [] ah:=λzG s σ H Q I h=>wpAny_tests_nil #[H,I,h]
theorem TU{X:Cx}{c:cr}{t:TT}(h:PT X c t):Z6 X [c] t:=λzG s σ H Q I q=>wpAny_tests_one^h _ s σ H Q I q
def Qq(X:Cx)(sc:fK)(N':m_ Str)(js:m_^n_ Nat)(tg elt:cr)(ifs:m_ cr)(wi:TI):TE:=λσ H Q=>wi σ H λJ H1=>∀l,H1 l=j_->X.K.lookup l=j_->∀cl C s H0 fp,∃(g:TG) (tt:TT) (te:TE) (W:Nat->Nat->St->Hp->Prop),
 PG (Af X sc N' cl C s H0 fp) tg g/\Z6 (Af X sc N' cl C s H0 fp) ifs tt/\PE (Af X sc N' cl C s H0 fp) elt te/\(∃m,W 0 m (CP js σ)^Ah H1 l^.lst [])/\∀i m zZ H',W i m zZ H'->
 (J.stop i H'/\Q (.ref l) H')\/(J.go i H'/\∀x H2,J.yld i H' x H2->g x zZ H2 λzV H3=>tt zV H3 λb H4=>if b=k_ then te zV H4 λy H5=>∃ys,H5 l=P3^.lst ys/\ys.length<sizeLine/\∃m',m'<m/\W (i+1) m' zV^Ah H5 l^.lst (ys++[y]) else ∃m',m'<m/\W (i+1) m' zV H4)
section
variable {X:Cx}{tg elt iter:Expr}{ifs:m_ Expr}{sc:Scope}{pos:Pos}{N':m_ Str}{js:m_^n_ Nat}{wi:TI}{g:TG}{tt:TT}{te:TE}
theorem J3{zG:m_ (Ch×Obj)}{σ:St}{H:Hp}{s:Go}{cl:m_ (Str×Ch)}{C l it:Ch}{fp:m_ Ch}{tn:Nat->cf->Prop}{J:It}{s3:Go}{Q:VK}{R:Result->Go->Prop}{W:Nat->Nat->St->Hp->Prop}{m0:Nat}{zH:St}{H0:Hp}
  (I:Inv X zG σ H s) (hf:∀b∈fp,GB X zG H b) (hlt:∀b∈fp,b<s.heap.objs.size) (hC:s.heap.objs.size<=C)
  (T:Turn X.prog X.w X.K tg J fp it tn)
  (hg:PG (Af X sc N' cl C s H fp) tg g) (ht:Z6 (Af X sc N' cl C s H fp) ifs tt) (he:PE (Af X sc N' cl C s H fp) elt te)
  (hW:∀i m zZ H',W i m zZ H'->
   (J.stop i H'/\Q (.ref l) H')\/(J.go i H'/\∀x H2,J.yld i H' x H2->g x zZ H2 λzV H3=>tt zV H3 λb H4=>if b=k_ then te zV H4 λy H5=>∃ys,H5 l=P3^.lst ys/\ys.length<sizeLine/\∃m',m'<m/\W (i+1) m' zV^Ah H5 l^.lst (ys++[y]) else ∃m',m'<m/\W (i+1) m' zV H4))
  (hR:∀zZ H' s',Inv (Af X sc N' cl C s H fp) [] zZ H' s'->Q (.ref l) H'->R (.ok .next) s')
  (I3:Inv (Af X sc N' cl C s H fp) [] zH H0 s3) (t3:tn 0 s3.heap) (f3:∀b∈fp,H0 b=j_) (w0:W 0 m0 zH H0):
  codeAny (model X.prog X.w) X.A (.compLoop (.ListComp elt [#[tg,iter,ifs,0]] sc pos) 0 (.ref it) (.ref l)^compEnvC sc cl C X.env) R s3:=by
 have stat:∀{H':Hp},(∀b∈fp,H' b=j_)->∀b∈fp,GB (Af X sc N' cl C s H fp) [] H' b:=λhn b hb=>by
  have q:=I3.ok.exf b hb;refine#[hn b hb,q.1,I3.ok.exfs b hb,.inl hb,q.2,λp hp=>absurd (show p∈([]:m_ (Ch×Obj))from hp)^by simp]
 refine LI (λn s'=>∃i zZ H',Inv (Af X sc N' cl C s H fp) [] zZ H' s'/\tn i s'.heap/\(∀b∈fp,H' b=j_)/\W i n zZ H') ?_ m0 #[0,zH,H0,I3,t3,f3,w0];rintro n s4 ⟨i,zQ,H4,I4,st4,fr4,w4⟩
 rcases hW i n zQ H4 w4 with⟨stop,qn⟩|⟨go,step⟩
 .refine A5 (T.done (Af X sc N' cl C s H fp) rfl rfl rfl rfl i [] s4 zQ H4 (λ_ _=>False) I4 (stat fr4) st4 stop) λr s5 zz=>?_;let#[hr,I5]:=zz
  subst hr;exact hR zQ H4 s5 I5 qn
 .refine A5 (T.item (Af X sc N' cl C s H fp) rfl rfl rfl rfl i [] s4 zQ H4 (λ_ _=>False) I4 (stat fr4) st4 go) λr s5 zz=>?_;let#[u,hr,h5]:=zz
  subst hr;refine A5 h5 λ_ s6 zz=>?_;let#[x,H6,I6,r6,y6,st6,fr6]:=zz;have I6':=I6.pinned (stat fr6)^T.obj _ _ st6;refine A5 (hg _ s6 zQ H6 x u _ I6' r6^step x H6 y6) λ_ s7 zz=>?_;let#[zM,H7,I7,q7]:=zz
  have again:∀{zI:St}{H9:Hp}{s9:Go}{m':Nat},Inv (Af X sc N' cl C s H fp) ([]++Hy fp s6.heap) zI H9 s9->m'<n->W (i+1) m' zI H9->∃m,m<n/\∃i zZ H',Inv (Af X sc N' cl C s H fp) [] zZ H' s9/\tn i s9.heap/\(∀b∈fp,H' b=j_)/\W i m zZ H':=λ{zI H9 s9 m'} I9 hm w9=>by
   refine#[m',hm,i+1,zI,H9,I9.unpinned,T.keep _ _ _ st6 λb hb o e=>(I9.pin (b,o)^cW _^cW _^Dz hb e).1,λb hb=>?_,w9];let#[o,e,d]:=T.obj _ _ st6 b hb;exact(I9.pin (b,o)^cW _^cW _^Dz hb e).2.1
  refine A5 (ht _ s7 zM H7 _ I7 q7) λok s8 zz=>?_;let#[H8,I8,q8]:=zz;cases ok with
  |false=>
   have q8':∃m',m'<n/\W (i+1) m' zM H8:=q8;let#[m',hm,w8]:=q8';show ∃m,m<n/\_;exact again I8 hm w8
  |true=>
   refine A5 (he _ s8 zM H8 _ I8 q8) λy s9 zz=>?_;let#[yv,H9,I9,ry,q9]:=zz;let#[ys,hl,hz,m',hm,w9]:=q9;refine A5 (CO (X:=Af X sc N' cl C s H fp) _ s9 zM H9 (.ref l) [yv] (.ref l) [y] (λv H'=>v=.non/\H'=Ah H9 l^.lst (ys++[yv])) I9 rfl (.cons ry .nil) #[l,ys,yv,rfl,rfl,hl,hz,rfl,rfl]) λ_ sa zz=>?_;let#[v,Ha,Ia,_,_,eH]:=zz;subst eH;exact again Ia hm w9
theorem Td(hc:X.calm=k_)(N':m_ Str)(js:m_^n_ Nat)(hi:PI X tg iter wi)
  (hB:F6 sc X.env.scope X.N N' js=k_)
  (hs:∀x,foldedSetIterable iter X.env x=pure x:=by intro _; rfl):
  PE X (.ListComp elt [#[tg,iter,ifs,0]] sc pos) (Qq X sc N' js tg elt ifs wi):=by
 intro zG s σ H Q I h;have O:CompOk X sc N' js:=CompOk.of hB;let#[cl,hclos,hcl,hcl2]:=Ik (scope:=sc) (env:=X.env) λx hx=>I.ok.has x^O.free x hx;rw[eval_ListComp];refine wpAny_comprehension_free (use:=j_) rfl hs hclos O.kind O.names (A5 (hi zG s σ H _ I h) λv s1 h1=>A5 h1 λitv s2 h2=>?_);let#[it,fp,tn,J,H2,e,I2,T,st2,f2,hq]:=h2;subst e
 have kfree:X.K.lookup s2.heap.objs.size=j_:=by
  cases q:X.K.lookup s2.heap.objs.size with
  |none=>rfl
  |some o=>exact absurd (TM^I2.kIn _ _ q)^dZ _
 let#[g,tt,te,W,hg,ht,he,#[m0,w0],hW]:=hq s2.heap.objs.size (I2.hok.fresh^Rs _) kfree cl (s2.heap.objs.size+1) s2 H2 fp;refine eR^wpAny_newFunctionEnv O.cell (by intro y hy; simp at hy) (λh₁ hns₁ hsb₁=>?_) O.kind
 dsimp only at hns₁ hsb₁ ⊢
 generalize hH2:s2.heap.push {cls:=.type "list",dict:=j_,data:=.seq ([]:m_ Cn).toArray}=Hh at hns₁ hsb₁ ⊢;have hCe:Hh.objs.size=s2.heap.objs.size+1:=by rw[←hH2,dS]
 have hlt:∀b∈fp,b<s2.heap.objs.size:=λb hb=>by
  let#[o,e,_]:=T.obj _ _ st2 b hb;exact TM e
 have old:∀b o,s2.heap.get? b=P3 o->h₁.get? b=P3 o:=λb o e=>hsb₁.extBut b o (by rw[hCe]; exact cb^eF^TM e)^Ev _ (hH2▸Ev _ e);have hD:∃n,h₁.get? s2.heap.objs.size=P3 {cls:=.type "list",data:=.seq #[] n}:=#[_,hsb₁.extBut _ _ (by rw[hCe]; exact cb^fM _)^Ev _ (hH2▸Re _ rfl)]
 have I3:∀tk,Inv (Af X sc N' cl (s2.heap.objs.size+1) s2 H2 fp) [] (CP js σ) (Ah H2 s2.heap.objs.size^.lst []) {s2 with heap:=h₁,toks:=tk}:=λtk=>
  ME I2 hc O hcl hcl2 f2 (λb hb=>let #[o,e,_]:=T.obj _ _ st2 b hb; #[o,e]) (by rw[←hCe]; exact hns₁) old hD
 have st3:tn 0 h₁:=T.keep _ _ _ st2 λb hb o e=>old b o e
 have fr3:∀b∈fp,Ah H2 s2.heap.objs.size (.lst []) b=j_:=λb hb=>by
  rw[AI^cb^hlt b hb];exact(f2 b hb).1
 have loop:∀tk,codeAny (model X.prog X.w) X.A (.compLoop (.ListComp elt [#[tg,iter,ifs,0]] sc pos) 0 (.ref it) (.ref s2.heap.objs.size)^compEnvC sc cl (s2.heap.objs.size+1) X.env)
   (compPost (model X.prog X.w) X.A X.xe j_ (EP X zG σ Q) (.ref s2.heap.objs.size) (s2.heap.objs.size+1)) {s2 with heap:=h₁,toks:=tk}:=λtk=>by
  refine J3 (W:=W) (m0:=m0) (Q:=Q) I2 f2 hlt (dO _) T hg ht he hW (λzZ H' s' J' q'=>?_) (I3 tk) st3 fr3 w0;let#[m,hn,_]:=J'.loc;exact#[m,hn,λh' hs'=>#[.ref _,H',IP I2 f2 (dO _) J' λb hb=>hs'.2 b hb,rfl,q']]
 rw[show(newEnv sc Hh.objs.size X.env.globals cl X.env.qual j_ .none (P3 X.env) builtinsNs).locals=s2.heap.objs.size+1 from hCe];show codeAny (model X.prog X.w) X.A (.compStart (.ListComp elt [#[tg,iter,ifs,0]] sc pos) 0 (.ref it) (.ref s2.heap.objs.size)^compEnvC sc cl (s2.heap.objs.size+1) X.env) _ _;exact codeAny_compStart_list (loop _)^T.self _ 0 _ _ _ st3^loop _
end
structure Fly (B:cf) (l:List Env) (a C:Ch) (dx:Option Ch) (h:cf):Prop where
 stays:B.StaysIn h
 new:B.get? a=j_
 frames:h.FunFrames B l
 obj:∃vs sl tb,h.get? a=P3 #[.ref C,dx,.fields vs,sl]/\vs[2]?=P3 .none/\vs[1]?=P3 tb/\(tb=.none\/∃T oT ts,tb=.ref T/\B.get? T=j_/\T≠a/\h.get? T=P3 oT/\oT.data=.fields ts/\3<ts.size)
section
variable {M:Model}{A:Around}{E:Value->Shared->Prop}{s:Shared}{B:Heap}{env:Env}{outer l:m_ Env}{L a C:Addr}{dx:n_ Addr}{Q:Unit->Shared->Prop}
theorem size_of{vs:Array Cn}{i:Nat}{x:Cn}(h:vs[i]?=P3 x):i<vs.size:=(gU.mp h).1
theorem Jt{vs:Array Cn}{sl:Array^n_ Cn}{head tb:Cn}{nx:Bool}(hfr:A.frames=P3 (env::outer))(hf:env.frame=P3 L)(hl:s.heap.FunFrames B (env::outer))(hs:B.StaysIn s.heap)(hn:B.get? a=j_)
  (he:s.heap.get? a=P3 #[.ref C,dx,.fields vs,sl]) (h1:vs[1]?=P3 tb) (h2:vs[2]?=P3 .none)
  (h:∀h',Fly B (env::outer) a C dx h'->s.heap.UpToSlots h'->Q () {s with heap:=h'}):
  wpAny M A (do let f ←frameOf env; let pl ←entryPlaceOf L nx; let b ←jX head f .none (rawInt L) .none pl; setField (.ref a) 1 b) Q E s:=by
 have z1:=size_of h1;have z2:=size_of h2
 have na:a∉(env::outer).filterMap (·.frame):=λq=>by
  let#[_,o,ho,hnf]:=hl.mem q;rw[he]at ho;cases ho;exact hnf vs rfl
 refine Db^wpAny_frameOf_fun hfr hl hf λk hk=>?_;refine Db^wpAny_entryPlaceOf λpl hpl=>?_;unfold jX newFields;refine Db^eR ?_^hpl.sizeOk5 _ _ _ _ _;have ka:k.get? a=P3 #[.ref C,dx,.fields vs,sl]:=(hk.2.1 a na).trans he;have kB:B.StaysIn k:=λb o q=>(hk.2.1 b λz=>by rw[(hl.mem z).1]at q; cases q).trans^hs b o q;generalize hob:({cls:=.type "traceback",dict:=j_,data:=.fields ([head,.ref L,.none,rawInt L,.none]++(if pl.isEmpty then dX 6 dG else pl)).toArray}:Obj)=ob;have pa:(k.push ob).get? a=P3 #[.ref C,dx,.fields vs,sl]:=Ev _ ka;refine gy pa rfl z1 ?_;have ne:k.objs.size≠a:=fm^TM ka;have ga:=d_ (fZ (·.setIfInBounds 1^cV k.objs.size)) pa rfl
 have gT:((k.push ob).update a (fZ (·.setIfInBounds 1^cV k.objs.size))).get? k.objs.size=P3 ob:=by
  rw[ZB _ _^dH ne];exact Re k^by subst hob; rfl
 have kp:∀b o,b≠a->k.get? b=P3 o->((k.push ob).update a (fZ (·.setIfInBounds 1^cV k.objs.size))).get? b=P3 o:=λb o nb q=>by
  rw[ZB _ _^dH nb];exact Ev _ q
 have nf:∀b o,s.heap.get? b=P3 o->(∀vs,o.data≠.fields vs)->b≠a:=λb o q hnf z=>by
  rw[z,he]at q;cases q;exact hnf vs rfl
 refine h _ #[λb o q=>kp b o (λz=>by rw[z,hn]at q; cases q)^kB b o q,hn,hl.of_keeps λb o q hnf=>?_,_,_,_,ga,?_,?_,.inr #[k.objs.size,ob,_,rfl,kB.fresh,ne,gT,by subst hob; rfl,?_]] λb o q hnf=>?_
 .let#[sl',e]:=hk.2.2 b o q
  exact#[_,kp b _ (nf b o q hnf) e,rfl]
 .rw[Array.getElem?_setIfInBounds_ne^by cbv]; exact h2
 .simp[z1]
 .simp only[cY,cZ,ce,eK]; omega
 .let#[sl',e]:=hk.2.2 b o q
  exact#[sl',kp b _ (nf b o q hnf) e]
theorem Fly.mark{T:Ch}{oT:Obj}{ts vs:Array Cn}{x:Cn}{sl:Array^n_ Cn}(F:Fly B l a C dx s.heap)(he:s.heap.get? a=P3 #[.ref C,dx,.fields vs,sl])(h1:vs[1]?=P3^.ref T)(h2:vs[2]?=P3 .none)(nT:B.get? T=j_)(ne:T≠a)(hT:s.heap.get? T=P3 oT)
  (hd:oT.data=.fields ts) (hz:3<ts.size):Fly B l a C dx (s.heap.update T (fZ (·.setIfInBounds 3 x)))/\s.heap.UpToSlots (s.heap.update T (fZ (·.setIfInBounds 3 x)))/\(s.heap.update T (fZ (·.setIfInBounds 3 x))).get? a=P3 #[.ref C,dx,.fields vs,sl]:=by
 have ot:∀b,b≠T->(s.heap.update T (fZ (·.setIfInBounds 3 x))).get? b=s.heap.get? b:=λb nb=>ZB _ _^dH nb
 have nf:∀b o,s.heap.get? b=P3 o->(∀vs,o.data≠.fields vs)->b≠T:=λb o q hnf z=>by
  simp_all
 have ga:=(ot a^dH ne).trans he;refine#[#[λb o q=>(ot b λz=>by grind).trans^F.stays b o q,F.new,F.frames.of_keeps λb o q hnf=>#[o,(ot b^nf b o q hnf).trans q,rfl],vs,sl,_,ga,h2,h1,.inr #[T,_,_,rfl,nT,ne,d_ _ hT^Obj.isFreed_of_fields^gs hd _,gs hd _,by simp_all]],λb o q hnf=>#[o.slots,(ot b^nf b o q hnf).trans q],ga]
theorem FL(F:Fly B l a C dx s.heap)(h:∀h',Fly B l a C dx h'->s.heap.UpToSlots h'->Q () {s with heap:=h'}):wpAny M A (setFlight (.ref a) j_) Q E s:=by
 let#[vs,sl,tb,he,h2,h1,hT]:=F.obj;refine Db (d7 he rfl h1 ?_)
 rcases hT with rfl|⟨T,oT,ts,rfl,nT,ne,gT,hd,hz⟩
 .exact UF^h _ F^jY _
 .let#[f1,f2,_]:=F.mark he h1 h2 nT ne gT hd hz
  exact gy gT hd hz^h _ f1 f2
theorem MG(hfr:A.frames=P3 (env::outer))(hf:env.frame=P3 L)(F:Fly B (env::outer) a C dx s.heap)
  (h:∀h',Fly B (env::outer) a C dx h'->s.heap.UpToSlots h'->Q () {s with heap:=h'}):wpAny M A (noteFrame (.ref a) env) Q E s:=by
 let#[vs,sl,tb,he,h2,h1,hT]:=F.obj;unfold noteFrame;simp only[hf];refine Db (d7 he rfl h1 ?_)
 rcases hT with rfl|⟨T,oT,ts,rfl,nT,ne,gT,hd,hz⟩
 .rw[if_neg^by cbv]
  exact Jt hfr hf F.frames F.stays F.new he h1 h2 h
 .rw[if_pos (show(cV T !=dG)=k_ by simp)]
  obtain⟨x,hx⟩:∃x,ts[3]?=P3 x:=#[_,fj hz];refine Db^d7 gT hd hx ?_
  by_cases e:(x==rawInt L)=k_
  .rw[if_pos e]
   exact UF^h _ F^jY _
  .rw[if_neg e]
   let#[f1,f2,f3]:=F.mark (x:=dG) he h1 h2 nT ne gT hd hz;refine Db^gy gT hd hz ?_;exact Jt hfr hf f1.frames f1.stays f1.new f3 h1 h2 λh' g1 g2=>h h' g1^f2.trans g2
theorem P_(hfr:A.frames=P3 (env::outer))(hf:env.frame=P3 L)(F:Fly B (env::outer) a C dx s.heap)
  (h:∀h',Fly B (env::outer) a C dx h'->s.heap.UpToSlots h'->Q () {s with heap:=h'}):wpAny M A (leaving env^.ref a) Q E s:=Db^MG hfr hf F λh' f1 u1=>FL f1 λh2 f2 u2=>h h2 f2^u1.trans u2
theorem Fly.tail(F:Fly B (env::outer) a C dx s.heap):Fly B outer a C dx s.heap:=#[F.stays,F.new,F.frames.2.2,F.obj]
end
section
variable {A:Around}{E:Value->Shared->Prop}{h:Heap}{g:Array GenState}{d:Drawn}{t:Nat}{os:OsState}
variable {nm q:Str}{C N f:Addr}{bs bm:m_ Value}{hdct:Bool}{sn:m_ Str}{sub:m_ Value}{ab:Bool}{col:n_ Bool}{dd:n_ Addr}{k0 k1 k2 k3 k5:n_ Value}{newId:String}
def FN(C t:Ch):Obj:={cls:=.ref C,data:=.fields #[ .ref t,.none,.none,.none,.bool l_,.none]}
theorem M9{s:Go}{env:Env}{x:Sem Cn}{Q:Flow->Go->Prop}{M:Model}(hbase:bm.contains^.type "BaseException"=k_)(hh:A.handled=j_)
  (hx:wpAny M A x (λv s₁=>∃e dx vs sl,v=.ref e/\s₁.heap.get? C=P3^excClassObj nm q C N bs bm hdct sn sub ab col dd k0 k1 k2 k3 k5 newId /\
   s₁.heap.get? e=P3 #[.ref C,dx,.fields vs,sl]/\vs[1]?=P3 .none/\E (.ref e) s₁) E s):
  wpAny M A (raiseStmt env (P3 x) j_) Q E s:=by
 have hcB:(cV C::bm).contains^.type "BaseException"=k_:=by grind
 unfold raiseStmt;refine Db^dI hx (λv s₁ h₁=>?_) λ_ _ x=>x;let#[e,dx,vs,sl,rfl,hC,he,h1,hE]:=h₁
 repeat (first|omega|omega|(with_reducible refine eV hC ?_; rw[hcB])|wp_step)
 rw[h1];refine UF ?_;exact UF^wpAny_raiseNew_none hh hE
theorem QB{M:Model}{e D N':Ch}{oe:Obj}{nm' q':Str}{bs' bmD:m_ Cn}{hdct':Bool}{sn':m_ Str}{sub':m_ Cn}{ab':Bool}{col':n_ Bool}{dd':n_ Ch}{l0 l1 l2 l3 l5:n_ Cn}{newId':String}{Q:Bool->Go->Prop}
  (hC:h.get? C=P3^excClassObj nm q C N bs bm hdct sn sub ab col dd k0 k1 k2 k3 k5 newId) (hD:h.get? D=P3^excClassObj nm' q' D N' bs' bmD hdct' sn' sub' ab' col' dd' l0 l1 l2 l3 l5 newId') (hbase:bmD.contains^.type "BaseException"=k_)
  (he:h.get? e=P3 oe) (hcls:oe.cls=.ref C) (hq:Q ((cV C::bm).contains^.ref D) #[h,g,d,t,os]):wpAny M A (excMatches (.ref e)^.ref D) Q E #[h,g,d,t,os]:=by
 have hcB:(cV D::bmD).contains^.type "BaseException"=k_:=by grind
 have f:=tc_notTuple;generalize hb:(cV C::bm).contains^.ref D=b at hq;unfold excMatches
 repeat (first|(with_reducible refine eS he ?_; rw[hcls])|omega|(with_reducible refine eV hD ?_; rw[hcB])|wp_step)
 refine eV hC ?_;rw[hb];cases b <;>(wp_walk; exact hq)
end
def DK:m_ Cn:=[.type "ValueError",.type "Exception",.type "BaseException",.type "object"]
structure XC (K:Frag) (nm:Str) (C U:Ch):Prop where
 obj:∃q N bs sn sub ab col dd k0 k1 k2 k3 k5,K.lookup C=P3 (excClassObj nm q C N bs (.ref U::DK) k_ sn sub ab col dd k0 k1 k2 k3 k5 "ValueError.__new__")
 up:∃q N bs sn sub ab col dd k0 k1 k2 k3 k5 hd,K.lookup U=P3 (excClassObj "ThinError" q U N bs DK hd sn sub ab col dd k0 k1 k2 k3 k5 "ValueError.__new__")
 kp:keepIn K^.ref C=k_
 ga:PySem.W.findIn K (.ref C) "__getattribute__"=P3 (P3^.builtin "BaseException.__getattribute__")
 gt:PySem.W.findIn K (.ref C) "__getattr__"=P3 j_
 sa:PySem.W.findIn K (.ref C) "__setattr__"=P3 (P3^.builtin "object.__setattr__")
 at_:nsIn K mainGlobals nm=P3 (P3^.ref C)
 atU:nsIn K mainGlobals "ThinError"=P3 (P3^.ref U)
 ca:PySem.W.findIn K (.ref C) "__class__"=P3 (P3^.builtin "object.__class__")
 nw:PySem.W.findIn K (.ref C) "word"=P3 j_
 nn:PySem.W.findIn K (.ref C) "number"=P3 j_
 nr:PySem.W.findIn K (.ref C) "row"=P3 j_
section
variable {K:Frag}{nm name:Str}{C U:Addr}
theorem XC.cls(c:XC K nm C U):∃cd,PySem.W.clsIn K C=P3 cd/\cd.mro=.ref C::.ref U::DK/\cd.hasDict=k_/\cd.name=nm:=by
 let#[q,N,bs,sn,sub,ab,col,dd,k0,k1,k2,k3,k5,e]:=c.obj;refine#[_,by unfold PySem.W.clsIn; rw[e],rfl,rfl,rfl]
end
section
variable {M:Model}{prog:Program}{w:World}{A:Around}{E:Value->Shared->Prop}{R:Result->Shared->Prop}{h:Heap}{g:Array GenState}{d:Drawn}{t:Nat}{os:OsState}
variable {K:Frag}{nm q:Str}{C U N:Addr}{bs:m_ Value}{sn:m_ Str}{sub:m_ Value}{ab:Bool}{col:n_ Bool}{dd:n_ Addr}{k0 k1 k2 k3 k5:n_ Value}{rest:m_ Value}
theorem UV{Q:Unit->Go->Prop}(hC:h.get? C=P3^excClassObj nm q C N bs (.ref U::DK) k_ sn sub ab col dd k0 k1 k2 k3 k5 "ValueError.__new__")
  (hq:Q () #[h,g,d,t,os]):wpAny M A (checkBuiltinCall "ValueError.__new__" #[.ref C::rest,[]]) Q E #[h,g,d,t,os]:=by
 have F:=PySem.F.excBase_ValueError;have hcont:(cV C::.ref U::DK).contains^.type "ValueError"=k_:=by simp[DK]
 have hstar:=F.noStar;simp only[checkBuiltinCall,F.newKind,F.newSplit,F.newRow]
 repeat (first|refine eS hC ?_|(refine eV hC ?_; rw[hcont])|refine wpAny_staticBase_exc hC ?_|refine wpAny_madeBy_exc hC ?_|simp only[bne_self_eq_false,eZ,if_false]|wp_step)
 exact hq
theorem UA(hC:h.get? C=P3^excClassObj nm q C N bs (.ref U::DK) k_ sn sub ab col dd k0 k1 k2 k3 k5 "ValueError.__new__")
  (hq:R (.ok^.ret^.ref (h.objs.size+1)) #[(h.push {cls:=.type "tuple",data:=.seq rest.toArray}).push^FN C h.objs.size,g,d,t,os]) (hrest:rest.length<=sizeLine):
  codeAny (model prog w) A (.builtin "ValueError.__new__" #[.ref C::rest,[]]) R #[h,g,d,t,os]:=by
 have F:=PySem.F.excBase_ValueError;have hends:=F.ends;have hcB:(cV C::.ref U::DK).contains^.type "ValueError"=k_:=by simp[DK]
 have hcA:(cV C::.ref U::DK).contains^.type "AttributeError"=l_:=by simp[DK]
 have hcN:(cV C::.ref U::DK).contains^.type "NameError"=l_:=by simp[DK]
 refine codeAny_builtinAt F.entry ?_;unfold f8.«BaseException.__new__»;refine PySem.wpAt_bind ?_;show PySem.wpAt _ _ _ (stack >>=_) _ _ _;refine PySem.wpAt_bind^PySem.wpAt_stack λp below=>wpAt_of_wpAny ?_
 wp_walk
 refine wpAt_of_wpAny ?_;rw[F.owner]
 repeat (first|with_reducible refine wpAny_madeHere_exc F.canon hC ?_|with_reducible refine eS hC ?_|(with_reducible refine eV hC ?_; first|rw[hcB]|rw[hcA]|rw[hcN])|wp_step)
 show R _ _;rw[dS];exact hq
theorem SW{e:Ch}{oe:Obj}{Q:Unit->Go->Prop}(hC:h.get? C=P3^excClassObj nm q C N bs (.ref U::DK) k_ sn sub ab col dd k0 k1 k2 k3 k5 "ValueError.__new__")(he:h.get? e=P3 oe)(hcls:oe.cls=.ref C)(hq:Q () #[h,g,d,t,os]):
  wpAny M A (checkBuiltinCall "ValueError.__init__" #[.ref e::rest,[]]) Q E #[h,g,d,t,os]:=by
 have F:=PySem.F.excBase_ValueError;have hcB:(cV C::.ref U::DK).contains^.type "ValueError"=k_:=by simp[DK]
 have hshort:=F.noStar;simp only[checkBuiltinCall,F.initKind,F.initSplit,F.initRow]
 repeat (first|(with_reducible refine eS he ?_; rw[hcls])|with_reducible refine eS hC ?_|(with_reducible refine eV hC ?_; rw[hcB])|wp_step)
 refine h7 ?_
 rw[show ∀(a b:String) (n:Nat),Bind.check #[.positional,"*","ValueError",.self,[#["args",.varPos,l_]]] a b n^List.map (λx=>x.fst) ({pos:=cV e::rest}:Args).kw=pure ()from
  λa b n=>check_star_args _ _ _ _ _ _]
 exact UF hq
theorem QC(X:K.In h)(c:XC K nm C U)(hi:PySem.W.findIn K (.ref C) "__init__"=P3^P3^.builtin "ValueError.__init__")(hrest:rest.length<=sizeLine)
  (hq:∀h',(∀b o,h.get? b=P3 o->h'.get? b=P3 o)->h'.get? (h.objs.size+1)=P3^FN C (h.objs.size+2)->R (.ok^.ret^.ref (h.objs.size+1)) #[h',g,d,t,os]):
  codeAny (model prog w) A (.call (.ref C) #[rest,[]]) R #[h,g,d,t,os]:=by
 have F:=PySem.F.excBase_ValueError;let#[q,N,bs,sn,sub,ab,col,dd,k0,k1,k2,k3,k5,eC]:=c.obj;have hC:=X _ _ eC;have f1:=tc_lookup;have f2:=tc_bind^.ref C;have hT:(#[h,g,d,t,os]:Go).TypeIs (.ref C) "type":=#[_,hC,rfl];refine codeAny_of_tree ?_;show wpAny _ _ (callAny (.ref C) _) _ _ _
 repeat (any_goals (first|assumption|with_reducible refine eS hC ?_|wp_step))
 refine#[rfl,?_];refine codeAny_call_builtin_at (ia _^by decide +kernel) entry_typeCall^wpAny_check_type_call_sub hC ?_
 repeat (first|with_reducible refine eS hC ?_|with_reducible refine wpAny_madeBy_exc hC ?_|wp_step)
 refine codeAny_call_builtin_code (ia _ F.quiet)^UV hC ?_;refine UA hC ?_ hrest;show wpAny _ _ _ _ _ _;have kk:∀b o,h.get? b=P3 o->((h.push {cls:=.type "tuple",data:=.seq rest.toArray}).push^FN C h.objs.size).get? b=P3 o:=λb o e=>Ev _^Ev _ e;have hC₁:=kk _ _ hC;have hget:((h.push {cls:=.type "tuple",data:=.seq rest.toArray}).push^FN C h.objs.size).get? (h.objs.size+1)=P3^FN C h.objs.size:=by unfold FN; heap_get
 have hcC:(cV C::cV U::DK).contains^.ref C=k_:=by simp
 unfold isInstance;unfold FN at *
 repeat (first|with_reducible refine eS hget ?_|(with_reducible refine eV hC₁ ?_; rw[hcC])|wp_step)
 show wpAny _ _ (isSubtype (.ref C)^.ref C) _ _ _;refine eV hC₁ ?_;rw[hcC,if_neg^by cbv];refine Db^eI ?_;unfold callSpecial? specialOf
 repeat (first|with_reducible refine eS hget ?_|wp_step)
 show wpAny _ _ (typeLookup (.ref C) _) _ _ _;refine(PySem.W.looks_findIn (X.keeps kk) hi).here ?_;refine eI^Db^jN (F.init.bind _) ?_;refine Db^gO^iJ F.init.plain F.initEntry (SW hC₁ hget rfl ?_)
 wp_walk
 refine hq _ (λb o e=>?_) ?_
 .rw[ZB _ _^fm^eF^TM e]
  exact Ev _^kk b o e
 .refine(d_ (fZ (·.setIfInBounds 0^cV _)) (Ev _ hget) rfl).trans ?_
  simp only[dS];rfl
end
structure CXD (P:cm) (w:cy) (outer:List Env) (H:Hp) (s:Go) (a C:Ch) (dx:Option Ch) (B:cf) (H':Hp) (s':Go):Prop where
 os:s'.os=s.os
 bare:gM s'.gens
 un:Un (Js outer) [] H H' s.heap s'.heap
 hok:HOk P w H' B
 all:∀b o o',s.heap.get? b=P3 o->b∉Js outer->s'.heap.get? b=P3 o'->B.get? b=P3 o'
 fly:Fly B outer a C dx s'.heap
 new:s.heap.objs.size<=a
 free:H' a=j_
def Mj(P:cm)(w:cy):QX:=λouter H s E e s'=>∃a C dx B H',e=.ref a/\CXD P w outer H s a C dx B H' s'/\E (.ref C) dx H'
section
variable {P:Program}{w:World}{outer:m_ Env}{H H':Hp}{s s':Shared}{a C:Addr}{dx:n_ Addr}{B h':Heap}
theorem CXD.step(x:CXD P w outer H s a C dx B H' s')(F:Fly B outer a C dx h')(u:s'.heap.UpToSlots h'):CXD P w outer H s a C dx B H' {s' with heap:=h'}:=by
 have fr:∀b∈Js outer,∃o,s'.heap.get? b=P3 o/\∀vs,o.data≠.fields vs:=λb hb=>(x.fly.frames.mem hb).2;refine#[x.os,x.bare,#[λb o e n hb hx=>F.stays _ _^x.all b o o e hb^x.un.keep b o e n hb hx,λb o e n hb hx=>?_,x.un.free,λb o e hx=>?_,x.un.tups,x.un.frzs,x.un.tbls],x.hok,λb o o' e hb q=>?_,F,x.new,x.free]
 .let#[sl,q]:=x.un.slot b o e n hb hx
  let#[o',q',nf]:=fr b hb;rw[q]at q';cases q';let#[sl',q2]:=u b _ q nf
  grind
 .let#[o1,q]:=x.un.there b o e hx
  by_cases hb:b∈Js outer
  .let#[o',q',nf]:=fr b hb
   let#[sl',q2]:=u b _ q' nf
   grind
  .exact#[o1,F.stays _ _^x.all b o o1 e hb q]
 .let#[o1,q1]:=x.un.there b o e^by simp
  have z:=x.all b o o1 e hb q1;rw[F.stays _ _ z]at q
  grind
end
section
variable {X:Cx}{zG:m_ (Addr×Obj)}{σ:St}{H H':Hp}{s s':Shared}{a C:Addr}{dx:n_ Addr}{B:Heap}
theorem CXD.inv(x:CXD X.prog X.w X.stack H s a C dx B H' s')(I:Inv X zG σ H s):Inv X zG σ H' s':=
 I.call' x.os x.un (x.hok.kept x.fly.stays) x.bare λb z=>absurd z^by simp
theorem CXD.leave(x:CXD X.prog X.w X.stack H s a C dx B H' s')(I:Inv X zG σ H s)(hst:X.stack=X.env::X.outer)(hex:X.ex=[]):CXD X.prog X.w X.outer X.H₀ X.s₀ a C dx B H' s':=by
 have J:=x.inv I;have fl:=x.fly;rw[hst]at fl;refine#[J.os,J.bare,by have z:=J.base; grind,x.hok,λb o o' e hb q=>?_,fl.tail,c5 I.sz x.new,x.free];let#[o1,e1]:=I.base.there b o e (by grind);refine x.all b o1 o' e1 (λz=>?_) q
 rcases Tk.mp^I.stkSub b z with z|z
 .exact absurd (TM e)^by rw[z]; exact f_.mpr I.ok.above
 .exact hb z
theorem RR{P:cm}{w:cy}{K:Frag}{mg:Str->n_ Cn}{base:cf}{N:m_ Str}{qual:Str}{scope:fK}{f:Ch}{cd:Cn}{A:c_}{outer:m_ Env}{s₀:Go}{H₀:Hp}{E:XK}:
  DD (Mj P w) (D7 (Mj P w) P w K mg base N qual scope f cd A outer s₀ H₀ E) E:=by
 intro zG σ H s e s' I #[a,C,dx,B,H',he,x,q];subst he;exact P_ I.ok.frames rfl x.fly λh' f' u=>#[a,C,dx,B,H',rfl,(x.step f' u).leave I rfl rfl,q]
end
def XO(a C:Ch)(dx:n_ Ch)(h:cf):Prop:=∃vs sl,h.get? a=P3 #[.ref C,dx,.fields vs,sl]/\vs[2]?=P3 .none/\vs[1]?=P3 .none
def XF(d:Ch)(fs:m_ (Str×V))(h:cf):Prop:=∃mA,h.Ns1 d mA/\(∀f,RelO (fs.lookup f)^mA f)/\PySem.Within mA (fs.map (·.1))/\fs.length<=1000
theorem XO.ok{P:cm}{w:cy}{H:Hp}{a C:Ch}{dx:n_ Ch}{h:cf}(x:XO a C dx h):ObjOk P w H h a^.ext^XO a C dx:=by
 refine#[x,?_,λh1 h2 #[vs,sl,e,r] k=>#[vs,sl,k _ e,r]];let#[vs,sl,e,_]:=x
 simp_all
def del(H:Hp)(a:Ch):Hp:=λb=>if b=a then j_ else H b
theorem LD{H:Hp}{a b:Ch}(h:b≠a):del H a b=H b:=if_neg h
theorem F4{H:Hp}{a:Ch}:del H a a=j_:=if_pos rfl
section
variable {X:Cx}{zG:m_ (Addr×Obj)}{σ:St}{H H1:Hp}{s s1:Shared}{a C:Addr}{dx:n_ Addr}
theorem ZM(I:Inv X zG σ H s)(os:s1.os=s.os)(bare:gM s1.gens)(u:Un (Js X.stack) [] H H1 s.heap s1.heap)(hok:HOk X.prog X.w H1 s1.heap)(ea:H1 a=P3^.ext^XO a C dx)(new:s.heap.objs.size<=a):
  CXD X.prog X.w X.stack H s a C dx (PySem.W.hideAll s1.heap (a::Js X.stack)) (del H1 a) s1:=by
 have J:Inv X zG σ H1 s1:=I.call' os u hok bare λb z=>absurd z (by simp);have na:∀{b:Ch}{u:HO},H1 b=P3 u->(∀φ,u≠.ext φ)->b≠a:=λ{b u} q hu z=>by rw[z,ea]at q; exact hu _ (XV q).symm
 have of:∀{b:Ch}{u:HO},H1 b=P3 u->(∀φ,u≠.ext φ)->del H1 a b=P3 u:=λq hu=>(LD^na q hu).trans q;have nf:∀{b:Ch}{u:HO},H1 b=P3 u->b∉Js X.stack:=λ{b u} q z=>by rw[J.stkFree b z]at q; cases q
 let#[#[vs,sl,hx,h2,h1],_]:=(show ObjOk X.prog X.w H1 s1.heap a _ from hok a _ ea);refine#[os,bare,#[u.keep,u.slot,λb o q n hx=>?_,u.there,λb xs q=>of (u.tups b xs q) (by intro φ z; cases z),λb o xs q=>of (u.frzs b o xs q) (by intro φ z; cases z),λb ps q=>?_],λb o q=>?_,λb o o' q hb q'=>?_,#[λb o q=>PySem.W.of_hideAll _ q,PySem.W.hideAll_none _^by simp,PySem.W.funFrames_hide J.stack λenv he b hb=>?_,vs,sl,.none,hx,h2,h1,.inl rfl],new,F4]
 .by_cases z:b=a
  .rw[z]; exact F4
  .rw[LD z]; exact u.free b o q n hx
 .let#[m,e]:=u.tbls b ps q
  exact#[m,of e^by intro φ z; cases z]
 .have nb:b≠a:=λz=>by rw[z,F4]at q; cases q
  rw[LD nb]at q;refine(hok b o q).stay (λc v hc r=>PySem.W.hideAll_get _ r λz=>?_) (λc r=>of r^by intro φ z; cases z) λc xs r=>of r^by intro φ z; cases z
  rcases Tk.mp z with z|z
  .rcases hc with hc|hc
   .exact nb^hc.symm.trans z
   .rw[z,ea]at hc; cases hc
  .rcases hc with hc|hc
   .exact nf q (hc▸z)
   .exact nf hc z
 .refine PySem.W.hideAll_get _ q' λz=>?_
  rcases Tk.mp z with z|z
  .exact absurd (TM q)^by rw[z]; exact f_.mpr new
  .exact hb z
 .exact TW _^iZ.mpr #[env,he,hb]
end
def XS(X:Cx)(zG:m_ (Ch×Obj))(σ:St)(R:XK)(e:Cn)(s':Go):Prop:=∃H s,Inv X zG σ H s/\Mj X.prog X.w X.stack H s R e s'
def Made(X:Cx)(zG:m_ (Ch×Obj))(σ:St)(C:Ch)(R:XK)(v:Cn)(s1:Go):Prop:=∃a dx H s H1,v=.ref a/\Inv X zG σ H s/\s1.os=s.os/\gM s1.gens/\Un (Js X.stack) [] H H1 s.heap s1.heap/\HOk X.prog X.w H1 s1.heap/\H1 a=P3^.ext^XO a C dx/\s.heap.objs.size<=a/\R (.ref C) dx^del H1 a
section
variable {X:Cx}{zG:m_ (Addr×Obj)}{σ:St}{s:Shared}{C U:Addr}{nm:Str}{R:XK}
theorem PM{e:cr}{pos:Pos}{Q:Flow->Go->Prop}{E':Cn->Go->Prop}(c:XC X.K nm C U)(hh:X.A.handled=j_)(h:wpAny (model X.prog X.w) X.A (eval e X.env) (Made X zG σ C R) E' s)(hE:∀e s',XS X zG σ R e s'->E' e s'):
  wpAny (model X.prog X.w) X.A (exec (.Raise (P3 e) j_ pos) X.env) Q E' s:=by
 let#[q,N,bs,sn,sub,ab,col,dd,k0,k1,k2,k3,k5,eC]:=c.obj
 have h':wpAny (model X.prog X.w) X.A (eval e X.env) (λv s₁=>∃e dx vs sl,v=.ref e/\s₁.heap.get? C=P3^excClassObj nm q C N bs (.ref U::DK) k_ sn sub ab col dd k0 k1 k2 k3 k5 "ValueError.__new__" /\
   s₁.heap.get? e=P3 #[.ref C,dx,.fields vs,sl]/\vs[1]?=P3 .none/\E' (.ref e) s₁) E' s:=by
  refine A5 h λv s1 zz=>?_;let#[a,dx,H0,s0,H1,ev,I,os,bare,u,hok,ea,new,r]:=zz;let#[#[vs,sl,hx,h2,h1],_]:=(hok a _ ea);have J:=I.call' os u hok bare λb z=>absurd z (by simp);exact#[a,dx,vs,sl,ev,J.kIn _ _ eC,hx,h1,hE _ _ #[H0,s0,I,a,C,dx,_,_,rfl,ZM I os bare u hok ea new,r]]
 first
  |exact Db^gS (M9 rfl hh (Db^dI h' (λv s₁ h₁=>Db^gS^UF h₁) λ_ _ x=>x))
  |omega
end
section
variable {X:Cx}{zG:m_ (Addr×Obj)}{σ:St}{H:Hp}{s:Shared}{C U:Addr}{nm:Str}{R:XK}{E:Value->Shared->Prop}{us:m_ Value}
theorem Ts(c:XC X.K nm C U)(hi:PySem.W.findIn X.K (.ref C) "__init__"=P3^P3^.builtin "ValueError.__init__")(I:Inv X zG σ H s)(hl:us.length<=sizeLine)(h:R (.ref C) j_ H):wpAny (model X.prog X.w) X.A (call (.ref C) us) (Made X zG σ C R) E s:=by
 let#[hh,g,dr,t,os]:=s;have fa:=I.hok.fresh^dO _;refine gO^QC (K:=X.K) (U:=U) (nm:=nm) I.kIn c hi hl λh' kk ge=>?_;have I2:Inv X zG σ (Ah H (hh.objs.size+1) _) _:=I.laid (t':=t) kk (dO _)^XO.ok #[_,_,ge,rfl,rfl];refine#[hh.objs.size+1,j_,H,_,_,rfl,I,rfl,I.bare,Un.laid kk (dO _) fa,I2.hok,AM,dO _,?_]
 have e:del (Ah H (hh.objs.size+1)^.ext^XO (hh.objs.size+1) C j_) (hh.objs.size+1)=H:=by
  funext b
  by_cases z:b=hh.objs.size+1
  .rw[z,F4,fa]
  .rw[LD z,AI z]
 grind
end
abbrev Uk:=Ends->XK->St->Hp->Prop
abbrev X_:=XK->St->Hp->VK->Prop
def XE(X:Cx)(zG:m_ (Ch×Obj))(σ:St)(R:XK)(e:Cn)(s':Go):Prop:=X.xe e s'\/XS X zG σ R e s'
def YA(X:Cx)(st:d6)(t:Uk):Prop:=
 ∀(zG:m_ (Ch×Obj)) (s:Go) (σ:St) (H:Hp) (D:Ends) (R:XK),Inv X zG σ H s->t D R σ H->wpAny (model X.prog X.w) X.A (exec st X.env) (SP X zG D) (XE X zG σ R) s
def Sv(X:Cx)(st:m_ d6)(t:Uk):Prop:=
 ∀(zG:m_ (Ch×Obj)) (s:Go) (σ:St) (H:Hp) (D:Ends) (R:XK),Inv X zG σ H s->t D R σ H->wpAny (model X.prog X.w) X.A (execs st X.env) (SP X zG D) (XE X zG σ R) s
def bZ(X:Cx)(e:cr)(t:X_):Prop:=
 ∀(zG:m_ (Ch×Obj)) (s:Go) (σ:St) (H:Hp) (Q:VK) (R:XK),Inv X zG σ H s->t R σ H Q->wpAny (model X.prog X.w) X.A (eval e X.env) (EP X zG σ Q) (XE X zG σ R) s
section
variable {X:Cx}{st:Stmt}{t u:Uk}{te:X_}{e:Expr}{es:m_ Expr}{ta:TA}{x nm:Str}{p pos cpos:Pos}{C U f:Addr}
theorem aE{α:Type}{t:Sem α}{Q:α->Go->Prop}{zG:m_ (Ch×Obj)}{σ:St}{R:XK}{s:Go}(h:wpAny (model X.prog X.w) X.A t Q X.xe s):wpAny (model X.prog X.w) X.A t Q (XE X zG σ R) s:=dI h (λ_ _ z=>z) λ_ _ z=>.inl z
theorem PN{R:XK}(hx:DD (Mj X.prog X.w) X R)(h:YA X st t):PS X st (λD=>t D R):=λzG s σ H D I q=>
 dI (h _ s σ H D R I q) (λ_ _ z=>z) λe s' z=>z.elim id fun#[H,s,J,c]=>hx _ σ H s e s' J c
theorem RC(h1:YA X st t):Sv X [st] t:=by
 intro zG s σ H D R I h;refine jB^dI (h1 _ s σ H D R I h) (λf s1 q=>?_) λ_ _ z=>z;cases f with
 |next=>
  let#[zZ,H',J,q]:=q;exact f9 #[_,H',J,q]
 |brk=>exact q
 |cont=>exact q
 |ret v=>exact q
def av(c:TT)(t u:Uk):Uk:=λD R σ H=>c σ H λb H1=>if b=k_ then t D R σ H1 else u D R σ H1
theorem WH{c:cr}{a b:m_ d6}{tc:TT}(hc:PT X c tc)(ha:Sv X a t)(hb:Sv X b u):YA X (.If c a b pos)^av tc t u:=by
 intro zG s σ H D R I h;refine wpAny_If^A5 (aE^hc _ s σ H _ I h) λv s1 zz=>?_;let#[H1,I1,q]:=zz;cases v with
 |true=>exact ha _ s1 σ H1 D R I1 q
 |false=>exact hb _ s1 σ H1 D R I1 q
def TC(C:Ch)(ta:TA):Uk:=λ_ R σ H=>ta σ H λvs H1=>vs.length<=sizeLine/\R (.ref C) j_ H1
theorem NA(c:XC X.K nm C U)(hi:PySem.W.findIn X.K (.ref C) "__init__"=P3^P3^.builtin "ValueError.__init__")(hh:X.A.handled=j_)(hg:Gl X x)(hm:X.mg x=P3^.ref C)(ha:PA X (e::es) ta)(hdb:(x==("__debug__":Str))=l_:=by decide)(he:starEach (e::es) X.env=(l_,eval e X.env)::starEach es X.env:=by rfl)(hpl:(backTo cpos^starEach es X.env).any (·.1)=l_:=by rfl):
  YA X (.Raise (P3^.Call (.Name x p) (e::es) [] cpos) j_ pos) (TC C ta):=by
 intro zG s σ H D R I h;exact PM c hh (eN^Em I hg hm (PySem.W.callWith_K I.ok.mod.kin c.kp (A5 (aE^ha _ _ s σ H _ I h) λus s1 #[vs,H1,I1,r,hl,q]=>#[I1.kIn,Ts c hi I1 (by rw[cw,←r.length]; exact hl) q]) he hpl) hdb) λ_ _ z=>.inr z
def YV(i:Nat)(te:X_):Uk:=λD R σ H=>te R σ H λv H1=>D.nx (σ.set i^P3 v) H1
theorem TN{i:Nat}{y:Str}{pos':Pos}(hN:X.N.Nodup)(hi:X.N[i]?=P3 y)(hy:Loc X.env.scope y)(he:bZ X e te)(hs:swapsWith e (P3^.Name y pos') pos.line X.env=pure l_:=by rfl)(hf:X.fn y=k_\/X.env.scope.names.lookup y=P3 .local:=by first|exact .inl rfl|exact .inr rfl|assumption):
  YA X (.Assign [.Name y pos'] e pos) (YV i te):=λzG s σ H D R I h=>wpAny_Assign_Name (A5 (he _ s σ H _ R I h) λv s1 #[y,H1,I1,r1,q1]=>Dg I1 hN hi hy r1 (λs2 I2=>#[_,H1,I2,q1]) hf) hs
end
def Cx.hush(X:Cx)(A:c_):Cx:={X with A:=A,calm:=l_,xe:=λ_ _=>False}
section
variable {X:Cx}{A:Around}{zG:m_ (Addr×Obj)}{σ:St}{H:Hp}{s:Shared}
theorem Inv.hush(I:Inv X zG σ H s)(hf:A.frames=P3 X.stack):Inv (X.hush A) zG σ H s:=
 #[#[I.ok.mod,I.ok.kind,I.ok.glob,I.ok.blt,I.ok.above,I.ok.inj,I.ok.has,I.ok.cab,λz=>absurd (z) cx,hf,I.ok.stk,I.ok.exf,I.ok.bs,I.ok.bsz,I.ok.noex,I.ok.exfs,I.ok.funs,I.ok.frf],I.os,I.bare,I.base,I.loc,I.cell,I.free,I.freeC,I.pin,I.hok,I.len]
theorem Inv.unhush(I:Inv (X.hush A) zG σ H s)(ok:X.Ok):Inv X zG σ H s:=#[ok,I.os,I.bare,I.base,I.loc,I.cell,I.free,I.freeC,I.pin,I.hok,I.len]
end
def XT(C:Ch)(dx:n_ Ch)(a:Ch)(u:HO):Prop:=∃vs sl,u=.frz #[.ref C,dx,.fields vs,sl]^.own a/\vs[2]?=P3 .none
abbrev TH:=Ends->Ch->n_ Ch->St->Hp->Prop
def PH(X:Cx)(hs:m_ gW)(t:TH):Prop:=
 ∀(zG:m_ (Ch×Obj)) (σ:St) (D:Ends) (a C:Ch) (dx:n_ Ch) (B:cf) (H0:Hp) (s0:Go) (H:Hp) (s:Go),Inv X zG σ H0 s0->CXD X.prog X.w X.stack H0 s0 a C dx B H s->t D C dx σ H->
  wpAny (model X.prog X.w) X.A (handleBy (.ref a) X.env hs) (SP X zG D) X.xe s
section
variable {X:Cx}{pos:Pos}{body:m_ Stmt}{rest:m_ ExceptHandler}{U:Addr}{nm:Str}{th:TH}{tb:Uk}
def YD(K:Frag)(D:Ch):Prop:=∃nm q N bs bm hd sn sub ab col dd k0 k1 k2 k3 k5,K.lookup D=P3^excClassObj nm q D N bs bm hd sn sub ab col dd k0 k1 k2 k3 k5 "ValueError.__new__"/\bm.contains^.type "BaseException"=k_
theorem XC.isX{K:Frag}{C:Ch}(c:XC K nm C U):YD K C:=by
 let#[q,N,bs,sn,sub,ab,col,dd,k0,k1,k2,k3,k5,e]:=c.obj;exact#[nm,q,N,bs,_,_,sn,_,ab,_,dd,k0,k1,k2,k3,k5,e,by simp[DK]]
theorem XC.isU{K:Frag}{C:Ch}(c:XC K nm C U):YD K U:=by
 let#[q,N,bs,sn,sub,ab,col,dd,k0,k1,k2,k3,k5,hd,e]:=c.up;exact#[_,q,N,bs,_,_,sn,_,ab,_,dd,k0,k1,k2,k3,k5,e,by simp[DK]]
theorem MS{C U D:Ch}:(cV C::cV U::DK).contains^.ref D=(decide (C=D)||decide (U=D)):=by
 simp only[List.contains_cons,DK,List.contains_nil]
 have e1:∀(a b:Ch),(cV a==cV b)=decide (b=a):=λa b=>by
  grind
 have e2:∀T,(cV D==dP T)=l_:=λT=>rfl;rw[e1,e1,e2,e2,e2,e2];simp
def V1:TH:=λ_ _ _ _ _=>False
theorem WN:PH X [] V1:=λ_ _ _ _ _ _ _ _ _ _ _ _ _ h=>h.elim
def ak(tb:Uk)(th:TH):TS:=λD σ H=>tb D (λC dx H'=>∃Ca,C=.ref Ca/\th D Ca dx σ H') σ H
theorem WI{h₀:gW}(hst:X.stack=X.env::X.outer)(hfr:X.env.frame=P3 X.env.locals)(hx:∀e s,X.xe e s->False)(hb:Sv X body tb)(hh:PH X (h₀::rest) th):PS X (.Try body (h₀::rest) [] [] pos)^ak tb th:=by
 intro zG s σ H D I h;refine wpAny_Try_except^dI (hb zG s σ H D _ I h) (λf s1 q=>?_) λe s1 q=>?_
 .cases f with
  |next=>exact f9 q
  |_=>exact q
 .rcases q with q|⟨H0,s0,I0,a,C,dx,B,H',rfl,c,Ca,eC,hth⟩
  .grind
  .cases eC
   have fl:=c.fly;rw[hst]at fl;have fr:=I.ok.frames;rw[hst]at fr;refine MG fr hfr fl λh1 f1 u1=>?_;have c1:=c.step (by grind) u1;refine FL (s:={s1 with heap:=h1}) f1 λh2 f2 u2=>?_;have c2:=c1.step (by rw[hst]; exact f2) u2;exact hh zG σ D a C dx B H0 s0 H' _ I0 c2 hth
end
end L2
namespace Dp
open L2
inductive D where
 |non|bl (b:Bool)|int (i:Int)|str (x:Str)|tup (xs:List D)|lst (xs:List D)|dic (ks:List Key) (xs:List D)|fdi (ks:List Key) (xs:List D)|dit (ks:List^List Key) (xs:List D)|ob (a:Ch)
 deriving Inhabited
inductive Wc where
 |pl (d:D)|ins (C:Ch) (ks:List Str) (ds:List D)
structure Sg where
 n:Nat
 w:Ch->Option Wc
instance:HSub Sg Nat Sg:=#[λs k=>#[s.n - k,s.w]]
def QW(o:HO):Prop:=∃u,o=.vol u
def NdT(M:Ch->Prop)(H:Hp)(a:Ch)(vs:m_ V):Prop:=H a=P3^.tup vs
def NdL(M:Ch->Prop)(H:Hp)(a:Ch)(vs:m_ V):Prop:=¬M a/\H a=P3^.lst vs
def NdD(M:Ch->Prop)(H:Hp)(a:Ch)(ks:m_ Key)(vs:m_ V):Prop:=¬M a/\H a=P3^.dK^ks.zip vs
def NdF(M:Ch->Prop)(H:Hp)(a:Ch)(ks:m_ Key)(vs:m_ V):Prop:=∃o,¬M a/\H a=P3^.frz o^.dK^ks.zip vs
def NdU(M:Ch->Prop)(H:Hp)(a:Ch)(ks:m_^m_ Key)(vs:m_ V):Prop:=¬M a/\H a=P3^.dT^ks.zip vs
mutual
def At(K:Frag)(M:Ch->Prop)(H:Hp):D->V->Prop
 |.non,v=>v=.non
 |.bl b,v=>v=.bl b
 |.int i,v=>v=.int i
 |.str x,v=>v=.str x/\x.length<=sizeLine
 |.tup ds,v=>∃a vs,v=.ref a/\NdT M H a vs/\Ats K M H ds vs
 |.lst ds,v=>∃a vs,v=.ref a/\NdL M H a vs/\Ats K M H ds vs
 |.dic ks ds,v=>∃a vs,v=.ref a/\NdD M H a ks vs/\ks.length=ds.length/\Ats K M H ds vs
 |.fdi ks ds,v=>∃a vs,v=.ref a/\NdF M H a ks vs/\ks.length=ds.length/\Ats K M H ds vs
 |.dit ks ds,v=>∃a vs,v=.ref a/\NdU M H a ks vs/\ks.length=ds.length/\Ats K M H ds vs
 |.ob a,v=>v=.ref a/\∃o,H a=P3 o
def Ats(K:Frag)(M:Ch->Prop)(H:Hp):m_ D->m_ V->Prop
 |[],vs=>vs=[]
 |d::ds,vs=>∃v r,vs=v::r/\At K M H d v/\Ats K M H ds r
end
section
variable {K:Frag}{M M':Addr->Prop}{H H':Hp}{a:Addr}{vs:m_ V}{ks:m_ Key}
theorem NdT.sq(h:NdT M H a vs):SqT K H a vs:=.inl^.inl h
theorem NdL.sq(h:NdL M H a vs):SqL K H a vs:=.inl^.inl h.2
def Pres(M:Ch->Prop)(H:Hp)(M':Ch->Prop)(H':Hp):Prop:=(∀b o,H b=P3 o->¬M b->¬QW o->H' b=P3 o)/\(∀b,M' b->M b\/H b=j_)/\(∀b vs,H b=P3^.tup vs->H' b=P3^.tup vs)/\∀b o,H b=P3 o->∃o',H' b=P3 o'
theorem Pres.nd{u:HO}(p:Pres M H M' H')(n:¬M a)(h:H a=P3 u)(nv:¬QW u:=by rintro⟨_,z⟩; cases z):¬M' a/\H' a=P3 u:=by
 refine#[λz=>?_,p.1 _ _ h n nv]
 rcases p.2.1 a z with z|z
 .exact n z
 grind
theorem NdT.pres(p:Pres M H M' H')(h:NdT M H a vs):NdT M' H' a vs:=p.2.2.1 _ _ h
theorem NdL.pres(p:Pres M H M' H')(h:NdL M H a vs):NdL M' H' a vs:=p.nd h.1 h.2
theorem NdD.pres(p:Pres M H M' H')(h:NdD M H a ks vs):NdD M' H' a ks vs:=p.nd h.1 h.2
theorem NdU.pres{ks:m_^m_ Key}(p:Pres M H M' H')(h:NdU M H a ks vs):NdU M' H' a ks vs:=p.nd h.1 h.2
theorem NdF.pres(p:Pres M H M' H')(h:NdF M H a ks vs):NdF M' H' a ks vs:=let #[o,h1,h2]:=h; #[o,p.nd h1 h2]
mutual
theorem At.pres(p:Pres M H M' H'):∀{d:D}{v:V},At K M H d v->At K M' H' d v
 |.non,v,h=>h
 |.bl b,v,h=>h
 |.int i,v,h=>h
 |.str x,v,h=>h
 |.tup ds,v,h=>by
  let#[a,vs,e,hn,hs]:=h;exact#[a,vs,e,hn.pres p,Ats.pres p hs]
 |.lst ds,v,h=>by
  let#[a,vs,e,hn,hs]:=h;exact#[a,vs,e,hn.pres p,Ats.pres p hs]
 |.dic ks ds,v,h=>by
  let#[a,vs,e,hn,hl,hs]:=h;exact#[a,vs,e,hn.pres p,hl,Ats.pres p hs]
 |.fdi ks ds,v,h=>by
  let#[a,vs,e,hn,hl,hs]:=h;exact#[a,vs,e,hn.pres p,hl,Ats.pres p hs]
 |.dit ks ds,v,h=>by
  let#[a,vs,e,hn,hl,hs]:=h;exact#[a,vs,e,hn.pres p,hl,Ats.pres p hs]
 |.ob a,v,h=>#[h.1,let #[_,e]:=h.2; p.2.2.2 _ _ e]
theorem Ats.pres(p:Pres M H M' H'):∀{ds:m_ D}{vs:m_ V},Ats K M H ds vs->Ats K M' H' ds vs
 |[],vs,h=>h
 |d::ds,vs,h=>by
  let#[v,r,e,h1,h2]:=h;exact#[v,r,e,At.pres p h1,Ats.pres p h2]
end
theorem Pres.trans{M1 M2 M3:Ch->Prop}{H1 H2 H3:Hp}(p:Pres M1 H1 M2 H2)(q:Pres M2 H2 M3 H3):Pres M1 H1 M3 H3:=by
 refine#[λb o e n nv=>?_,λb z=>?_,λb vs e=>q.2.2.1 b vs^p.2.2.1 b vs e,λb o e=>?_]
 .refine q.1 b o (p.1 b o e n nv) (λz=>?_) nv
  rcases p.2.1 b z with z|z
  .exact n z
  grind
 .rcases q.2.1 b z with z|z
  .exact p.2.1 b z
  .cases e:H1 b with
   |none=>grind
   |some o=>
    let#[o',e']:=p.2.2.2 b o e;rw[e']at z; cases z
 .let#[o',e']:=p.2.2.2 b o e
  exact q.2.2.2 b o' e'
theorem Pres.refl(M:Ch->Prop)(H:Hp):Pres M H M H:=#[λ_ _ e _ _=>e,λ_ z=>.inl z,λ_ _ e=>e,λ_ o e=>#[o,e]]
theorem Pres.less(h:∀b,M' b->M b):Pres M H M' H:=#[λ_ _ e _ _=>e,λb z=>.inl^h b z,λ_ _ e=>e,λ_ o e=>#[o,e]]
theorem Ats.length:∀{ds:m_ D}{vs:m_ V},Ats K M H ds vs->vs.length=ds.length
 |[],vs,h=>by cases h; rfl
 |d::ds,vs,h=>by
  let#[v,r,e,h1,h2]:=h;subst e;rw[ce,ce,Ats.length h2]
theorem Ats.get:∀{ds:m_ D}{vs:m_ V}{i:Nat}{d:D},Ats K M H ds vs->ds[i]?=P3 d->∃v,vs[i]?=P3 v/\At K M H d v
 |[],vs,i,d,h,e=>by simp at e
 |d0::ds,vs,0,d,h,e=>by
  let#[v,r,e1,h1,h2]:=h
  simp_all
 |d0::ds,vs,i+1,d,h,e=>by
  let#[v,r,e1,h1,h2]:=h;let#[u,e2,h3]:=Ats.get h2^by simpa using e
  simp_all
theorem Ats.append:∀{ds es:m_ D}{vs us:m_ V},Ats K M H ds vs->Ats K M H es us->Ats K M H (ds++es) (vs++us)
 |[],es,vs,us,h,g=>by cases h; exact g
 |d::ds,es,vs,us,h,g=>by
  let#[v,r,e,h1,h2]:=h;subst e;exact#[v,_,rfl,h1,Ats.append h2 g]
theorem Ats.drop:∀{ds:m_ D}{vs:m_ V} (n:Nat),Ats K M H ds vs->Ats K M H (ds.drop n)^vs.drop n
 |ds,vs,0,h=>h
 |[],vs,n+1,h=>by cases h; exact rfl
 |d::ds,vs,n+1,h=>by
  let#[v,r,e,h1,h2]:=h;subst e;exact Ats.drop n h2
theorem Ats.take:∀{ds:m_ D}{vs:m_ V} (n:Nat),Ats K M H ds vs->Ats K M H (ds.take n)^vs.take n
 |ds,vs,0,h=>rfl
 |[],vs,n+1,h=>by cases h; exact rfl
 |d::ds,vs,n+1,h=>by
  let#[v,r,e,h1,h2]:=h;subst e;exact#[v,_,rfl,h1,Ats.take n h2]
theorem Ats.one{d:D}{v:V}(h:At K M H d v):Ats K M H [d] [v]:=#[v,[],rfl,h,rfl]
theorem Ats.eraseIdx:∀{ds:m_ D}{vs:m_ V} (i:Nat),Ats K M H ds vs->Ats K M H (ds.eraseIdx i)^vs.eraseIdx i
 |[],vs,i,h=>by cases h; exact rfl
 |d0::ds,vs,0,h=>by
  let#[u,r,e1,h1,h2]:=h
  grind
 |d0::ds,vs,i+1,h=>by
  let#[u,r,e1,h1,h2]:=h;subst e1;exact#[u,_,rfl,h1,Ats.eraseIdx i h2]
theorem Ats.reverse:∀{ds:m_ D}{vs:m_ V},Ats K M H ds vs->Ats K M H ds.reverse vs.reverse
 |[],vs,h=>by cases h; exact rfl
 |d::ds,vs,h=>by
  let#[v,r,e,h1,h2]:=h;subst e;rw[g9,g9];exact Ats.append (Ats.reverse h2)^Ats.one h1
end
inductive Kd where
 |sh|tp|fr
def Tops(K:Frag)(M:Ch->Prop)(H:Hp)(a:Ch):D->Prop
 |.lst ds=>∃vs,H a=P3^.lst vs/\Ats K M H ds vs
 |.dic ks ds=>∃vs,H a=P3^.dK^ks.zip vs/\ks.length=ds.length/\Ats K M H ds vs
 |.dit ks ds=>∃vs,H a=P3^.dT^ks.zip vs/\ks.length=ds.length/\Ats K M H ds vs
 |_=>False
theorem Tops.notT{K:Frag}{M:Ch->Prop}{H:Hp}{a:Ch}{d:D}(h:Tops K M H a d){vs:m_ V}:H a≠P3^.tup vs:=λq=>by
 cases d with
 |lst ds=>let#[us,e,_]:=h; grind
 |dic ks ds=>let#[us,e,_]:=h; grind
 |dit ks ds=>let#[us,e,_]:=h; grind
 |_=>exact h.elim
theorem Tops.notV{K:Frag}{M:Ch->Prop}{H:Hp}{a:Ch}{d:D}(h:Tops K M H a d){o:HO}(q:H a=P3 o):¬QW o:=fun#[u,z]=>by
 subst z;cases d with
 |lst ds=>let#[us,e,_]:=h; rw[e]at q; cases q
 |dic ks ds=>let#[us,e,_]:=h; rw[e]at q; cases q
 |dit ks ds=>let#[us,e,_]:=h; rw[e]at q; cases q
 |_=>exact h.elim
theorem Tops.pres{K:Frag}{M M':Ch->Prop}{H H':Hp}{a:Ch}{d:D}(h:Tops K M H a d)(p:Pres M H M' H')(e:∀o,H a=P3 o->H' a=P3 o):Tops K M' H' a d:=by
 cases d with
 |lst ds=>let#[vs,h1,h2]:=h; exact#[vs,e _ h1,h2.pres p]
 |dic ks ds=>let#[vs,h1,h2,h3]:=h; exact#[vs,e _ h1,h2,h3.pres p]
 |dit ks ds=>let#[vs,h1,h2,h3]:=h; exact#[vs,e _ h1,h2,h3.pres p]
 |_=>assumption
theorem Tops.at{K:Frag}{M:Ch->Prop}{H:Hp}{a:Ch}{d:D}(h:Tops K M H a d)(n:¬M a):At K M H d^.ref a:=by
 cases d with
 |lst ds=>let#[vs,h1,h2]:=h; exact#[a,vs,rfl,#[n,h1],h2]
 |dic ks ds=>let#[vs,h1,h2,h3]:=h; exact#[a,vs,rfl,#[n,h1],h2,h3]
 |dit ks ds=>let#[vs,h1,h2,h3]:=h; exact#[a,vs,rfl,#[n,h1],h2,h3]
 |_=>exact(h).elim
def AtT(K:Frag)(U:Ch->Prop)(M:Ch->Prop)(H:Hp):D->V->Prop
 |.lst ds,v=>∃a vs,v=.ref a/\¬U a/\Rd H a^.lst vs/\Ats K M H ds vs
 |.dic ks ds,v=>∃a vs,v=.ref a/\¬U a/\H a=P3^.dK^ks.zip vs/\ks.length=ds.length/\Ats K M H ds vs
 |.dit ks ds,v=>∃a vs,v=.ref a/\¬U a/\H a=P3^.dT^ks.zip vs/\ks.length=ds.length/\Ats K M H ds vs
 |d,v=>At K M H d v
theorem Tops.att{K:Frag}{U M:Ch->Prop}{H:Hp}{a:Ch}{d:D}(h:Tops K M H a d)(n:¬U a):AtT K U M H d^.ref a:=by
 cases d with
 |lst ds=>let#[vs,h1,h2]:=h; exact#[a,vs,rfl,n,.inl h1,h2]
 |dic ks ds=>let#[vs,h1,h2,h3]:=h; exact#[a,vs,rfl,n,h1,h2,h3]
 |dit ks ds=>let#[vs,h1,h2,h3]:=h; exact#[a,vs,rfl,n,h1,h2,h3]
 |_=>exact(h).elim
def VR(K:Frag)(U:Ch->Prop)(M:Ch->Prop)(H H':Hp):Kd->V->D->Prop
 |.sh,v,d=>At K M H' d v
 |.tp,v,d=>AtT K U M H' d v
 |.fr,v,d=>∃a,v=.ref a/\H a=j_/\Tops K (λb=>M b\/b=a) H' a d
def FeedOk(K:Frag)(M:Ch->Prop)(H:Hp)(f:Ch×Ch)(n:Nat):Prop:=
 ∃(at_ rest:Int) (cells:m_ Int),H f.1=P3^.lst [.ref f.2,.int at_,.int rest]/\f.2≠f.1/\NdL M H f.2^cells.map V.int/\cells.length<=63/\0<=at_/\at_+n<=2 ^ 60
mutual
def flat:D->Bool
 |.tup ds=>CK ds
 |.lst _=>l_
 |.dic _ _=>l_
 |.fdi _ _=>l_
 |.dit _ _=>l_
 |_=>k_
def CK:m_ D->Bool
 |[]=>k_
 |d::ds=>flat d&&CK ds
end
section
variable {K:Frag}{M M':Addr->Prop}{H H':Hp}
mutual
theorem Oe(t:∀b vs,H b=P3^.tup vs->H' b=P3^.tup vs)(o:∀b o,H b=P3 o->∃o',H' b=P3 o'):∀(d:D) {v:V},flat d=k_->At K M H d v->At K M' H' d v
 |.non,_,_,h=>h
 |.bl _,_,_,h=>h
 |.int _,_,_,h=>h
 |.str _,_,_,h=>h
 |.tup ds,_,f,#[a,vs,e,n,h]=>#[a,vs,e,t _ _ n,Bz t o ds f h]
 |.lst _,_,f,_=>by cases f
 |.dic _ _,_,f,_=>by cases f
 |.fdi _ _,_,f,_=>by cases f
 |.dit _ _,_,f,_=>by cases f
 |.ob _,_,_,#[e,_,h]=>#[e,o _ _ h]
theorem Bz(t:∀b vs,H b=P3^.tup vs->H' b=P3^.tup vs)(o:∀b o,H b=P3 o->∃o',H' b=P3 o'):∀(ds:m_ D) {vs:m_ V},CK ds=k_->Ats K M H ds vs->Ats K M' H' ds vs
 |[],_,_,h=>h
 |d::ds,_,f,#[v,r,e,h,hs]=>#[v,r,e,Oe t o d (dB _ _▸f:_/\_).1 h,Bz t o ds (dB _ _▸f:_/\_).2 hs]
end
end
def CellOk(K:Frag)(M:Ch->Prop)(H:Hp)(a:Ch):Wc->Prop
 |.pl (.lst ds)=>¬M a/\∃vs,H a=P3^.vol^.lst vs/\CK ds=k_/\Ats K M H ds vs
 |.pl (.dit ks ds)=>¬M a/\∃vs,H a=P3^.vol^.dT^ks.zip vs/\ks.length=ds.length/\CK ds=k_/\Ats K M H ds vs
 |.pl _=>False
 |.ins C ks ds=>∃dx vs,H a=P3^.vol^.ins C dx^ks.zip vs/\ks.length=ds.length/\CK ds=k_/\Ats K M H ds vs
def FeedC(K:Frag)(F:n_ (Ch×Ch))(M:Ch->Prop)(H:Hp)(s:Sg):Prop:=(∀f,F=P3 f->FeedOk K M H f s.n)/\∀a c,s.w a=P3 c->CellOk K M H a c
def Ext(U:Ch->Prop)(H H':Hp):Prop:=∀b o,H b=P3 o->∃o',H' b=P3 o'/\(¬U b->¬QW o->o'=o)/\∀vs,o=.tup vs->o'=o
theorem Ext.keep{U:Ch->Prop}{H H':Hp}(p:Ext U H H'){b:Ch}{o:HO}(e:H b=P3 o)(n:¬U b)(nv:¬QW o:=by rintro⟨_,z⟩; cases z):H' b=P3 o:=by
 let#[o',q,r,_]:=p b o e;rw[q,r n nv]
theorem Ext.tup{U:Ch->Prop}{H H':Hp}(p:Ext U H H'){b:Ch}{vs:m_ V}(e:H b=P3^.tup vs):H' b=P3^.tup vs:=by
 let#[o',q,_,r]:=p b _ e
 grind
theorem Ext.free{U:Ch->Prop}{H H':Hp}(p:Ext U H H'){b:Ch}(e:H' b=j_):H b=j_:=by
 cases q:H b with
 |none=>rfl
 |some o=>
  let#[o',z,_]:=p b o q
  grind
theorem Ext.refl(U:Ch->Prop)(H:Hp):Ext U H H:=λ_ o e=>#[o,e,λ_ _=>rfl,λ_ _=>rfl]
theorem Ext.trans{U:Ch->Prop}{H1 H2 H3:Hp}(p:Ext U H1 H2)(q:Ext U H2 H3):Ext U H1 H3:=λb o e=>by
 let#[o',e1,r1,t1]:=p b o e;let#[o2,e2,r2,t2]:=q b o' e1;exact#[o2,e2,λn v=>(r2 n^by rw[r1 n v]; exact v).trans^r1 n v,λvs z=>(t2 vs^(t1 vs z).trans z).trans^t1 vs z]
def Grow(H H':Hp):Prop:=H'=H\/∃p o,H p=j_/\H'=Ah H p o
theorem Grow.all{H H':Hp}(g:Grow H H'):∀b o,H b=P3 o->H' b=P3 o:=by
 intro b o e
 rcases g with rfl|⟨p,u,n,rfl⟩
 .exact e
 .rw[AI^AU e n]; exact e
theorem Grow.refl{H:Hp}:Grow H H:=.inl rfl
theorem Grow.ext{U:Ch->Prop}{H H':Hp}(g:Grow H H'):Ext U H H':=λb o e=>#[o,g.all b o e,λ_ _=>rfl,λ_ _=>rfl]
theorem Grow.pres{M:Ch->Prop}{H H':Hp}(g:Grow H H'):Pres M H M H':=#[λb o e _ _=>g.all b o e,λ_ z=>.inl z,λb vs e=>g.all b _ e,λb o e=>#[o,g.all b o e]]
theorem FeedOk.pres{K:Frag}{M M':Ch->Prop}{H H':Hp}{f:Ch×Ch}{n:Nat}(h:FeedOk K M H f n)(p:Pres M H M' H')(e:∀o,H f.1=P3 o->H' f.1=P3 o):FeedOk K M' H' f n:=by
 let#[a,r,cs,h1,h2,h3,h4]:=h;exact#[a,r,cs,e _ h1,h2,h3.pres p,h4]
theorem CellOk.to{K:Frag}{M M':Ch->Prop}{H H':Hp}{a:Ch}{c:Wc}(h:CellOk K M H a c)(m:∀u,H a=P3^.vol u->¬M a->¬M' a)(t:∀b vs,H b=P3^.tup vs->H' b=P3^.tup vs)(o:∀b o,H b=P3 o->∃o',H' b=P3 o')(e:∀u,H a=P3^.vol u->H' a=P3^.vol u):CellOk K M' H' a c:=by
 cases c with
 |ins C ks ds=>let#[dx,vs,h1,h2,h3,h4]:=h; exact#[dx,vs,e _ h1,h2,h3,Bz t o _ h3 h4]
 |pl d=>cases d with
  |lst ds=>let#[h0,vs,h1,h3,h4]:=h; exact#[m _ h1 h0,vs,e _ h1,h3,Bz t o _ h3 h4]
  |dit ks ds=>let#[h0,vs,h1,h2,h3,h4]:=h; exact#[m _ h1 h0,vs,e _ h1,h2,h3,Bz t o _ h3 h4]
  |_=>exact h.elim
theorem FeedC.pres{K:Frag}{F:n_ (Ch×Ch)}{M M':Ch->Prop}{H H':Hp}{n:Sg}(h:FeedC K F M H n)(p:Pres M H M' H')(e:∀f o,F=P3 f->H f.1=P3 o->H' f.1=P3 o)(v:∀a u,H a=P3^.vol u->H' a=P3^.vol u):FeedC K F M' H' n:=#[λf hf=>(h.1 f hf).pres p λo q=>e f o hf q,λa c q=>(h.2 a c q).to (λu q n z=>(p.2.1 a z).elim n λz=>by rw[q]at z; cases z) p.2.2.1 p.2.2.2^v a]
theorem FeedC.grow{K:Frag}{F:n_ (Ch×Ch)}{M:Ch->Prop}{H H':Hp}{n:Sg}(h:FeedC K F M H n)(g:Grow H H'):FeedC K F M H' n:=h.pres g.pres (λf o _ e=>g.all _ o e) λa u e=>g.all a _ e
theorem FeedC.more{K:Frag}{F:n_ (Ch×Ch)}{M:Ch->Prop}{H:Hp}{n:Sg}(h:FeedC K F M H n)(a:Ch)(ha:∀f,F=P3 f->f.2≠a)(hv:∀u,H a≠P3^.vol u):FeedC K F (λb=>M b\/b=a) H n:=by
 refine#[λf hf=>?_,λb c q=>?_]
 .let#[x,r,cs,h1,h2,h3,h4]:=h.1 f hf
  exact#[x,r,cs,h1,h2,#[λz=>z.elim h3.1^ha f hf,h3.2],h4]
 .have k:∀u,H b=P3^.vol u->b≠a:=λu e z=>hv u (z▸e)
  have h:=h.2 b c q;cases c with
  |ins C ks ds=>let#[dx,vs,h1,h2,h3,h4]:=h; exact#[dx,vs,h1,h2,h3,Bz (λ_ _ z=>z) (λ_ o z=>#[o,z]) _ h3 h4]
  |pl d=>cases d with
   |lst ds=>let#[h0,vs,h1,h3,h4]:=h; exact#[λz=>z.elim h0^k _ h1,vs,h1,h3,Bz (λ_ _ z=>z) (λ_ o z=>#[o,z]) _ h3 h4]
   |dit ks ds=>let#[h0,vs,h1,h2,h3,h4]:=h; exact#[λz=>z.elim h0^k _ h1,vs,h1,h2,h3,Bz (λ_ _ z=>z) (λ_ o z=>#[o,z]) _ h3 h4]
   |_=>exact h.elim
def AtX(K:Frag)(M:Ch->Prop)(H:Hp)(a:Ch)(nm:Str)(ks:m_ Str)(ds:m_ D):Prop:=∃C U dx u vs,XC K nm C U/\(¬M a/\H a=P3 u)/\XT C dx a u/\(dx=j_/\ks=[]/\vs=[]\/∃d,dx=P3 d/\¬M d/\H d=P3^.ext^XF d^ks.zip vs)/\ks.length=ds.length/\Ats K M H ds vs
theorem AtX.pres{K:Frag}{M M':Ch->Prop}{H H':Hp}{a:Ch}{nm:Str}{ks:m_ Str}{ds:m_ D}(h:AtX K M H a nm ks ds)(p:Pres M H M' H'):AtX K M' H' a nm ks ds:=by
 let#[C,U,dx,u,vs,c,#[n,ha],x,hd,hl,hs]:=h;refine#[C,U,dx,u,vs,c,p.nd n ha (by let#[_,_,rfl,_]:=x; rintro⟨_,z⟩; cases z),x,?_,hl,hs.pres p]
 rcases hd with z|⟨d,e1,n1,h1⟩
 .exact .inl z
 .exact .inr #[d,e1,p.nd n1 h1]
inductive Slot where
 |no|sh (d:D)|br (d:D)|fd|ow (d:D)|lt (a:Ch) (d:D)|ex (a:Ch) (nm:Str) (ks:List Str) (ds:List D)
def Slot.owns:Slot->Bool
 |.ow _=>k_
 |.lt _ _=>k_
 |_=>l_
def SlotOk(K:Frag)(F:n_ (Ch×Ch))(U:Ch->Prop)(M:Ch->Prop)(H:Hp):Slot->n_ V->Prop
 |.no,_=>True
 |.sh d,o=>∃v,o=P3 v/\At K M H d v
 |.br d,o=>∃v,o=P3 v/\AtT K U M H d v
 |.fd,o=>∃f,o=P3^.ref f.1/\F=P3 f
 |.ow d,o=>∃a,o=P3^.ref a/\M a/\¬U a/\Tops K M H a d
 |.lt a d,o=>o=P3^.ref a/\M a/\¬U a/\Tops K M H a d
 |.ex a nm ks ds,o=>o=P3^.ref a/\AtX K M H a nm ks ds
structure Fm where
 M0:Ch->Prop
 F:Option (Ch×Ch)
 U:Ch->Prop
 V:Ch->Prop
 H0:Hp
 zG:List ((Ch->Prop)×Hp)
 kp:List (Ch×HO)
def Apart(ρ:m_ Slot)(σ:L2.St):Prop:=∀(i j:Nat) (s t:Slot) (a:Ch),ρ[i]?=P3 s->s.owns=k_->ρ[j]?=P3 t->t.owns=k_->(σ[i]?).getD j_=P3^.ref a->(σ[j]?).getD j_=P3^.ref a->i=j
structure Rel (K:Frag) (C:Fm) (M:Ch->Prop) (H:Hp) (n:Sg) (ρ:List Slot) (σ:L2.St):Prop where
 len:ρ.length=σ.length
 sub:∀a,C.M0 a->M a
 dom:∀a,M a->∃o,H a=P3 o
 ext:Ext C.U C.H0 H
 fU:∀f,C.F=P3 f->C.U f.1
 uV:∀a,C.U a->C.V a
 vM:∀a,C.V a->M a
 feed:FeedC K C.F M H n
 sl:∀(i:Nat) (s:Slot),ρ[i]?=P3 s->SlotOk K C.F C.V M H s ((σ[i]?).getD j_)
 pin:∀p∈C.zG,Pres p.1 p.2 M H
 br0:∀(i:Nat) (d:D) (a:Ch),ρ[i]?=P3^.br d->(σ[i]?).getD j_=P3^.ref a->∃o,C.H0 a=P3 o
 new:∀(i:Nat) (s:Slot) (a:Ch),ρ[i]?=P3 s->s.owns=k_->(σ[i]?).getD j_=P3^.ref a->¬C.M0 a/\C.H0 a=j_
 two:Apart ρ σ
 kept:∀p∈C.kp,H p.1=P3 p.2/\(M p.1/\¬QW p.2)/\¬C.V p.1/\∀(i:Nat) (d:D),ρ[i]?=P3^.ow d->(σ[i]?).getD j_≠P3^.ref p.1
section
variable {K:Frag}{C:Fm}{M:Addr->Prop}{H H':Hp}{n n':Sg}{ρ:m_ Slot}{σ:L2.St}{d:D}{v:V}{κ:Kd}
theorem Rel.pres(R:Rel K C M H n ρ σ)(e:Ext C.U H H'):Pres M H M H':=#[λb o q nb nv=>e.keep q (λz=>nb^R.vM b^R.uV b z) nv,λ_ z=>.inl z,λb vs q=>e.tup q,λb o q=>let #[o',h,_]:=e b o q; #[o',h]]
theorem AtT.pres{U V':Ch->Prop}{M':Ch->Prop}(h:AtT K V' M H d v)(p:Pres M H M' H')(e:Ext U H H')(uV:∀a,U a->V' a):AtT K V' M' H' d v:=by
 cases d with
 |lst ds=>
  let#[a,vs,e1,n1,hq,hs]:=h;refine#[a,vs,e1,n1,?_,hs.pres p]
  rcases hq with hq|⟨o,hq⟩
  .exact .inl^e.keep hq λz=>n1^uV a z
  .exact .inr #[o,e.keep hq λz=>n1^uV a z]
 |dic ks ds=>
  let#[a,vs,e1,n1,hq,hl,hs]:=h;exact#[a,vs,e1,n1,e.keep hq λz=>n1^uV a z,hl,hs.pres p]
 |dit ks ds=>
  let#[a,vs,e1,n1,hq,hl,hs]:=h;exact#[a,vs,e1,n1,e.keep hq λz=>n1^uV a z,hl,hs.pres p]
 |non=>assumption
 |bl b=>assumption
 |int i=>assumption
 |str x=>assumption
 |tup ds=>exact At.pres p h
 |fdi ks ds=>exact At.pres p h
 |ob a=>exact At.pres p h
theorem AtT.same{U V':Ch->Prop}{M':Ch->Prop}(h:AtT K U M H d v)(p:Pres M H M' H')(e:∀a o,v=.ref a->H a=P3 o->H' a=P3 o)(nv:∀a,v=.ref a->¬U a->¬V' a):AtT K V' M' H' d v:=by
 cases d with
 |lst ds=>
  let#[a,vs,e1,n1,hq,hs]:=h;refine#[a,vs,e1,nv a e1 n1,?_,hs.pres p]
  rcases hq with hq|⟨o,hq⟩
  .exact .inl^e a _ e1 hq
  .exact .inr #[o,e a _ e1 hq]
 |dic ks ds=>
  let#[a,vs,e1,n1,hq,hl,hs]:=h;exact#[a,vs,e1,nv a e1 n1,e a _ e1 hq,hl,hs.pres p]
 |dit ks ds=>
  let#[a,vs,e1,n1,hq,hl,hs]:=h;exact#[a,vs,e1,nv a e1 n1,e a _ e1 hq,hl,hs.pres p]
 |non=>assumption
 |bl b=>assumption
 |int i=>assumption
 |str x=>assumption
 |tup ds=>exact At.pres p h
 |fdi ks ds=>exact At.pres p h
 |ob a=>exact At.pres p h
theorem AtT.lies{U:Ch->Prop}{a:Ch}(h:AtT K U M H d^.ref a):∃o,H a=P3 o:=by
 cases d with
 |lst ds=>
  let#[b,vs,e,_,hq,_]:=h;cases e
  rcases hq with hq|⟨o,hq⟩
  .exact#[_,hq]
  grind
 |dic ks ds=>
  let#[b,vs,e,_,hq,_]:=h
  grind
 |dit ks ds=>
  let#[b,vs,e,_,hq,_]:=h
  grind
 |non=>cases(h)
 |bl b=>cases(h)
 |int i=>cases(h)
 |str x=>cases(h).1
 |tup ds=>
  let#[b,vs,e,hq,_]:=h;cases e;exact#[_,hq]
 |fdi ks ds=>
  let#[b,vs,e,#[o,_,hq],_]:=h
  simp_all
 |ob b=>let#[e,h]:=h; cases e; exact h
theorem SlotOk.pres{F:n_ (Ch×Ch)}{U V' M':Ch->Prop}{s:Slot}{o:n_ V}(h:SlotOk K F V' M H s o)(p:Pres M H M' H')(m:∀a,M a->M' a)(e:Ext U H H')(uV:∀a,U a->V' a):SlotOk K F V' M' H' s o:=by
 cases s with
 |no=>trivial
 |sh d=>let#[v,e1,h1]:=h; exact#[v,e1,h1.pres p]
 |ex a nm ks ds=>let#[e1,h1]:=h; exact#[e1,h1.pres p]
 |br d=>let#[v,e1,h1]:=h; exact#[v,e1,h1.pres p e uV]
 |fd=>exact h
 |ow d=>let#[a,e1,h1,h2,h3]:=h; exact#[a,e1,m a h1,h2,h3.pres p λo q=>e.keep q (λz=>h2^uV a z)^h3.notV q]
 |lt a d=>let#[e1,h1,h2,h3]:=h; exact#[e1,m a h1,h2,h3.pres p λo q=>e.keep q (λz=>h2^uV a z)^h3.notV q]
theorem Rel.step(R:Rel K C M H n ρ σ)(e:Ext C.U H H')(f:FeedC K C.F M H' n'):Rel K C M H' n' ρ σ:=by
 have p:=R.pres e;refine#[R.len,R.sub,λa z=>?_,R.ext.trans e,R.fU,R.uV,R.vM,f,λi s q=>(R.sl i s q).pres p (λ_ z=>z) e R.uV,λq hq=>(R.pin q hq).trans p,R.br0,R.new,R.two,λq hq=>?_]
 .let#[o,h1]:=R.dom a z
  let#[o',h2,_]:=e a o h1
  grind
 .let#[h1,h2,h3,h4]:=R.kept q hq
  exact#[e.keep h1 (λz=>h3^R.uV _ z) h2.2,h2,h3,h4]
theorem Rel.udom(R:Rel K C M H n ρ σ):∀a,C.U a->∃o,H a=P3 o:=λa z=>R.dom a^R.vM a^R.uV a z
theorem At.tp{U:Ch->Prop}(uM:∀a,U a->M a)(h:At K M H d v):AtT K U M H d v:=by
 cases d with
 |lst ds=>
  let#[a,vs,e,hn,hs]:=h;exact#[a,vs,e,λz=>hn.1^uM a z,.inl hn.2,hs]
 |dic ks ds=>
  let#[a,vs,e,hn,hl,hs]:=h;exact#[a,vs,e,λz=>hn.1^uM a z,hn.2,hl,hs]
 |dit ks ds=>
  let#[a,vs,e,hn,hl,hs]:=h;exact#[a,vs,e,λz=>hn.1^uM a z,hn.2,hl,hs]
 |non=>exact h
 |bl b=>exact h
 |int i=>exact h
 |str x=>exact h
 |tup ds=>exact h
 |fdi ks ds=>exact h
 |ob a=>exact h
theorem VR.back{U V':Ch->Prop}{H1:Hp}(e:Ext U H H1)(h:VR K V' M H1 H' κ v d):VR K V' M H H' κ v d:=by
 cases κ with
 |sh=>exact h
 |tp=>exact h
 |fr=>
  let#[a,e1,h1,h2]:=h;exact#[a,e1,e.free h1,h2]
theorem VR.shOf{U:Ch->Prop}(dom:∀a,M a->∃o,H a=P3 o)(h:VR K U M H H' κ v d)(hk:κ≠.tp):At K M H' d v:=by
 cases κ with
 |sh=>exact h
 |tp=>grind
 |fr=>
  let#[a,rfl,h1,h2]:=h;refine(h2.pres (Pres.less λ_ z=>.inl z) λ_ z=>z).at λz=>?_
  grind
theorem VR.tpOf{U:Ch->Prop}(dom:∀a,M a->∃o,H a=P3 o)(uM:∀a,U a->M a)(h:VR K U M H H' κ v d):AtT K U M H' d v:=by
 cases κ with
 |sh=>exact At.tp uM h
 |tp=>exact h
 |fr=>exact At.tp uM^VR.shOf dom h^by grind
theorem Hq{α:Type}{l:m_ α}{i j:Nat}{x y:α}(h:(l.set i x)[j]?=P3 y):(j=i/\i<l.length/\y=x)\/(j≠i/\l[j]?=P3 y):=by
 rw[List.getElem?_set]at h
 by_cases e:i=j
 .simp_all
 .rw[if_neg e]at h
  exact .inr #[λz=>e z.symm,h]
theorem KY{l:L2.St}{i j:Nat}{x:n_ V}(h:j≠i):((l.set i x)[j]?).getD j_=(l[j]?).getD j_:=by
 rw[List.getElem?_set,if_neg λz=>h z.symm]
theorem Qx{l:L2.St}{i:Nat}{x:n_ V}(h:i<l.length):((l.set i x)[i]?).getD j_=x:=by
 simp_all
theorem Rel.set(R:Rel K C M H n ρ σ){i:Nat}(h:At K M H d v):Rel K C M H n (ρ.set i^.sh d)^σ.set i^P3 v:=by
 have two:∀(j:Nat) (s:Slot),(ρ.set i^.sh d)[j]?=P3 s->s.owns=k_->ρ[j]?=P3 s/\((σ.set i^P3 v)[j]?).getD j_=(σ[j]?).getD j_:=λj s q o=>by
  rcases Hq q with⟨_,_,rfl⟩|⟨hj,q⟩
  .cases o
  .exact#[q,KY hj]
 refine#[by rw[gi,gi]; exact R.len,R.sub,R.dom,R.ext,R.fU,R.uV,R.vM,R.feed,λj s q=>?_,R.pin,λj e a q q2=>?_,λj s a q o q2=>?_,λj k s t a q1 o1 q2 o2 z1 z2=>?_,λp hp=>?_]
 .rcases Hq q with⟨rfl,hl,rfl⟩|⟨hj,q⟩
  .rw[Qx^by rw[←R.len]; exact hl]
   exact#[v,rfl,h]
  .rw[KY hj]
   exact R.sl j s q
 .rcases Hq q with⟨_,_,e⟩|⟨hj,q⟩
  .cases e
  .rw[KY hj]at q2
   exact R.br0 j e a q q2
 .let#[q1,e]:=two j s q o
  rw[e]at q2;exact R.new j s a q1 o q2
 .let#[p1,e1]:=two j s q1 o1
  let#[p2,e2]:=two k t q2 o2;rw[e1]at z1;rw[e2]at z2;exact R.two j k s t a p1 o1 p2 o2 z1 z2
 .let#[h1,h2,h3,h4]:=R.kept p hp
  refine#[h1,h2,h3,λj e q=>?_];let#[q1,e2]:=two j _ q rfl;rw[e2];exact h4 j e q1
theorem Rel.owner(R:Rel K C M H n ρ σ){i:Nat}{s:Slot}(h:ρ[i]?=P3 s)(o:s.owns=k_):∃a e,(σ[i]?).getD j_=P3^.ref a/\M a/\¬C.V a/\Tops K M H a e/\¬C.M0 a/\C.H0 a=j_:=by
 have q:=R.sl i s h;cases s with
 |ow d=>let#[a,e1,h1,h2,h3]:=q; exact#[a,d,e1,h1,h2,h3,R.new i _ a h o e1]
 |lt a d=>let#[e1,h1,h2,h3]:=q; exact#[a,d,e1,h1,h2,h3,R.new i _ a h o e1]
 |_=>cases o
theorem Rel.setOw(R:Rel K C M H n ρ σ){i:Nat}{a:Ch}(e:Ext C.U H H')(f:FeedC K C.F M H' n')(ha:H a=j_)(h:Tops K (λb=>M b\/b=a) H' a d):
  Rel K C (λb=>M b\/b=a) H' n' (ρ.set i^.ow d) (σ.set i^P3^.ref a):=by
 have R1:=R.step e f
 have ne:∀b,M b->b≠a:=λb z q=>by
  let#[o,w]:=R.dom b z;rw[q,ha]at w; cases w
 have a0:¬C.M0 a/\C.H0 a=j_:=#[λz=>ne a (R.sub a z) rfl,R.ext.free ha];have pr:Pres M H (λb=>M b\/b=a) H':=#[λb o q nb nv=>e.keep q (λz=>nb^R.vM b^R.uV b z) nv,λb z=>z.elim .inl λz=>.inr (by rw[z]; exact ha),λb vs q=>e.tup q,λb o q=>let #[o',h,_]:=e b o q; #[o',h]]
 have two:∀(j:Nat) (s:Slot),(ρ.set i^.ow d)[j]?=P3 s->(j=i/\s=.ow d/\((σ.set i^P3^.ref a)[j]?).getD j_=P3^.ref a)\/(j≠i/\ρ[j]?=P3 s/\((σ.set i^P3^.ref a)[j]?).getD j_=(σ[j]?).getD j_):=λj s q=>by
  rcases Hq q with⟨rfl,hl,rfl⟩|⟨hj,q⟩
  .exact .inl #[rfl,rfl,Qx^by rw[←R.len]; exact hl]
  .exact .inr #[hj,q,KY hj]
 have old:∀(j:Nat) (s:Slot) (b:Ch),ρ[j]?=P3 s->s.owns=k_->(σ[j]?).getD j_=P3^.ref b->b≠a:=λj s b q o z=>by
  let#[c,_,e1,m,_]:=R.owner q o;rw[e1]at z;cases z;exact ne _ m
 have hd:∃o,H' a=P3 o:=by
  cases d with
  |lst ds=>let#[vs,q,_]:=h; exact#[_,q]
  |dic ks ds=>let#[vs,q,_]:=h; exact#[_,q]
  |dit ks ds=>let#[vs,q,_]:=h; exact#[_,q]
  |_=>exact(show False from h).elim
 refine#[by rw[gi,gi]; exact R.len,λb z=>.inl^R.sub b z,λb z=>?_,R1.ext,R.fU,R.uV,λb z=>.inl^R.vM b z,f.more a (λg hg q=>?_) λu z=>h.notV z #[u,rfl],λj s q=>?_,λq hq=>(R.pin q hq).trans pr,λj e2 b q q2=>?_,λj s b q o q2=>?_,λj k s t b q1 o1 q2 o2 z1 z2=>?_,λp hp=>?_]
 .rcases z with z|z
  .exact R1.dom b z
  .rw[z]; exact hd
 .let#[_,_,_,_,_,h3,_]:=R.feed.1 g hg
  have:=h3.2
  rw[q,ha]at this; cases this
 .rcases two j s q with⟨rfl,rfl,e1⟩|⟨hj,q1,e1⟩
  .rw[e1]
   exact#[a,rfl,.inr rfl,λz=>ne a (R.vM a z) rfl,h]
  .rw[e1]
   exact(R.sl j s q1).pres pr (λ_ z=>.inl z) e R.uV
 .rcases two j _ q with⟨_,e1,_⟩|⟨hj,q1,e1⟩
  .cases e1
  .rw[e1]at q2
   exact R.br0 j e2 b q1 q2
 .rcases two j s q with⟨_,_,e1⟩|⟨hj,q1,e1⟩
  .rw[e1]at q2
   cases q2;exact a0
  .rw[e1]at q2
   exact R.new j s b q1 o q2
 .rcases two j s q1 with⟨rfl,_,e1⟩|⟨hj,p1,e1⟩
  .rw[e1]at z1
   cases z1
   rcases two k t q2 with⟨rfl,_,_⟩|⟨hk,p2,e2⟩
   .rfl
   .rw[e2]at z2
    exact absurd rfl (old k t a p2 o2 z2)
  .rw[e1]at z1
   rcases two k t q2 with⟨rfl,_,e2⟩|⟨hk,p2,e2⟩
   .rw[e2]at z2
    cases z2;exact absurd rfl (old j s a p1 o1 z1)
   .rw[e2]at z2
    exact R.two j k s t b p1 o1 p2 o2 z1 z2
 .let#[h1,h2,h3,h4]:=R1.kept p hp
  refine#[h1,#[.inl h2.1,h2.2],h3,λj e2 q=>?_]
  rcases two j _ q with⟨_,_,e1⟩|⟨hj,q1,e1⟩
  .rw[e1]
   intro z;cases z;exact ne _ h2.1 rfl
  .rw[e1]
   exact h4 j e2 q1
theorem Rel.mut(R:Rel K C M H n ρ σ){i:Nat}{a:Ch}{e:D}{o:HO}(hi:ρ[i]?=P3^.ow d)(ha:(σ[i]?).getD j_=P3^.ref a)(h:Tops K M (Ah H a o) a e):
  Rel K C M (Ah H a o) n (ρ.set i^.ow e) σ:=by
 let#[b,_,e1,m,nv,t,n0,h0]:=R.owner hi rfl;rw[ha]at e1;cases e1;have pr:Pres M H M^Ah H a o:=#[λb o' q nb _=>by rw[AI λz=>nb^by rw[z]; exact m]; exact q,λ_ z=>.inl z,λb vs q=>by rw[AI λz=>t.notT^by rw[←z]; exact q]; exact q,λb o' q=>(fR (b=a)).elim (λz=>#[o,by rw[z,AM]]) λz=>#[o',by rw[AI z]; exact q]]
 have old:∀(j:Nat) (s:Slot),(ρ.set i^.ow e)[j]?=P3 s->(j=i/\s=.ow e)\/(j≠i/\ρ[j]?=P3 s):=λj s q=>by
  rcases Hq q with⟨rfl,hl,rfl⟩|⟨hj,q⟩
  .exact .inl #[rfl,rfl]
  .exact .inr #[hj,q]
 have far:∀(j:Nat) (s:Slot) (b:Ch),j≠i->ρ[j]?=P3 s->s.owns=k_->(σ[j]?).getD j_=P3^.ref b->b≠a:=λj s b hj q o z w=>by
  subst w;exact hj (R.two j i s _ b q o hi rfl z ha)
 refine#[by rw[gi]; exact R.len,R.sub,λb z=>?_,λb o' q=>?_,R.fU,R.uV,R.vM,R.feed.pres pr (λf o' hf q=>?_) (λb u q=>by rw[AI λz=>t.notV (by rw[←z]; exact q) #[u,rfl]]; exact q),λj s q=>?_,λq hq=>(R.pin q hq).trans pr,λj e2 b q q2=>?_,λj s b q o2 q2=>?_,λj k s t b q1 o1 q2 o2 z1 z2=>?_,λp hp=>?_]
 .by_cases hb:b=a
  .exact#[o,by rw[hb,AM]]
  .let#[o',q]:=R.dom b z
   exact#[o',by rw[AI hb]; exact q]
 .let#[o2,q2,r]:=R.ext b o' q
  have hb:b≠a:=λz=>by rw[z,h0]at q; cases q
  exact#[o2,by rw[AI hb]; exact q2,r]
 .have hb:f.1≠a:=λz=>nv^by rw[←z]; exact R.uV _^R.fU f hf
  rw[AI hb]; exact q
 .rcases old j s q with⟨rfl,rfl⟩|⟨hj,q1⟩
  .rw[ha]
   exact#[a,rfl,m,nv,h]
  .have q2:=R.sl j s q1
   cases s with
   |no=>trivial
   |sh d=>let#[v,e1,h1]:=q2; exact#[v,e1,h1.pres pr]
   |ex a nm ks ds=>let#[e1,h1]:=q2; exact#[e1,h1.pres pr]
   |br d=>
    let#[v,e1,h1]:=q2;refine#[v,e1,h1.same pr (λb o' z q=>?_) λ_ _ z=>z];subst z;let#[o3,w]:=R.br0 j d b q1 e1;rw[AI λz=>by rw[z,h0]at w; cases w];exact q
   |fd=>exact q2
   |ow d=>
    let#[b,e1,h1,h2,h3]:=q2;exact#[b,e1,h1,h2,h3.pres pr λo' w=>by rw[AI (far j _ b hj q1 rfl e1)]; exact w]
   |lt b d=>
    let#[e1,h1,h2,h3]:=q2;exact#[e1,h1,h2,h3.pres pr λo' w=>by rw[AI (far j _ b hj q1 rfl e1)]; exact w]
 .rcases old j _ q with⟨_,e1⟩|⟨hj,q1⟩
  .cases e1
  .exact R.br0 j e2 b q1 q2
 .rcases old j s q with⟨rfl,_⟩|⟨hj,q1⟩
  .exact R.new j _ b hi rfl q2
  .exact R.new j s b q1 o2 q2
 .rcases old j s q1 with⟨rfl,rfl⟩|⟨hj,p1⟩
  .rcases old k t q2 with⟨rfl,_⟩|⟨hk,p2⟩
   .rfl
   .exact R.two j k _ t b hi rfl p2 o2 z1 z2
  .rcases old k t q2 with⟨rfl,rfl⟩|⟨hk,p2⟩
   .exact R.two j k s _ b p1 o1 hi rfl z1 z2
   .exact R.two j k s t b p1 o1 p2 o2 z1 z2
 .let#[h1,h2,h3,h4]:=R.kept p hp
  have hb:p.1≠a:=λz=>h4 i d hi (by rw[ha,z]);refine#[by rw[AI hb]; exact h1,h2,h3,λj e2 q=>?_]
  rcases old j _ q with⟨rfl,_⟩|⟨hj,q1⟩
  .exact h4 j d hi
  .exact h4 j e2 q1
end
abbrev DW:=Sg->m_ Slot->(D->Sg->Prop)->Prop
abbrev FU:=Sg->m_ Slot->(Bool->Sg->Prop)->Prop
abbrev Dr:=Sg->m_ Slot->(m_ D->Sg->Prop)->Prop
abbrev LX:=Sg->m_ Slot->(m_ Slot->Sg->Prop)->Prop
section
variable (X:Cx)
def DE(e:cr)(κ:Kd)(w:DW):Prop:=∃t,PE X e t/\∀(C:Fm) (M:Ch->Prop) (H:Hp) (n:Sg) (ρ:m_ Slot) (σ:L2.St) (P:D->Sg->Prop) (Q:VK),Rel X.K C M H n ρ σ->w n ρ P->
 (∀v H' d n',Ext C.U H H'->FeedC X.K C.F M H' n'->VR X.K C.V M H H' κ v d->P d n'->Q v H')->t σ H Q
def DT(e:cr)(w:FU):Prop:=∃t,PT X e t/\∀(C:Fm) (M:Ch->Prop) (H:Hp) (n:Sg) (ρ:m_ Slot) (σ:L2.St) (P:Bool->Sg->Prop) (Q:Bool->Hp->Prop),Rel X.K C M H n ρ σ->w n ρ P->
 (∀b H' n',Ext C.U H H'->FeedC X.K C.F M H' n'->P b n'->Q b H')->t σ H Q
def DTW(e:cr)(w:FU):Prop:=∃t,PW X e t/\∀(C:Fm) (M:Ch->Prop) (H:Hp) (n:Sg) (ρ:m_ Slot) (σ:L2.St) (P:Bool->Sg->Prop) (Q:Bool->Hp->Prop),Rel X.K C M H n ρ σ->w n ρ P->
 (∀b H' n',Ext C.U H H'->FeedC X.K C.F M H' n'->P b n'->Q b H')->t σ H Q
def Uo(es:m_ cr)(w:Dr):Prop:=∃t,PA X es t/\∀(C:Fm) (M:Ch->Prop) (H:Hp) (n:Sg) (ρ:m_ Slot) (σ:L2.St) (P:m_ D->Sg->Prop) (Q:m_ V->Hp->Prop),Rel X.K C M H n ρ σ->w n ρ P->
 (∀vs H' ds n',Ext C.U H H'->FeedC X.K C.F M H' n'->Paired (λv d=>AtT X.K C.V M H' d v) vs ds->P ds n'->Q vs H')->t σ H Q
def Um(es:m_ cr)(w:Dr):Prop:=∃t,PA X es t/\∀(C:Fm) (M:Ch->Prop) (H:Hp) (n:Sg) (ρ:m_ Slot) (σ:L2.St) (P:m_ D->Sg->Prop) (Q:m_ V->Hp->Prop),Rel X.K C M H n ρ σ->w n ρ P->
 (∀vs H' ds n',Ext C.U H H'->FeedC X.K C.F M H' n'->Ats X.K M H' ds vs->P ds n'->Q vs H')->t σ H Q
def DF(K:Frag)(F:n_ (Ch×Ch))(V' M:Ch->Prop)(H:Hp)(v:V)(s:Slot):Prop:=SlotOk K F V' M H s^P3 v/\s.owns=l_
def aR(e:cr)(w:Sg->m_ Slot->(Slot->Sg->Prop)->Prop):Prop:=∃t,PE X e t/\∀(C:Fm) (M:Ch->Prop) (H:Hp) (n:Sg) (ρ:m_ Slot) (σ:L2.St) (P:Slot->Sg->Prop) (Q:VK),Rel X.K C M H n ρ σ->w n ρ P->
 (∀v H' s n',Ext C.U H H'->FeedC X.K C.F M H' n'->DF X.K C.F C.V M H' v s->P s n'->Q v H')->t σ H Q
def Mi(es:m_ cr)(w:LX):Prop:=∃t,PA X es t/\∀(C:Fm) (M:Ch->Prop) (H:Hp) (n:Sg) (ρ:m_ Slot) (σ:L2.St) (P:m_ Slot->Sg->Prop) (Q:m_ V->Hp->Prop),Rel X.K C M H n ρ σ->w n ρ P->
 (∀vs H' ss n',Ext C.U H H'->FeedC X.K C.F M H' n'->Paired (DF X.K C.F C.V M H') vs ss->P ss n'->Q vs H')->t σ H Q
end
def AG(i:Nat):DW:=λn ρ P=>match ρ[i]? with
 |some (.sh d)=>P d n
 |_=>False
def CB(i:Nat):DW:=λn ρ P=>match ρ[i]? with
 |some (.sh d)=>P d n
 |some (.br d)=>P d n
 |some (.ow d)=>P d n
 |some (.lt _ d)=>P d n
 |_=>False
def wC(d:D):DW:=λn _ P=>P d n
section
variable {X:Cx}{a b c e:Expr}{κ zT zO:Kd}{wa wb:DW}{pos:Pos}
theorem getD_some{σ:L2.St}{i:Nat}{v:V}(h:(σ[i]?).getD j_=P3 v):σ[i]?=P3^P3 v:=by
 cases q:σ[i]? with
 |none=>simp_all
 |some o=>simp_all
theorem UN{i:Nat}(h:PE X e^Bw i):DE X e .sh^AG i:=by
 refine#[_,h,λC M H n ρ σ P Q R w q=>?_];unfold AG at w
 split at w
 .rename_i d hd
  let#[v,e1,h1]:=R.sl i _ hd;exact#[v,getD_some e1,q v H d n (Ext.refl _ _) R.feed h1 w]
 grind
theorem SN{i:Nat}(h:PE X e^Bw i):DE X e .tp^CB i:=by
 refine#[_,h,λC M H n ρ σ P Q R w q=>?_];unfold CB at w
 split at w
 .rename_i d hd
  let#[v,e1,h1]:=R.sl i _ hd;exact#[v,getD_some e1,q v H d n (Ext.refl _ _) R.feed (At.tp R.vM h1) w]
 .rename_i d hd
  let#[v,e1,h1]:=R.sl i _ hd;exact#[v,getD_some e1,q v H d n (Ext.refl _ _) R.feed h1 w]
 .rename_i d hd
  let#[a,e1,_,h2,h3]:=R.sl i _ hd;exact#[.ref a,getD_some e1,q _ H d n (Ext.refl _ _) R.feed (h3.att h2) w]
 .rename_i a d hd
  let#[e1,_,h2,h3]:=R.sl i _ hd;exact#[.ref a,getD_some e1,q _ H d n (Ext.refl _ _) R.feed (h3.att h2) w]
 .exact w.elim
theorem dv(i:Nat){x:Str}{pos:Pos}(hN:X.N[i]?=P3 x:=by rfl)(hv:VZ X.env.scope x:=by first|exact eA rfl|exact fu (eA rfl)|exact fu (fu rfl))(hd:(x==("__debug__":Str))=l_:=by decide)
  (hcd:(x==("__classdict__":Str))=l_:=by decide):DE X (.Name x pos) .sh^AG i:=UN^Kj hN hv hd hcd
theorem IY(i:Nat){x:Str}{pos:Pos}(hN:X.N[i]?=P3 x:=by rfl)(hv:VZ X.env.scope x:=by first|exact eA rfl|exact fu (eA rfl)|exact fu (fu rfl))(hd:(x==("__debug__":Str))=l_:=by decide)
  (hcd:(x==("__classdict__":Str))=l_:=by decide):DE X (.Name x pos) .tp^CB i:=SN^Kj hN hv hd hcd
theorem EZ{d:D}{v:V}(h:PE X e^tC v)(hd:∀M H,At X.K M H d v):DE X e .sh^wC d:=
 #[_,h,λC M H n ρ σ P Q R w q=>q v H d n (Ext.refl _ _) R.feed (hd M H) w]
theorem AC{i:Int}{j pos}:DE X (.Constant (.int i) j pos) .sh^wC^.int i:=EZ Aq λ_ _=>rfl
theorem CL{b:Bool}{j pos}:DE X (.Constant (.bool b) j pos) .sh^wC^.bl b:=EZ Y3 λ_ _=>rfl
theorem Az{j pos}:DE X (.Constant .none j pos) .sh^wC .non:=EZ WS λ_ _=>rfl
theorem AX{x:Str}{j pos}(hx:decide (x.length<=1000)=k_:=by rfl):DE X (.Constant (.str x) j pos) .sh^wC^.str x:=
 EZ WQ λ_ _=>#[rfl,c5 (of_decide_eq_true hx)^by cbv]
theorem Ot{x:Str}{i:Int}{t:Tok}{pos:Pos}(hg:Gl X x)(hm:X.mg x=P3^.int i t)(hd:(x==("__debug__":Str))=l_:=by decide):DE X (.Name x pos) .sh^wC^.int i:=
 EZ (Tb hg hm (v:=.int i) #[t,rfl] hd) λ_ _=>rfl
def Eu(K:Frag)(κ:Kd)(r:R2)(f:D->D->(D->Prop)->Prop):Prop:=∀(U:Ch->Prop) (M:Ch->Prop) (H:Hp) (d e:D) (x y:V) (P:D->Prop) (Q:VK),(∀a,M a->∃o,H a=P3 o)->(∀a,U a->M a)->
 AtT K U M H d x->AtT K U M H e y->f d e P->(∀v H' z,Grow H H'->VR K U M H H' κ v z->P z->Q v H')->r x y H Q
def As(f:D->D->(D->Prop)->Prop)(wa wb:DW):DW:=λn ρ P=>wa n ρ λx n1=>wb n1 ρ λy n2=>f x y λz=>P z n2
theorem Ec{r:R2}{f:D->D->(D->Prop)->Prop}(hA:Eu X.K κ r f){ta tb:TE}(ha:∀(C:Fm) (M:Ch->Prop) (H:Hp) (n:Sg) (ρ:m_ Slot) (σ:L2.St) (P:D->Sg->Prop) (Q:VK),Rel X.K C M H n ρ σ->wa n ρ P->
   (∀v H' d n',Ext C.U H H'->FeedC X.K C.F M H' n'->VR X.K C.V M H H' zT v d->P d n'->Q v H')->ta σ H Q)
  (hb:∀(C:Fm) (M:Ch->Prop) (H:Hp) (n:Sg) (ρ:m_ Slot) (σ:L2.St) (P:D->Sg->Prop) (Q:VK),Rel X.K C M H n ρ σ->wb n ρ P->
   (∀v H' d n',Ext C.U H H'->FeedC X.K C.F M H' n'->VR X.K C.V M H H' zO v d->P d n'->Q v H')->tb σ H Q)
  (C:Fm) (M:Ch->Prop) (H:Hp) (n:Sg) (ρ:m_ Slot) (σ:L2.St) (P:D->Sg->Prop) (Q:VK) (R:Rel X.K C M H n ρ σ) (w:As f wa wb n ρ P)
  (q:∀v H' d n',Ext C.U H H'->FeedC X.K C.F M H' n'->VR X.K C.V M H H' κ v d->P d n'->Q v H'):Df r ta tb σ H Q:=by
 refine ha C M H n ρ σ _ _ R w λx H1 d n1 e1 f1 r1 w1=>?_;have R1:=R.step e1 f1;refine hb C M H1 n1 ρ σ _ _ R1 w1 λy H2 e n2 e2 f2 r2 w2=>?_;have R2':=R1.step e2 f2;exact hA _ M H2 d e x y _ _ R2'.dom R2'.vM ((r1.tpOf R.dom R.vM).pres (R1.pres e2) e2 R.uV) (r2.tpOf R1.dom R1.vM) w2 λv H3 z g vr p=>q v H3 z n2 ((e1.trans e2).trans g.ext) (f2.grow g) (VR.back (e1.trans e2) vr) p
theorem Ai{op:Operator}{r:R2}{f:D->D->(D->Prop)->Prop}(ho:OpR X (binaryOp op) r)(hA:Eu X.K κ r f)(ha:DE X a zT wa)(hb:DE X b zO wb):DE X (.BinOp a op b pos) κ^As f wa wb:=by
 let#[ta,ha1,ha2]:=ha;let#[tb,hb1,hb2]:=hb;exact#[_,Bm ho ha1 hb1,λC M H n ρ σ P Q R w q=>Ec hA ha2 hb2 C M H n ρ σ P Q R w q]
theorem Zg{r:R2}{f:D->D->(D->Prop)->Prop}(ho:IxR X r)(hA:Eu X.K κ r f)(ha:DE X a zT wa)(hb:DE X b zO wb)(hs:LW b:=by intro _ _; rfl):DE X (.Subscript a b pos) κ^As f wa wb:=by
 let#[ta,ha1,ha2]:=ha;let#[tb,hb1,hb2]:=hb;exact#[_,EA ho ha1 hb1 hs,λC M H n ρ σ P Q R w q=>Ec hA ha2 hb2 C M H n ρ σ P Q R w q]
theorem Bb{op:CmpOp}{r:R2}{f:D->D->(D->Prop)->Prop}(ho:OpR X (compareOp op) r)(hA:Eu X.K .sh r f)(ha:DE X a zT wa)(hb:DE X b zO wb)(hm:behindInMarks op b=l_):DE X (.Compare a [op] [b] pos) .sh^As f wa wb:=by
 let#[ta,ha1,ha2]:=ha;let#[tb,hb1,hb2]:=hb;exact#[_,Te ho ha1 hb1 hm,λC M H n ρ σ P Q R w q=>Ec hA ha2 hb2 C M H n ρ σ P Q R w q]
def Ae(w:DW):FU:=λn ρ P=>w n ρ λd n1=>match d with
 |.bl b=>P b n1
 |_=>False
theorem Fb{U:Ch->Prop}{K:Frag}{M:Ch->Prop}{H H':Hp}{v:V}{b:Bool}(h:VR K U M H H' κ v^.bl b):v=.bl b:=by
 cases κ with
 |sh=>exact h
 |tp=>exact h
 |fr=>let#[a,_,_,t]:=h; exact(t).elim
theorem W1{op:CmpOp}{r:R2}{f:D->D->(D->Prop)->Prop}(ho:OpR X (compareOp op) r)(hA:Eu X.K .sh r f)(ha:DE X a zT wa)(hb:DE X b zO wb)(hm:behindInMarks op b=l_):DT X (.Compare a [op] [b] pos)^Ae^As f wa wb:=by
 let#[ta,ha1,ha2]:=ha;let#[tb,hb1,hb2]:=hb;refine#[_,Fe ho ha1 hb1 hm,λC M H n ρ σ P Q R w q=>?_];refine Ec hA ha2 hb2 C M H n ρ σ _ _ R w λv H' d n' e f r p=>?_;cases d with
 |bl b=>exact#[b,Fb r,q b H' n' e f p]
 |_=>exact p.elim
theorem BH(h:DE X e κ wa)(he:∀whole,isTrue e X.env whole=(do let v ←whole; standAt e.pos; holding [v]^truthy v):=by intro _; rfl):DT X e^Ae wa:=by
 let#[t,h1,h2]:=h;refine#[_,WF h1 he,λC M H n ρ σ P Q R w q=>?_];refine h2 C M H n ρ σ _ _ R w λv H' d n' e f r p=>?_;cases d with
 |bl b=>exact#[b,Fb r,q b H' n' e f p]
 |_=>exact p.elim
def Ge(u v:FU):FU:=λn ρ P=>u n ρ λc n1=>if c=k_ then v n1 ρ P else P l_ n1
def aW(u v:FU):FU:=λn ρ P=>u n ρ λc n1=>if c=k_ then P k_ n1 else v n1 ρ P
def Hc(u:FU):FU:=λn ρ P=>u n ρ λc n1=>P (!c) n1
variable {wA wB:FU}{rest:m_ Expr}
theorem F1(h:DT X a wA):DTW X (.BoolOp .And [a] pos) wA:=by
 let#[t,h1,h2]:=h;exact#[t,OD h1,h2]
theorem EX(h:DT X a wA):DTW X (.BoolOp .Or [a] pos) wA:=by
 let#[t,h1,h2]:=h;exact#[t,WE h1,h2]
theorem GW(ha:DT X a wA)(hb:DTW X (.BoolOp .And (b::rest) pos) wB):DTW X (.BoolOp .And (a::b::rest) pos)^Ge wA wB:=by
 let#[t,h1,h2]:=ha;let#[u,g1,g2]:=hb;refine#[_,Q_ h1 g1,λC M H n ρ σ P Q R w q=>?_];refine h2 C M H n ρ σ _ _ R w λc H1 n1 e1 f1 p=>?_;cases c with
 |false=>exact q _ H1 n1 e1 f1 p
 |true=>exact g2 C M H1 n1 ρ σ P Q (R.step e1 f1) p λb H2 n2 e2 f2 p2=>q b H2 n2 (e1.trans e2) f2 p2
theorem Fz(ha:DT X a wA)(hb:DTW X (.BoolOp .Or (b::rest) pos) wB):DTW X (.BoolOp .Or (a::b::rest) pos)^aW wA wB:=by
 let#[t,h1,h2]:=ha;let#[u,g1,g2]:=hb;refine#[_,Y0 h1 g1,λC M H n ρ σ P Q R w q=>?_];refine h2 C M H n ρ σ _ _ R w λc H1 n1 e1 f1 p=>?_;cases c with
 |true=>exact q _ H1 n1 e1 f1 p
 |false=>exact g2 C M H1 n1 ρ σ P Q (R.step e1 f1) p λb H2 n2 e2 f2 p2=>q b H2 n2 (e1.trans e2) f2 p2
theorem DTW.dt(h:DTW X e wA):DT X e wA:=by
 let#[t,h1,h2]:=h;exact#[t,h1.pt,h2]
theorem B5(ha:DT X a wA):DT X (.UnaryOp .Not a pos)^Hc wA:=by
 let#[t,h1,h2]:=ha;exact#[_,WG h1,λC M H n ρ σ P Q R w q=>h2 C M H n ρ σ _ _ R w λc H1 n1 e1 f1 p=>q _ H1 n1 e1 f1 p]
def af(u v:DW):DW:=λn ρ P=>u n ρ λc n1=>match c with
 |.bl k_=>v n1 ρ P
 |.bl l_=>P (.bl l_) n1
 |_=>False
def aC(u v:DW):DW:=λn ρ P=>u n ρ λc n1=>match c with
 |.bl k_=>P (.bl k_) n1
 |.bl l_=>v n1 ρ P
 |_=>False
def aX(u:DW):DW:=λn ρ P=>u n ρ λc n1=>match c with
 |.bl b=>P (.bl (!b)) n1
 |_=>False
theorem D6{op}(h:DE X a κ wa):DE X (.BoolOp op [a] pos) κ wa:=by
 assumption
theorem Ea(ha:DE X a zT wa)(hb:DE X (.BoolOp .And (b::rest) pos) .sh wb):DE X (.BoolOp .And (a::b::rest) pos) .sh^af wa wb:=by
 let#[t,h1,h2]:=ha;let#[u,g1,g2]:=hb;refine#[_,WU h1 g1,λC M H n ρ σ P Q R w q=>?_];refine h2 C M H n ρ σ _ _ R w λc H1 d n1 e1 f1 r1 p=>?_;cases d with
 | bl k=>
  refine#[k,Fb r1,?_];cases k with
  |false=>exact q _ H1 _ n1 e1 f1 (show VR _ _ M H H1 _ _^.bl _ from rfl) p
  |true=>
   exact g2 C M H1 n1 ρ σ P Q (R.step e1 f1) p λv H2 d n2 e2 f2 r2 p2=>q v H2 d n2 (e1.trans e2) f2 r2 p2
 |_=>exact p.elim
theorem VS(ha:DE X a zT wa)(hb:DE X (.BoolOp .Or (b::rest) pos) .sh wb):DE X (.BoolOp .Or (a::b::rest) pos) .sh^aC wa wb:=by
 let#[t,h1,h2]:=ha;let#[u,g1,g2]:=hb;refine#[_,Y2 h1 g1,λC M H n ρ σ P Q R w q=>?_];refine h2 C M H n ρ σ _ _ R w λc H1 d n1 e1 f1 r1 p=>?_;cases d with
 | bl k=>
  refine#[k,Fb r1,?_];cases k with
  |true=>exact q _ H1 _ n1 e1 f1 (show VR _ _ M H H1 _ _^.bl _ from rfl) p
  |false=>
   exact g2 C M H1 n1 ρ σ P Q (R.step e1 f1) p λv H2 d n2 e2 f2 r2 p2=>q v H2 d n2 (e1.trans e2) f2 r2 p2
 |_=>exact p.elim
theorem XB(ha:DE X a zT wa):DE X (.UnaryOp .Not a pos) .sh^aX wa:=by
 let#[t,h1,h2]:=ha;refine#[_,WR h1,λC M H n ρ σ P Q R w q=>?_];refine h2 C M H n ρ σ _ _ R w λc H1 d n1 e1 f1 r1 p=>?_;cases d with
 |bl k=>exact#[k,Fb r1,q _ H1 _ n1 e1 f1 (show VR _ _ M H H1 _ _^.bl _ from rfl) p]
 |_=>exact p.elim
def Sy(t:FU)(u v:DW):DW:=λn ρ P=>t n ρ λc n1=>if c=k_ then u n1 ρ P else v n1 ρ P
theorem E5(hc:DT X c wA)(ha:DE X a κ wa)(hb:DE X b κ wb):DE X (.IfExp c a b pos) κ^Sy wA wa wb:=by
 let#[t,h1,h2]:=hc;let#[u,g1,g2]:=ha;let#[u',k1,k2]:=hb;refine#[_,Lz h1 g1 k1,λC M H n ρ σ P Q R w q=>?_];refine h2 C M H n ρ σ _ _ R w λc H1 n1 e1 f1 p=>?_;cases c with
 |true=>exact g2 C M H1 n1 ρ σ P Q (R.step e1 f1) p λv H2 d n2 e2 f2 r2 p2=>q v H2 d n2 (e1.trans e2) f2 (VR.back e1 r2) p2
 |false=>exact k2 C M H1 n1 ρ σ P Q (R.step e1 f1) p λv H2 d n2 e2 f2 r2 p2=>q v H2 d n2 (e1.trans e2) f2 (VR.back e1 r2) p2
def A7:Dr:=λn _ P=>P [] n
def AZ(w:DW)(ws:Dr):Dr:=λn ρ P=>w n ρ λd n1=>ws n1 ρ λds n2=>P (d::ds) n2
variable {es:m_ Expr}{ws:Dr}
theorem AT:Uo X [] A7:=#[_,Cj,λC M H n ρ σ P Q R w q=>q [] H [] n (Ext.refl _ _) R.feed .nil w]
theorem AJ:Um X [] A7:=#[_,Cj,λC M H n ρ σ P Q R w q=>q [] H [] n (Ext.refl _ _) R.feed rfl w]
theorem AO(ha:DE X e κ wa)(hr:Uo X es ws)(hs:starEach (e::es) X.env=(l_,eval e X.env)::starEach es X.env:=by rfl):Uo X (e::es)^AZ wa ws:=by
 let#[t,h1,h2]:=ha;let#[u,g1,g2]:=hr;refine#[_,BK h1 g1 hs,λC M H n ρ σ P Q R w q=>?_];refine h2 C M H n ρ σ _ _ R w λv H1 d n1 e1 f1 r1 p=>?_;have R1:=R.step e1 f1;exact g2 C M H1 n1 ρ σ _ _ R1 p λvs H2 ds n2 e2 f2 r2 p2=>q _ H2 _ n2 (e1.trans e2) f2 (.cons ((r1.tpOf R.dom R.vM).pres (R1.pres e2) e2 R.uV) r2) p2
theorem AD(ha:DE X e κ wa)(hr:Um X es ws)(hk:κ≠.tp:=by intro z; cases z)(hs:starEach (e::es) X.env=(l_,eval e X.env)::starEach es X.env:=by rfl):Um X (e::es)^AZ wa ws:=by
 let#[t,h1,h2]:=ha;let#[u,g1,g2]:=hr;refine#[_,BK h1 g1 hs,λC M H n ρ σ P Q R w q=>?_];refine h2 C M H n ρ σ _ _ R w λv H1 d n1 e1 f1 r1 p=>?_;have R1:=R.step e1 f1;exact g2 C M H1 n1 ρ σ _ _ R1 p λvs H2 ds n2 e2 f2 r2 p2=>q _ H2 (d::ds) n2 (e1.trans e2) f2 #[v,vs,rfl,(r1.shOf R.dom hk).pres^R1.pres e2,r2] p2
def DU(ws:Dr):DW:=λn ρ P=>ws n ρ λds n1=>ds.length<=sizeLine/\P (.tup ds) n1
def Mn(ws:Dr):DW:=λn ρ P=>ws n ρ λds n1=>ds.length<=sizeLine/\P (.lst ds) n1
theorem D5{M:Ch->Prop}{H:Hp}{p:Ch}{o:HO}(h:H p=j_):Pres M H (λb=>M b\/b=p)^Ah H p o:=#[λb u e _ _=>by rw[AI^AU e h]; exact e,λb z=>z.elim .inl λz=>.inr^by grind,λb vs e=>by rw[AI^AU e h]; exact e,λb u e=>#[u,by rw[AI^AU e h]; exact e]]
theorem Ad{H:Hp}{p:Ch}{o:HO}(h:H p=j_):Grow H^Ah H p o:=.inr #[p,o,h,rfl]
theorem AV{x1}(h:Um X es ws):DE X (.Tuple es x1 pos) .sh^DU ws:=by
 let#[t,h1,h2]:=h;refine#[_,WO h1,λC M H n ρ σ P Q R w q=>?_];refine h2 C M H n ρ σ _ _ R w λvs H1 ds n1 e1 f1 r1 p=>?_;refine#[by rw[r1.length]; exact p.1,λa ha=>?_];have g:Grow H1^Ah H1 a^.tup vs:=Ad ha;refine q _ _ (.tup ds) n1 (e1.trans g.ext) (f1.grow g) #[a,vs,rfl,AM,r1.pres g.pres] p.2
theorem DA(h:Um X es ws):DE X (.List es pos) .fr^Mn ws:=by
 let#[t,h1,h2]:=h;refine#[_,Kl h1,λC M H n ρ σ P Q R w q=>?_];refine h2 C M H n ρ σ _ _ R w λvs H1 ds n1 e1 f1 r1 p=>?_;refine#[by rw[r1.length]; exact p.1,λa ha=>?_];have g:Grow H1^Ah H1 a^.lst vs:=Ad ha;exact q _ _ (.lst ds) n1 (e1.trans g.ext) (f1.grow g) (VR.back e1 #[a,rfl,ha,vs,AM,r1.pres^D5 ha]) p.2
def Cf(K:Frag)(κ:Kd)(r:m_ V->Hp->VK->Prop)(f:m_ D->(D->Prop)->Prop):Prop:=∀(U:Ch->Prop) (M:Ch->Prop) (H:Hp) (ds:m_ D) (vs:m_ V) (P:D->Prop) (Q:VK),(∀a,M a->∃o,H a=P3 o)->(∀a,U a->M a)->
 Paired (λv d=>AtT K U M H d v) vs ds->f ds P->(∀v H' z,Grow H H'->VR K U M H H' κ v z->P z->Q v H')->r vs H Q
def Sz(f:m_ D->(D->Prop)->Prop)(ws:Dr):DW:=λn ρ P=>ws n ρ λds n1=>f ds λz=>P z n1
theorem VU{r:m_ V->Hp->VK->Prop}{f:m_ D->(D->Prop)->Prop}{t:TA}(hA:Cf X.K κ r f)(h2:∀(C:Fm) (M:Ch->Prop) (H:Hp) (n:Sg) (ρ:m_ Slot) (σ:L2.St) (P:m_ D->Sg->Prop) (Q:m_ V->Hp->Prop),Rel X.K C M H n ρ σ->ws n ρ P->
   (∀vs H' ds n',Ext C.U H H'->FeedC X.K C.F M H' n'->Paired (λv d=>AtT X.K C.V M H' d v) vs ds->P ds n'->Q vs H')->t σ H Q)
  (C:Fm) (M:Ch->Prop) (H:Hp) (n:Sg) (ρ:m_ Slot) (σ:L2.St) (P:D->Sg->Prop) (Q:VK) (R:Rel X.K C M H n ρ σ) (w:Sz f ws n ρ P)
  (q:∀v H' d n',Ext C.U H H'->FeedC X.K C.F M H' n'->VR X.K C.V M H H' κ v d->P d n'->Q v H'):aF r t σ H Q:=by
 refine h2 C M H n ρ σ _ _ R w λvs H1 ds n1 e1 f1 r1 p=>?_;have R1:=R.step e1 f1;exact hA _ M H1 ds vs _ _ R1.dom R1.vM r1 p λv H2 z g vr pz=>q v H2 z n1 (e1.trans g.ext) (f1.grow g) (VR.back e1 vr) pz
theorem AY{x:Str}{id:String}{p:Pos}{r:m_ V->Hp->VK->Prop}{f:m_ D->(D->Prop)->Prop}(hc:B9 X (.builtin id) r)(hA:Cf X.K κ r f)(hg:Gl X x)(hm:X.mg x=j_)(hv:bootBuiltins x=P3^.builtin id)(ha:Uo X (e::es) ws)
  (hn:x ≠ "__name__":=by decide) (hdb:(x==("__debug__":Str))=l_:=by decide)
  (he:starEach (e::es) X.env=(l_,eval e X.env)::starEach es X.env:=by rfl) (hpl:(backTo pos^starEach es X.env).any (·.1)=l_:=by rfl):DE X (.Call (.Name x p) (e::es) [] pos) κ^Sz f ws:=by
 let#[t,h1,h2]:=ha;exact#[_,Fi hc hg hm hv h1 hn hdb he hpl,λC M H n ρ σ P Q R w q=>VU hA h2 C M H n ρ σ P Q R w q]
theorem QF{x:Str}{T:String}{p:Pos}{r:m_ V->Hp->VK->Prop}{f:m_ D->(D->Prop)->Prop}(hc:B9 X (.type T) r)(hA:Cf X.K κ r f)(hg:Gl X x)(hm:X.mg x=j_)(hv:bootBuiltins x=P3^.type T)(ha:Uo X (e::es) ws)
  (hn:x ≠ "__name__":=by decide) (hdb:(x==("__debug__":Str))=l_:=by decide)
  (he:starEach (e::es) X.env=(l_,eval e X.env)::starEach es X.env:=by rfl) (hpl:(backTo pos^starEach es X.env).any (·.1)=l_:=by rfl):DE X (.Call (.Name x p) (e::es) [] pos) κ^Sz f ws:=by
 let#[t,h1,h2]:=ha;exact#[_,Jf hc hg hm hv h1 hn hdb he hpl,λC M H n ρ σ P Q R w q=>VU hA h2 C M H n ρ σ P Q R w q]
end
end Dp
namespace L2
def be(z:Str):It:=#[λi _=>i<z.cps.size,λi H x H'=>H'=H/\∃c,z.cps[i]?=P3 c/\x=.str #[#[ c]],λi _=>z.cps.size<=i]
theorem Lg{P:cm}{w:cy}{K:Frag}{tg:cr}(it:Ch)(z:Str)(t:Tok)(ty:String)(hty:ty="str_ascii_iterator"\/ty="str_iterator")
  (W:∀A':c_,A'.handled=j_->Walks P w A' it [it] [it] z.cps.size (SignAt z) λi h=>h.IsStrIter it ty z t i):Turn P w K tg (be z) [it] it (λi h=>h.IsStrIter it ty z t i) where
 mem:=by simp
 obj:=λi h st b hb=>by
  have e:b=it:=by simpa using hb
  subst e;let#[o,e,c,d]:=st;exact#[o,e,λv z=>by rw[d]at z; cases z]
 keep:=λi h h' st k=>let #[o,ho,r]:=st; #[o,k it (by simp) o ho,r]
 item:=by
  intro X hP hw hK hc i zG s σ H E I hf st hg;subst hP hw hK;let#[f0,f1,f2,f3,f4,f5]:=hf it (by simp);refine(W X.A^I.ok.hd hc).item i s _ _ hg st λv h' tk hv st' kk=>?_;let#[c,u,hcu,rfl]:=hv;have I1:Inv X zG σ H {s with heap:=h',toks:=tk}:=I.turned (λb o hb e=>kk b o (by simpa using hb) e) f0 f1 f3 f4 f5;let#[o,e,cc,d]:=id st';exact#[_,rfl,MF (s:={s with heap:=h',toks:=tk}) e cc d (by rcases hty with rfl|rfl <;>decide) #[.str #[#[ c]],H,I1,#[_,rfl],#[rfl,c,hcu,rfl],st',λb hb=>(hf b hb).1]]
 done:=by
  intro X hP hw hK hc i zG s σ H E I hf st hg;subst hP hw hK;let#[f0,f1,f2,f3,f4,f5]:=hf it^by simp
  have hx:z.cps[i]?=j_:=by
   have:z.cps.size<=i:=hg
   simp[this]
  rcases hty with rfl|rfl
  .exact wpAny_pyNext_ascii_end (I.ok.hd hc) st hx λh' eb=>#[rfl,I.turned (t':=s.toks) (λb o hb e=>eb b o hb e) f0 f1 f3 f4 f5]
  .exact wpAny_pyNext_wide_end (I.ok.hd hc) st hx λh' eb=>#[rfl,I.turned (t':=s.toks) (λb o hb e=>eb b o hb e) f0 f1 f3 f4 f5]
 self:=λA i s Q E st h=>by
  rcases hty with rfl|rfl
  .exact wpAny_pyIter_striter_ascii st h
  .exact wpAny_pyIter_striter_wide st h
section
variable {X:Cx}{tg:Expr}
def bK(K:Frag)(tl:TE):TI:=λσ H R=>tl σ H λx H1=>
 (∃a,x=.ref a/\(∃xs,SqL K H1 a xs)/\R (bh K a) H1)\/(∃a,x=.ref a/\(∃xs,SqT K H1 a xs)/\R (Xz K a) H1)\/∃z,x=.str z/\R (be z) H1
theorem NC{l:cr}{tl:TE}(hl:PE X l tl):PI X tg l^bK X.K tl:=by
 intro zG s σ H R I h;refine A5 (hl zG s σ H _ I h) λv s1 zz=>?_;let#[x,H1,I1,r1,q1]:=zz
 have hne:∀b,b∈[s1.heap.objs.size]->GB X zG H1 b:=λb hb=>by
  have e:b=s1.heap.objs.size:=by simpa using hb
  subst e;exact I1.fpOk (Rs _)^I1.hok.fresh^Rs _
 rcases q1 with⟨a,e,⟨xs,hq⟩,q⟩|⟨a,e,⟨xs,hq⟩,q⟩|⟨z,e,q⟩
 .subst e
  cases r1;let#[its,rv,p,hz]:=I1.list hq;refine eT p.isList ?_;exact#[s1.heap.objs.size,[s1.heap.objs.size],_,_,H1,rfl,I1.kept (t':=s1.toks) λb o e=>Ev _ e,PB a _,#[_,Re _ rfl,rfl,rfl],hne,q]
 .subst e
  cases r1;let#[its,rv,p,hz]:=I1.tuple hq;refine dh (show s1.heap.IsTuple a its.toArray from p) ?_;exact#[s1.heap.objs.size,[s1.heap.objs.size],_,_,H1,rfl,I1.kept (t':=s1.toks) λb o e=>Ev _ e,Hf a _,#[_,Re _ rfl,rfl,rfl],hne,q]
 .subst e
  let#[t,rfl]:=r1;cases ha:z.cps.all (·<128)
  .refine wpAny_pyIter_wide ha ?_
   exact#[s1.heap.objs.size,[s1.heap.objs.size],_,_,H1,rfl,I1.kept (t':=s1.toks) λb o e=>Ev _ e,Lg _ z t "str_iterator" (.inr rfl) λA' hA=>Walks.strWide hA _ z t,#[_,Re _ rfl,rfl,rfl],hne,q]
  .refine wpAny_pyIter_ascii ha ?_
   exact#[s1.heap.objs.size,[s1.heap.objs.size],_,_,H1,rfl,I1.kept (t':=s1.toks) λb o e=>Ev _ e,Lg _ z t "str_ascii_iterator" (.inl rfl) λA' hA=>Walks.strAscii hA _ z t,#[_,Re _ rfl,rfl,rfl],hne,q]
end
section
variable {X:Cx}
theorem JB(bs:m_ Bool):((dA bs.length).all λi=>(bs[i]?).getD k_)=bs.all id:=by
 induction bs with
 |nil=>rfl
 |cons b r ih=>
  rw[ce,List.range_succ_eq_map,jV,List.all_map]
  congr 1
theorem Do(hc:X.calm=k_):B9 X (.builtin "all") (λxs H Q=>∃(p:Ch) (bs:m_ Bool),xs=[.ref p]/\SqL X.K H p^bs.map V.bl/\Q (.bl^bs.all id) H):=by
 intro zG s σ H xs us Q I r h;let#[p,bs,rfl,hq,q]:=h;let#[u,rfl,rx]:=vals1 r;cases rx;let#[its,r',pl,hz]:=I.list hq;have hlen:=r'.length;have hl:s.heap.IsList p its.toArray:=pl.isList;have hlt:p<s.heap.objs.size:=by let#[_,e,_]:=id hl; exact TM e
 refine call_all_walk^eT hl ?_
 refine#[s.heap.objs.size,[s.heap.objs.size,p],[s.heap.objs.size],its.toArray.size,_,_,λi=>(bs[i]?).getD k_,rfl,Walks.list (A:=X.A.in1) (I.ok.hd hc) _ p (cb hlt) its.toArray,
  #[#[_,Re _ rfl,rfl,rfl],hl.push _],λi v s' Q' E' hP hQ=>?_,λh' tk hk=>?_]
 .have hv:its[i]?=P3 v:=by simpa using hP
  have hb:∃b,bs[i]?=P3 b:=by
   have hi:i<its.length:=(Uf.mp hv).1;rw[FM]at hlen;exact#[bs[i]'(by lk),No^by lk]
  let#[b,eb]:=hb;let#[u,eu,ru]:=r'.get (i:=i) (x:=.bl b) (by rw[cX,eb]; rfl);rw[hv]at eu;cases eu;cases ru;simp only[eb,Option.getD_some]at hQ;exact et hQ
 .have e:((dA its.toArray.size).all λi=>(bs[i]?).getD k_)=bs.all id:=by
   rw[cY,←hlen,FM]; exact JB bs
  rw[e];exact#[.bl _,H,I.kept (t':=tk) λb x e=>hk b x (λhm=>by rw[On.mp hm]at e; exact dZ _^TM e)^Ev _ e,rfl,q]
theorem MW:B9 X (.builtin "isinstance") (λxs H Q=>∃x T t b,xs=[x,.ty T]/\FT X.K H x t/\PySem.W.kitOne X.K t^.type T=P3 b/\Q (.bl b) H):=by
 intro zG s σ H xs us Q I r h;let#[x,T,t,b,rfl,ty,e,q]:=h;let#[u,w',rfl,rx,rt]:=vals2 r;cases rt;exact P4 I rx ty e λtk=>#[.bl b,H,I.tok _,rfl,q]
theorem Pc:OpR X (compareOp .LtE) (λx y H Q=>∃i j,x=.str i/\y=.str j/\Q (.bl (!(j.cps.toList<i.cps.toList))) H):=by
 intro zG s σ H x y v u Q I rx ry h;let#[i,j,rfl,rfl,q]:=h;let#[t,rfl]:=rx;let#[t',rfl]:=ry;exact PySem.P.le_str #[.bl _,H,I,rfl,q]
theorem E9{ys:m_ Str}:∀{us:m_ Cn},Vals (ys.map V.str) us->StrsAre us ys:=by
 induction ys with
 |nil=>intro us r; cases r; exact .nil
 | cons n ns ih=>
  intro us r;cases r with
  |cons r1 r2=>
   let#[t,e]:=r1;subst e;exact .cons n t^ih r2
theorem Tq:Xx X "str.join" (λx xs H Q=>∃(z:Str) (p:Ch) (ys:m_ Str),x=.str z/\xs=[.ref p]/\SqL X.K H p^ys.map V.str/\(ys.map (·.length)).sum+ys.length*z.length<=16777216/\Q (.str^Txt.join z ys) H):=by
 intro zG s σ H x xs v us Q I rx rv h;let#[z,p,ys,rfl,rfl,hq,hz,q]:=h;let#[t,rfl]:=rx;let#[u,rfl,ru]:=vals1 rv;cases ru;let#[its,r',pl,_]:=I.list hq;exact join_list pl.isList (E9 r') hz λt' k=>#[.str _,H,I.tok _,#[_,rfl],q]
theorem V8:SlR X (λx lo hi H Q=>∃z,x=.str z/\z.length<=sizeLine/\Q (.str^Txt.slice z lo hi) H):=by
 intro zG s σ H x v vl vu lo hi sl Q I rx hs pl pu h;let#[z,rfl,hz,q]:=h;let#[t,rfl]:=rx;refine#["str",_,F.slot_str_getitem.lookup,gx _ _ _,?_];have fin:∀t' k,EP X zG σ Q (.str _ t') {s with toks:=k}:=λt' k=>#[.str _,H,I.tok _,#[_,rfl],q];cases pl with
 |none=>
  cases pu with
  |none=>exact fz (l:=j_) (u:=j_) (st:=j_) hs rfl (iK #[c5 (Txt.slice_le z _ _) hz,λt' k=>fin t' k])
  |int j tj=>exact fz (l:=j_) (u:=P3 (j,tj)) (st:=j_) hs rfl (iK #[c5 (Txt.slice_le z _ _) hz,λt' k=>fin t' k])
 |int i ti=>
  cases pu with
  |none=>exact fz (l:=P3 (i,ti)) (u:=j_) (st:=j_) hs rfl (iK #[c5 (Txt.slice_le z _ _) hz,λt' k=>fin t' k])
  |int j tj=>exact fz (l:=P3 (i,ti)) (u:=P3 (j,tj)) (st:=j_) hs rfl (iK #[c5 (Txt.slice_le z _ _) hz,λt' k=>fin t' k])
theorem Pa(hu:X.A.units<cLine):OpR X (compareOp .NotEq) (λx y H Q=>∃a b xs,x=.ref a/\y=.ref b/\SqL X.K H a xs/\SqL X.K H b []/\Q (.bl (!xs.isEmpty)) H):=by
 intro zG s σ H x y v u Q I rx ry h;let#[a,b,xs,rfl,rfl,ha,hb,q]:=h;cases rx;cases ry;let#[its,r1,p1,_]:=I.list ha;let#[its2,r2,p2,_]:=I.list hb;cases r2;cases r1 with
 |nil=>exact SeqAt.RcNeAt.lists (e:=λ_=>k_) p1.isList p2.isList rfl hu (λj h1 h2=>absurd h1^by simp) _ _ _ _ #[.bl _,H,I,rfl,q]
 |cons r1 r2=>exact SeqAt.RcNeAt.lists_lengths p1.isList p2.isList (by simp) hu _ _ _ _ #[.bl _,H,I,rfl,q]
end
end L2
namespace Dp
open L2
def Xt(K:Frag)(F:n_ (Ch×Ch))(U V' M:Ch->Prop)(H:Hp)(n:Sg)(ss:m_ Slot)(vs:m_ V):Prop:=
 (∀a,M a->∃o,H a=P3 o)/\(∀f,F=P3 f->U f.1)/\(∀a,U a->V' a)/\(∀a,V' a->M a)/\FeedC K F M H n/\Paired (DF K F V' M H) vs ss
abbrev W2:=m_ Slot->Sg->(D->Sg->Prop)->Prop
def QS(K:Frag)(κ:Kd)(W:W2)(np:Nat):Sp:=λvs H Q _=>vs.length=np/\∃(F:n_ (Ch×Ch)) (U V' M:Ch->Prop) (n:Sg) (ss:m_ Slot) (P:D->Sg->Prop),Xt K F U V' M H n ss vs/\W ss n P /\
 ∀v H' d n',Ext U H H'->FeedC K F M H' n'->VR K V' M H H' κ v d->P d n'->Q v H'
def AR(w:DW):Sg->m_ Slot->(Slot->Sg->Prop)->Prop:=λn ρ P=>w n ρ λd n1=>P (.sh d) n1
def E8(w:DW):Sg->m_ Slot->(Slot->Sg->Prop)->Prop:=λn ρ P=>w n ρ λd n1=>P (.br d) n1
def Bl(i:Nat):Sg->m_ Slot->(Slot->Sg->Prop)->Prop:=λn ρ P=>match ρ[i]? with
 |some .fd=>P .fd n
 |_=>False
def Ac:LX:=λn _ P=>P [] n
def AH(w:Sg->m_ Slot->(Slot->Sg->Prop)->Prop)(ws:LX):LX:=λn ρ P=>w n ρ λs n1=>ws n1 ρ λss n2=>P (s::ss) n2
def Ap(W:W2)(was:LX):DW:=λn ρ P=>was n ρ λss n1=>W ss n1 P
section
variable {X:Cx}{a e:Expr}{es:m_ Expr}{κ zT:Kd}{wa:DW}{pos:Pos}{w1:Sg->m_ Slot->(Slot->Sg->Prop)->Prop}{was:LX}{ws:Dr}
theorem Zi(h:DE X e κ wa)(hk:κ≠.tp:=by intro z; cases z):aR X e^AR wa:=by
 let#[t,h1,h2]:=h;exact#[t,h1,λC M H n ρ σ P Q R w q=>h2 C M H n ρ σ _ _ R w λv H' d n' e f r p=>q v H' (.sh d) n' e f #[#[v,rfl,r.shOf R.dom hk],rfl] p]
theorem DB(h:DE X e κ wa):aR X e^E8 wa:=by
 let#[t,h1,h2]:=h;exact#[t,h1,λC M H n ρ σ P Q R w q=>h2 C M H n ρ σ _ _ R w λv H' d n' e f r p=>q v H' (.br d) n' e f #[#[v,rfl,r.tpOf R.dom R.vM],rfl] p]
theorem Bj(i:Nat){x:Str}{pos:Pos}(hN:X.N[i]?=P3 x:=by rfl)(hv:VZ X.env.scope x:=by first|exact eA rfl|exact fu (eA rfl)|exact fu (fu rfl))(hd:(x==("__debug__":Str))=l_:=by decide)
  (hcd:(x==("__classdict__":Str))=l_:=by decide):aR X (.Name x pos)^Bl i:=by
 refine#[_,Kj hN hv hd hcd,λC M H n ρ σ P Q R w q=>?_];unfold Bl at w
 split at w
 .rename_i hd
  let#[f,e1,h1]:=R.sl i _ hd;exact#[_,getD_some e1,q _ H .fd n (Ext.refl _ _) R.feed #[#[f,rfl,h1],rfl] w]
 grind
theorem AF:Mi X [] Ac:=#[_,Cj,λC M H n ρ σ P Q R w q=>q [] H [] n (Ext.refl _ _) R.feed .nil w]
theorem AQ(ha:aR X e w1)(hr:Mi X es was)(hs:starEach (e::es) X.env=(l_,eval e X.env)::starEach es X.env:=by rfl):Mi X (e::es)^AH w1 was:=by
 let#[t,h1,h2]:=ha;let#[u,g1,g2]:=hr;refine#[_,BK h1 g1 hs,λC M H n ρ σ P Q R w q=>?_];refine h2 C M H n ρ σ _ _ R w λv H1 d n1 e1 f1 r1 p=>?_;have R1:=R.step e1 f1;exact g2 C M H1 n1 ρ σ _ _ R1 p λvs H2 ds n2 e2 f2 r2 p2=>q _ H2 _ n2 (e1.trans e2) f2 (.cons #[r1.1.pres (R1.pres e2) (λ_ z=>z) e2 R.uV,r1.2] r2) p2
theorem US{k:Nat}{f:Ch}{fd:dR}{ps:m_ Str}{W:W2}{x:Str}{p:Pos}(G:FnOk X.prog X.w X.K X.mg X.base E6 k f fd ps^QS X.K κ W ps.length)(hW:∀ss n P,W ss n P->ss.length=ps.length)
  (hr:Room k X.A) (hg:Gl X x) (hm:X.mg x=P3^.ref f) (hk:keepIn X.K^.ref f=k_) (hb:Binds X.K fd ps []) (ha:Mi X (e::es) was)
  (hdb:(x==("__debug__":Str))=l_:=by decide) (he:starEach (e::es) X.env=(l_,eval e X.env)::starEach es X.env:=by rfl) (hpl:(backTo pos^starEach es X.env).any (·.1)=l_:=by rfl):
  DE X (.Call (.Name x p) (e::es) [] pos) κ (Ap W was):=by
 let#[t,h1,h2]:=ha;refine#[_,HE G hr hg hm hk hb .nil Gh h1 hdb he hpl,λC M H n ρ σ P Q R w q=>?_];refine h2 C M H n ρ σ _ _ R w λvs H1 ss n1 e1 f1 r1 p=>?_;have R1:=R.step e1 f1;rw[c9];exact#[(Paired.length r1).trans^hW _ _ _ p,_,_,_,M,n1,ss,P,#[R1.dom,R1.fU,R1.uV,R1.vM,f1,r1],p,λv H2 d n2 e2 f2 r2 p2=>q v H2 d n2 (e1.trans e2) f2 (VR.back e1 r2) p2]
def ba(K:Frag)(κ:Kd)(T:String)(r:V->m_ V->Hp->VK->Prop)(f:D->m_ D->(D->Prop)->Prop):Prop:=∀(U:Ch->Prop) (M:Ch->Prop) (H:Hp) (d:D) (ds:m_ D) (x:V) (vs:m_ V) (P:D->Prop) (Q:VK),(∀a,M a->∃o,H a=P3 o)->(∀a,U a->M a)->
 AtT K U M H d x->Paired (λv d=>AtT K U M H d v) vs ds->f d ds P->(∀v H' z,Grow H H'->VR K U M H H' κ v z->P z->Q v H')->r x vs H Q
def bF(T:String)(d:D):Prop:=match d with
 |.str _=>T="str"
 |.int _=>T="int"
 |.lst _=>T="list"
 |_=>False
def bo(T:String)(f:D->m_ D->(D->Prop)->Prop)(wo:DW)(ws:Dr):DW:=λn ρ P=>wo n ρ λd n1=>bF T d/\ws n1 ρ λds n2=>f d ds λz=>P z n2
theorem Rq{T:String}{K:Frag}{U:Ch->Prop}{M:Ch->Prop}{H:Hp}{d:D}{x:V}(h:bF T d)(hx:AtT K U M H d x):ag K T x H:=by
 cases d with
 |str z=>let#[e,_]:=hx; subst e; exact h
 |int i=>cases(hx); exact h
 |lst ds=>let#[a,vs,e,_,hq,_]:=hx; subst e; exact .inl #[h,vs,.inl hq]
 |_=>exact(h).elim
theorem Zh{name:Str}{apos cpos:Pos}{T id:String}{r:V->m_ V->Hp->VK->Prop}{f:D->m_ D->(D->Prop)->Prop}(pa:PlainAttrs T)(slot:PySem.Slot T name id)(hty:typeOf^.builtin id=pure^.type "method_descriptor")(hm:Xx X id r)
  (hA:ba X.K κ T r f) (ho:DE X a zT wa) (ha:Uo X (e::es) ws)
  (hbase:attributeBase a name X.env^eval a X.env=eval a X.env:=by rfl)
  (hfew:((backTo cpos^starEach (e::es) X.env).all (λx=>!x.1)&&(backToKw cpos^keywordEach [] X.env).all (λx=>x.1.isSome)
   && decide ((e::es).length+([]:m_ fk).length+(if([]:m_ fk).isEmpty then 0 else 1)<30))=k_:=by rfl)
  (hline:(apos.endLine==cpos.line)=k_:=by rfl) (hs:starEach (e::es) X.env=(l_,eval e X.env)::starEach es X.env:=by rfl) (hplain:(backTo cpos^starEach es X.env).any (·.1)=l_:=by rfl):
  DE X (.Call (.Attribute a name apos) (e::es) [] cpos) κ (bo T f wa ws):=by
 let#[t,h1,h2]:=ho;let#[u,g1,g2]:=ha;refine#[_,VC pa slot hty hm h1 g1 hbase hfew hline hs hplain,λC M H n ρ σ P Q R w q=>?_];refine h2 C M H n ρ σ _ _ R w λx H1 d n1 e1 f1 r1 p=>?_;have R1:=R.step e1 f1;have tx:=r1.tpOf R.dom R.vM;refine#[Rq p.1 tx,?_];refine g2 C M H1 n1 ρ σ _ _ R1 p.2 λvs H2 ds n2 e2 f2 r2 p2=>?_;have R2':=R1.step e2 f2;refine hA C.V M H2 d ds x vs _ _ R2'.dom R2'.vM (tx.pres (R1.pres e2) e2 R.uV) r2 p2 λv H3 z g vr pz=>?_;exact q v H3 z n2 ((e1.trans e2).trans g.ext) (f2.grow g) (VR.back (e1.trans e2) vr) pz
def DO(X:Cx)(e:n_ cr)(w:Sg->m_ Slot->(n_ Int->Sg->Prop)->Prop):Prop:=∃t,PO X e t/\∀(C:Fm) (M:Ch->Prop) (H:Hp) (n:Sg) (ρ:m_ Slot) (σ:L2.St) (P:n_ Int->Sg->Prop) (Q:n_ Int->Hp->Prop),Rel X.K C M H n ρ σ->w n ρ P->
 (∀o H' n',Ext C.U H H'->FeedC X.K C.F M H' n'->P o n'->Q o H')->t σ H Q
def FX:Sg->m_ Slot->(n_ Int->Sg->Prop)->Prop:=λn _ P=>P j_ n
def FW(w:DW):Sg->m_ Slot->(n_ Int->Sg->Prop)->Prop:=λn ρ P=>w n ρ λd n1=>match d with
 |.int i=>P (P3 i) n1
 |_=>False
theorem Cs:DO X j_ FX:=#[_,OJ,λC M H n ρ σ P Q R w q=>q _ H n (Ext.refl _ _) R.feed w]
theorem NS{U:Ch->Prop}{K:Frag}{M:Ch->Prop}{H H':Hp}{v:V}{i:Int}(h:VR K U M H H' κ v^.int i):v=.int i:=by
 cases κ with
 |sh=>exact h
 |tp=>exact h
 |fr=>let#[a,_,_,t]:=h; exact(t).elim
theorem BE(h:DE X e κ wa):DO X (P3 e)^FW wa:=by
 let#[t,h1,h2]:=h;refine#[_,OI h1,λC M H n ρ σ P Q R w q=>?_];refine h2 C M H n ρ σ _ _ R w λv H1 d n1 e1 f1 r1 p=>?_;cases d with
 |int i=>exact#[i,NS r1,q _ H1 n1 e1 f1 p]
 |_=>exact p.elim
def bY(K:Frag)(κ:Kd)(r:V->n_ Int->n_ Int->Hp->VK->Prop)(f:D->n_ Int->n_ Int->(D->Prop)->Prop):Prop:=∀(U:Ch->Prop) (M:Ch->Prop) (H:Hp) (d:D) (x:V) (lo hi:n_ Int) (P:D->Prop) (Q:VK),(∀a,M a->∃o,H a=P3 o)->(∀a,U a->M a)->
 AtT K U M H d x->f d lo hi P->(∀v H' z,Grow H H'->VR K U M H H' κ v z->P z->Q v H')->r x lo hi H Q
def Vm(f:D->n_ Int->n_ Int->(D->Prop)->Prop)(w:DW)(wl wh:Sg->m_ Slot->(n_ Int->Sg->Prop)->Prop):DW:=λn ρ P=>w n ρ λd n1=>wl n1 ρ λlo n2=>wh n2 ρ λhi n3=>f d lo hi λz=>P z n3
theorem Dn{lo hi:n_ cr}{p2:Pos}{r:V->n_ Int->n_ Int->Hp->VK->Prop}{f:D->n_ Int->n_ Int->(D->Prop)->Prop}{wl wh:Sg->m_ Slot->(n_ Int->Sg->Prop)->Prop}(hr:SlR X r)(hA:bY X.K κ r f)(he:DE X e zT wa)(hl:DO X lo wl)(hh:DO X hi wh):
  DE X (.Subscript e (.Slice lo hi j_ p2) pos) κ (Vm f wa wl wh):=by
 let#[t,h1,h2]:=he;let#[u,g1,g2]:=hl;let#[u',k1,k2]:=hh;refine#[_,Ly hr h1 g1 k1,λC M H n ρ σ P Q R w q=>?_];refine h2 C M H n ρ σ _ _ R w λv H1 d n1 e1 f1 r1 p=>?_;have R1:=R.step e1 f1;have tv:=r1.tpOf R.dom R.vM;refine g2 C M H1 n1 ρ σ _ _ R1 p λlo H2 n2 e2 f2 p2=>?_;have R2':=R1.step e2 f2;refine k2 C M H2 n2 ρ σ _ _ R2' p2 λhi H3 n3 e3 f3 p3=>?_;have R3:=R2'.step e3 f3;refine hA C.V M H3 d v lo hi _ _ R3.dom R3.vM ((tv.pres (R1.pres e2) e2 R.uV).pres (R2'.pres e3) e3 R.uV) p3 λv H4 z g vr pz=>?_;exact q v H4 z n3 (((e1.trans e2).trans e3).trans g.ext) (f3.grow g) (VR.back ((e1.trans e2).trans e3) vr) pz
end
structure E2 where
 nx:Sg->List Slot->Prop
 rt:D->Sg->Prop
 bk:Sg->List Slot->Prop:=λ_ _=>False
 ct:Sg->List Slot->Prop:=λ_ _=>False
abbrev Aa:=E2->Sg->m_ Slot->Prop
structure F_ (K:Frag) (C:Fm) (κ:Kd) (D2:E2) (E:Ends):Prop where
 nx:∀M H n ρ σ,Rel K C M H n ρ σ->D2.nx n ρ->E.nx σ H
 rt:∀v H d n,Ext C.U C.H0 H->FeedC K C.F C.M0 H n->VR K C.V C.M0 C.H0 H κ v d->D2.rt d n->E.rt v H
 bk:∀M H n ρ σ,Rel K C M H n ρ σ->D2.bk n ρ->E.bk σ H
 ct:∀M H n ρ σ,Rel K C M H n ρ σ->D2.ct n ρ->E.ct σ H
def DS(X:Cx)(κ:Kd)(st:d6)(w:Aa):Prop:=∃t,PS X st t/\∀(C:Fm) (M:Ch->Prop) (H:Hp) (n:Sg) (ρ:m_ Slot) (σ:L2.St) (D2:E2) (E:Ends),Rel X.K C M H n ρ σ->F_ X.K C κ D2 E->w D2 n ρ->t E σ H
def Mh(X:Cx)(κ:Kd)(st:m_ d6)(w:Aa):Prop:=∃t,PSs X st t/\∀(C:Fm) (M:Ch->Prop) (H:Hp) (n:Sg) (ρ:m_ Slot) (σ:L2.St) (D2:E2) (E:Ends),Rel X.K C M H n ρ σ->F_ X.K C κ D2 E->w D2 n ρ->t E σ H
def Bs:Aa:=λD2 n ρ=>D2.nx n ρ
def Ay(u v:Aa):Aa:=λD2 n ρ=>u {D2 with nx:=v D2} n ρ
def YO(w:DW):Aa:=λD2 n ρ=>w n ρ λ_ n1=>D2.nx n1 ρ
def DJ(w:DW):Aa:=λD2 n ρ=>w n ρ λd n1=>D2.rt d n1
def Ci(t:FU)(u v:Aa):Aa:=λD2 n ρ=>t n ρ λc n1=>if c=k_ then u D2 n1 ρ else v D2 n1 ρ
def BB(i:Nat)(w:DW):Aa:=λD2 n ρ=>w n ρ λd n1=>D2.nx n1^ρ.set i^.sh d
section
variable {X:Cx}{κ zU:Kd}{st:Stmt}{rest:m_ Stmt}{u v:Aa}{wa:DW}{wA:FU}{e c:Expr}{pos:Pos}
theorem AS:Mh X κ [] Bs:=#[_,Kg,λC M H n ρ σ D2 E R L w=>L.nx M H n ρ σ R w]
theorem AB(h1:DS X κ st u)(h2:Mh X κ rest v):Mh X κ (st::rest)^Ay u v:=by
 let#[t,a1,a2]:=h1;let#[t',b1,b2]:=h2;exact#[_,A8 a1 b1,λC M H n ρ σ D2 E R L w=>a2 C M H n ρ σ {D2 with nx:=v D2} _ R #[λM H n ρ σ R w=>b2 C M H n ρ σ D2 E R L w,L.rt,L.bk,L.ct] w]
theorem AE(h1:DS X κ st u):Mh X κ [st] u:=by
 let#[t,a1,a2]:=h1;exact#[t,Cq a1,a2]
theorem Qz{K:Frag}{C:Fm}{M:Ch->Prop}{H H':Hp}{n n':Sg}{ρ:m_ Slot}{σ:L2.St}{D2:E2}{E:Ends}{d:D}{v:V}(R:Rel K C M H n ρ σ)(L:F_ K C κ D2 E)(e:Ext C.U H H')(f:FeedC K C.F M H' n')(r:VR K C.V M H H' κ v d)(hk:κ≠.tp)(p:D2.rt d n'):E.rt v H':=by
 have less:Pres M H' _ H':=Pres.less R.sub;refine L.rt v H' d n' (R.ext.trans e) (f.pres less (λ_ _ _ z=>z) λ_ _ z=>z) ?_ p;cases κ with
 |sh=>exact At.pres less r
 |tp=>grind
 |fr=>
  let#[a,e1,h1,h2]:=VR.back R.ext r;exact#[a,e1,h1,h2.pres (Pres.less λb z=>z.imp (R.sub b) id) λ_ z=>z]
theorem AL(h:DE X e κ wa)(hk:κ≠.tp:=by intro z; cases z):DS X κ (.Return (P3 e) pos)^DJ wa:=by
 let#[t,a1,a2]:=h;exact#[_,EQ a1,λC M H n ρ σ D2 E R L w=>a2 C M H n ρ σ _ _ R w λv H' d n' e1 f1 r1 p=>Qz R L e1 f1 r1 hk p]
theorem Av{a b:m_ d6}(hc:DT X c wA)(ha:Mh X κ a u)(hb:Mh X κ b v):DS X κ (.If c a b pos)^Ci wA u v:=by
 let#[t,a1,a2]:=hc;let#[t',b1,b2]:=ha;let#[t'',c1,c2]:=hb;refine#[_,OG a1 b1 c1,λC M H n ρ σ D2 E R L w=>?_];refine a2 C M H n ρ σ _ _ R w λb H1 n1 e1 f1 p=>?_;cases b with
 |true=>exact b2 C M H1 n1 ρ σ D2 E (R.step e1 f1) L p
 |false=>exact c2 C M H1 n1 ρ σ D2 E (R.step e1 f1) L p
theorem W5{i:Nat}{x:Str}{pos':Pos}(hN:X.N.Nodup)(hi:X.N[i]?=P3 x)(hx:Loc X.env.scope x)(he:DE X e zU wa)(hk:zU≠.tp:=by intro z; cases z)(hs:swapsWith e (P3^.Name x pos') pos.line X.env=pure l_:=by rfl)
  (hf:X.fn x=k_\/X.env.scope.names.lookup x=P3 .local:=by first|exact .inl rfl|exact .inr rfl|assumption):DS X κ (.Assign [.Name x pos'] e pos)^BB i wa:=by
 let#[t,a1,a2]:=he;exact#[_,Dx hN hi hx a1 hs hf,λC M H n ρ σ D2 E R L w=>a2 C M H n ρ σ _ _ R w λv H' d n' e1 f1 r1 p=>L.nx M H' n' _ _ ((R.step e1 f1).set^r1.shOf R.dom hk) p]
end
section
variable {X:Cx}{κ:Kd}{e:Expr}{wa:DW}{pos:Pos}
def Nw(i:Nat)(w:DW):Aa:=λD2 n ρ=>w n ρ λd n1=>D2.nx n1^ρ.set i^.ow d
theorem UG{i:Nat}{x:Str}{pos':Pos}(hN:X.N.Nodup)(hi:X.N[i]?=P3 x)(hx:Loc X.env.scope x)(he:DE X e .fr wa)(hs:swapsWith e (P3^.Name x pos') pos.line X.env=pure l_:=by rfl)
  (hf:X.fn x=k_\/X.env.scope.names.lookup x=P3 .local:=by first|exact .inl rfl|exact .inr rfl|assumption):DS X κ (.Assign [.Name x pos'] e pos)^Nw i wa:=by
 let#[t,a1,a2]:=he;refine#[_,Dx hN hi hx a1 hs hf,λC M H n ρ σ D2 E R L w=>?_];refine a2 C M H n ρ σ _ _ R w λv H' d n' e1 f1 r1 p=>?_;let#[a,rfl,h1,h2]:=r1;exact L.nx _ H' n' _ _ (R.setOw e1 f1 h1 h2) p
def Qd(i:Nat):Aa:=λD2 n ρ=>∃d,ρ[i]?=P3^.ow d/\D2.rt d n
theorem Om{x:Str}{p:Pos}(i:Nat)(h:PE X (.Name x p)^Bw i):DS X .fr (.Return (P3^.Name x p) pos)^Qd i:=by
 refine#[_,EQ h,λC M H n ρ σ D2 E R L zz=>?_];let#[d,hd,hw]:=zz;let#[a,e1,m,nv,t]:=R.sl i _ hd;exact#[_,getD_some e1,L.rt _ H d n R.ext (R.feed.pres (Pres.less R.sub) (λ_ _ _ z=>z) λ_ _ z=>z) #[a,rfl,(R.new i _ a hd rfl e1).2,t.pres (Pres.less λb z=>z.elim (R.sub b) λz=>by grind) λ_ z=>z] hw]
def Xw(K:Frag)(r:V->m_ V->Hp->VK->Prop)(f:D->m_ D->(D->D->Prop)->Prop):Prop:=∀(M:Ch->Prop) (H:Hp) (a:Ch) (d:D) (ds:m_ D) (vs:m_ V) (P:D->D->Prop) (Q:VK),M a->Tops K M H a d->Ats K M H ds vs->f d ds P->
 (∀o e z v,Tops K M (Ah H a o) a e->At K M (Ah H a o) z v->P e z->Q v^Ah H a o)->r (.ref a) vs H Q
def Vn(i:Nat)(T:String)(f:D->m_ D->(D->D->Prop)->Prop)(ws:Dr):Aa:=λD2 n ρ=>∃d,ρ[i]?=P3^.ow d/\bF T d/\ws n ρ λds n1=>f d ds λe _=>D2.nx n1^ρ.set i^.ow e
theorem Ek{M:Ch->Prop}{H:Hp}{a:Ch}{o u:HO}(m:M a)(e:H a=P3 u)(t:∀vs,u≠.tup vs:=by intro _ z; cases z):Pres M H M^Ah H a o:=#[λb o' q nb _=>by rw[AI λz=>nb^by simp_all]; exact q,λ_ z=>.inl z,λb vs q=>by rw[AI λz=>by grind]; exact q,λb o' q=>(fR (b=a)).elim (λz=>#[o,by rw[z,AM]]) λz=>#[o',by rw[AI z]; exact q]]
theorem Ib{x name:Str}{p apos cpos:Pos}{T id:String}{r:V->m_ V->Hp->VK->Prop}{f:D->m_ D->(D->D->Prop)->Prop}{es:m_ cr}{ws:Dr}(i:Nat)(pa:PlainAttrs T)(slot:PySem.Slot T name id)(hty:typeOf^.builtin id=pure^.type "method_descriptor")
  (hm:Xx X id r) (hA:Xw X.K r f) (h:PE X (.Name x p)^Bw i) (ha:Um X (e::es) ws)
  (hbase:attributeBase (.Name x p) name X.env^eval (.Name x p) X.env=eval (.Name x p) X.env:=by rfl)
  (hfew:((backTo cpos^starEach (e::es) X.env).all (λx=>!x.1)&&(backToKw cpos^keywordEach [] X.env).all (λx=>x.1.isSome)
   && decide ((e::es).length+([]:m_ fk).length+(if([]:m_ fk).isEmpty then 0 else 1)<30))=k_:=by rfl)
  (hline:(apos.endLine==cpos.line)=k_:=by rfl) (hs:starEach (e::es) X.env=(l_,eval e X.env)::starEach es X.env:=by rfl) (hplain:(backTo cpos^starEach es X.env).any (·.1)=l_:=by rfl)
  (hsw:swapsWith (.Call (.Attribute (.Name x p) name apos) (e::es) [] cpos) j_ pos.line X.env=pure l_:=by rfl):
  DS X κ (.Expr (.Call (.Attribute (.Name x p) name apos) (e::es) [] cpos) pos) (Vn i T f ws):=by
 let#[t,a1,a2]:=ha;refine#[_,OH (VC pa slot hty hm h a1 hbase hfew hline hs hplain) hsw,λC M H n ρ σ D2 E R L zz=>?_];let#[d,hd,hT,hw]:=zz;let#[a,e1,m,nv,tt]:=R.sl i _ hd;refine#[.ref a,getD_some e1,Rq hT^tt.att nv,?_];refine a2 C M H n ρ σ _ _ R hw λvs H1 ds n1 ee f1 r1 p=>?_;have R1:=R.step ee f1;let#[a',e1',m',nv',tt']:=R1.sl i _ hd;rw[e1]at e1';cases e1';exact hA M H1 a d ds vs _ _ m' tt' r1 p λo d' z v t2 hz pp=>L.nx M _ n1 _ σ (R1.mut hd e1 t2) pp
def NY(d:D)(ds:m_ D)(P:D->D->Prop):Prop:=∃xs y,d=.lst xs/\ds=[y]/\xs.length<sizeLine/\P (.lst (xs++[y])) .non
theorem KH{K:Frag}:Xw K OC NY:=by
 intro M H a d ds vs P Q m t hv w q;let#[xs,y,rfl,rfl,hl,w]:=w;let#[us,h1,h2]:=t;let#[u,r,rfl,hu,hr]:=hv;cases(hr);exact#[a,us,u,rfl,rfl,h1,by rw[h2.length]; exact hl,q _ (.lst _) .non _ #[_,AM,(h2.append^Ats.one hu).pres^Ek m h1] rfl w]
end
def Yields(K:Frag)(M:Ch->Prop)(H:Hp)(J:It)(ds:m_ D):Prop:=∀(i:Nat) (M':Ch->Prop) (H':Hp),Pres M H M' H'->(∀a,M' a->∃o,H' a=P3 o)->
 (∀d,ds[i]?=P3 d->J.go i H'/\∀x H2,J.yld i H' x H2->Grow H' H2/\At K M' H2 d x)/\(ds.length<=i->J.stop i H')
def O2(K:Frag)(U M:Ch->Prop)(H:Hp)(J:It)(ds:m_ D):Prop:=∀(i:Nat) (M':Ch->Prop) (H':Hp),Pres M H M' H'->Ext U H H'->(∀a,M' a->∃o,H' a=P3 o)->
 (∀d,ds[i]?=P3 d->J.go i H'/\∀x H2,J.yld i H' x H2->Grow H' H2/\At K M' H2 d x)/\(ds.length<=i->J.stop i H')
theorem Yields.e{K:Frag}{U M:Ch->Prop}{H:Hp}{J:It}{ds:m_ D}(h:Yields K M H J ds):O2 K U M H J ds:=λi M' H' p _ d=>h i M' H' p d
def Ve(X:Cx)(tg iter:cr)(w:Dr):Prop:=∃wi,PI X tg iter wi/\∀(C:Fm) (M:Ch->Prop) (H:Hp) (n:Sg) (ρ:m_ Slot) (σ:L2.St) (P:m_ D->Sg->Prop) (R:It->Hp->Prop),Rel X.K C M H n ρ σ->w n ρ P->
 (∀J H' ds n',Ext C.U H H'->FeedC X.K C.F M H' n'->O2 X.K C.U M H' J ds->P ds n'->R J H')->wi σ H R
def DI(X:Cx)(tg iter:cr)(w:Dr):Prop:=∃wi,PI X tg iter wi/\∀(C:Fm) (M:Ch->Prop) (H:Hp) (n:Sg) (ρ:m_ Slot) (σ:L2.St) (P:m_ D->Sg->Prop) (R:It->Hp->Prop),Rel X.K C M H n ρ σ->w n ρ P->
 (∀J H' ds n',Ext C.U H H'->FeedC X.K C.F M H' n'->Yields X.K M H' J ds->P ds n'->R J H')->wi σ H R
def signs(x:Str):m_ D:=x.cps.toList.map λc=>.str #[#[ c]]
def Hb(w:DW):Dr:=λn ρ P=>w n ρ λd n1=>match d with
 |.lst ds=>P ds n1
 |.tup ds=>P ds n1
 |.str x=>P (signs x) n1
 |_=>False
theorem Lb{K:Frag}{M:Ch->Prop}{H:Hp}{a:Ch}{vs:m_ V}{ds:m_ D}(h:NdL M H a vs)(hs:Ats K M H ds vs):Yields K M H (bh K a) ds:=by
 intro i M' H' p _;have hq:SqL K H' a vs:=(h.pres p).sq;refine#[λd hd=>?_,λhl=>#[vs,hq,by rw[hs.length]; exact hl]];let#[v,e,hv]:=(hs.pres p).get hd;refine#[#[vs,v,hq,e],λx H2 y=>?_];let#[e2,y]:=y;subst e2
 have:=e.symm.trans^y vs hq
 cases this;exact#[.refl,hv]
theorem HX{K:Frag}{M:Ch->Prop}{H:Hp}{a:Ch}{vs:m_ V}{ds:m_ D}(h:NdT M H a vs)(hs:Ats K M H ds vs):Yields K M H (Xz K a) ds:=by
 intro i M' H' p _;have hq:SqT K H' a vs:=(h.pres p).sq;refine#[λd hd=>?_,λhl=>#[vs,hq,by rw[hs.length]; exact hl]];let#[v,e,hv]:=(hs.pres p).get hd;refine#[#[vs,v,hq,e],λx H2 y=>?_];let#[e2,y]:=y;subst e2
 have:=e.symm.trans^y vs hq
 cases this;exact#[.refl,hv]
theorem yields_str{K:Frag}{M:Ch->Prop}{H:Hp}{z:Str}:Yields K M H (be z)^signs z:=by
 intro i M' H' p _;refine#[λd hd=>?_,λhl=>?_]
 .unfold signs at hd
  rw[cX]at hd
  have hi:i<z.cps.size:=by
   cases q:z.cps.toList[i]? with
   |none=>simp_all
   |some c=>simpa using (Uf.mp q).1
  refine#[hi,λx H2 y=>?_];let#[e2,c,hc,rfl]:=y;subst e2
  have:z.cps.toList[i]?=P3 c:=by grind
  rw[this]at hd;have hd':D.str #[#[ c]]=d:=XV hd;subst hd';exact#[.refl,rfl,by rw[dg]; show 1<=16777216; decide]
 .show z.cps.size<=i
  unfold signs at hl
  simp_all
def EI(lo:Int)(n:Nat):m_ D:=(dA n).map fun(i:Nat)=>.int (lo+(i:Int))
theorem KP{K:Frag}{M:Ch->Prop}{H:Hp}{lo:Int}{m:Nat}:Yields K M H (aP lo m)^EI lo m:=by
 intro i M' H' p _;refine#[λd hd=>?_,λhl=>?_]
 .unfold EI at hd
  rw[cX]at hd
  have hi:=by
   cases q:(dA m)[i]? with
   |none=>simp_all
   |some c=>simpa using (Uf.mp q).1
  rw[List.getElem?_range hi]at hd;have hd':=XV hd;subst hd';refine#[hi,λx H2 y=>?_];let#[e2,e3]:=y;subst e2;exact#[.refl,e3]
 .show m<=i
  unfold EI at hl
  simp_all
section
variable {X:Cx}{tg e e2:Expr}{κ:Kd}{wa:DW}{ws:Dr}{p pos:Pos}
theorem LB(h:DE X e κ wa)(hk:κ≠.tp:=by intro z; cases z):DI X tg e^Hb wa:=by
 let#[t,a1,a2]:=h;refine#[_,NC a1,λC M H n ρ σ P Rr R w q=>?_];refine a2 C M H n ρ σ _ _ R w λv H1 d n1 e1 f1 r1 p=>?_;have hv:=r1.shOf R.dom hk;cases d with
 |lst ds=>
  let#[a,vs,e,hn,hs]:=hv;exact .inl #[a,e,#[vs,hn.sq],q _ H1 ds n1 e1 f1 (Lb hn hs) p]
 |tup ds=>
  let#[a,vs,e,hn,hs]:=hv;exact .inr^.inl #[a,e,#[vs,hn.sq],q _ H1 ds n1 e1 f1 (HX hn hs) p]
 |str z=>exact .inr^.inr #[z,hv.1,q _ H1 _ n1 e1 f1 yields_str p]
 |_=>exact p.elim
def FV(ws:Dr):Dr:=λn ρ P=>ws n ρ λds n1=>∃j:Int,ds=[.int j]/\(-(2 ^ 62)<=j/\j<2 ^ 62)/\P (EI 0 j.toNat) n1
theorem CW(hg:Gl X "range")(hm:X.mg "range"=j_)(ha:Uo X [e] ws)(hs:starEach [e] X.env=[(l_,eval e X.env)]:=by rfl):DI X tg (.Call (.Name "range" p) [e] [] pos)^FV ws:=by
 let#[t,a1,a2]:=ha;refine#[_,PQ hg hm a1 hs,λC M H n ρ σ P Rr R w q=>?_];refine a2 C M H n ρ σ _ _ R w λvs H1 ds n1 e1 f1 r1 p=>?_;let#[j,rfl,hj,p]:=p;cases r1 with
 |cons r rr=>
  cases rr;exact#[j,by rw[r],hj.1,hj.2,q _ H1 _ n1 e1 f1 KP p]
theorem DI.c(h:DI X tg e ws):Ve X tg e ws:=by
 let#[wi,a1,a2]:=h;exact#[wi,a1,λC M H n ρ σ P Rr R w q=>a2 C M H n ρ σ P Rr R w λJ H' ds n' e1 f1 y p=>q J H' ds n' e1 f1 y.e p]
theorem Aw(h:DE X e κ wa):Ve X tg e^Hb wa:=by
 let#[t,a1,a2]:=h;refine#[_,NC a1,λC M H n ρ σ P Rr R w q=>?_];refine a2 C M H n ρ σ _ _ R w λv H1 d n1 e1 f1 r1 p=>?_;have hv:AtT X.K C.V M H1 d v:=r1.tpOf R.dom R.vM;cases d with
 | lst ds=>
  let#[a,vs,e,nv,hr,hs]:=hv;refine .inl #[a,e,#[vs,.inl hr],q _ H1 ds n1 e1 f1 (λi M' H' pr ex _=>?_) p]
  have hq:SqL X.K H' a vs:=by
   rcases hr with hr|⟨o,hr⟩
   .exact .inl^.inl^ex.keep hr λz=>nv^R.uV a z
   .exact .inl^.inr #[o,ex.keep hr λz=>nv^R.uV a z]
  refine#[λd hd=>?_,λhl=>#[vs,hq,by rw[hs.length]; exact hl]];let#[v,e,hv]:=(hs.pres pr).get hd;refine#[#[vs,v,hq,e],λx H2 y=>?_];let#[e2,y]:=y;subst e2
  have:P3 v=P3 x:=e.symm.trans^y vs hq
  cases this;exact#[.refl,hv]
 |tup ds=>
  let#[a,vs,e,hn,hs]:=hv;exact .inr^.inl #[a,e,#[vs,hn.sq],q _ H1 ds n1 e1 f1 (HX hn hs).e p]
 |str z=>exact .inr^.inr #[z,hv.1,q _ H1 _ n1 e1 f1 yields_str.e p]
 |_=>exact p.elim
end
abbrev BW:=D->m_ Slot->(m_ Slot->Prop)->Prop
def DG(X:Cx)(tg:cr)(b:BW):Prop:=∃g,PG X tg g/\∀(C:Fm) (M:Ch->Prop) (H:Hp) (n:Sg) (ρ:m_ Slot) (σ:L2.St) (d:D) (v:V) (P:m_ Slot->Prop) (Q:L2.St->Hp->Prop),Rel X.K C M H n ρ σ->At X.K M H d v->b d ρ P->
 (∀zY zZ,Rel X.K C M H n zY zZ->P zY->Q zZ H)->g v σ H Q
def A6(i:Nat):BW:=λd ρ P=>P^ρ.set i^.sh d
theorem LC{X:Cx}{i:Nat}{x:Str}{pos:Pos}(hN:X.N.Nodup)(hi:X.N[i]?=P3 x)(hx:Loc X.env.scope x)(hf:X.fn x=k_\/X.env.scope.names.lookup x=P3 .local:=by first|exact .inl rfl|exact .inr rfl|assumption):DG X (.Name x pos)^A6 i:=
 #[_,Fh hN hi hx hf,λC M H n ρ σ d v P Q R h w q=>q _ _ (R.set h) w]
def Bn(b:BW)(body:Aa)(D2:E2):m_ D->Sg->m_ Slot->Prop
 |[],n,ρ=>D2.nx n ρ
 |d::ds,n,ρ=>b d ρ λzS=>body {D2 with nx:=Bn b body D2 ds,ct:=Bn b body D2 ds,bk:=D2.nx} n zS
def Mq(src:Dr)(b:BW)(body:Aa):Aa:=λD2 n ρ=>src n ρ λds n1=>Bn b body D2 ds n1 ρ
theorem Rel.unpin{K:Frag}{C:Fm}{p:(Ch->Prop)×Hp}{M:Ch->Prop}{H:Hp}{n:Sg}{ρ:m_ Slot}{σ:L2.St}(R:Rel K {C with zG:=p::C.zG} M H n ρ σ):Rel K C M H n ρ σ:=
 #[R.len,R.sub,R.dom,R.ext,R.fU,R.uV,R.vM,R.feed,R.sl,λq hq=>R.pin q^TW _ hq,R.br0,R.new,R.two,R.kept]
theorem Rel.pinned{K:Frag}{C:Fm}{M:Ch->Prop}{H:Hp}{n:Sg}{ρ:m_ Slot}{σ:L2.St}(R:Rel K C M H n ρ σ):Rel K {C with zG:=(M,H)::C.zG} M H n ρ σ:=
 #[R.len,R.sub,R.dom,R.ext,R.fU,R.uV,R.vM,R.feed,R.sl,λq hq=>(Tk.mp hq).elim (λe=>e▸Pres.refl M H)^R.pin q,R.br0,R.new,R.two,R.kept]
section
variable {X:Cx}{κ:Kd}{tg iter:Expr}{body:m_ Stmt}{src:Dr}{b:BW}{wb:Aa}{pos:Pos}
theorem C9(hp:jI (model X.prog X.w) X.A X.env X.xe)(hc:X.calm=k_)(hi:DI X tg iter src)(hg:DG X tg b)(hb:Mh X κ body wb)
  (hs:∀x,foldedSetIterable iter X.env x=pure x:=by intro _; rfl):DS X κ (.For tg iter body [] pos)^Mq src b wb:=by
 let#[wi,a1,a2]:=hi;let#[g,g1,g2]:=hg;let#[tb,b1,b2]:=hb;refine#[_,Kh hp hc a1 g1 b1 hs,λC M H n ρ σ D2 E R L w=>?_];refine a2 C M H n ρ σ _ _ R w λJ H1 ds n1 e1 f1 y w1=>?_;have R1:=R.step e1 f1;refine#[λi m zZ H'=>m=ds.length - i/\i<=ds.length/\∃M' n' zY,Rel X.K {C with zG:=(M,H1)::C.zG} M' H' n' zY zZ/\Bn b wb D2 (ds.drop i) n' zY,#[ds.length,by simp,cq _,M,n1,ρ,R1.pinned,w1],?_];rintro i m zZ H' ⟨rfl,hi,M',n',zY,R',w'⟩;have pr:Pres M H1 M' H':=R'.pin (M,H1) Op
 by_cases hlt:i<ds.length
 .have ed:ds.drop i=ds[i]::ds.drop (i+1):=fD hlt
  rw[ed]at w';let#[go,yl]:=(y i M' H' pr R'.dom).1 ds[i] (No hlt);refine .inr #[go,λzN H2=>∃M2 n2 zL,Rel X.K {C with zG:=(M,H1)::C.zG} M2 H2 n2 zL zN/\Bn b wb D2 (ds.drop (i+1)) n2 zL,λzN H2 #[M2,n2,zL,R2',w2]=>#[ds.length - (i+1),by lk,rfl,hlt,M2,n2,zL,R2',w2],λx H2 hy=>?_];let#[gr,hx]:=yl x H2 hy;have R2':=R'.step gr.ext^R'.feed.grow gr;refine g2 _ M' H2 n' zY zZ ds[i] x _ _ R2' hx w' λzP zV R3 w3=>?_;refine b2 _ M' H2 n' zP zV {D2 with nx:=Bn b wb D2^ds.drop (i+1),ct:=Bn b wb D2^ds.drop (i+1),bk:=D2.nx} _ R3 #[λM4 H4 n4 zR zQ R4 w4=>#[M4,n4,zR,R4,w4],L.rt,λM4 H4 n4 zR zQ R4 w4=>L.nx M4 H4 n4 zR zQ R4.unpin w4,λM4 H4 n4 zR zQ R4 w4=>#[M4,n4,zR,R4,w4]] w3
 .have e:i=ds.length:=by lk
  subst e;rw[gR]at w';exact .inl #[(y _ M' H' pr R'.dom).2 (Rs _),L.nx M' H' n' zY zZ R'.unpin w']
end
def Co(b:BW)(tt:FU)(te:DW)(P:m_ D->Sg->Prop):m_ D->m_ D->Sg->m_ Slot->Prop
 |[],acc,n,_=>P acc n
 |d::ds,acc,n,ρ=>b d ρ λzS=>tt n zS λc n1=>if c=k_ then te n1 zS λy n2=>Co b tt te P ds (acc++[y]) n2 zS else Co b tt te P ds acc n1 zS
def Ri:Slot->Slot
 |.ow d=>.br d
 |.lt _ d=>.br d
 |s=>s
theorem Pu(s:Slot):(Ri s).owns=l_:=by cases s <;>rfl
theorem D1{js:m_^n_ Nat}{ρ:m_ Slot}{i:Nat}{s:Slot}(h:(js.map λo=>match o with|some i=>Ri^(ρ[i]?).getD .no|none=>Slot.no)[i]?=P3 s):s.owns=l_:=by
 rw[cX]at h;cases q:js[i]? with
 |none=>grind
 | some o=>
  rw[q]at h;cases o with
  |none=>
   rw[←XV h]; rfl
  |some j=>
   rw[←XV h]; exact Pu _
def Fs(js:m_^n_ Nat)(ρ:m_ Slot):m_ Slot:=js.map λo=>match o with
 |some i=>Ri^(ρ[i]?).getD .no
 |none=>.no
def FY(js:m_^n_ Nat)(src:Dr)(b:BW)(tt:FU)(te:DW):DW:=λn ρ P=>src n ρ λds n1=>ds.length<=10000000/\Co b tt te (λacc n2=>P (.lst acc) n2) ds [] n1^Fs js ρ
def X5(X:Cx)(ifs:m_ cr)(w:FU):Prop:=∃t,Z6 X ifs t/\∀(C:Fm) (M:Ch->Prop) (H:Hp) (n:Sg) (ρ:m_ Slot) (σ:L2.St) (P:Bool->Sg->Prop) (Q:Bool->Hp->Prop),Rel X.K C M H n ρ σ->w n ρ P->
 (∀b H' n',Ext C.U H H'->FeedC X.K C.F M H' n'->P b n'->Q b H')->t σ H Q
def HZ:FU:=λn _ P=>P k_ n
theorem BZ{X:Cx}:X5 X [] HZ:=#[_,TV,λC M H n ρ σ P Q R w q=>q _ H n (Ext.refl _ _) R.feed w]
theorem Bi{X:Cx}{c:cr}{w:FU}(h:DT X c w):X5 X [c] w:=by
 let#[t,h1,h2]:=h;exact#[t,TU h1,h2]
theorem Jl{js:m_^n_ Nat}{ρ:m_ Slot}{σ:L2.St}{i:Nat}{s:Slot}(hs:(Fs js ρ)[i]?=P3 s):s=.no\/∃(j:Nat) (s':Slot),ρ[j]?=P3 s'/\s=Ri s'/\((CP js σ)[i]?).getD j_=(σ[j]?).getD j_:=by
 unfold Fs at hs;unfold CP;rw[cX]at hs ⊢;cases q:js[i]? with
 |none=>simp_all
 | some o=>
  rw[q]at hs;cases o with
  |none=>simp_all
  | some j=>
   have e:Ri _=s:=XV hs;cases q2:ρ[j]? with
   |none=>rw[q2]at e; exact .inl e.symm
   |some s'=>
    rw[q2]at e;exact .inr #[j,s',q2,e.symm,rfl]
theorem MA{K:Frag}{F:n_ (Ch×Ch)}{U U' M M':Ch->Prop}{H H':Hp}{js:m_^n_ Nat}{ρ:m_ Slot}{σ:L2.St}(hsl:∀(i:Nat) (s:Slot),ρ[i]?=P3 s->SlotOk K F U M H s^(σ[i]?).getD j_)
  (pr:Pres M H M' H') (br:∀d v,AtT K U M H d v->AtT K U' M' H' d v):∀(i:Nat) (s:Slot),(Fs js ρ)[i]?=P3 s->SlotOk K F U' M' H' s^((CP js σ)[i]?).getD j_:=by
 intro i s hs
 rcases Jl hs with rfl|⟨j,s',q,rfl,e⟩
 .trivial
 .rw[e]
  have h1:=hsl j s' q;cases s' with
  |no=>trivial
  |sh d=>let#[v,e1,h2]:=h1; exact#[v,e1,h2.pres pr]
  |ex a nm ks ds=>let#[e1,h2]:=h1; exact#[e1,h2.pres pr]
  |br d=>let#[v,e1,h2]:=h1; exact#[v,e1,br d v h2]
  |fd=>exact h1
  |ow d=>let#[a,e1,_,nv,t]:=h1; exact#[_,e1,br d _^t.att nv]
  |lt a d=>let#[e1,_,nv,t]:=h1; exact#[_,e1,br d _^t.att nv]
theorem OV{K:Frag}{F:n_ (Ch×Ch)}{U M:Ch->Prop}{H:Hp}{js:m_^n_ Nat}{ρ:m_ Slot}{σ:L2.St}(hsl:∀(i:Nat) (s:Slot),ρ[i]?=P3 s->SlotOk K F U M H s^(σ[i]?).getD j_){i:Nat}{d:D}{a:Ch}
  (hs:(Fs js ρ)[i]?=P3^.br d) (ha:((CP js σ)[i]?).getD j_=P3^.ref a):∃o,H a=P3 o:=by
 rcases Jl hs with z|⟨j,s',q,z,e⟩
 .cases z
 .rw[e]at ha
  have h1:=hsl j s' q;rw[ha]at h1;cases s' with
  |br d=>let#[v,e1,h2]:=h1; cases e1; exact h2.lies
  |ow d=>let#[b,e1,_,nv,t]:=h1; cases e1; exact(t.att nv).lies
  |lt b d=>let#[e1,_,nv,t]:=h1; cases e1; exact(t.att nv).lies
  |no=>cases z
  |sh d=>cases z
  |ex a nm ks ds=>cases z
  |fd=>cases z
section
variable {X:Cx}{zU:Kd}{tg elt iter:Expr}{ifs:m_ Expr}{sc:Scope}{pos:Pos}{src:Dr}{b:BW}{tt:FU}{te:DW}
theorem UR(hc:X.calm=k_)(N':m_ Str)(js:m_^n_ Nat)(hi:Ve X tg iter src)(hg:∀cl C s H fp,DG (Af X sc N' cl C s H fp) tg b)(ht:∀cl C s H fp,X5 (Af X sc N' cl C s H fp) ifs tt)(he:∀cl C s H fp,DE (Af X sc N' cl C s H fp) elt zU te)
  (hB:F6 sc X.env.scope X.N N' js=k_) (hk:zU≠.tp:=by intro z; cases z)
  (hs:∀x,foldedSetIterable iter X.env x=pure x:=by intro _; rfl):DE X (.ListComp elt [#[tg,iter,ifs,0]] sc pos) .fr^FY js src b tt te:=by
 let#[wi,a1,a2]:=hi;refine#[_,Td hc N' js a1 hB hs,λC M H n ρ σ P Q R w q=>?_];refine a2 C M H n ρ σ _ _ R w λJ H1 ds n1 e1 f1 y w1=>?_;let#[hlen,w1]:=w1;have R1:=R.step e1 f1;intro l hl hkl cl Ca s0 H0 fp;let#[g,g1,g2]:=hg cl Ca s0 H0 fp;let#[tc,c1,c2]:=ht cl Ca s0 H0 fp;let#[tx,x1,x2]:=he cl Ca s0 H0 fp
 have noU:¬C.U l:=λz=>by
  let#[o,z]:=R1.udom l z;rw[hl]at z; cases z
 generalize hM':(λb=>M b\/b=l)=M';have M'l:M' l:=by rw[←hM']; exact .inr rfl
 have M'of:∀b,M b->M' b:=λb z=>by rw[←hM']; exact .inl z
 have ofM':∀b,M' b->M b\/b=l:=λb z=>by rw[←hM']at z; exact z
 have inV:∀b,C.V b\/b=l->M' b:=λb z=>z.elim (λz=>M'of b^R1.vM b z) λz=>by rw[z]; exact M'l
 have lenj:js.length=N'.length:=Eb (CompOk.of hB).cap
 refine#[g,tc,tx,λi m zZ H'=>m=ds.length - i/\i<=ds.length/\∃n' zY acc vs,Rel X.K #[M',C.F,C.U,λb=>C.V b\/b=l,H1,[],[]] M' H' n' zY zZ/\H' l=P3^.lst vs/\Ats X.K M' H' acc vs/\acc.length<=i/\Pres M H1 M' H' /\
   Co b tt te (λacc n2=>P (.lst acc) n2) (ds.drop i) acc n' zY,g1,c1,x1,#[ds.length,by simp,cq _,n1,Fs js ρ,[],[],?_],?_]
 .have gr:Grow H1^Ah H1 l^.lst []:=Ad hl
  have pr:Pres M H1 M'^Ah H1 l^.lst []:=#[λb o e _ _=>gr.all b o e,λb z=>(ofM' b z).elim .inl λz=>.inr (by rw[z]; exact hl),λb vs e=>gr.all b _ e,λb o e=>#[o,gr.all b o e]];refine#[#[?_,λa z=>z,λa z=>?_,gr.ext,R1.fU,λa z=>.inl^R1.uV a z,inV,f1.pres pr (λf o _ e=>gr.all f.1 o e) λa u e=>gr.all a _ e,?_,λp hp=>absurd hp^by simp,λi d a q z=>OV R1.sl q z,λi s a q o _=>absurd o (by rw[D1 q]; decide),λi j s t a q o _ _ _ _=>absurd o (by rw[D1 q]; decide),λp hp=>absurd hp^by simp],AM,rfl,cq _,pr,w1]
  .unfold Fs CP
   rw[FM,FM]
  .rcases ofM' a z with z|z
   .let#[o,z]:=R1.dom a z
    exact#[o,gr.all a o z]
   .subst z
    exact#[_,AM]
  .refine MA R1.sl pr λd v h=>h.same pr (λa o _ e=>gr.all a o e) λa e n1 z=>z.elim n1 λz=>?_
   subst e;let#[o,w]:=h.lies;rw[z,hl]at w;cases w
 .rintro i m zZ H' ⟨rfl,hi,n',zY,acc,vs,R',hlv,hac,hal,pr,w'⟩
  by_cases hlt:i<ds.length
  .have ed:ds.drop i=ds[i]::ds.drop (i+1):=fD hlt
   rw[ed]at w';let#[go,yl]:=(y i M' H' pr R'.ext R'.dom).1 ds[i] (No hlt);refine .inr #[go,λx H2 hy=>?_];let#[gr,hx]:=yl x H2 hy;have R2':=R'.step gr.ext^R'.feed.grow gr;refine g2 _ M' H2 n' zY zZ ds[i] x _ _ R2' hx w' λzP zV R3 w3=>?_;refine c2 _ M' H2 n' zP zV _ _ R3 w3 λc H4 n4 e4 f4 w4=>?_;have R4:=R3.step e4 f4;have p4:Pres M' H' M' H4:=gr.pres.trans^R3.pres e4;have l4:H4 l=P3^.lst vs:=e4.keep (gr.all _ _ hlv) noU;cases c with
   |false=>exact#[ds.length - (i+1),by lk,rfl,hlt,n4,zP,acc,vs,R4,l4,hac.pres p4,by lk,pr.trans p4,w4]
   | true=>
    refine x2 _ M' H4 n4 zP zV _ _ R4 w4 λyv H5 d5 n5 e5 f5 r5 w5=>?_;have R5:=R4.step e5 f5;have p5:Pres M' H4 M' H5:=R4.pres e5;have l5:H5 l=P3^.lst vs:=e5.keep l4 noU;have hy5:=r5.shOf R4.dom hk;have a5:=(hac.pres p4).pres p5;have pu:Pres M' H5 M'^Ah H5 l^.lst (vs++[yv]):=Ek M'l l5;have hvl:vs.length=acc.length:=hac.length;refine#[vs,l5,by rw[dg]; omega,ds.length - (i+1),by lk,rfl,hlt,n5,zP,acc++[d5],vs++[yv],?_,AM,(a5.append^Ats.one hy5).pres pu,by rw[cZ,c7]; omega,(pr.trans p4).trans^p5.trans pu,w5];refine#[R5.len,R5.sub,λa z=>?_,λb o e=>?_,R5.fU,R5.uV,R5.vM,?_,λj s hs=>?_,λp hp=>absurd hp^by simp,R5.br0,R5.new,R5.two,λp hp=>absurd hp^by simp]
    .by_cases ha:a=l
     .subst ha; exact#[_,AM]
     .rw[AI ha]; exact R5.dom a z
    .let#[o',q1,q2]:=R5.ext b o e
     by_cases hb:b=l
     .subst hb
      have e':H1 b=P3 o:=e;rw[hl]at e'; cases e'
     .exact#[o',by rw[AI hb]; exact q1,q2]
    .refine f5.pres pu (λf o hf e=>?_) λa u e=>by rw[AI λz=>by rw[z,l5]at e; cases e]; exact e
     rw[AI λz=>noU^by rw[←z]; exact R1.fU f hf];exact e
    .have hs5:=R5.sl j s hs
     cases s with
     |no=>trivial
     |sh d=>let#[v,e1,h2]:=hs5; exact#[v,e1,h2.pres pu]
     |ex a nm ks ds=>let#[e1,h2]:=hs5; exact#[e1,h2.pres pu]
     | br d=>
      let#[v,e1,h2]:=hs5;refine#[v,e1,h2.same pu (λa o z e=>?_) λ_ _ z=>z];subst z;let#[o3,w]:=R5.br0 j d a hs e1
      have hal:a≠l:=λz=>by
       have w':H1 a=P3 o3:=w;rw[z,hl]at w'; cases w'
      rw[AI hal]; exact e
     |ow d=>
      let#[a,e1,h2,_]:=hs5;exact absurd h2 (R5.new j _ a hs rfl e1).1
     |lt a d=>
      let#[e1,h2,_]:=hs5;exact absurd h2 (R5.new j _ a hs rfl e1).1
     |fd=>exact hs5
  .have e:i=ds.length:=by lk
   subst e;rw[gR]at w';refine .inl #[(y _ M' H' pr R'.ext R'.dom).2 (Rs _),?_];have eb:Ext C.U H1 H':=R'.ext;have less:Pres M' H' M H':=Pres.less M'of;refine q _ H' (.lst acc) n' (e1.trans eb) (R'.feed.pres less (λ_ _ _ z=>z) λ_ _ z=>z) (VR.back e1 ?_) w';exact#[l,rfl,hl,vs,hlv,by rw[hM']; exact hac]
end
theorem Jd{K:Frag}{F:n_ (Ch×Ch)}{U V' M:Ch->Prop}{H:Hp}{n:Sg}{ss:m_ Slot}{vs:m_ V}{N:m_ Str}(h:Xt K F U V' M H n ss vs)(hl:vs.length<=N.length):
  Rel K #[M,F,U,V',H,[],[]] M H n (ss++dX (N.length - ss.length) .no) (L2.start N vs):=by
 let#[dom,fU,uV,vM,fd,pa]:=h;have el:vs.length=ss.length:=Paired.length pa
 have go:∀{vs:m_ V}{ss:m_ Slot}{i:Nat}{s:Slot},Paired (DF K F V' M H) vs ss->ss[i]?=P3 s->∃v,vs[i]?=P3 v/\DF K F V' M H v s:=by
  intro vs ss i s pa
  induction pa generalizing i with
  |nil=>intro e; simp at e
  | cons r t ih=>
   intro e;cases i with
   |zero=>simp at e; subst e; exact#[_,rfl,r]
   |succ i=>
    let#[v,e1,h1]:=ih (i:=i) (by simpa using e);exact#[v,by simpa using e1,h1]
 have at_:∀(i:Nat) (s:Slot),(ss++dX (N.length - ss.length) Slot.no)[i]?=P3 s->s=.no\/∃v,((L2.start N vs)[i]?).getD j_=P3 v/\DF K F V' M H v s:=by
  intro i s hs
  by_cases hi:i<ss.length
  .rw[fi hi]at hs
   let#[v,e1,h1]:=go pa hs;refine .inr #[v,?_,h1];unfold L2.start;rw[fi (by rw[FM,el]; exact hi),cX,e1];rfl
  .rw[eP^by lk,g7]at hs
   split at hs
   .exact .inl (XV hs).symm
   .cases hs
 refine#[?_,λa z=>z,dom,Ext.refl _ _,fU,uV,vM,fd,λi s hs=>?_,λp hp=>absurd hp^by simp,λi d a hs ha=>?_,λi s a hs o _=>?_,λi j s t a hs o _ _ _ _=>?_,λp hp=>absurd hp^by simp]
 .unfold L2.start
  simp only[cZ,FM,jQ];lk
 .rcases at_ i s hs with rfl|⟨v,e,h⟩
  .trivial
  .rw[e]; exact h.1
 .rcases at_ i _ hs with z|⟨v,e,h⟩
  .cases z
  .rw[e]at ha
   cases ha;let#[v,e1,h1]:=h.1;cases e1;exact h1.lies
 .rcases at_ i s hs with rfl|⟨v,e,h⟩
  .cases o
  .rw[h.2]at o; cases o
 .rcases at_ i s hs with rfl|⟨v,e,h⟩
  .cases o
  .rw[h.2]at o; cases o
theorem b7{P:cm}{w:cy}{K:Frag}{mg:Str->n_ Cn}{base:cf}{x qual:Str}{st:d6}{f:Ch}{fd:dR}{N ps:m_ Str}{k:Nat}{κ:Kd}{W:W2}{wb:Aa}(F:Fun K x qual st f fd)(S:BF N ps^AK st)(hNp:ps.length<=N.length)
  (hb:∀(cdv:Cn) (A:c_) (outer:m_ Env) (s:Go) (H:Hp) (E:XK),Room k^A.deeper^envOfC qual (AK st) s.heap.objs.size f cdv->Mh (D7 E6 P w K mg base N qual (AK st) f cdv A outer s H E).nox κ (An st) wb)
  (hW:∀ss n Pd,ss.length=ps.length->W ss n Pd->wb {nx:=λn _=>κ=.sh/\Pd .non n,rt:=Pd} n (ss++dX (N.length - ps.length) .no)):
  FnOk P w K mg base E6 (k+1) f fd ps (QS K κ W ps.length):=by
 refine F.ok S (λvs H Q E h=>h.1) λcdv A outer s H vs Q E hr h=>?_;let#[hl,F0,U,V',M,n,ss,Pd,ra,hw,q]:=h;let#[t,t1,t2]:=hb cdv A outer s H E hr;refine#[t,t1,?_];have el:vs.length=ss.length:=Paired.length ra.2.2.2.2.2;have R:=Jd (N:=N) ra (by lk);refine t2 #[M,F0,U,V',H,[],[]] M H n _ _ {nx:=λn _=>κ=.sh/\Pd .non n,rt:=Pd} _ R #[λM1 H1 n1 zS zJ R1 p=>?_,λv H1 d n1 e1 f1 r1 p=>q v H1 d n1 e1 f1 r1 p,λ_ _ _ _ _ _ z=>z.elim,λ_ _ _ _ _ _ z=>z.elim] ?_
 .let#[hk,p]:=p
  subst hk;exact q .non H1 .non n1 R1.ext (R1.feed.pres (Pres.less R1.sub) (λ_ _ _ z=>z) λ_ _ z=>z) rfl p
 grind
end Dp
namespace L2
section
variable {X:Cx}
theorem Inv.rdl{zG:m_ (Ch×Obj)}{σ:L2.St}{H:Hp}{s:Go}{l:Ch}{xs:m_ V}(I:Inv X zG σ H s)(h:Rd H l^.lst xs):xs.length<=sizeLine/\∃(its:m_ Cn) (n:Nat),Vals xs its/\xs.length=its.length/\s.heap.get? l=P3 {cls:=.type "list",data:=.seq its.toArray n}:=by
 let#[z,its,n,r,e]:=h.ok I.hok;exact#[z,_,n,r,r.length,e]
theorem Fj:OpR X (binaryOp .Add) (λx y H Q=>∃l b xs zs,x=.ref l/\y=.ref b/\Rd H l^.lst xs/\Rd H b^.lst zs/\xs.length+zs.length<=sizeLine/\∀p,H p=j_->Q (.ref p)^Ah H p^.lst (xs++zs)):=by
 intro zG s σ H x y v u Q I rx ry h;let#[l,b,xs,zs,rfl,rfl,hH,hB,hz,q]:=h;cases rx;cases ry;let#[z,its,n,r,hl,e]:=I.rdl hH;let#[z2,its2,n2,r2,hl2,e2]:=I.rdl hB;refine PySem.P.add_list e e2 ?_ (by grind);have ea:its.toArray++its2.toArray=(its++its2).toArray:=by simp
 rw[ea];exact#[.ref _,_,I.lnew (r.append r2)^by grind,rfl,q _ I.fresh]
end
end L2
namespace Dp
open L2
section
variable {K:Frag}
theorem AtT.int{U M:Ch->Prop}{H:Hp}{i:Int}{v:V}(h:AtT K U M H (.int i) v):v=.int i:=h
theorem AtT.bl{U M:Ch->Prop}{H:Hp}{i:Bool}{v:V}(h:AtT K U M H (.bl i) v):v=.bl i:=h
theorem AtT.str{U M:Ch->Prop}{H:Hp}{x:Str}{v:V}(h:AtT K U M H (.str x) v):v=.str x/\x.length<=sizeLine:=h
theorem AtT.tup{U M:Ch->Prop}{H:Hp}{ds:m_ D}{v:V}(h:AtT K U M H (.tup ds) v):∃a vs,v=.ref a/\NdT M H a vs/\Ats K M H ds vs:=h
def aM(g:Int->Int->(D->Prop)->Prop)(d e:D)(P:D->Prop):Prop:=match d,e with
 |.int i,.int j=>g i j P
 |_,_=>False
theorem K9{g:Int->Int->(D->Prop)->Prop}{d e:D}{P:D->Prop}(w:aM g d e P):∃i j,d=.int i/\e=.int j/\g i j P:=by
 unfold aM at w
 split at w
 .grind
 grind
def f2(g:Int->Int->D):D->D->(D->Prop)->Prop:=aM λi j P=>P^g i j
def Zc(C:Int->Int->Prop)(g:Int->Int->D):D->D->(D->Prop)->Prop:=aM λi j P=>C i j/\P^g i j
theorem Sh{g:Int->Int->Int}:Eu K .sh (Gg λi j=>.int^g i j) (f2 λi j=>.int^g i j):=by
 intro U M H d e x y P Q dom vM hx hy w q;let#[i,j,rfl,rfl,w]:=K9 w;exact#[i,j,hx,hy,q _ H (.int _) .refl rfl w]
theorem LR{g:Int->Int->Bool}:Eu K .sh (Gg λi j=>.bl^g i j) (f2 λi j=>.bl^g i j):=by
 intro U M H d e x y P Q dom vM hx hy w q;let#[i,j,rfl,rfl,w]:=K9 w;exact#[i,j,hx,hy,q _ H (.bl _) .refl rfl w]
theorem Gb{C:Int->Int->Prop}{g:Int->Int->Int}:Eu K .sh (rI C λi j=>.int^g i j) (Zc C λi j=>.int^g i j):=by
 intro U M H d e x y P Q dom vM hx hy w q;let#[i,j,rfl,rfl,w]:=K9 w;exact#[i,j,hx,hy,w.1,q _ H (.int _) .refl rfl w.2]
def aK(g:Str->Str->(D->Prop)->Prop)(d e:D)(P:D->Prop):Prop:=match d,e with
 |.str i,.str j=>g i j P
 |_,_=>False
theorem Of{g:Str->Str->(D->Prop)->Prop}{d e:D}{P:D->Prop}(w:aK g d e P):∃i j,d=.str i/\e=.str j/\g i j P:=by
 unfold aK at w
 split at w
 .grind
 grind
theorem Sd{g:Str->Str->Bool}:Eu K .sh (λx y H Q=>∃i j,x=.str i/\y=.str j/\Q (.bl^g i j) H) (aK λi j P=>P^.bl^g i j):=by
 intro U M H d e x y P Q dom vM hx hy w q;let#[i,j,rfl,rfl,w]:=Of w;exact#[i,j,hx.1,hy.1,q _ H (.bl _) .refl rfl w]
theorem QO:Eu K .sh (λx y H Q=>∃i j,x=.str i/\y=.str j/\i.length+j.length<=sizeLine/\Q (.str (i++j)) H) (aK λi j P=>i.length+j.length<=sizeLine/\P^.str (i++j)):=by
 intro U M H d e x y P Q dom vM hx hy w q;let#[i,j,rfl,rfl,w]:=Of w;exact#[i,j,hx.1,hy.1,w.1,q _ H (.str _) .refl #[rfl,by rw[iu i j]; exact w.1] w.2]
def bO(g:m_ D->m_ D->(D->Prop)->Prop)(d e:D)(P:D->Prop):Prop:=match d,e with
 |.tup i,.tup j=>g i j P
 |_,_=>False
def aL(g:m_ D->m_ D->(D->Prop)->Prop)(d e:D)(P:D->Prop):Prop:=match d,e with
 |.lst i,.lst j=>g i j P
 |_,_=>False
theorem T8{g:m_ D->m_ D->(D->Prop)->Prop}{d e:D}{P:D->Prop}(w:bO g d e P):∃i j,d=.tup i/\e=.tup j/\g i j P:=by
 unfold bO at w
 split at w
 .grind
 grind
theorem T9{g:m_ D->m_ D->(D->Prop)->Prop}{d e:D}{P:D->Prop}(w:aL g d e P):∃i j,d=.lst i/\e=.lst j/\g i j P:=by
 unfold aL at w
 split at w
 .grind
 grind
theorem C5{M:Ch->Prop}{H:Hp}{p:Ch}{vs:m_ V}{ds:m_ D}(dom:∀a,M a->∃o,H a=P3 o)(hp:H p=j_)(h:Ats K M H ds vs):At K M (Ah H p^.tup vs) (.tup ds)^.ref p:=#[p,vs,rfl,AM,h.pres (Ad hp).pres]
theorem C6{U M:Ch->Prop}{H:Hp}{p:Ch}{vs:m_ V}{ds:m_ D}(hp:H p=j_)(h:Ats K M H ds vs):VR K U M H (Ah H p^.lst vs) .fr (.ref p)^.lst ds:=
 #[p,rfl,hp,vs,AM,h.pres^D5 hp]
theorem QN:Eu K .sh (Q8 K) (bO λi j P=>i≠[]/\i.length+j.length<=sizeLine/\P^.tup (i++j)):=by
 intro U M H d e x y P Q dom vM hx hy w q;let#[i,j,rfl,rfl,w]:=T8 w;let#[a,vs,rfl,ha,hs]:=hx.tup;let#[b,us,rfl,hb,ht]:=hy.tup;have l1:=hs.length;have l2:=ht.length;refine#[a,b,vs,us,rfl,rfl,ha.sq,hb.sq,λz=>w.1 ?_,by simp_all,λz=>?_,λz p hp=>?_]
 .rw[z]at l1; exact g8.mp l1.symm
 .rw[z]at l2
  have:j=[]:=g8.mp l2.symm
  subst this;exact q _ H (.tup i) .refl #[a,vs,rfl,ha,hs]^by grind
 .exact q _ _ (.tup (i++j)) (Ad hp) (C5 dom hp^hs.append ht) w.2.2
theorem Dq:Eu K .fr (λx y H Q=>∃l b xs zs,x=.ref l/\y=.ref b/\Rd H l^.lst xs/\Rd H b^.lst zs/\xs.length+zs.length<=sizeLine/\∀p,H p=j_->Q (.ref p)^Ah H p^.lst (xs++zs)) (aL λi j P=>i.length+j.length<=sizeLine/\P^.lst (i++j)):=by
 intro U M H d e x y P Q dom vM hx hy w q;let#[i,j,rfl,rfl,w]:=T9 w;let#[a,vs,rfl,_,ha,hs]:=hx;let#[b,us,rfl,_,hb,ht]:=hy;exact#[a,b,vs,us,rfl,rfl,ha,hb,by rw[hs.length,ht.length]; exact w.1,λp hp=>q _ _ _ (Ad hp) (C6 hp^hs.append ht) w.2]
def QU(neg:Bool)(d e:D)(P:D->Prop):Prop:=match d,e with
 |.bl i,.bl j=>P^.bl (if neg then !(i==j)else i==j)
 |.int i,.int j=>P^.bl (if neg then !(i==j)else i==j)
 |.str i,.str j=>P^.bl (if neg then !(i==j)else i==j)
 |_,_=>False
theorem Og{neg:Bool}{d e:D}{P:D->Prop}(w:QU neg d e P):(∃i j,d=.bl i/\e=.bl j/\P^.bl (if neg then !(i==j)else i==j))\/(∃i j,d=.int i/\e=.int j/\P^.bl (if neg then !(i==j)else i==j))\/∃i j,d=.str i/\e=.str j/\P^.bl (if neg then !(i==j)else i==j):=by
 unfold QU at w
 split at w
 .simp_all
 .simp_all
 .simp_all
 grind
theorem DZ:Eu K .sh bw^QU l_:=by
 intro U M H d e x y P Q dom vM hx hy w q
 rcases Og w with⟨i,j,rfl,rfl,w⟩|⟨i,j,rfl,rfl,w⟩|⟨i,j,rfl,rfl,w⟩
 .rw[hx.bl,hy.bl]; exact#[rfl,q _ H _ .refl (by rw[LF]; rfl) w]
 .rw[hx.int,hy.int]; exact#[rfl,q _ H _ .refl (by rw[HR]; rfl) w]
 .rw[hx.str.1,hy.str.1]; exact#[rfl,q _ H _ .refl (by rw[HQ]; rfl) w]
theorem Mc:Eu K .sh bq^QU k_:=by
 intro U M H d e x y P Q dom vM hx hy w q
 rcases Og w with⟨i,j,rfl,rfl,w⟩|⟨i,j,rfl,rfl,w⟩|⟨i,j,rfl,rfl,w⟩
 .rw[hx.bl,hy.bl]; exact#[rfl,q _ H _ .refl (by rw[LF]; rfl) w]
 .rw[hx.int,hy.int]; exact#[rfl,q _ H _ .refl (by rw[HR]; rfl) w]
 .rw[hx.str.1,hy.str.1]; exact#[rfl,q _ H _ .refl (by rw[HQ]; rfl) w]
def Rt:D->Bool
 |.non=>k_
 |_=>l_
theorem MD{U M:Ch->Prop}{H:Hp}{d:D}{x:V}(h:AtT K U M H d x):decide (x=.non)=Rt d:=by
 cases d with
 |non=>rw[h]; rfl
 |bl b=>rw[h.bl]; rfl
 |int i=>rw[h.int]; rfl
 |str z=>rw[h.str.1]; rfl
 |tup ds=>let#[a,vs,rfl,_]:=h.tup; rfl
 |lst ds=>let#[a,vs,rfl,_]:=h; rfl
 |dic ks ds=>let#[a,vs,rfl,_]:=h; rfl
 |fdi ks ds=>let#[a,vs,rfl,_]:=h; rfl
 |dit ks ds=>let#[a,vs,rfl,_]:=h; rfl
 |ob a=>let#[rfl,_]:=h; rfl
def C7(d e:D)(P:D->Prop):Prop:=match d,e with
 |.lst ds,.int i=>∃z,atI ds i=P3 z/\P z
 |.tup ds,.int i=>∃z,atI ds i=P3 z/\P z
 |.str x,.int i=>∃c,atI x.cps.toList i=P3 c/\P^.str #[#[ c]]
 |_,_=>False
theorem T_{d e:D}{P:D->Prop}(w:C7 d e P):(∃ds i z,d=.lst ds/\e=.int i/\atI ds i=P3 z/\P z)\/(∃ds i z,d=.tup ds/\e=.int i/\atI ds i=P3 z/\P z)\/∃x i c,d=.str x/\e=.int i/\atI x.cps.toList i=P3 c/\P^.str #[#[ c]]:=by
 unfold C7 at w
 split at w
 .simp_all
 .simp_all
 .simp_all
 grind
theorem Ats.atI{M:Ch->Prop}{H:Hp}{ds:m_ D}{vs:m_ V}{i:Int}{z:D}(h:Ats K M H ds vs)(e:atI ds i=P3 z):∃v,L2.atI vs i=P3 v/\At K M H z v:=by
 unfold L2.atI at e ⊢;rw[h.length];cases q:Tx _ i with
 |none=>grind
 |some j=>
  rw[q]at e;exact h.get e
theorem bU:Eu K .sh (bu K) C7:=by
 intro U M H d e x y P Q dom vM hx hy w q
 rcases T_ w with⟨ds,i,z,rfl,rfl,hz,w⟩|⟨ds,i,z,rfl,rfl,hz,w⟩|⟨x,i,c,rfl,rfl,hc,w⟩
 .let#[a,vs,rfl,_,ha,hs]:=hx
  let#[v,hv,hAt]:=hs.atI hz;exact .inl #[a,vs,i,v,rfl,hy,.inl ha,hv,q v H z .refl hAt w]
 .let#[a,vs,rfl,ha,hs]:=hx.tup
  let#[v,hv,hAt]:=hs.atI hz;exact .inr^.inl #[a,vs,i,v,rfl,hy,ha.sq,hv,q v H z .refl hAt w]
 .exact .inr^.inr #[x,i,c,hx.str.1,hy,hx.str.2,hc,q _ H (.str _) .refl #[rfl,by show 1<=16777216; decide] w]
def cutD{α:Type}(xs:m_ α)(lo hi:n_ Int):m_ α:=(xs.drop^HT.sIx xs.length 0 lo).take (HT.sIx xs.length xs.length hi - HT.sIx xs.length 0 lo)
theorem Dh{R:V->D->Prop}{vs:m_ V}{d:D}(h:Paired R vs [d]):∃v,vs=[v]/\R v d:=by
 cases h with
 |cons r t=>cases t; grind
def bB:D->n_ Nat
 |.str x=>P3 x.length
 |.tup xs=>P3 xs.length
 |.lst xs=>P3 xs.length
 |_=>j_
def ZX(ds:m_ D)(P:D->Prop):Prop:=∃d n,ds=[d]/\bB d=P3 n/\P^.int (n:Int)
theorem Zq:Cf K .sh (λxs H Q=>∃x n,xs=[x]/\Xy K x H n/\Q (.int n) H) ZX:=by
 intro U M H ds vs P Q dom vM hp w q;let#[d,n,rfl,hn,w]:=w;let#[v,rfl,hx]:=Dh hp;refine#[v,n,rfl,?_,q _ H (.int _) .refl rfl w];cases d with
 |str z=>cases hn; rw[hx.str.1]; exact#[hx.str.2,rfl]
 |tup xs=>
  cases hn;let#[a,us,rfl,ha,hs]:=hx.tup;exact .inr #[us,ha.sq,hs.length.symm]
 |lst xs=>
  cases hn;let#[a,us,rfl,_,ha,hs]:=hx;exact .inl #[us,.inl ha,hs.length.symm]
 |_=>cases hn
def allB:m_ D->n_^m_ Bool
 |[]=>P3 []
 |.bl b::r=>(allB r).map (b::·)
 |_::_=>j_
theorem Oz{M:Ch->Prop}{H:Hp}:∀{ds:m_ D}{vs:m_ V}{bs:m_ Bool},allB ds=P3 bs->Ats K M H ds vs->vs=bs.map V.bl
 |[],vs,bs,e,h=>by cases e; exact h
 |.bl b::r,vs,bs,e,h=>by
  let#[v,r',e1,h1,h2]:=h;let#[bs',e2,rfl]:=dJ.mp e;rw[e1,Oz e2 h2,h1];rfl
 |.non::r,vs,bs,e,h=>by cases e
 |.int _::r,vs,bs,e,h=>by cases e
 |.str _::r,vs,bs,e,h=>by cases e
 |.tup _::r,vs,bs,e,h=>by cases e
 |.lst _::r,vs,bs,e,h=>by cases e
 |.dic _ _::r,vs,bs,e,h=>by cases e
 |.fdi _ _::r,vs,bs,e,h=>by cases e
 |.dit _ _::r,vs,bs,e,h=>by cases e
def Za(ds:m_ D)(P:D->Prop):Prop:=∃xs bs,ds=[.lst xs]/\allB xs=P3 bs/\P^.bl^bs.all id
theorem KI:Cf K .sh (λxs H Q=>∃(p:Ch) (bs:m_ Bool),xs=[.ref p]/\SqL K H p^bs.map V.bl/\Q (.bl^bs.all id) H) Za:=by
 intro U M H ds vs P Q dom vM hp w q;let#[xs,bs,rfl,e,w]:=w;let#[v,rfl,hx]:=Dh hp;let#[a,us,rfl,_,ha,hs]:=hx
 have:=Oz e hs
 subst this;exact#[a,bs,rfl,.inl ha,q _ H (.bl _) .refl rfl w]
def Ma:m_ D->n_^m_ Str
 |[]=>P3 []
 |.str b::r=>(Ma r).map (b::·)
 |_::_=>j_
theorem LN{M:Ch->Prop}{H:Hp}:∀{ds:m_ D}{vs:m_ V}{bs:m_ Str},Ma ds=P3 bs->Ats K M H ds vs->vs=bs.map V.str
 |[],vs,bs,e,h=>by cases e; exact h
 |.str b::r,vs,bs,e,h=>by
  let#[v,r',e1,h1,h2]:=h;let#[bs',e2,rfl]:=dJ.mp e;rw[e1,LN e2 h2,h1.1];rfl
 |.non::r,vs,bs,e,h=>by cases e
 |.int _::r,vs,bs,e,h=>by cases e
 |.bl _::r,vs,bs,e,h=>by cases e
 |.tup _::r,vs,bs,e,h=>by cases e
 |.lst _::r,vs,bs,e,h=>by cases e
 |.dic _ _::r,vs,bs,e,h=>by cases e
 |.fdi _ _::r,vs,bs,e,h=>by cases e
 |.dit _ _::r,vs,bs,e,h=>by cases e
def VO(d:D)(ds:m_ D)(P:D->Prop):Prop:=∃(z:Str) (xs:m_ D) (ys:m_ Str),d=.str z/\ds=[.lst xs]/\Ma xs=P3 ys/\(ys.map (·.length)).sum+ys.length*z.length<=16777216/\(Txt.join z ys).length<=16777216/\P^.str^Txt.join z ys
theorem Xb:ba K .sh "str" (λx xs H Q=>∃(z:Str) (p:Ch) (ys:m_ Str),x=.str z/\xs=[.ref p]/\SqL K H p^ys.map V.str/\(ys.map (·.length)).sum+ys.length*z.length<=16777216/\Q (.str^Txt.join z ys) H) VO:=by
 intro U M H d ds x vs P Q dom vM hx hp w q;let#[z,xs,ys,rfl,rfl,e,h1,h2,w]:=w;let#[v,rfl,hy]:=Dh hp;let#[a,us,rfl,_,ha,hs]:=hy
 have:=LN e hs
 subst this;exact#[z,a,ys,hx.str.1,rfl,.inl ha,h1,q _ H (.str _) .refl #[rfl,by assumption] w]
end
def YR:D->String
 |.non=>"NoneType"
 |.bl _=>"bool"
 |.int _=>"int"
 |.str _=>"str"
 |.tup _=>"tuple"
 |.lst _=>"list"
 |.dic _ _=>"dict"
 |.fdi _ _=>"dict"
 |.dit _ _=>"dict"
 |.ob _=>""
def ZE:D->(String->Prop)->Prop
 |.ob _,_=>False
 |d,k=>k^YR d
theorem K6{d:D}{k:String->Prop}(h:ZE d k):(∀a,d≠.ob a)/\k^YR d:=by
 cases d <;>first|exact h.elim|exact#[(λ_ z=>by cases z),h]
def ZF(t T:String):Bool:=t==T||(t=="bool"&&T=="int")
def YJ(T:String)(wa:DW):DW:=λn ρ P=>wa n ρ λd n1=>ZE d λt=>P (.bl^ZF t T) n1
structure Sw (K:Frag) (T:String):Prop where
 ans:∀t∈["NoneType","bool","int","str","tuple","list","dict"],PySem.W.kitOne K (.type t)^.type T=P3^ZF t T
theorem S7{K:Frag}{M U:Ch->Prop}{H:Hp}{d:D}{x:V}(h:AtT K U M H d x)(no:∀a,d≠.ob a):FT K H x^.type^YR d:=by
 cases d with
 |non=>cases(h); exact .non
 |bl b=>cases h.bl; exact .bl b
 |int i=>cases h.int; exact .int i
 |str z=>cases h.str.1; exact .str z
 |tup ds=>
  let#[a,vs,rfl,ha,hs]:=h.tup;exact .tup ha
 |lst ds=>
  let#[a,vs,rfl,_,ha,hs]:=h
  rcases ha with ha|⟨o,ha⟩
  .exact .lst ha
  .exact .frz ha
 |dic ks ds=>
  let#[a,vs,rfl,_,ha,_]:=h;exact .dK ha
 |fdi ks ds=>
  let#[a,vs,rfl,#[o,_,ha],_]:=h;exact .dF ha
 |dit ks ds=>
  let#[a,vs,rfl,_,ha,_]:=h;exact .dT ha
 |ob a=>exact absurd rfl (no a)
theorem S8(d:D)(no:∀a,d≠.ob a):YR d∈["NoneType","bool","int","str","tuple","list","dict"]:=by cases d <;>first|exact absurd rfl (no _)|simp[YR]
theorem FP{X:Cx}{a:cr}{κ:Kd}{wa:DW}{T:String}{Tn:Str}{p p2 pos:Pos}(kt:Sw X.K T)(ha:DE X a κ wa)(hg:Gl X "isinstance")(hm:X.mg "isinstance"=j_)(hgT:Gl X Tn)(hmT:X.mg Tn=j_)(hvT:bootBuiltins Tn=P3^.type T)
  (hnT:Tn ≠ "__name__":=by decide) (hdT:(Tn==("__debug__":Str))=l_:=by decide)
  (he:starEach [a,.Name Tn p2] X.env=(l_,eval a X.env)::starEach [.Name Tn p2] X.env:=by rfl) (he2:starEach [.Name Tn p2] X.env=[(l_,eval (.Name Tn p2) X.env)]:=by rfl)
  (hpl:(backTo pos^starEach [.Name Tn p2] X.env).any (·.1)=l_:=by rfl):DE X (.Call (.Name "isinstance" p) [a,.Name Tn p2] [] pos) .sh^YJ T wa:=by
 let#[t,h1,h2]:=ha;have pT:PE X (.Name Tn p2)^tC^.ty T:=Tf hgT hmT hvT rfl hnT hdT;exact#[_,Fi MW hg hm (by decide +kernel) (BK h1 (BK pT Cj he2) he) (by cbv) (by cbv) he hpl,λC M H n ρ σ P Q R w q=>h2 C M H n ρ σ _ _ R w λv H1 d n1 e1 f1 r1 p=>#[v,T,_,_,rfl,S7 (r1.tpOf R.dom R.vM) (K6 p).1,kt.ans _^S8 d (K6 p).1,q _ H1 (.bl _) n1 e1 f1 rfl (K6 p).2]]
section
variable {K:Frag}{X:Cx}
def VP(d e:D)(P:D->Prop):Prop:=match d,e with
 |.int i,.int j=>P^.int (i+j)
 |.str i,.str j=>i.length+j.length<=sizeLine/\P^.str (i++j)
 |.tup i,.tup j=>i≠[]/\i.length+j.length<=sizeLine/\P^.tup (i++j)
 |.lst i,.lst j=>i.length+j.length<=sizeLine/\P^.lst (i++j)
 |_,_=>False
def Yz:R2:=λx y H Q=>∃l b xs zs,x=.ref l/\y=.ref b/\Rd H l^.lst xs/\Rd H b^.lst zs/\xs.length+zs.length<=sizeLine/\∀p,H p=j_->Q (.ref p)^Ah H p^.lst (xs++zs)
def Yy:R2:=λx y H Q=>∃i j,x=.str i/\y=.str j/\i.length+j.length<=sizeLine/\Q (.str (i++j)) H
def Uy(g:Str->Str->Bool):R2:=λx y H Q=>∃i j,x=.str i/\y=.str j/\Q (.bl^g i j) H
def Q9(K:Frag):R2:=λx y H Q=>(Gg λi j=>.int (i+j)) x y H Q\/Yy x y H Q\/Q8 K x y H Q\/Yz x y H Q
theorem op_addU:OpR X (binaryOp .Add)^Q9 X.K:=op_add.or^(NF).or^op_catT.or^Fj
theorem LS:Eu X.K .sh (Q9 X.K) VP:=λU M H d e x y P Q dom vM hx hy w q=>by
 unfold VP at w
 split at w
 .exact .inl^Sh U M H _ _ x y P Q dom vM hx hy w q
 .exact .inr^.inl^QO U M H _ _ x y P Q dom vM hx hy w q
 .exact .inr^.inr^.inl^QN U M H _ _ x y P Q dom vM hx hy w q
 .exact .inr^.inr^.inr^Dq U M H _ _ x y P Q dom vM hx hy w λv H' z g r p=>q v H' z g (r.shOf dom^by grind) p
 grind
def ZW(d e:D)(P:D->Prop):Prop:=match d,e with
 |.int i,.int j=>P^.bl (decide (i<j))
 |.str i,.str j=>P^.bl (decide (i.cps.toList<j.cps.toList))
 |_,_=>False
def WB:R2:=λx y H Q=>(Gg λi j=>.bl (decide (i<j))) x y H Q\/Uy (λi j=>decide (i.cps.toList<j.cps.toList)) x y H Q
theorem op_ltU:OpR X (compareOp .Lt) WB:=op_lt.or Pb
theorem VW:Eu X.K .sh WB ZW:=λU M H d e x y P Q dom vM hx hy w q=>by
 unfold ZW at w
 split at w
 .exact .inl^LR U M H _ _ x y P Q dom vM hx hy w q
 .exact .inr^Sd U M H _ _ x y P Q dom vM hx hy w q
 grind
def ZY(d e:D)(P:D->Prop):Prop:=match d,e with
 |.int i,.int j=>P^.bl (decide (i<=j))
 |.str i,.str j=>P^.bl (!(decide (j.cps.toList<i.cps.toList)))
 |_,_=>False
def Yp:R2:=λx y H Q=>(Gg λi j=>.bl (decide (i<=j))) x y H Q\/Uy (λi j=>!(decide (j.cps.toList<i.cps.toList))) x y H Q
theorem RW:OpR X (compareOp .LtE) Yp:=op_le.or Pc
theorem VX:Eu X.K .sh Yp ZY:=λU M H d e x y P Q dom vM hx hy w q=>by
 unfold ZY at w
 split at w
 .exact .inl^LR U M H _ _ x y P Q dom vM hx hy w q
 .exact .inr^Sd U M H _ _ x y P Q dom vM hx hy w q
 grind
def Yt:R2:=Gg λi j=>.bl (decide (j<i))
theorem RX:OpR X (compareOp .Gt) Yt:=VD
theorem VY:Eu X.K .sh Yt (f2 λi j=>.bl (decide (j<i))):=LR
def Yu:R2:=Gg λi j=>.bl (decide (j<=i))
theorem WY:OpR X (compareOp .GtE) Yu:=VE
theorem Zs:Eu X.K .sh Yu (f2 λi j=>.bl (decide (j<=i))):=LR
def Yj:V->n_ Int->n_ Int->Hp->VK->Prop:=λx lo hi H Q=>∃z,x=.str z/\z.length<=sizeLine/\Q (.str^Txt.slice z lo hi) H
theorem sl_U:SlR X Yj:=V8
def aY(w:DW):DW:=λn ρ P=>w n ρ λd n1=>∃i,d=.int i/\P (.int (-i)) n1
theorem XD{a:cr}{κ:Kd}{wa:DW}{pos:Pos}(h:DE X a κ wa):DE X (.UnaryOp .USub a pos) .sh^aY wa:=by
 let#[t,h1,h2]:=h;refine#[_,Y1 Vr h1,λC M H n ρ σ P Q R w q=>?_];refine h2 C M H n ρ σ _ _ R w λv H1 d n1 e1 f1 r1 p=>?_;let#[i,rfl,p]:=p;exact#[i,NS r1,q _ H1 (.int _) n1 e1 f1 rfl p]
def Got(P:cm)(w:cy)(K:Frag)(mg:Str->n_ Cn)(base:cf)(x:Str)(k:Nat)(ps:m_ Str)(κ:Kd)(W:W2):Prop:=
 ∃f fd,FnOk P w K mg base E6 k f fd ps^QS K κ W ps.length/\mg x=P3^.ref f/\keepIn K^.ref f=k_/\Binds K fd ps []/\∀ss n P,W ss n P->ss.length=ps.length
theorem SR{e:cr}{es:m_ cr}{k:Nat}{ps:m_ Str}{κ:Kd}{W:W2}{x:Str}{p pos:Pos}{was:LX}(G:Got X.prog X.w X.K X.mg X.base x k ps κ W)
  (hr:Room k X.A) (hg:Gl X x) (ha:Mi X (e::es) was)
  (hdb:(x==("__debug__":Str))=l_:=by decide) (he:starEach (e::es) X.env=(l_,eval e X.env)::starEach es X.env:=by rfl) (hpl:(backTo pos^starEach es X.env).any (·.1)=l_:=by rfl):
  DE X (.Call (.Name x p) (e::es) [] pos) κ (Ap W was):=by
 let#[f,fd,G,hm,hk,hb,hW]:=G;exact US G hW hr hg hm hk hb ha hdb he hpl
theorem Tv:Sw K "int":=#[λt ht=>by
 simp at ht
 rcases ht with rfl|rfl|rfl|rfl|rfl|rfl|rfl <;>kernel_rfl]
theorem Rm:Sw K "bool":=#[λt ht=>by
 simp at ht
 rcases ht with rfl|rfl|rfl|rfl|rfl|rfl|rfl <;>kernel_rfl]
theorem OY:Sw K "str":=#[λt ht=>by
 simp at ht
 rcases ht with rfl|rfl|rfl|rfl|rfl|rfl|rfl <;>kernel_rfl]
theorem kit_tuple:Sw K "tuple":=#[λt ht=>by
 simp at ht
 rcases ht with rfl|rfl|rfl|rfl|rfl|rfl|rfl <;>kernel_rfl]
end
theorem FI{i:Nat}{te:DW}{P:m_ D->Sg->Prop}{g:D->D}(I:m_ Slot->Prop)(hI:∀d ρ,I ρ->I^ρ.set i^.sh d):
  ∀(ds acc:m_ D) (n:Sg) (ρ:m_ Slot),(∀d∈ds,∀ρ n P',I ρ->P' (g d) n->te n (ρ.set i^.sh d) P')->I ρ->P (acc++ds.map g) n->Co (A6 i) HZ te P ds acc n ρ
 |[],acc,n,ρ,_,_,h=>by
  rw[jd,c9]at h;exact h
 |d::ds,acc,n,ρ,ht,hρ,h=>by
  refine ht d Op ρ n _ hρ ?_;refine FI I hI ds _ n _ (λd hd=>ht d^TW _ hd) (hI d ρ hρ) ?_
  simp_all
theorem Ef{α:Type}(p:α->Bool):∀l:m_ α,allB (l.map λc=>.bl^p c)=P3^l.map p
 |[]=>rfl
 |a::l=>by
  rw[dL];unfold allB;rw[Ef p l];rfl
def Lp(K:Frag):Sp:=λvs H Q _=>∃a ns,vs=[V.ref a]/\(gY (α:=Int) ns<=63/\SqL K H a^ns.map V.int)/\∀H',Q (.bl k_) H'
def KU(K:Frag):Sp:=λvs H Q _=>∃a ns,vs=[V.ref a]/\(gY (α:=Int) ns<=63/\SqL K H a^ns.map V.int) /\
 ∀(c f:Ch) (H':Hp),c≠f->H' c=P3^.lst^ns.map V.int->H' f=P3^.lst [.ref c,.int 0,.int 0]->Q (.ref f) H'
theorem Zj{ns:m_ Int}(h:ns.length<=63):MR (ns.map V.int) j_^P3 63=ns.map V.int:=by
 have e:HT.sIx (ns.map V.int).length (ns.map V.int).length^P3 63=ns.length:=by
  rw[show(63:Int)=(63:Nat)from rfl,HT.sIx_nat,FM,Nat.min_eq_right h]
 unfold MR;rw[HT.sIx_none]
 grind
theorem ZL{P:cm}{w:cy}{K:Frag}{mg:Str->n_ Cn}{base:cf}{st s1:d6}{rest:m_ d6}{f:Ch}{fd:dR}{Nr:m_ Str}{k n0:Nat}{wb:Aa}(F:Fun K "law" "law" st f fd)
  (S:BF ("_law_script"::"_law_feed_here"::Nr) ["_law_script"]^AK st) (hbd:An st=s1::rest) (hn0:n0<=2 ^ 60)
  (h1:∀(cdv:Cn) (A:c_) (outer:m_ Env) (s:Go) (H:Hp) (E:XK),Room k^A.deeper^envOfC "law" (AK st) s.heap.objs.size f cdv->
   PS (D7 E6 P w K mg base ("_law_script"::"_law_feed_here"::Nr) "law" (AK st) f cdv A outer s H E).nox s1 (Lk (Qr (KU K) [] E0^N5 (Bw 0) Qp)^Gv 1))
  (h2:∀(cdv:Cn) (A:c_) (outer:m_ Env) (s:Go) (H:Hp) (E:XK),Room k^A.deeper^envOfC "law" (AK st) s.heap.objs.size f cdv->
   Mh (D7 E6 P w K mg base ("_law_script"::"_law_feed_here"::Nr) "law" (AK st) f cdv A outer s H E).nox .sh rest wb)
  (hW:wb {nx:=λ_ _=>False,rt:=λd _=>d=.bl k_} #[n0,λ_=>j_] (.no::.fd::dX Nr.length .no)):FnOk P w K mg base E6 (k+1) f fd ["_law_script"]^Lp K:=by
 refine F.ok S (λvs H Q E h=>?_) λcdv A outer s H vs Q E hr h=>?_
 .let#[a,ns,rfl,_]:=h
  rfl
 .let#[a,ns,rfl,#[hl,hS],q]:=h
  let#[t,t1,t2]:=h2 cdv A outer s H E hr;refine#[PF (Lk (Qr (KU K) [] E0^N5 (Bw 0) Qp)^Gv 1) t,by rw[hbd]; exact A8 (h1 cdv A outer s H E hr) t1,?_];refine#[_,rfl,a,ns,rfl,#[hl,hS],λc g H' hcg hc hg=>?_]
  have at_:∀(i:Nat) (sl:Slot),(Slot.no::Slot.fd::dX Nr.length Slot.no)[i]?=P3 sl->Slot.no=sl\/(Slot.fd=sl/\i=1):=by
   intro i sl hs
   match i,hs with
   |0,hs=>exact .inl^XV hs
   |1,hs=>exact .inr #[XV hs,rfl]
   |i+2,hs=>
    rw[jG,jG,g7]at hs
    split at hs
    .exact .inl^XV hs
    .cases hs
  have R:Rel K #[λb=>b=g,P3 (g,c),λb=>b=g,λb=>b=g,H',[],[]] (λb=>b=g) H' #[n0,λ_=>j_] (.no::.fd::dX Nr.length .no)^(start ("_law_script"::"_law_feed_here"::Nr) [V.ref a]).set 1^P3^.ref g:=by
   refine#[by simp[L2.start],λ_ z=>z,λb z=>#[_,(congrArg H' z).trans hg],Ext.refl _ _,λb z=>by rw[←XV z],λ_ z=>z,λ_ z=>z,#[λb z=>?_,λa c z=>by cases z],λi sl hs=>?_,λp hp=>absurd hp^by simp,λi d b hs _=>?_,λi sl b hs o _=>?_,λi j sl t b hs o _ _ _ _=>?_,λp hp=>absurd hp^by simp]
   .have e:(g,c)=b:=XV z
    subst e;exact#[0,0,ns,hg,hcg,#[hcg,hc],hl,by cbv,by show(0:Int)+(n0:Int)<=2 ^ 60; omega]
   .rcases at_ i sl hs with e|⟨e,rfl⟩
    .rw[←e]; trivial
    .rw[←e]
     exact#[(g,c),by simp[L2.start],rfl]
   .rcases at_ i _ hs with e|⟨e,_⟩ <;>cases e
   .rcases at_ i sl hs with e|⟨e,_⟩ <;>(rw[←e]at o; cases o)
   .rcases at_ i sl hs with e|⟨e,_⟩ <;>(rw[←e]at o; cases o)
  refine t2 _ _ H' #[n0,λ_=>j_] _ _ {nx:=λ_ _=>False,rt:=λd _=>d=.bl k_} _ R #[λ_ _ _ _ _ _ z=>z.elim,λv H2 d n' _ _ r p=>?_,λ_ _ _ _ _ _ z=>z.elim,λ_ _ _ _ _ _ z=>z.elim] hW;have e:d=.bl k_:=p;subst e;have e2:v=.bl k_:=r;subst e2;exact q H2
end Dp
namespace L2
section
variable {X:Cx}
theorem CC:∀{us:m_ Cn}{ys:m_ Str},StrsAre us ys->Vals (ys.map V.str) us
 |_,_,.nil=>.nil
 |_,_,.cons x t r=>.cons #[t,rfl]^CC r
def Q6(K:Frag):m_ V->Hp->VK->Prop:=λxs H Q=>∃(p:Ch) (ss:m_ Str),xs=[.ref p]/\SqL K H p^ss.map V.str/\ss.length<64/\∀(ss':m_ Str) (l:Ch),ss'.Perm ss->sortedS ss'=k_->H l=j_->Q (.ref l)^Ah H l^.lst^ss'.map V.str
theorem Ip:B9 X (.builtin "sorted")^Q6 X.K:=by
 intro zG s σ H xs us Q I r h;let#[p,ss,rfl,hq,h64,q]:=h;let#[u,rfl,rx]:=vals1 r;cases rx;let#[its,r',pl,hz]:=I.list hq;have hlen:=r'.length;rw[FM]at hlen;refine sorted_strs pl.isList (E9 r') (by lk) λout ss' a1 a2 a3=>?_;let#[e,he]:=sortedAll_at _ _ _;have hl':=a2.length_eq;have hn:=I.hok.fresh^dO _;refine#[.ref _,_,I.laid (λb o z=>sortedAll_old z) (dO _) (show ObjOk _ _ _ _ _^.lst _ from#[?_,_,e,CC a1,?_]),rfl,q _ _ a2 a3 hn]
 .grind
 .exact he
def U3:R2:=λx y H Q=>∃z k,x=.str z/\y=.int k/\MulOk z k/\Q (.str^Txt.mul z k) H
theorem Tg:OpR X (binaryOp .Mult) U3:=by
 intro zG s σ H x y v u Q I rx ry h;let#[z,k,rfl,rfl,hm,q]:=h;let#[t,rfl]:=rx;let#[t',rfl]:=ry;exact SB.mul hm λt' k=>#[.str _,H,I.tok _,#[_,rfl],q]
end
end L2
namespace Dp
open L2
section
variable {K:Frag}
def HJ(ds:m_ D)(P:D->Prop):Prop:=match ds with
 |[.lst xs]=>P^.tup xs
 |[.tup xs]=>P^.tup xs
 |_=>False
theorem Sa:Cf K .sh (λxs H Q=>∃p ys,xs=[.ref p]/\((SqL K H p ys/\∀l,H l=j_->Q (.ref l)^Ah H l^.tup ys)\/(SqT K H p ys/\Q (.ref p) H))) HJ:=by
 intro U M H ds vs P Q dom vM hp w q;unfold HJ at w
 split at w
 .let#[v,rfl,hx]:=Dh hp
  let#[a,us,rfl,_,ha,hs]:=hx;exact#[a,us,rfl,.inl #[.inl ha,λl hl=>q _ _ (.tup _) (Ad hl) (C5 dom hl hs) w]]
 .let#[v,rfl,hx]:=Dh hp
  let#[a,us,rfl,ha,hs]:=hx.tup;exact#[a,us,rfl,.inr #[ha.sq,q _ H (.tup _) .refl #[a,us,rfl,ha,hs] w]]
 grind
theorem Ats.strs{M:Ch->Prop}{H:Hp}:∀{ss:m_ Str},(∀x∈ss,x.length<=sizeLine)->Ats K M H (ss.map D.str)^ss.map V.str
 |[],_=>rfl
 |x::r,h=>#[_,_,rfl,#[rfl,h x Op],Ats.strs λy hy=>h y^TW _ hy]
theorem Ats.strs_le{M:Ch->Prop}{H:Hp}:∀{ss:m_ Str}{vs:m_ V},Ats K M H (ss.map D.str) vs->∀x∈ss,x.length<=sizeLine
 |[],_,_=>λx hx=>by cases hx
 |y::r,vs,h=>λx hx=>by
  let#[v,t,e,h1,h2]:=h
  rcases Tk.mp hx with rfl|hx
  .exact h1.2
  .exact Ats.strs_le h2 x hx
def NV(ds:m_ D)(P:D->Prop):Prop:=∃(xs:m_ D) (ss:m_ Str),ds=[.lst xs]/\Ma xs=P3 ss/\ss.length<64/\∀ss':m_ Str,ss'.Perm ss->sortedS ss'=k_->P^.lst^ss'.map .str
theorem Oy:∀{xs:m_ D}{ss:m_ Str},Ma xs=P3 ss->xs=ss.map .str
 |[],ss,h=>by cases h; rfl
 |.str b::r,ss,h=>by
  let#[t,e,rfl]:=dJ.mp h;rw[dL,←Oy e]
 |.non::r,ss,h=>by cases h
 |.int _::r,ss,h=>by cases h
 |.bl _::r,ss,h=>by cases h
 |.tup _::r,ss,h=>by cases h
 |.lst _::r,ss,h=>by cases h
 |.dic _ _::r,ss,h=>by cases h
 |.fdi _ _::r,ss,h=>by cases h
 |.dit _ _::r,ss,h=>by cases h
 |.ob _::r,ss,h=>by cases h
theorem O1:Cf K .fr (Q6 K) NV:=by
 intro U M H ds vs P Q dom vM hp w q;let#[xs,ss,rfl,e,h64,w]:=w;let#[v,rfl,hx]:=Dh hp;let#[a,us,rfl,_,ha,hs]:=hx
 have:=LN e hs
 subst this;have e2:=Oy e;subst e2;exact#[a,ss,rfl,.inl ha,h64,λss' l h1 h2 hl=>q _ _ _ (Ad hl) (C6 hl^Ats.strs λx hx=>hs.strs_le x^h1.mem_iff.mp hx)^w _ h1 h2]
def MK(d e:D)(P:D->Prop):Prop:=match d,e with
 |.int i,.int j=>CMul i j/\P^.int (i*j)
 |.str z,.int k=>MulOk z k/\(Txt.mul z k).length<=sizeLine/\P^.str^Txt.mul z k
 |_,_=>False
def U4:R2:=λx y H Q=>(rI CMul λi j=>.int (i*j)) x y H Q\/U3 x y H Q
theorem DP{X:Cx}:OpR X (binaryOp .Mult) U4:=op_mul.or Tg
theorem Eg:Eu K .sh U4 MK:=λU M H d e x y P Q dom vM hx hy w q=>by
 unfold MK at w
 split at w
 .exact .inl^Gb U M H _ _ x y P Q dom vM hx hy w q
 .rename_i z k
  exact .inr #[z,k,hx.1,hy,w.1,q _ H (.str _) .refl #[rfl,w.2.1] w.2.2]
 grind
end
section
variable {X:Cx}{tg e:Expr}{es:m_ Expr}{p pos:Pos}
def aA(X:Cx)(ts:m_ cr)(b:m_ D->m_ Slot->(m_ Slot->Prop)->Prop):Prop:=∃g,Z7 X ts g/\∀(C:Fm) (M:Ch->Prop) (H:Hp) (n:Sg) (ρ:m_ Slot) (σ:L2.St) (ds:m_ D) (vs:m_ V) (P:m_ Slot->Prop) (Q:L2.St->Hp->Prop),Rel X.K C M H n ρ σ->Ats X.K M H ds vs->b ds ρ P->
 (∀zY zZ,Rel X.K C M H n zY zZ->P zY->Q zZ H)->g vs σ H Q
def Ir:m_ D->m_ Slot->(m_ Slot->Prop)->Prop:=λds ρ P=>ds=[]/\P ρ
def B7(b:BW)(bs:m_ D->m_ Slot->(m_ Slot->Prop)->Prop):m_ D->m_ Slot->(m_ Slot->Prop)->Prop:=λds ρ P=>match ds with
 |d::r=>b d ρ λzS=>bs r zS P
 |[]=>False
theorem Ct:aA X [] Ir:=#[_,OK,λC M H n ρ σ ds vs P Q R h w q=>by
 let#[rfl,w]:=w;exact#[h,q ρ σ R w]]
theorem Ar{b:BW}{bs:m_ D->m_ Slot->(m_ Slot->Prop)->Prop}(h1:DG X e b)(h2:aA X es bs)(hs:(assignEach (e::es) X.env).map (·.2)=assign e X.env::(assignEach es X.env).map (·.2):=by rfl):aA X (e::es)^B7 b bs:=by
 let#[g,a1,a2]:=h1;let#[g',b1,b2]:=h2;refine#[_,Fg a1 b1 hs,λC M H n ρ σ ds vs P Q R h w q=>?_];cases ds with
 |nil=>exact w.elim
 |cons d r=>
  let#[v,vr,e,hv,hr]:=h;exact#[v,vr,e,a2 C M H n ρ σ d v _ _ R hv w λzY zZ R' w'=>b2 C M H n _ _ r vr _ _ R' hr w' q]
def MY(k:Nat)(bs:m_ D->m_ Slot->(m_ Slot->Prop)->Prop):BW:=λd ρ P=>match d with
 |.tup ds=>ds.length=k/\bs ds ρ P
 |_=>False
theorem W_{bs:m_ D->m_ Slot->(m_ Slot->Prop)->Prop}{k:Nat}{j:Nat}(hc:X.calm=k_)(h:aA X es bs)(hn:(assignEach es X.env).length=k:=by rfl)(hst:(assignEach es X.env).findIdx? (·.1)=j_:=by rfl):DG X (.Tuple es j pos)^MY k bs:=by
 let#[g,a1,a2]:=h;refine#[_,RK hc a1 hn hst,λC M H n ρ σ d v P Q R h w q=>?_];cases d with
 |tup ds=>
  let#[a,vs,rfl,hq,hs]:=h;exact#[a,vs,rfl,hq.sq,by rw[hs.length]; exact w.1,a2 C M H n ρ σ ds vs P Q R hs w.2 q]
 |_=>exact w.elim
def ac(wa:DW)(b:BW):Aa:=λD2 n ρ=>wa n ρ λd n1=>b d ρ λzS=>D2.nx n1 zS
theorem W7{κ zU:Kd}{wa:DW}{b:BW}(he:DE X e zU wa)(hg:DG X tg b)(hk:zU≠.tp:=by intro z; cases z)(hs:swapsWithSole [tg] e pos.line X.env=pure l_:=by rfl)(hw:swappedStores [tg] e X.env=pure j_:=by rfl)
  (h1:(assignEach [tg] X.env).map (·.2)=[assign tg X.env]:=by rfl):DS X κ (.Assign [tg] e pos)^ac wa b:=by
 let#[t,a1,a2]:=he;let#[g,g1,g2]:=hg;exact#[_,Ki a1 g1 hs hw h1,λC M H n ρ σ D2 E R L w=>a2 C M H n ρ σ _ _ R w λv H' d n' e1 f1 r1 p=>g2 C M H' n' ρ σ d v _ _ (R.step e1 f1) (r1.shOf R.dom hk) p λzY zZ R' w'=>L.nx M H' n' _ _ R' w']
end
end Dp
namespace L2
mutual
def RV(H:Hp):gA->V->Prop
 |.none,v=>v=.non
 |.bool b,v=>v=.bl b
 |.int i,v=>v=.int i
 |.str x,v=>v=.str x
 |.tuple xs,v=>∃a vs,v=.ref a/\H a=P3^.tup vs/\RVs H xs vs
 |.list xs,v=>∃a vs,v=.ref a/\Rd H a^.lst vs/\RVs H xs vs
 |.dict _,_=>False
def RVs(H:Hp):m_ gA->m_ V->Prop
 |[],vs=>vs=[]
 |x::xs,vs=>∃v r,vs=v::r/\RV H x v/\RVs H xs r
end
section
variable {X:Cx}{zG:m_ (Addr×Obj)}{σ:L2.St}{H:Hp}{s:Shared}
mutual
theorem RV.reads(I:Inv X zG σ H s):∀{d:gA}{v:V}{u:Cn},RV H d v->RelV v u->∃as,Reads s.heap u d as
 |.none,v,u,h,r=>by
  cases(show v=.non from h);cases(show u=dG from r);exact#[_,.none]
 |.bool b,v,u,h,r=>by
  cases(show v=.bl b from h);cases(show u=iF b from r);exact#[_,.bool b]
 |.int i,v,u,h,r=>by
  cases(show v=.int i from h);let#[t,rfl]:=r;exact#[_,.int i t]
 |.str x,v,u,h,r=>by
  cases(show v=.str x from h);let#[t,rfl]:=r;exact#[_,.str x t]
 |.tuple xs,v,u,h,r=>by
  let#[a,vs,rfl,hq,hs]:=h;cases r;let#[its,rv,#[o,e,c,n,d],_]:=I.tuple (X:=X) (xs:=vs)^.inl^.inl hq;let#[as,ra]:=RVs.reads I hs rv;exact#[_,.tuple e c d ra]
 |.list xs,v,u,h,r=>by
  let#[a,vs,rfl,hq,hs]:=h;cases r;let#[its,rv,pl,_]:=I.list (X:=X) (xs:=vs)^.inl hq;let#[o,e,c,n,d]:=pl.isList;let#[as,ra]:=RVs.reads I hs rv;exact#[_,.list e c d ra]
 |.dict _,v,u,h,r=>h.elim
theorem RVs.reads(I:Inv X zG σ H s):∀{ds:m_ gA}{vs:m_ V}{us:m_ Cn},RVs H ds vs->Vals vs us->∃as,ReadsAll s.heap us ds as
 |[],vs,us,h,r=>by
  cases(show vs=[]from h);cases r;exact#[_,.nil]
 | d::ds,vs,us,h,r=>by
  let#[v,w,rfl,h1,h2]:=h;cases r with
  |cons r1 r2=>
   let#[as,a1]:=RV.reads I h1 r1;let#[bs,a2]:=RVs.reads I h2 r2;exact#[_,.cons a1 a2]
end
end
theorem RV.noDict{H:Hp}:∀(d:gA) (v:V),RV H d v->d.hasDict=l_
 | d,v,h=>by
  have go:∀(n:Nat),(∀(d:gA) (v:V),sizeOf d<=n->RV H d v->d.hasDict=l_)/\∀(ds:m_ gA) (vs:m_ V),sizeOf ds<=n->RVs H ds vs->iw ds=l_:=by
   intro n
   induction n with
   |zero=>
    refine#[λd v h _=>?_,λds vs h _=>?_]
    .cases d <;>simp at h
    .cases ds <;>simp at h
   | succ n ih=>
    refine#[λd v h hr=>?_,λds vs h hr=>?_]
    .cases d with
     |tuple xs=>
      let#[a,vs,_,_,hs]:=hr;simp only[gN]
      grind
     |list xs=>
      let#[a,vs,_,_,hs]:=hr;simp only[gN]
      grind
     |dict kvs=>exact(show False from hr).elim
     |none=>simp only[gN]
     |bool b=>simp only[gN]
     |int i=>simp only[gN]
     |str x=>simp only[gN]
    .cases ds with
     |nil=>simp only[iw]
     |cons x xs=>
      let#[v,w,_,h1,h2]:=hr;simp only[iw,ih.1 x v (by simp at h; omega) h1,ih.2 xs w (by simp at h; omega) h2,Bool.or_false]
  exact(go^sizeOf d).1 d v (Rs _) h
section
variable {X:Cx}
def U2:m_ V->Hp->VK->Prop:=λxs H Q=>∃x d,xs=[x]/\RV H d x/\d.showable=k_/\d.depth<=100/\d.shown.length<=sizeLine/\Q (.str d.shown) H
theorem Cz{k:Nat}(hr:Room k X.A):B9 X (.builtin "repr") U2:=by
 intro zG s σ H xs us Q I r h;let#[x,d,rfl,hx,hs,hd,hz,q]:=h;let#[u,rfl,rx]:=vals1 r;have hu:=hr.un;cases d with
 |none=>
  cases(show x=.non from hx);cases(show u=dG from rx);exact PySem.P.repr_of_none #[.str _,H,I.tok _,#[_,rfl],q]
 |bool b=>
  cases(show x=.bl b from hx);cases(show u=iF b from rx);refine PySem.P.repr_of_bool #[.str _,H,I.tok _,#[_,rfl],?_]
  assumption
 |int i=>
  cases(show x=.int i from hx);let#[t,rfl]:=rx;refine PySem.P.repr_of_int (by simpa [PyData.showable]using hs) #[.str _,H,I.tok _,#[_,rfl],q]
 |str z=>
  cases(show x=.str z from hx);let#[t,rfl]:=rx;exact PySem.P.repr_of_str #[.str _,H,I.tok _,#[_,rfl],q] hz
 |tuple ds=>
  let#[as,ra]:=RV.reads I hx rx;let#[a,vs,rfl,_]:=id hx;cases rx;refine repr_of_reads' ra hs (PyData.noDict_hsm^RV.noDict _ _ hx) hr.gd (by lk) (λ_ _ e=>e) (λh' u tk hk=>#[.str _,H,I.kept (t':=tk) hk,#[_,rfl],q]) hz
 |list ds=>
  let#[as,ra]:=RV.reads I hx rx;let#[a,vs,rfl,_]:=id hx;cases rx;refine repr_of_reads' ra hs (PyData.noDict_hsm^RV.noDict _ _ hx) hr.gd (by lk) (λ_ _ e=>e) (λh' u tk hk=>#[.str _,H,I.kept (t':=tk) hk,#[_,rfl],q]) hz
 |dict _=>exact(show False from hx).elim
def Yv:R2:=λx y H Q=>∃d e,RV H d x/\RV H e y/\d.canLay0=k_/\e.canLay0=k_/\d.depth<=100/\Q (.bl^fP d e) H
theorem GK{k:Nat}(hr:Room k X.A):OpR X (compareOp .Eq) Yv:=by
 intro zG s σ H x y v u Q I rx ry h;let#[d,e,hx,hy,h1,h2,hd,q]:=h;let#[as,ra]:=RV.reads I hx rx;let#[bs,rb]:=RV.reads I hy ry;have hu:=hr.un;have hm:min _ e.depth<=d.depth:=Nat.min_le_left _ _;exact PySem.SeqAt.compareEq_reads ra rb h1 h2 (by lk) #[.bl _,H,I,rfl,q]
def WD(neg:Bool):R2:=λx y H Q=>∃d es,RV H d x/\(RV H (.list es) y\/RV H (.tuple es) y)/\d.canLay0=k_/\fH es=k_/\d.depth<=100/\Q (.bl (if neg then !(es.any λy=>fP y d)else es.any λy=>fP y d)) H
theorem FC{k:Nat}(hr:Room k X.A):OpR X (compareOp .In)^WD l_:=by
 intro zG s σ H x y v u Q I rx ry h;let#[d,es,hx,hy,h1,h2,hd,q]:=h;let#[as,ra]:=RV.reads I hx rx;have hu:=hr.un;have hm:min (eW es) _<=d.depth:=h8 _ _
 rcases hy with hy|hy
 .let#[bs,rb]:=RV.reads I hy ry
  exact PySem.SeqAt.in_list_reads rb ra h2 h1 (by lk) #[.bl _,H,I,rfl,q]
 .let#[bs,rb]:=RV.reads I hy ry
  exact PySem.SeqAt.in_tuple_reads rb ra h2 h1 (by lk) #[.bl _,H,I,rfl,q]
theorem BN{k:Nat}(hr:Room k X.A):OpR X (compareOp .NotIn)^WD k_:=by
 intro zG s σ H x y v u Q I rx ry h;let#[d,es,hx,hy,h1,h2,hd,q]:=h;let#[as,ra]:=RV.reads I hx rx;have hu:=hr.un;have hm:min (eW es) _<=d.depth:=h8 _ _
 rcases hy with hy|hy
 .let#[bs,rb]:=RV.reads I hy ry
  exact PySem.SeqAt.notIn_list_reads rb ra h2 h1 (by lk) #[.bl _,H,I,rfl,q]
 .let#[bs,rb]:=RV.reads I hy ry
  exact PySem.SeqAt.notIn_tuple_reads rb ra h2 h1 (by lk) #[.bl _,H,I,rfl,q]
end
end L2
namespace Dp
open L2
mutual
def toPy:D->gA
 |.non=>.none
 |.bl b=>.bool b
 |.int i=>.int i
 |.str x=>.str x
 |.tup ds=>.tuple^Bg ds
 |.lst ds=>.list^Bg ds
 |.dic _ _=>.dict []
 |.fdi _ _=>.dict []
 |.dit _ _=>.dict []
 |.ob _=>.dict []
def Bg:m_ D->m_ gA
 |[]=>[]
 |d::ds=>toPy d::Bg ds
end
mutual
def EB:D->Bool
 |.tup ds=>CJ ds
 |.lst ds=>CJ ds
 |.dic _ _=>l_
 |.fdi _ _=>l_
 |.dit _ _=>l_
 |.ob _=>l_
 |_=>k_
def CJ:m_ D->Bool
 |[]=>k_
 |d::ds=>EB d&&CJ ds
end
theorem Cu(ds:m_ D):Bg ds=ds.map toPy:=by
 induction ds with
 |nil=>rfl
 |cons d r ih=>rw[Bg,ih,dL]
section
variable {K:Frag}{M:Addr->Prop}{H:Hp}
mutual
theorem At.rv:∀{d:D}{v:V},At K M H d v->EB d=k_->RV H (toPy d) v
 |.non,v,h,_=>h
 |.bl b,v,h,_=>h
 |.int i,v,h,_=>h
 |.str x,v,h,_=>h.1
 |.tup ds,v,h,n=>by
  let#[a,vs,e,hn,hs]:=h;exact#[a,vs,e,hn,Ats.rv hs n]
 |.lst ds,v,h,n=>by
  let#[a,vs,e,hn,hs]:=h;exact#[a,vs,e,.inl hn.2,Ats.rv hs n]
 |.dic ks ds,v,h,n=>by cases n
 |.fdi ks ds,v,h,n=>by cases n
 |.dit ks ds,v,h,n=>by cases n
 |.ob _,v,h,n=>by cases n
theorem Ats.rv:∀{ds:m_ D}{vs:m_ V},Ats K M H ds vs->CJ ds=k_->RVs H (Bg ds) vs
 |[],vs,h,_=>h
 |d::ds,vs,h,n=>by
  let#[v,r,e,h1,h2]:=h;have n':(EB d&&CJ ds)=k_:=n;rw[dB]at n';exact#[v,r,e,At.rv h1 n'.1,Ats.rv h2 n'.2]
end
theorem AtT.rv{U:Ch->Prop}{d:D}{v:V}(h:AtT K U M H d v)(n:EB d=k_):RV H (toPy d) v:=by
 cases d with
 |lst ds=>
  let#[a,vs,e,_,hq,hs]:=h;exact#[a,vs,e,hq,Ats.rv hs n]
 |dic ks ds=>cases n
 |fdi ks ds=>cases n
 |dit ks ds=>cases n
 |ob a=>cases n
 |non=>exact h
 |bl b=>exact h
 |int i=>exact h
 |str x=>exact h.1
 |tup ds=>exact At.rv h n
def Ja(d:D):Prop:=EB d=k_/\(toPy d).showable=k_/\(toPy d).depth<=100/\(toPy d).shown.length<=sizeLine
def Qv(d:D):Str:=(toPy d).shown
def ZQ(ds:m_ D)(P:D->Prop):Prop:=∃d,ds=[d]/\Ja d/\P^.str^Qv d
theorem Ga:Cf K .sh U2 ZQ:=by
 intro U M H ds vs P Q dom vM hp w q;let#[d,rfl,hd,w]:=w;let#[v,rfl,hx]:=Dh hp;exact#[v,_,rfl,hx.rv hd.1,hd.2.1,hd.2.2.1,hd.2.2.2,q _ H (.str _) .refl #[rfl,hd.2.2.2] w]
def CS(d:D):Prop:=EB d=k_/\(toPy d).canLay0=k_/\(toPy d).depth<=100
def De(d e:D):Bool:=fP (toPy d)^toPy e
def Wz(d e:D)(P:D->Prop):Prop:=CS d/\CS e/\P^.bl^De d e
theorem KG:Eu K .sh Yv Wz:=λU M H d e x y P Q dom vM hx hy w q=>
 #[_,_,hx.rv w.1.1,hy.rv w.2.1.1,w.1.2.1,w.2.1.2.1,w.1.2.2,q _ H (.bl _) .refl rfl w.2.2]
def G3:D->n_^m_ D
 |.lst ds=>P3 ds
 |.tup ds=>P3 ds
 |_=>j_
def NX(neg:Bool)(d e:D)(P:D->Prop):Prop:=CS d/\CS e/\∃es,G3 e=P3 es/\P^.bl (if neg then !(es.any λy=>De y d)else es.any λy=>De y d)
theorem CM{neg:Bool}:Eu K .sh (WD neg)^NX neg:=λU M H d e x y P Q dom vM hx hy w q=>by
 let#[h1,h2,es,he,w]:=w;have any_eq:∀es:m_ D,(es.map _).any (λy=>fP y _)=es.any λy=>De y d:=λes=>by rw[List.any_map]; rfl
 cases e with
 |lst ds=>
  cases he;refine#[_,_,hx.rv h1.1,.inl^hy.rv h2.1,h1.2.1,by simpa [toPy,PyData.canLay0]using h2.2.1,h1.2.2,?_];rw[Cu,any_eq];exact q _ H (.bl _) .refl rfl w
 |tup ds=>
  cases he;refine#[_,_,hx.rv h1.1,.inr^hy.rv h2.1,h1.2.1,by simpa [toPy,PyData.canLay0]using h2.2.1,h1.2.2,?_];rw[Cu,any_eq];exact q _ H (.bl _) .refl rfl w
 |_=>cases he
def ZS(d e:D)(P:D->Prop):Prop:=CS d/\CS e/\P^.bl (!De d e)
end
end Dp
namespace L2
def Ym:R2:=λx y H Q=>∃d e,RV H d x/\RV H e y/\d.canLay0=k_/\e.canLay0=k_/\d.depth<=100/\Q (.bl (!PyData.eqv d e)) H
theorem WV{X:Cx}{k:Nat}(hr:Room k X.A):OpR X (compareOp .NotEq) Ym:=by
 intro zG s σ H x y v u Q I rx ry h;let#[d,e,hx,hy,h1,h2,hd,q]:=h;let#[as,ra]:=RV.reads I hx rx;let#[bs,rb]:=RV.reads I hy ry;have hu:=hr.un;have hm:min _ e.depth<=d.depth:=Nat.min_le_left _ _;exact PySem.SeqAt.compareNe_reads ra rb h1 h2 (by lk) #[.bl _,H,I,rfl,q]
end L2
namespace Dp
open L2
theorem Zp{K:Frag}:Eu K .sh Ym ZS:=λU M H d e x y P Q dom vM hx hy w q=>
 #[_,_,hx.rv w.1.1,hy.rv w.2.1.1,w.1.2.1,w.2.1.2.1,w.1.2.2,q _ H (.bl _) .refl rfl w.2.2]
end Dp
namespace L2
def kOf:Key->V
 |.inl i=>.int i
 |.inr x=>.str x
def aJ:Key->Key->Bool
 |.inl i,.inl j=>decide (i<j)
 |.inr x,.inr y=>decide (x.cps.toList<y.cps.toList)
 |_,_=>l_
def Jc:Key->Key->Bool
 |.inl _,.inl _=>k_
 |.inr _,.inr _=>k_
 |_,_=>l_
def Fv:m_ Key->m_ Key->Bool
 |[],[]=>l_
 |[],_::_=>k_
 |_::_,[]=>l_
 |x::xs,y::ys=>if x=y then Fv xs ys else aJ x y
def CF:m_ Key->m_ Key->Bool
 |x::xs,y::ys=>Jc x y&&CF xs ys
 |_,_=>k_
theorem R_{A:c_}{s:Go}{x y:Key}{u v:Cn}(rx:RelV (kOf x) u)(ry:RelV (kOf y) v):∃e,SeqAt.EqAt A s u v e/\(e=k_↔x=y):=by
 cases x with
 |inl i=>
  cases y with
  |inl j=>exact#[_,K_ rx ry rfl rfl,by simp[kOf,Zd]]
  |inr z=>exact#[_,K_ rx ry rfl rfl,by simp[kOf,Zd]]
 |inr z=>
  cases y with
  |inl j=>exact#[_,K_ rx ry rfl rfl,by simp[kOf,Zd]]
  |inr z'=>exact#[_,K_ rx ry rfl rfl,by simp[kOf,Zd]]
theorem Q2(A:c_)(s:Go){x y:Key}{u v:Cn}(rx:RelV (kOf x) u)(ry:RelV (kOf y) v)(hs:Jc x y=k_)(prog:cm)(w:cy)(E:Cn->Go->Prop)(Q:Cn->Go->Prop)(h:Q (.bool^aJ x y) s):
  wpAny (model prog w) A (richCompare .Lt u v) Q E s:=by
 cases x with
 | inl i=>
  cases y with
  |inl j=>
   let#[t,rfl]:=rx;let#[t',rfl]:=ry;exact jM h
  |inr z=>cases hs
 | inr z=>
  cases y with
  |inl j=>cases hs
  |inr z'=>
   let#[t,rfl]:=rx;let#[t',rfl]:=ry;exact PySem.P.lt_str h
section
open PySem.SeqAt
open PySem.AutoSeq1 (wpAny_loadPart')
open PySem.MeetsSeq PySem.MeetsSeq2 PySem.MeetsSeq3
theorem Ey(l b:Ch)(items items2:Array Cn)(n n2:Nat)(dd dd2:n_ Ch)(sl sl2:Array^n_ Cn)(ns ms:m_ Key)(hi:Vals (ns.map kOf) items.toList)(hj:Vals (ms.map kOf) items2.toList)(hsame:CF ns ms=k_):
  Meets (f8.«tuple.__lt__» #[[.ref l,.ref b],[]])
   (λ_ R s=>s.heap.get? l=P3 {cls:=.type "tuple",dict:=dd,data:=.seq items n,slots:=sl}/\s.heap.get? b=P3 {cls:=.type "tuple",dict:=dd2,data:=.seq items2 n2,slots:=sl2} /\
    R (.ok^.ret^.bool^Fv ns ms) s):=
 .of_wp λprog w A R s h=>by
  let#[hp,g,d,tk,os]:=s; let#[hl,hb,h]:=h
  have f2:=AutoSeq1.sub_tuple_tuple;have z1:items.size=ns.length:=by have:=hi.length; rw[FM]at this; rw[this]; simp
  have z2:items2.size=ms.length:=by have:=hj.length; rw[FM]at this; rw[this]; simp
  wp_walk using d9 hl,d9 hb,wpAny_forIn_list _ (λrest b s'=>b.1=j_/\s'=#[hp,g,d,tk,os]/\∃(vs ws:m_ Cn) (ns' ms':m_ Key),rest=vs.zip ws /\
   Vals (ns'.map kOf) vs/\Vals (ms'.map kOf) ws/\CF ns' ms'=k_/\ns'.length+items2.size=ms'.length+items.size/\R (.ok^.ret^.bool^Fv ns' ms') #[hp,g,d,tk,os]) _
  case turn=>
   rintro⟨y,x⟩ rest b s' ⟨hb',rfl,vs,ws,ns',ms',hz,hvi,hwi,hsm,hlen,hR⟩;cases ns' with
   |nil=>cases hvi; rw[List.zip_nil_left]at hz; cases hz
   | cons a ns'=>
    cases ms' with
    |nil=>cases hwi; rw[List.zip_nil_right]at hz; cases hz
    | cons c ms'=>
     rw[dL]at hvi hwi;cases hvi with
     | cons ra hvi'=>
      cases hwi with
      | cons rc hwi'=>
       rw[fS]at hz;injection hz with hyx hrest
       injection hyx with hy hx
       subst hy hx;have hR':R (.ok^.ret^.bool (if a=c then Fv ns' ms' else aJ a c)) #[hp,g,d,tk,os]:=hR;have hsm':(Jc a c&&CF ns' ms')=k_:=hsm;rw[dB]at hsm';simp only[ce]at hlen;let#[e,he,hiff]:=R_ (A:=A.in1) (s:=#[hp,g,d,tk,os]) ra rc;refine Db^he prog w _ _ ?_;cases e with
       |true=>
        rw[if_pos (hiff.mp rfl)]at hR'
        wp_walk
        exact#[rfl,rfl,_,_,_,_,hrest,hvi',hwi',hsm'.2,by lk,hR']
       |false=>
        rw[if_neg λq=>absurd (hiff.mpr q) cx]at hR';have hri:=Q2 A.in1 #[hp,g,d,tk,os] ra rc hsm'.1 prog w
        wp_walk using hri
        exact#[_,rfl,by simpa using hR']
  case fin=>
   rintro⟨b1,b2⟩ s' ⟨hb',rfl,vs,ws,ns',ms',hz,hvi,hwi,hsm,hlen,hR⟩;simp only at hb';subst hb'
   have hv:Fv ns' ms'=decide (items.size<items2.size):=by
    cases ns' with
    | nil=>
     cases ms' with
     |nil=>
      simp only[eK]at hlen;exact(decide_eq_false^by lk).symm
     |cons c u=>
      simp only[eK,ce]at hlen;exact(decide_eq_true^by lk).symm
    | cons a t=>
     cases ms' with
     |nil=>
      simp only[eK,ce]at hlen;exact(decide_eq_false^by lk).symm
     |cons c u=>
      rw[dL]at hvi hwi;cases hvi;cases hwi;rw[fS]at hz;cases hz
   rw[hv]at hR
   wp_walk
   exact#[_,rfl,by simpa [Builtin.Tuple.tupleCompareSizes]using hR]
  case h=>
   exact#[rfl,rfl,items.toList,items2.toList,ns,ms,rfl,hi,hj,hsame,by lk,h]
end
section
variable {X:Cx}
def Yn(K:Frag):R2:=λx y H Q=>∃a b ns ms,x=.ref a/\y=.ref b/\SqT K H a^ns.map kOf/\SqT K H b^ms.map kOf/\CF ns ms=k_/\Q (.bl^Fv ns ms) H
theorem WW(hu:X.A.units<cLine):OpR X (compareOp .Lt)^Yn X.K:=by
 intro zG s σ H x y v u Q I rx ry h;let#[a,b,ns,ms,rfl,rfl,ha,hb,hsm,q]:=h;cases rx;cases ry;let#[its,r1,p1,_]:=I.tuple ha;let#[its2,r2,p2,_]:=I.tuple hb;let#[#[cls,dd,data,sl],ho,hc,n,hd]:=id p1;let#[#[cls2,dd2,data2,sl2],ho2,hc2,n2,hd2]:=id p2;subst hc hd hc2 hd2
 exact richCompare_meets_room (op:=.Lt) #[_,ho,rfl] #[_,ho2,rfl] PySem.F.slot_tuple_lt PySem.F.entry_tuple_lt (PySem.F.args_tuple_lt_2 _ _) (Ey a b _ _ n n2 dd _ sl _ ns ms r1 r2 hsm)
  #[ho,ho2,#[(λx=>nomatch x),#[.bl _,H,I,rfl,q]]] hu
end
def ItAt(κ:Bool)(h:cf)(it l:Ch)(k:Nat):Prop:=match κ with
 |true=>h.IsListIter it l k
 |false=>h.IsTupleIter it l k
def SqAt(κ:Bool)(h:cf)(l:Ch)(items:Array Cn):Prop:=match κ with
 |true=>h.IsList l items
 |false=>h.IsTuple l items
section
variable {κ:Bool}{h h':Heap}{it l b:Addr}{k:Nat}{items:Array Value}
theorem ItAt.mv(x:ItAt κ h it l k)(e:∀o,h.get? it=P3 o->h'.get? it=P3 o):ItAt κ h' it l k:=by
 cases κ with
 |true=>let#[o,ho,r]:=x; exact#[o,e o ho,r]
 |false=>let#[o,ho,r]:=x; exact#[o,e o ho,r]
theorem SqAt.mv(x:SqAt κ h l items)(e:∀o,h.get? l=P3 o->h'.get? l=P3 o):SqAt κ h' l items:=by
 cases κ with
 |true=>let#[o,ho,r]:=x; exact#[o,e o ho,r]
 |false=>let#[o,ho,r]:=x; exact#[o,e o ho,r]
theorem ItAt.eb(x:ItAt κ h it l k)(hs:Heap.ExtBut b h h')(n:it≠b):ItAt κ h' it l k:=x.mv λo e=>hs it o n e
theorem SqAt.eb(x:SqAt κ h l items)(hs:Heap.ExtBut b h h')(n:l≠b):SqAt κ h' l items:=x.mv λo e=>hs l o n e
theorem ItAt.lies(x:ItAt κ h it l k):∃o,h.get? it=P3 o/\∀v,o.data≠.cell v:=by
 cases κ with
 |true=>let#[o,ho,_,d]:=x; simp_all
 |false=>let#[o,ho,_,d]:=x; simp_all
theorem SqAt.lies(x:SqAt κ h l items):∃o,h.get? l=P3 o:=by
 cases κ with
 |true=>let#[o,ho,_]:=x; grind
 |false=>let#[o,ho,_]:=x; grind
end
section
variable {prog:Program}{w:World}{A:Around}{E:Value->Shared->Prop}{s:Shared}
theorem Er{κ:Bool}{it l:Ch}{i:Nat}{items:Array Cn}{x:Cn}{Q:Cn->Go->Prop}(hit:ItAt κ s.heap it l i)(hl:SqAt κ s.heap l items)(hx:items[i]?=P3 x)
  (hQ:∀h',ItAt κ h' it l (i+1)->gj it s.heap h'->Q x {s with heap:=h'}):wpAny (model prog w) A (eB^.ref it) Q E s:=by
 cases κ with
 |true=>exact wpAny_nextOf_list_item hit hl hx hQ
 |false=>
  have hit':s.heap.IsTupleIter it l i:=hit;have hl':s.heap.IsTuple l items:=hl;let#[o,ho,hc,hd]:=id hit'; let#[ol,hol,_,nl,hdl]:=hl'
  unfold eB;refine Db^eq (name:=eJ "__next__") hit'.typeIs fb^fq fb hit'.typeIs ic ?_^iU _;show wpAny (model prog w) _ (field (.ref it) 0 >>=_) _ _ s; refine Db (d7 ho hd (x:=.ref l) rfl ?_)
  show wpAny (model prog w) _ (if(cV l==dG)=k_ then _ else _) _ _ s; rw[if_neg (show ¬((cV l==dG)=k_)from cx)]
  show wpAny (model prog w) _ (field (.ref it) 1 >>=_) _ _ s; refine Db (d7 ho hd (x:=.int i 0) rfl ?_)
  show wpAny (model prog w) _ (seqItems?^.ref l >>=_) _ _ s; refine Db^eQ hol hdl ?_; simp only[gJ,hx]
  refine Db^gy ho hd (by simp)^UF #[x,rfl,UF^hQ _ (show Heap.IsTupleIter _ it l (i+1)from ?_) (jZ ..)];exact#[_,d_ _ ho^Obj.isFreed_of_fields^gs hd _,(Obj.cls_mapFields ..).trans hc,by(rw[gs hd]; simp[rawInt])]
theorem F2{κ:Bool}{it l:Ch}{i:Nat}{items:Array Cn}{Q:Cn->Go->Prop}(hh:A.handled=j_)(hit:ItAt κ s.heap it l i)(hl:SqAt κ s.heap l items)(hx:items[i]?=j_)
  (hE:∀h' e,Heap.ExtBut it s.heap h'->(∃o,h'.get? e=P3 o/\o.cls=.type "StopIteration")->E (.ref e) {s with heap:=h'}):wpAny (model prog w) A (eB^.ref it) Q E s:=by
 cases κ with
 |true=>exact wpAny_nextOf_list_end hh hit hl hx hE
 |false=>
  have hit':=hit;have hl':s.heap.IsTuple l items:=hl;let#[o,ho,hc,hd]:=id hit'; let#[ol,hol,_,nl,hdl]:=hl'
  refine Db^eq hit'.typeIs fb^fq fb hit'.typeIs ic ?_^iU _;show wpAny (model prog w) _ (field (.ref it) 0 >>=_) _ _ s; refine Db (d7 ho hd (x:=.ref l) rfl ?_)
  refine Db (d7 ho hd (x:=.int i 0) rfl ?_);refine Db^eQ hol hdl ?_; simp only[gJ,hx]
  refine Db^gw^Db^gy ho hd (by simp) ?_; refine Db ?_; refine Db (m:=firstArgMember _ _)^jN (a:=dG) (by first|rfl|omega) ?_; refine eR ?_^by size_fits
  simp only[raiseNew]; refine Db^wpAny_handled ?_; first|grind|rw[hh]
  refine Db^UF^wpAny_throw ?_; exact hE _ _ (((jZ ..).extBut.push _).push _) #[_,Re _ rfl,rfl]
structure X9 (z TI TO i1 i2 l1 l2:Ch):Prop where
 TIz:TI≠z
 TOz:TO≠z
 i1z:i1≠z
 i2z:i2≠z
 TOi1:TO≠i1
 TOi2:TO≠i2
 i12:i1≠i2
 l1z:l1≠z
 l1TO:l1≠TO
 l1i1:l1≠i1
 l1i2:l1≠i2
 l2z:l2≠z
 l2TO:l2≠TO
 l2i1:l2≠i1
 l2i2:l2≠i2
theorem QY{zX zW:Bool}{z TI TO i1 i2 l1 l2:Ch}{k:Nat}{xs ys:Array Cn}{x y a b:Cn}{Q:Cn->Go->Prop}(D:X9 z TI TO i1 i2 l1 l2)
  (hz:gK s.heap z TI TO .none) (hTI:eh s.heap TI (.ref i1)^.ref i2) (hTO:eh s.heap TO a b) (h1:ItAt zX s.heap i1 l1 k) (h2:ItAt zW s.heap i2 l2 k) (hl1:SqAt zX s.heap l1 xs) (hl2:SqAt zW s.heap l2 ys) (hx:xs[k]?=P3 x) (hy:ys[k]?=P3 y)
  (hQ:∀h',gK h' z TI TO^rawInt s.heap.objs.size->eh h' TO x y->ItAt zX h' i1 l1 (k+1)->ItAt zW h' i2 l2 (k+1)->eh h' s.heap.objs.size x y->h'.objs.size=s.heap.objs.size+1->(∀c o,c≠z->c≠TO->c≠i1->c≠i2->s.heap.get? c=P3 o->h'.get? c=P3 o)->Q (.ref s.heap.objs.size) {s with heap:=h'}):
  wpAny (model prog w) A (f8.«zip.__next__» #[[.ref z],[]]) (λfin s'=>∃v,fin=.done^.ret v/\Q v s') E s:=by
 show wpAny (model prog w) A (field (.ref z) 2 >>=_) _ _ _; refine Db (d7 hz rfl (x:=.bool l_) rfl ?_)
 show wpAny (model prog w) A (field (.ref z) 3 >>=_) _ _ _; refine Db (d7 hz rfl (x:=.ref TI) rfl ?_); refine Db (eQ hTI rfl ?_)
 show wpAny (model prog w) A (eo^.ref z >>=_) _ _ _; refine Db ?_; unfold eo
 refine Db (d7 hz rfl (x:=.none) rfl (UF ?_)); simp only[if_true]; refine Db^gw ?_; refine Db (d7 hz rfl (x:=.ref TO) rfl ?_)
 refine Db^fT hz (by simp) λha hza hsa=>?_;replace hza:gK ha z TI TO .ellipsis:=hza;refine Db ?_; simp only[List.zipIdx_cons,List.zipIdx_nil,gh,List.forIn_nil]
 refine Db^Db^h7 ?_; show wpAny (model prog w) _ (eB^.ref i1 >>=_) _ _ _
 refine Db^Er (h1.eb hsa.extBut D.i1z) (hl1.eb hsa.extBut D.l1z) hx λhb h1b hsb=>UF ?_;have hTOb:eh hb TO a b:=hsb.extBut _ _ D.TOi1^hsa.extBut _ _ D.TOz hTO;refine Db (eQ hTOb rfl ?_); refine Db (iL hTOb λhc hTOc hsc=>?_)
 replace hTOc:eh hc TO x b:=hTOc;refine Db^gE^UF ?_; refine Db^Db^h7 ?_; show wpAny (model prog w) _ (eB^.ref i2 >>=_) _ _ _
 refine Db^Er (((h2.eb hsa.extBut D.i2z).eb hsb.extBut D.i12.symm).eb hsc.extBut D.TOi2.symm) (((hl2.eb hsa.extBut D.l2z).eb hsb.extBut D.l2i1).eb hsc.extBut D.l2TO) hy λhd h2d hsd=>UF ?_;have hTOd:eh hd TO x b:=hsd.extBut _ _ D.TOi2 hTOc;refine Db (eQ hTOd rfl ?_); refine Db (iL hTOd λhe hTOe hse=>?_)
 replace hTOe:eh he TO x y:=hTOe;refine Db^gE^UF^UF ?_; refine Db (eQ hTOe rfl ?_); refine Db^wpAny_newTuple ?_
 have hsz:he.objs.size=s.heap.objs.size:=by rw[hse.1,hsd.1,hsc.1,hsb.1,hsa.1]
 have hze:gK he z TI TO .ellipsis:=hse.extBut _ _ D.TOz.symm^hsd.extBut _ _ D.i2z.symm^hsc.extBut _ _ D.TOz.symm^hsb.extBut _ _ D.i1z.symm hza;have hke:∀c o,c≠z->c≠TO->c≠i1->c≠i2->s.heap.get? c=P3 o->he.get? c=P3 o:=λc o c1 c2 c3 c4 e=>hse.extBut _ _ c2^hsd.extBut _ _ c4^hsc.extBut _ _ c2^hsb.extBut _ _ c3^hsa.extBut _ _ c1 e;have h1e:ItAt zX he i1 l1 (k+1):=((h1b.eb hsc.extBut D.TOi1.symm).eb hsd.extBut D.i12).eb hse.extBut D.TOi1.symm;have h2e:ItAt zW he i2 l2 (k+1):=h2d.eb hse.extBut D.TOi2.symm;have hzlt:z<he.objs.size:=TM hze;show wpAny (model prog w) _ (gu (.ref z)^.ref he.objs.size >>=_) _ _ _; refine Db ?_; unfold gu
 have hzf:gK (he.push {cls:=.type "tuple",data:=.seq #[ x,y]}) z TI TO .ellipsis:=Ev _ hze;refine Db^fT hzf (by simp) λhg hzg hsg=>?_;replace hzg:gK hg z TI TO^rawInt he.objs.size:=hzg;refine fT hzg (by simp) λhi hzi hsi=>?_;replace hzi:gK hi z TI TO^rawInt he.objs.size:=hzi;have up:∀c o,c≠z->he.get? c=P3 o->hi.get? c=P3 o:=λc o c1 e=>hsi.extBut _ _ c1^hsg.extBut _ _ c1^Ev _ e;have hTi:eh hi he.objs.size x y:=hsi.extBut _ _ (fm hzlt)^hsg.extBut _ _ (fm hzlt) (Re _ rfl);have hzs:hi.objs.size=he.objs.size+1:=by rw[hsi.1,hsg.1,dS]
 rw[hsz]at hzi hTi hzs;refine UF #[_,rfl,?_];show Q (.ref he.objs.size) _; rw[hsz]
 exact hQ hi hzi (up _ _ D.TOz hTOe) (h1e.mv λo e=>up _ o D.i1z e) (h2e.mv λo e=>up _ o D.i2z e) hTi hzs λc o c1 c2 c3 c4 e=>up c o c1^hke c o c1 c2 c3 c4 e
theorem S4{zX zW:Bool}{z TI TO i1 i2 l1 l2:Ch}{k:Nat}{xs ys:Array Cn}{a b:Cn}{Q:Fin->Go->Prop}(hh:A.handled=j_)(D:X9 z TI TO i1 i2 l1 l2)
  (hz:gK s.heap z TI TO .none) (hTI:eh s.heap TI (.ref i1)^.ref i2) (hTO:eh s.heap TO a b) (h1:ItAt zX s.heap i1 l1 k) (h2:ItAt zW s.heap i2 l2 k) (hl1:SqAt zX s.heap l1 xs) (hl2:SqAt zW s.heap l2 ys) (hend:xs[k]?=j_\/ys[k]?=j_)
  (hE:∀h' e,(∀c o,c≠z->c≠TO->c≠i1->c≠i2->s.heap.get? c=P3 o->h'.get? c=P3 o)->(∃o,h'.get? e=P3 o/\o.cls=.type "StopIteration")->E (.ref e) {s with heap:=h'}):
  wpAny (model prog w) A (f8.«zip.__next__» #[[.ref z],[]]) Q E s:=by
 show wpAny (model prog w) A (field (.ref z) 2 >>=_) _ _ _; refine Db (d7 hz rfl (x:=.bool l_) rfl ?_)
 show wpAny (model prog w) A (field (.ref z) 3 >>=_) _ _ _; refine Db (d7 hz rfl (x:=.ref TI) rfl ?_); refine Db (eQ hTI rfl ?_)
 show wpAny (model prog w) A (eo^.ref z >>=_) _ _ _; refine Db ?_; unfold eo
 refine Db (d7 hz rfl (x:=.none) rfl (UF ?_)); simp only[if_true]; refine Db^gw ?_; refine Db (d7 hz rfl (x:=.ref TO) rfl ?_)
 refine Db^fT hz (by simp) λha hza hsa=>?_;replace hza:gK ha z TI TO .ellipsis:=hza;refine Db ?_; simp only[List.zipIdx_cons,List.zipIdx_nil,gh,List.forIn_nil]
 refine Db^Db^h7 ?_; show wpAny (model prog w) _ (eB^.ref i1 >>=_) _ _ _
 cases hx:xs[k]? with
 |none=>
  refine Db^F2 hh (h1.eb hsa.extBut D.i1z) (hl1.eb hsa.extBut D.l1z) hx λhb e hsb he=>?_;let#[oe,hoe,hce]:=he;have hzb:gK hb z TI TO .ellipsis:=hsb _ _ D.i1z.symm hza;have hez:e≠z:=λx=>by subst x; rw[hzb]at hoe; cases hoe; simp at hce
  exact fT hzb (by simp) λhc _ hsc=>hE hc e (λc o c1 _ c3 _ x=>hsc.extBut _ _ c1^hsb _ _ c3^hsa.extBut _ _ c1 x) #[oe,hsc.extBut _ _ hez hoe,hce]
 | some x=>
  have hy:ys[k]?=j_:=by
   rcases hend with h|h
   .rw[hx]at h; cases h
   .exact h
  refine Db^Er (h1.eb hsa.extBut D.i1z) (hl1.eb hsa.extBut D.l1z) hx λhb h1b hsb=>UF ?_;have hTOb:eh hb TO a b:=hsb.extBut _ _ D.TOi1^hsa.extBut _ _ D.TOz hTO;refine Db (eQ hTOb rfl ?_); refine Db^iL hTOb λhc hTOc hsc=>?_
  refine Db^gE^UF ?_; refine Db^Db^h7 ?_; show wpAny (model prog w) _ (eB^.ref i2 >>=_) _ _ _
  refine Db^F2 hh (((h2.eb hsa.extBut D.i2z).eb hsb.extBut D.i12.symm).eb hsc.extBut D.TOi2.symm) (((hl2.eb hsa.extBut D.l2z).eb hsb.extBut D.l2i1).eb hsc.extBut D.l2TO) hy λhd e hsd he=>?_;let#[oe,hoe,hce]:=he;have hzd:gK hd z TI TO .ellipsis:=hsd _ _ D.i2z.symm^hsc.extBut _ _ D.TOz.symm^hsb.extBut _ _ D.i1z.symm hza;have hez:e≠z:=λx=>by subst x; rw[hzd]at hoe; cases hoe; simp at hce
  exact fT hzd (by simp) λhf _ hsf=>hE hf e (λc o c1 c2 c3 c4 x=>hsf.extBut _ _ c1^hsd _ _ c4^hsc.extBut _ _ c2^hsb.extBut _ _ c3^hsa.extBut _ _ c1 x) #[oe,hsf.extBut _ _ hez hoe,hce]
end
def Wu(κ:Bool):String:=match κ with
 |true=>"list_iterator"
 |false=>"tuple_iterator"
def Gu(κ:Bool)(l:Ch):Obj:={cls:=.type^Wu κ,data:=.fields #[ .ref l,.int 0 0]}
abbrev zA(zX:Bool)(h:cf)(l1:Ch):cf:=h.push^Gu zX l1
abbrev zB(zX zW:Bool)(h:cf)(l1 l2:Ch):cf:=(zA zX h l1).push^Gu zW l2
abbrev zC(zX zW:Bool)(h:cf)(l1 l2:Ch):cf:=(zB zX zW h l1 l2).push {cls:=.type "tuple",data:=.seq #[ .ref h.objs.size,.ref (zA zX h l1).objs.size]}
abbrev zD(zX zW:Bool)(h:cf)(l1 l2:Ch):cf:=(zC zX zW h l1 l2).push {cls:=.type "tuple",data:=.seq #[ .none,.none]}
abbrev zE(zX zW:Bool)(h:cf)(l1 l2:Ch):cf:=(zD zX zW h l1 l2).push {cls:=.type "zip",data:=.fields #[ .none,.bool l_,.bool l_,.ref (zB zX zW h l1 l2).objs.size,.ref (zC zX zW h l1 l2).objs.size]}
theorem Tp(zX zW:Bool)(l1 l2:Ch)(xs ys:Array Cn):Meets (f8.«zip.__new__» #[[.type "zip",.ref l1,.ref l2],[]])
  (λ_ R s=>SqAt zX s.heap l1 xs/\SqAt zW s.heap l2 ys/\R (.ok^.ret^.ref (zD zX zW s.heap l1 l2).objs.size) {s with heap:=zE zX zW s.heap l1 l2}):=
 .of_wp λprog w A R s h=>by
  let#[hp,g,d,tk,os]:=s; let#[hl1,hl2,h]:=h
  have hsub:=sub_zip;have hL2:SqAt zW (zA zX hp l1) l2 ys:=hl2.mv λo e=>Ev _ e;cases zX with
  | true=>
   have g1:jO (gF #[hp,g,d,tk,os]) l1 xs:=hl1;cases zW with
   |true=>
    have g2:jO (gF #[hp.push {cls:=.type "list_iterator",data:=.fields #[ .ref l1,.int 0 0]},g,d,tk,os]) l2 ys:=hL2
    wp_walk using eT g1,eT g2
    exact#[_,rfl,h]
   |false=>
    have g2:jD (gF #[hp.push {cls:=.type "list_iterator",data:=.fields #[ .ref l1,.int 0 0]},g,d,tk,os]) l2 ys:=hL2
    wp_walk using eT g1,dh g2
    exact#[_,rfl,h]
  | false=>
   have g1:jD (gF #[hp,g,d,tk,os]) l1 xs:=hl1;cases zW with
   |true=>
    have g2:jO (gF #[hp.push {cls:=.type "tuple_iterator",data:=.fields #[ .ref l1,.int 0 0]},g,d,tk,os]) l2 ys:=hL2
    wp_walk using dh g1,eT g2
    exact#[_,rfl,h]
   |false=>
    have g2:jD (gF #[hp.push {cls:=.type "tuple_iterator",data:=.fields #[ .ref l1,.int 0 0]},g,d,tk,os]) l2 ys:=hL2
    wp_walk using dh g1,dh g2
    exact#[_,rfl,h]
theorem IM(κ:Bool)(h:cf)(l:Ch):ItAt κ (h.push^Gu κ l) h.objs.size l 0:=by
 cases κ with
 |true=>exact#[_,Re _ rfl,rfl,rfl]
 |false=>exact#[_,Re _ rfl,rfl,rfl]
section
variable {prog:Program}{w:World}{A:Around}{E:Value->Shared->Prop}{s:Shared}
theorem LK{zX zW:Bool}{l1 l2:Ch}{xs ys:Array Cn}{Q:Cn->Go->Prop}(hl1:SqAt zX s.heap l1 xs)(hl2:SqAt zW s.heap l2 ys)
  (h:∀h',gK h' (s.heap.objs.size+4) (s.heap.objs.size+2) (s.heap.objs.size+3) .none->eh h' (s.heap.objs.size+2) (.ref s.heap.objs.size)^.ref (s.heap.objs.size+1)->eh h' (s.heap.objs.size+3) .none .none->
   ItAt zX h' s.heap.objs.size l1 0->ItAt zW h' (s.heap.objs.size+1) l2 0->(∀c o,s.heap.get? c=P3 o->h'.get? c=P3 o)->Q (.ref (s.heap.objs.size+4)) {s with heap:=h'}):
  wpAny (model prog w) A (call (.type "zip") [.ref l1,.ref l2]) Q E s:=by
 refine callType_new F.called_zip (by cbv) (F.typeCall_zip_2 _ _) (F.newCall_zip_2 _ _) (λobj=>F.args_object_init_3 obj _ _) F.entry_zip_new (Tp zX zW l1 l2 xs ys) #[hl1,hl2,?_];have z1:(zA zX s.heap l1).objs.size=s.heap.objs.size+1:=dS ..;have z2:(zB zX zW s.heap l1 l2).objs.size=s.heap.objs.size+2:=by rw[dS,z1]
 have z3:(zC zX zW s.heap l1 l2).objs.size=s.heap.objs.size+3:=by rw[dS,z2]
 have z4:(zD zX zW s.heap l1 l2).objs.size=s.heap.objs.size+4:=by rw[dS,z3]
 have g5:(zE zX zW s.heap l1 l2).get? (zD zX zW s.heap l1 l2).objs.size=P3 _:=Re _ rfl;have g4:(zE zX zW s.heap l1 l2).get? (zC zX zW s.heap l1 l2).objs.size=P3 _:=Ev _ (Re _ rfl);have g3:(zE zX zW s.heap l1 l2).get? (zB zX zW s.heap l1 l2).objs.size=P3 _:=Ev _^Ev _ (Re _ rfl);have i2:ItAt zW (zE zX zW s.heap l1 l2) (zA zX s.heap l1).objs.size l2 0:=(IM zW (zA zX s.heap l1) l2).mv λo e=>Ev _^Ev _^Ev _ e;have i1:ItAt zX (zE zX zW s.heap l1 l2) s.heap.objs.size l1 0:=(IM zX s.heap l1).mv λo e=>Ev _^Ev _^Ev _^Ev _ e;rw[z4]at g5;rw[z3]at g4;rw[z2]at g3;rw[z1]at i2;have fin:=h (zE zX zW s.heap l1 l2) (by rw[gK,g5,z2,z3]) (by rw[eh,g3,z1]) g4 i1 i2 λc o e=>Ev _^Ev _^Ev _^Ev _^Ev _ e;refine#[#[_,by rw[z4]; exact g5,rfl],?_];rw[z4];exact fin
theorem JI{zX zW:Bool}{z TI TO i1 i2 l1 l2:Ch}{k:Nat}{xs ys:Array Cn}{x y a b:Cn}{Q:n_ Cn->Go->Prop}(D:X9 z TI TO i1 i2 l1 l2)
  (hz:gK s.heap z TI TO .none) (hTI:eh s.heap TI (.ref i1)^.ref i2) (hTO:eh s.heap TO a b) (h1:ItAt zX s.heap i1 l1 k) (h2:ItAt zW s.heap i2 l2 k) (hl1:SqAt zX s.heap l1 xs) (hl2:SqAt zW s.heap l2 ys) (hx:xs[k]?=P3 x) (hy:ys[k]?=P3 y)
  (hQ:∀h',gK h' z TI TO^rawInt s.heap.objs.size->eh h' TO x y->ItAt zX h' i1 l1 (k+1)->ItAt zW h' i2 l2 (k+1)->eh h' s.heap.objs.size x y->h'.objs.size=s.heap.objs.size+1->(∀c o,c≠z->c≠TO->c≠i1->c≠i2->s.heap.get? c=P3 o->h'.get? c=P3 o)->Q (P3^.ref s.heap.objs.size) {s with heap:=h'}):
  wpAny (model prog w) A (pyNext^.ref z) Q E s:=by
 have hT:s.TypeIs (.ref z) "zip":=#[_,hz,rfl];unfold pyNext
 exact Db (wpAny_attempt (eq (name:=eJ "__next__") hT iM (fq iM hT F.entry_zip_next
  (QY D hz hTI hTO h1 h2 hl1 hl2 hx hy λh' a1 a2 a3 a4 a5 a6 a7=>UF^hQ h' a1 a2 a3 a4 a5 a6 a7) (F.args_zip_next_1 _))))
theorem Ky{zX zW:Bool}{z TI TO i1 i2 l1 l2:Ch}{k:Nat}{xs ys:Array Cn}{a b:Cn}{Q:n_ Cn->Go->Prop}(hh:A.handled=j_)(D:X9 z TI TO i1 i2 l1 l2)
  (hz:gK s.heap z TI TO .none) (hTI:eh s.heap TI (.ref i1)^.ref i2) (hTO:eh s.heap TO a b) (h1:ItAt zX s.heap i1 l1 k) (h2:ItAt zW s.heap i2 l2 k) (hl1:SqAt zX s.heap l1 xs) (hl2:SqAt zW s.heap l2 ys) (hend:xs[k]?=j_\/ys[k]?=j_)
  (hQ:∀h',(∀c o,c≠z->c≠TO->c≠i1->c≠i2->s.heap.get? c=P3 o->h'.get? c=P3 o)->Q j_ {s with heap:=h'}):wpAny (model prog w) A (pyNext^.ref z) Q E s:=by
 have hT:s.TypeIs (.ref z) "zip":=#[_,hz,rfl];unfold pyNext;refine Db^wpAny_attempt^eq (name:=eJ "__next__") hT iM^fq iM hT F.entry_zip_next (S4 hh D hz hTI hTO h1 h2 hl1 hl2 hend λh' e hk he=>?_)^F.args_zip_next_1 _;let#[o,ho,hc]:=he;exact Db^wpAny_isInstance (T:="StopIteration") (b:=k_) #[o,ho,hc] isSubtype_stop^UF^hQ _ hk
end
section
variable {X:Cx}{zG:m_ (Addr×Obj)}{σ:L2.St}{H:Hp}{s:Shared}{h':Heap}
theorem Inv.turnedL{t':Nat}{ch:m_ Ch}(I:Inv X zG σ H s)(hf:∀b∈ch,GB X zG H b)(k:∀b o,b∉ch->s.heap.get? b=P3 o->h'.get? b=P3 o):Inv X zG σ H {s with heap:=h',toks:=t'}:=by
 have nit:∀b u,H b=P3 u->b∉ch:=λb u e z=>by rw[(hf b z).1]at e; cases e
 refine I.step (λb hb=>?_) (λb o _ _ hc e _=>k b o hc e) (λb o _ _ hc e _=>#[_,k b o hc e]) (λ_ _ _ _ n=>n) (λb o hc e=>#[o,k b o hc e]) (λ_ _ e=>e) (λ_ _ _ e=>e) (λb ps e=>#[#[],by rw[e]; simp]) (λm hm=>?_) (λb u e=>(I.hok b u e).stay (λc v hc q=>k c v (hc.elim (λz=>by grind) λz=>nit c _ z) q) (λ_ q=>q) λ_ _ q=>q) I.bare
 .let#[f0,f1,f2,f3,f4,f5]:=hf b hb
  exact#[f3,f1,f4,f5]
 .let#[o,es,ep,ho,r]:=hm
  exact#[o,es,ep,k _ o (λz=>(hf _ z).2.1 rfl) ho,r]
theorem Inv.turnLaid{t':Nat}{ch:m_ Ch}{a:Ch}{o:HO}(I:Inv X zG σ H s)(hf:∀b∈ch,GB X zG H b)(k:∀b o,b∉ch->s.heap.get? b=P3 o->h'.get? b=P3 o)(ha:s.heap.objs.size<=a)(new:ObjOk X.prog X.w (Ah H a o) h' a o):
  Inv X zG σ (Ah H a o) {s with heap:=h',toks:=t'}:=by
 have nit:∀b u,H b=P3 u->b∉ch:=λb u e z=>by rw[(hf b z).1]at e; cases e
 have hn:H a=j_:=I.hok.fresh ha;have up:∀b u,H b=P3 u->Ah H a o b=P3 u:=λb u e=>by rw[AI^AU e hn]; exact e
 refine I.step (g':=s.gens) (d':=s.drawn) (ch:=ch) (λb hb=>?_) (λb o _ _ hc e _=>k b o hc e) (λb o _ _ hc e _=>#[o.slots,k b o hc e]) (λb u _ e n=>?_) (λb o hc e=>#[o,k b o hc e]) (λb xs e=>up _ _ e) (λb o u e=>up _ _ e) (λb ps e=>#[#[],by rw[up _ _ e]; simp]) (λm hm=>?_) (λb u e=>?_) I.bare
 .let#[f0,f1,f2,f3,f4,f5]:=hf b hb
  exact#[f3,f1,f4,f5]
 .rw[AI^cb^c6 (TM e) ha]; exact n
 .let#[o,es,ep,ho,r]:=hm
  exact#[o,es,ep,k _ o (λz=>(hf _ z).2.1 rfl) ho,r]
 .by_cases hb:b=a
  .subst hb; rw[AM]at e; cases e; exact new
  .rw[AI hb]at e
   exact(I.hok b u e).stay (λc v hc q=>k c v (hc.elim (λz=>by grind) λz=>nit c _ z) q) (λc q=>up _ _ q) λc xs q=>up _ _ q
end
def SqK(κ:Bool)(K:Frag)(H:Hp)(a:Ch)(xs:m_ V):Prop:=match κ with
 |true=>SqL K H a xs
 |false=>SqT K H a xs
theorem SqK.at{κ:Bool}{X:Cx}{zG:m_ (Ch×Obj)}{σ:L2.St}{H:Hp}{s:Go}{a:Ch}{xs:m_ V}(I:Inv X zG σ H s)(h:SqK κ X.K H a xs):∃its:m_ Cn,Vals xs its/\SqAt κ s.heap a its.toArray:=by
 cases κ with
 |true=>let#[its,r,pl,_]:=I.list h; exact#[_,r,pl.isList]
 |false=>let#[its,r,p,_]:=I.tuple h; exact#[_,r,p]
def YB (K:Frag) (zX zW:Bool) (a b:Ch) (xs ys:m_ V):It:=
  #[λi H=>SqK zX K H a xs ∧ SqK zW K H b ys ∧ i < xs.length ∧ i < ys.length,λi H x H'=>∃ T p q,x=.ref T ∧ H T=j_ ∧ H'=Ah H T^.tup [p,q] ∧ xs[i]?=P3 p ∧ ys[i]?=P3 q,
   λi H=>SqK zX K H a xs ∧ SqK zW K H b ys ∧ (xs.length ≤ i ∨ ys.length ≤ i)]
structure Zu (zX zW:Bool) (z TI TO i1 i2 a b:Ch) (k:Nat) (h:cf):Prop where
 z:gK h z TI TO .none
 ti:eh h TI (.ref i1) (.ref i2)
 to:∃a b,eh h TO a b
 i1:ItAt zX h i1 a k
 i2:ItAt zW h i2 b k
theorem Ql{P:cm}{w:cy}{K:Frag}{es:m_ cr}{j:Nat}{pos:Pos}(zX zW:Bool)(z TI TO i1 i2 a b:Ch)(xs ys:m_ V)(D:X9 z TI TO i1 i2 a b)(hTI:TI∉[z,TO,i1,i2]):
  Turn P w K (.Tuple es j pos) (YB K zX zW a b xs ys) [z,TI,TO,i1,i2] z (Zu zX zW z TI TO i1 i2 a b) where
 mem:=by simp
 obj:=λi h st c hc=>by
  simp only[Tk,ci,or_false]at hc
  rcases hc with rfl|rfl|rfl|rfl|rfl
  .exact#[_,st.z,λv q=>by cases q]
  .exact#[_,st.ti,λv q=>by cases q]
  .let#[a,b,e]:=st.to
   exact#[_,e,λv q=>by cases q]
  .exact st.i1.lies
  .exact st.i2.lies
 keep:=λi h h' st k=>by
  let#[p,q,e]:=st.to;exact#[k z (by simp) _ st.z,k TI (by simp) _ st.ti,#[p,q,k TO (by simp) _ e],st.i1.mv λo e=>k i1 (by simp) o e,st.i2.mv λo e=>k i2 (by simp) o e]
 item:=by
  intro X hP hw hK hc i zG s σ H E I hf st hg;subst hP hw hK;let#[ha,hb,hi,hj]:=hg;let#[us,r1,q1]:=ha.at I;let#[ws,r2,q2]:=hb.at I;let#[u,hu,ru]:=r1.get^No hi;let#[v,hv,rv]:=r2.get^No hj;let#[p,q,e]:=st.to;refine JI D st.z st.ti e st.i1 st.i2 q1 q2 (x:=u) (y:=v) (by simpa using hu) (by simpa using hv) λh' a1 a2 a3 a4 a5 a6 a7=>#[_,rfl,?_];refine wpAny_letOwnedTupleGo_zip a1 λh2 b1 b2=>?_;have hT:H s.heap.objs.size=j_:=I.hok.fresh^Rs _
  have kk:∀c o,c∉[z,TO,i1,i2]->s.heap.get? c=P3 o->h2.get? c=P3 o:=λc o hc e=>by
   simp only[Tk,ci,or_false,not_or]at hc;exact b2.extBut _ _ hc.1^a7 c o hc.1 hc.2.1 hc.2.2.1 hc.2.2.2 e
  have I2:Inv X zG σ (Ah H s.heap.objs.size^.tup [xs[i],ys[i]]) {s with heap:=h2}:=by
   refine I.turnLaid (t':=s.toks) (ch:=[z,TO,i1,i2]) (λc hc=>hf c ?_) kk (Rs _) ?_
   .simp only[Tk,ci,or_false]at hc ⊢
    rcases hc with rfl|rfl|rfl|rfl <;>simp
   .have nT:s.heap.objs.size≠z:=fm^TM st.z
    exact#[by show 2<=sizeLine; decide,[u,v],.cons ru^.cons rv .nil,#[_,b2.extBut _ _ nT a5,rfl,_,rfl,rfl,rfl]]
  have ti2:eh h2 TI (.ref i1)^.ref i2:=kk _ _ hTI st.ti;refine#[.ref s.heap.objs.size,_,I2,rfl,#[_,_,_,rfl,hT,rfl,No hi,No hj],#[b1,ti2,#[_,_,b2.extBut _ _ D.TOz a2],a3.eb b2.extBut D.i1z,a4.eb b2.extBut D.i2z],λc hc=>?_];have hcn:H c=j_:=(hf c hc).1
  have hlt:c≠s.heap.objs.size:=λz=>by
   obtain⟨o,ho,_⟩:∃o,s.heap.get? c=P3 o/\True:=by
    simp only[Tk,ci,or_false]at hc
    rcases hc with rfl|rfl|rfl|rfl|rfl
    .exact#[_,st.z,trivial]
    .exact#[_,st.ti,trivial]
    .exact#[_,e,trivial]
    .let#[o,q,_]:=st.i1.lies; exact#[o,q,trivial]
    .let#[o,q,_]:=st.i2.lies; exact#[o,q,trivial]
   rw[z]at ho;exact dZ _^TM ho
  rw[AI hlt]; exact hcn
 done:=by
  intro X hP hw hK hc i zG s σ H E I hf st hg;subst hP hw hK;let#[ha,hb,hi]:=hg;let#[us,r1,q1]:=ha.at I;let#[ws,r2,q2]:=hb.at I;let#[p,q,e]:=st.to;have l1:=r1.length;have l2:=r2.length;refine Ky (I.ok.hd hc) D st.z st.ti e st.i1 st.i2 q1 q2 (hi.imp (λhi=>by simp; omega) λhi=>by simp; omega) λh' kk=>#[rfl,?_];refine I.turnedL (t':=s.toks) (ch:=[z,TO,i1,i2]) (λc hc=>hf c ?_) λc o hc e=>?_
  .simp only[Tk,ci,or_false]at hc ⊢
   rcases hc with rfl|rfl|rfl|rfl <;>simp
  .simp only[Tk,ci,or_false,not_or]at hc
   exact kk c o hc.1 hc.2.1 hc.2.2.1 hc.2.2.2 e
 self:=λA i s Q E st h=>wpAny_pyIter_zip st.z h
section
variable {X:Cx}
theorem Vi(n a b:Nat)(h1:a<n)(h2:b<n):X9 (n+4) (n+2) (n+3) n (n+1) a b:=by
 constructor <;>(grind)
theorem Vh(n:Nat):(n+2)∉[n+4,n+3,n,n+1]:=by
 grind
theorem Vj(n c:Nat)(h:c∈[n+4,n+2,n+3,n,n+1]):n<=c:=by
 grind
def bH(K:Frag)(ta:TA):TI:=λσ H R=>ta σ H λvs H1=>∃zX zW a b xs ys,vs=[.ref a,.ref b]/\SqK zX K H1 a xs/\SqK zW K H1 b ys/\R (YB K zX zW a b xs ys) H1
theorem RG{e1 e2:cr}{es:m_ cr}{j:Nat}{tpos:Pos}{ta:TA}{p pos:Pos}(hg:Gl X "zip")(hm:X.mg "zip"=j_)(ha:PA X [e1,e2] ta)(hs:starEach [e1,e2] X.env=[(l_,eval e1 X.env),(l_,eval e2 X.env)]:=by rfl)(hs2:starEach [e2] X.env=[(l_,eval e2 X.env)]:=by rfl):
  PI X (.Tuple es j tpos) (.Call (.Name "zip" p) [e1,e2] [] pos) (bH X.K ta):=by
 intro zG s σ H R I h;refine Call_ (D4 I hg hm boot_zip^eM (A5 (ha pos zG s σ H _ I h) λus s1 zz=>?_) (by rw[hs,hs2])^by rw[hs2]; rfl);let#[vs,H1,I1,r1,q1]:=zz;let#[zX,zW,a,b,xs,ys,e,h1,h2,q]:=q1;subst e;let#[u,v,rfl,ru,rv]:=vals2 r1;cases ru;cases rv;let#[us,r1',q1]:=h1.at I1;let#[ws,r2',q2]:=h2.at I1;have la:a<s1.heap.objs.size:=by let#[o,e]:=q1.lies; exact TM e
 have lb:b<s1.heap.objs.size:=by let#[o,e]:=q2.lies; exact TM e
 refine LK q1 q2 λh' hz hTI hTO hi1 hi2 hk=>?_;refine wpAny_pyIter_zip hz ?_;have D:=Vi s1.heap.objs.size a b la lb;refine#[s1.heap.objs.size+4,[s1.heap.objs.size+4,s1.heap.objs.size+2,s1.heap.objs.size+3,s1.heap.objs.size,s1.heap.objs.size+1],_,YB X.K zX zW a b xs ys,H1,rfl,I1.kept (t':=s1.toks) hk,Ql zX zW _ _ _ _ _ a b xs ys D^Vh s1.heap.objs.size,#[hz,hTI,#[_,_,hTO],hi1,hi2],λc hc=>?_,q];have hge:s1.heap.objs.size<=c:=Vj s1.heap.objs.size c hc;exact I1.fpOk hge^I1.hok.fresh hge
end
end L2
namespace Dp
open L2
def E7(ds es:m_ D):m_ D:=gv (λd e=>.tup [d,e]) ds es
section
variable {K:Frag}
theorem KZ{U V' M:Ch->Prop}{H:Hp}{d:D}{v:V}{ds:m_ D}(h:AtT K V' M H d v)(e:G3 d=P3 ds)(uV:∀a,U a->V' a)(vM:∀a,V' a->M a):∃κ a vs,v=.ref a/\Ats K M H ds vs/\∀M' H',Pres M H M' H'->Ext U H H'->SqK κ K H' a vs:=by
 cases d with
 |lst xs=>
  cases e;let#[a,vs,e1,n1,hq,hs]:=h;refine#[k_,a,vs,e1,hs,λM' H' _ ex=>?_]
  rcases hq with hq|⟨o,hq⟩
  .exact .inl^.inl^ex.keep hq λz=>n1^uV a z
  .exact .inl^.inr #[o,ex.keep hq λz=>n1^uV a z]
 |tup xs=>
  cases e;let#[a,vs,e1,hq,hs]:=h;exact#[l_,a,vs,e1,hs,λM' H' pr _=>(hq.pres pr).sq]
 |_=>cases e
theorem Mz{M:Ch->Prop}{H:Hp}{d:D}{v:V}{ds:m_ D}(h:At K M H d v)(e:G3 d=P3 ds):∃κ a vs,v=.ref a/\Ats K M H ds vs/\∀M' H',Pres M H M' H'->SqK κ K H' a vs:=by
 cases d with
 |lst xs=>
  cases e;let#[a,vs,e1,hq,hs]:=h;exact#[k_,a,vs,e1,hs,λM' H' pr=>(hq.pres pr).sq]
 |tup xs=>
  cases e;let#[a,vs,e1,hq,hs]:=h;exact#[l_,a,vs,e1,hs,λM' H' pr=>(hq.pres pr).sq]
 |_=>cases e
theorem HW{M:Ch->Prop}{H:Hp}{zX zW:Bool}{a b:Ch}{vs us:m_ V}{ds es:m_ D}(hs:Ats K M H ds vs)(ht:Ats K M H es us){i:Nat}{M':Ch->Prop}{H':Hp}(pr:Pres M H M' H')(h1:SqK zX K H' a vs)(h2:SqK zW K H' b us)(dom:∀a,M' a->∃o,H' a=P3 o):
  (∀d,(E7 ds es)[i]?=P3 d->(YB K zX zW a b vs us).go i H'/\∀x H2,(YB K zX zW a b vs us).yld i H' x H2->Grow H' H2/\At K M' H2 d x)/\((E7 ds es).length<=i->(YB K zX zW a b vs us).stop i H'):=by
 have l1:=hs.length;have l2:=ht.length;refine#[λd hd=>?_,λhl=>#[h1,h2,?_]]
 .unfold E7 at hd
  rw[iB]at hd;cases q1:ds[i]? with
  |none=>rw[q1]at hd; simp at hd
  | some d1=>
   cases q2:es[i]? with
   |none=>rw[q1,q2]at hd; simp at hd
   |some d2=>
    rw[q1,q2]at hd;have hd':D.tup [d1,d2]=d:=XV hd;have i1:i<ds.length:=(Uf.mp q1).1;have i2:i<es.length:=(Uf.mp q2).1;refine#[#[h1,h2,by lk,by lk],λx H2 y=>?_];let#[T,p,q,rfl,hT,rfl,e1,e2]:=y;let#[v1,f1,a1]:=(hs.pres pr).get q1;let#[v2,f2,a2]:=(ht.pres pr).get q2;rw[e1]at f1;rw[e2]at f2;cases f1;cases f2;subst hd';exact#[Ad hT,C5 dom hT #[p,[q],rfl,a1,q,[],rfl,a2,rfl]]
 .unfold E7 at hl
  grind
end
section
variable {X:Cx}{e1 e2:Expr}{es:m_ Expr}{j:Nat}{tpos p pos:Pos}{ws:Dr}
def YE(ws:Dr):Dr:=λn ρ P=>ws n ρ λds n1=>∃d e xs ys,ds=[d,e]/\G3 d=P3 xs/\G3 e=P3 ys/\P (E7 xs ys) n1
theorem UJ(hg:Gl X "zip")(hm:X.mg "zip"=j_)(ha:Uo X [e1,e2] ws)(hs:starEach [e1,e2] X.env=[(l_,eval e1 X.env),(l_,eval e2 X.env)]:=by rfl)(hs2:starEach [e2] X.env=[(l_,eval e2 X.env)]:=by rfl):
  Ve X (.Tuple es j tpos) (.Call (.Name "zip" p) [e1,e2] [] pos) (YE ws):=by
 let#[t,a1,a2]:=ha;refine#[_,RG hg hm a1 hs hs2,λC M H n ρ σ P Rr R w q=>?_];refine a2 C M H n ρ σ _ _ R w λvs H1 ds n1 ee f1 r1 p=>?_;let#[d,e,xs,ys,rfl,hd,he,p]:=p;cases r1 with
 | cons r rr=>
  cases rr with
  |cons r' rr=>
   cases rr;have R1:=R.step ee f1;let#[zX,a,us,rfl,h1,s1]:=KZ (U:=C.U) r hd R.uV R1.vM;let#[zW,b,us',rfl,h2,s2]:=KZ (U:=C.U) r' he R.uV R1.vM;refine#[zX,zW,a,b,us,us',rfl,s1 M H1 (Pres.refl _ _)^Ext.refl _ _,s2 M H1 (Pres.refl _ _)^Ext.refl _ _,q _ H1 _ n1 ee f1 (λi M' H' pr ex dom=>HW h1 h2 pr (s1 M' H' pr ex) (s2 M' H' pr ex) dom) p]
theorem W8(hg:Gl X "zip")(hm:X.mg "zip"=j_)(ha:Um X [e1,e2] ws)(hs:starEach [e1,e2] X.env=[(l_,eval e1 X.env),(l_,eval e2 X.env)]:=by rfl)(hs2:starEach [e2] X.env=[(l_,eval e2 X.env)]:=by rfl):
  DI X (.Tuple es j tpos) (.Call (.Name "zip" p) [e1,e2] [] pos) (YE ws):=by
 let#[t,a1,a2]:=ha;refine#[_,RG hg hm a1 hs hs2,λC M H n ρ σ P Rr R w q=>?_];refine a2 C M H n ρ σ _ _ R w λvs H1 ds n1 ee f1 r1 p=>?_;let#[d,e,xs,ys,rfl,hd,he,p]:=p;let#[v,r,rfl,r1,v',r',rfl,r2,rr]:=r1;cases(show r'=[]from rr);let#[zX,a,us,rfl,h1,s1]:=Mz r1 hd;let#[zW,b,us',rfl,h2,s2]:=Mz r2 he;exact#[zX,zW,a,b,us,us',rfl,s1 M H1^Pres.refl _ _,s2 M H1^Pres.refl _ _,q _ H1 _ n1 ee f1 (λi M' H' pr dom=>HW h1 h2 pr (s1 M' H' pr) (s2 M' H' pr) dom) p]
def bD:D->n_ Key
 |.int i=>P3^.inl i
 |.str x=>P3^.inr x
 |_=>j_
def Jn:m_ D->n_^m_ Key
 |[]=>P3 []
 |d::ds=>match bD d,Jn ds with
  |some k,P3 ks=>P3 (k::ks)
  |_,_=>j_
theorem Fw{K:Frag}{M:Ch->Prop}{H:Hp}:∀{ds:m_ D}{vs:m_ V}{ks:m_ Key},Jn ds=P3 ks->Ats K M H ds vs->vs=ks.map kOf
 |[],vs,ks,e,h=>by cases e; exact h
 | d::ds,vs,ks,e,h=>by
  let#[v,r,e1,h1,h2]:=h;unfold Jn at e
  split at e
  .rename_i k ks' hk hks
   cases e;rw[e1,Fw hks h2]
   congr 1
   cases d with
   |int i=>cases hk; exact h1
   |str x=>cases hk; exact h1.1
   |_=>cases hk
  .cases e
def NW(d e:D)(P:D->Prop):Prop:=match d,e with
 |.int i,.int j=>P^.bl (decide (i<j))
 |.str i,.str j=>P^.bl (decide (i.cps.toList<j.cps.toList))
 |.tup xs,.tup ys=>∃ks ls,Jn xs=P3 ks/\Jn ys=P3 ls/\CF ks ls=k_/\P^.bl^Fv ks ls
 |_,_=>False
def Yo(K:Frag):R2:=λx y H Q=>WB x y H Q\/Yn K x y H Q
theorem ER{k:Nat}(hr:Room k X.A):OpR X (compareOp .Lt)^Yo X.K:=op_ltU.or^WW hr.units0
theorem Gz:Eu X.K .sh (Yo X.K) NW:=λU M H d e x y P Q dom vM hx hy w q=>by
 unfold NW at w
 split at w
 .exact .inl^VW U M H _ _ x y P Q dom vM hx hy w q
 .exact .inl^VW U M H _ _ x y P Q dom vM hx hy w q
 .let#[ks,ls,h1,h2,h3,w]:=w
  let#[a,vs,rfl,ha,hs]:=hx.tup;let#[b,us,rfl,hb,ht]:=hy.tup;have e1:=Fw h1 hs;have e2:=Fw h2 ht;subst e1 e2;exact .inr #[a,b,ks,ls,rfl,rfl,ha.sq,hb.sq,h3,q _ H (.bl _) .refl rfl w]
 grind
end
end Dp
namespace L2
section
variable {prog:Program}{w:World}{A:Around}{E:Value->Shared->Prop}{s:Shared}
theorem Lh{t sl:Ch}{items:Array Cn}{vl vu:Cn}{lo hi:n_ Int}{Q:Cn->Go->Prop}(ht:IsTup s.heap t items)(hs:s.heap.IsSliceOf sl vl vu .none)(pl:iH vl lo)(pu:iH vu hi)
  (hw:HT.sIx items.size 0 lo=0/\HT.sIx items.size items.size hi=items.size) (h:Q (.ref t) s):wpAny (model prog w) A (getItem (.ref t)^.ref sl) Q E s:=by
 let#[os,hos,hcs,hds]:=id hs;have hTs:s.TypeIs (.ref sl) "slice":=#[os,hos,hcs];unfold getItem
 (try with_reducible refine eI ?_); (first|refine Db^UF ?_|skip)
 refine Db^wpAny_sequenceKey ht.typeIs (by cbv)^Db^eq (name:=eJ "__getitem__") ht.typeIs dq^fq dq ht.typeIs entry_tuple_getitem ?_^args_tuple_getitem _ _;show wpAny (model prog w) _ (im^.ref t >>=_) _ _ s;refine Db^tupleItemsOf_ ht^Db^gn hTs ?_; rw[if_pos^by cbv]
 refine Db^HT.sliceApplied_gen hs pl pu ?_;have hyes:(((HT.sIx items.size 0 lo:Nat):Int)==0&&(1:Int)==1&&(HT.sIx items.size items.size hi - HT.sIx items.size 0 lo)==items.size)=k_:=by rw[hw.1,hw.2]; simp
 show wpAny (model prog w) _ (if(((HT.sIx items.size 0 lo:Nat):Int)==0&&(1:Int)==1&&(HT.sIx items.size items.size hi - HT.sIx items.size 0 lo)==items.size)=k_ then _ else _) _ _ s;rw[if_pos hyes];refine Db (m:=io _) ?_;unfold io;refine Db^gn ht.typeIs^UF ?_;show wpAny (model prog w) _ (if((dP "tuple"==dP "tuple")=k_)then _ else _) _ _ s;rw[if_pos^by cbv]
 first
  |grind
  |exact Db^gw^UF #[_,rfl,UF h]
  |grind
end
section
variable {X:Cx}
def Uz(K:Frag):V->n_ Int->n_ Int->Hp->VK->Prop:=λx lo hi H Q=>∃a xs,x=.ref a/\SqT K H a xs/\(HT.sIx xs.length 0 lo=0/\HT.sIx xs.length xs.length hi=xs.length)/\Q (.ref a) H
theorem TJ:SlR X^Uz X.K:=by
 intro zG s σ H x v vl vu lo hi sl Q I rx hs pl pu h;let#[a,xs,rfl,hx,hw,q]:=h;cases rx;let#[its,r,ht,hz]:=I.tuple hx;have hlen:=r.length.symm;exact#[_,_,dq.lookup,ht.typeIs,Lh ht hs pl pu (by grind) #[.ref a,H,I,rfl,q]]
end
section
variable {X:Cx}
def Q7(K:Frag):R2:=λx y H Q=>∃a b ys,x=.ref a/\y=.ref b/\SqT K H a []/\SqT K H b ys/\Q (.ref b) H
theorem RY:OpR X (binaryOp .Add)^Q7 X.K:=by
 intro zG s σ H x y v u Q I rx ry h;let#[a,b,ys,rfl,rfl,ha,hb,q]:=h;cases rx;cases ry;let#[its,r1,p1,_]:=I.tuple ha;let#[its2,r2,p2,_]:=I.tuple hb;cases r1;let#[#[cls,dd,data,sl],ho,hc,n,hd]:=id p1;let#[#[cls2,dd2,data2,sl2],ho2,hc2,n2,hd2]:=id p2;subst hc hd hc2 hd2;exact concat_meets #[_,ho,rfl] #[_,ho2,rfl] jC seq_tuple_add PySem.F.slot_tuple_add PySem.F.entry_tuple_add (PySem.F.args_tuple_add_2 _ _) (tuple_addW0 a b _ _ n n2 dd _ sl _^by simp) #[ho,ho2,#[.ref b,H,I,rfl,q]]
def bI(b:Bool):Int:=if b=k_ then 1 else 0
def aH(g:Int->Int->Int):R2:=λx y H Q=>∃k j,x=.bl k/\y=.int j/\Q (.int^g (bI k) j) H
def bv(g:Int->Int->Int):R2:=λx y H Q=>∃i k,x=.int i/\y=.bl k/\Q (.int^g i^bI k) H
theorem op_add_bi:OpR X (binaryOp .Add) (aH λi j=>i+j):=by
 intro zG s σ H x y v u Q I rx ry h;let#[k,j,rfl,rfl,q]:=h;cases rx;let#[t,rfl]:=ry;exact PySem.IntBool.add_bool_int #[.int _,H,I.tok _,#[_,rfl],q]
theorem op_sub_bi:OpR X (binaryOp .Sub) (aH λi j=>i - j):=by
 intro zG s σ H x y v u Q I rx ry h;let#[k,j,rfl,rfl,q]:=h;cases rx;let#[t,rfl]:=ry;exact PySem.IntBool.sub_bool_int #[.int _,H,I.tok _,#[_,rfl],q]
theorem PZ:OpR X (binaryOp .Sub) (bv λi j=>i - j):=by
 intro zG s σ H x y v u Q I rx ry h;let#[i,k,rfl,rfl,q]:=h;let#[t,rfl]:=rx;cases ry;exact PySem.IntBool.sub_int_bool #[.int _,H,I.tok _,#[_,rfl],q]
def Ys(neg:Bool):R2:=λx y H Q=>∃a b,x=.bl a/\y=.bl b/\Q (.bl (if neg then !(a==b)else a==b)) H
theorem Pe:OpR X (compareOp .IsNot)^Ys k_:=by
 intro zG s σ H x y v u Q I rx ry h;let#[a,b,rfl,rfl,q]:=h;cases rx;cases ry;exact isnot_bool #[.bl _,H,I,rfl,q]
end
end L2
namespace Dp
open L2
section
variable {K:Frag}{X:Cx}
def B0(d e:D)(P:D->Prop):Prop:=match d,e with
 |.int i,.int j=>P^.int (i+j)
 |.bl k,.int j=>P^.int (bI k+j)
 |.str i,.str j=>i.length+j.length<=sizeLine/\P^.str (i++j)
 |.tup i,.tup j=>i.length+j.length<=sizeLine/\P^.tup (i++j)
 |.lst i,.lst j=>i.length+j.length<=sizeLine/\P^.lst (i++j)
 |_,_=>False
def VA(K:Frag):R2:=λx y H Q=>Q9 K x y H Q\/(aH λi j=>i+j) x y H Q\/Q7 K x y H Q
theorem Aj:OpR X (binaryOp .Add)^VA X.K:=op_addU.or^op_add_bi.or RY
theorem A1:Eu X.K .sh (VA X.K) B0:=λU M H d e x y P Q dom vM hx hy w q=>by
 unfold B0 at w
 split at w
 .exact .inl^LS U M H (.int _) (.int _) x y P Q dom vM hx hy w q
 .rename_i k j
  exact .inr^.inl #[k,j,hx,hy,q _ H (.int _) .refl rfl w]
 .exact .inl^LS U M H _ (.str _) x y P Q dom vM hx hy w q
 .rename_i i j
  cases i with
  |nil=>
   let#[a,vs,rfl,ha,hs]:=hx.tup;let#[b,us,rfl,hb,ht]:=hy.tup;cases(hs);exact .inr^.inr #[a,b,us,rfl,rfl,ha.sq,hb.sq,q _ H (.tup j) .refl #[b,us,rfl,hb,ht]^by grind]
  |cons i0 i=>exact .inl^LS U M H _ (.tup j) x y P Q dom vM hx hy #[(by grind),w] q
 .exact .inl^LS U M H (.lst _) (.lst _) x y P Q dom vM hx hy w q
 grind
def R7(d e:D)(P:D->Prop):Prop:=match d,e with
 |.int i,.int j=>P^.int (i - j)
 |.bl k,.int j=>P^.int (bI k - j)
 |.int i,.bl k=>P^.int (i - bI k)
 |_,_=>False
def Ux:R2:=λx y H Q=>(Gg λi j=>.int (i - j)) x y H Q\/(aH λi j=>i - j) x y H Q\/(bv λi j=>i - j) x y H Q
theorem OQ:OpR X (binaryOp .Sub) Ux:=op_sub.or^op_sub_bi.or PZ
theorem Sb:Eu K .sh Ux R7:=λU M H d e x y P Q dom vM hx hy w q=>by
 unfold R7 at w
 split at w
 .exact .inl^Sh U M H _ _ x y P Q dom vM hx hy w q
 .rename_i k j
  exact .inr^.inl #[k,j,hx,hy,q _ H (.int _) .refl rfl w]
 .rename_i i k
  exact .inr^.inr #[i,k,hx,hy,q _ H (.int _) .refl rfl w]
 grind
def ZZ(neg:Bool)(d e:D)(P:D->Prop):Prop:=match d,e with
 |.bl a,.bl b=>P^.bl (if neg then !(a==b)else a==b)
 |_,_=>False
theorem Zr{neg:Bool}:Eu K .sh (Ys neg)^ZZ neg:=λU M H d e x y P Q dom vM hx hy w q=>by
 unfold ZZ at w
 split at w
 .rename_i a b
  exact#[a,b,hx,hy,q _ H (.bl _) .refl rfl w]
 grind
def MJ(d:D)(lo hi:n_ Int)(P:D->Prop):Prop:=match d with
 |.str z=>P^.str^Txt.slice z lo hi
 |.lst xs=>P^.lst^cutD xs lo hi
 |.tup xs=>P^.tup^cutD xs lo hi
 |_=>False
def Yl(K:Frag):V->n_ Int->n_ Int->Hp->VK->Prop:=λx lo hi H Q=>Yj x lo hi H Q\/WA K x lo hi H Q\/Yk K x lo hi H Q\/Uz K x lo hi H Q
theorem G2:SlR X^Yl X.K:=sl_U.or^sl_list.or^sl_tup.or TJ
theorem LH{M:Ch->Prop}{H:Hp}{ds:m_ D}{vs:m_ V}(lo hi:n_ Int)(h:Ats K M H ds vs):Ats K M H (cutD ds lo hi)^MR vs lo hi:=by
 unfold cutD MR;rw[h.length];exact(h.drop _).take _
theorem EG:bY K .sh (Yl K) MJ:=by
 intro U M H d x lo hi P Q dom vM hx w q;unfold MJ at w
 split at w
 .rename_i z
  exact .inl #[z,hx.str.1,hx.str.2,q _ H (.str^Txt.slice z lo hi) .refl #[rfl,c5 (Txt.slice_le z lo hi) hx.str.2] w]
 .rename_i xs
  let#[a,vs,rfl,_,ha,hs]:=hx;exact .inr^.inl #[a,vs,rfl,.inl ha,λp hp=>q _ _ (.lst _) (Ad hp) ((C6 (U:=U) hp^LH lo hi hs).shOf dom^by grind) w]
 .rename_i xs
  let#[a,vs,rfl,ha,hs]:=hx.tup
  by_cases hw:HT.sIx vs.length 0 lo=0/\HT.sIx vs.length vs.length hi=vs.length
  .refine .inr^.inr^.inr #[a,vs,rfl,ha.sq,hw,?_]
   have e:cutD xs lo hi=xs:=by
    unfold cutD;rw[←hs.length,hw.1,hw.2,List.drop_zero,Nat.sub_zero,hs.length,jE]
   rw[e]at w;exact q _ H (.tup xs) .refl #[a,vs,rfl,ha,hs] w
  .exact .inr^.inr^.inl #[a,vs,rfl,ha.sq,hw,λp hp=>q _ _ (.tup _) (Ad hp) (C5 dom hp^LH lo hi hs) w]
 grind
def R9:D->D->(D->Prop)->Prop:=aL λi j P=>i.length+j.length<=sizeLine/\P^.lst (i++j)
end
end Dp
namespace Nt
open L2 Dp
def DC:W2:=λss n P=>∃m:Int,ss=[.fd,.sh^.int m]/\1<=m/\m<1073741824/\1<=n.n/\∀r:Int,0<=r->r<m->P (.int r) (n - 1)
end Nt
namespace L2
section
variable {K:Frag}{n1 n2:Str}{C U U':Addr}
theorem XC.name(c:XC K n1 C U)(d:XC K n2 C U'):n1=n2:=by
 let#[cd,h1,_,_,h2]:=c.cls;let#[cd',h1',_,_,h2']:=d.cls
 grind
theorem XC.nameU(c:XC K n1 C U)(d:XC K n2 U U'):n2="ThinError":=by
 let#[q,N,bs,sn,sub,ab,col,dd,k0,k1,k2,k3,k5,hd,e]:=c.up;let#[cd',h1',_,_,h2']:=d.cls;unfold PySem.W.clsIn at h1';rw[e]at h1'
 grind
end
end L2
namespace Dp
open L2
def b_(M:Ch->Prop)(H:Hp)(dx:n_ Ch)(ks:m_ Str)(vs:m_ V):Prop:=dx=j_/\ks=[]/\vs=[]\/∃d,dx=P3 d/\¬M d/\H d=P3^.ext^XF d^ks.zip vs
abbrev PX:=Str->m_ Str->m_ D->Sg->Prop
abbrev WX:=m_ Slot->Sg->(D->Sg->Prop)->PX->Prop
def LiftX(K:Frag)(F:n_ (Ch×Ch))(U M:Ch->Prop)(H:Hp)(Pr:PX)(E:XK):Prop:=∀nm C Uc ks ds vs dx H' n',Ext U H H'->FeedC K F M H' n'->XC K nm C Uc->b_ M H' dx ks vs->ks.length=ds.length->Ats K M H' ds vs->Pr nm ks ds n'->E (.ref C) dx H'
def aG(K:Frag)(κ:Kd)(W:WX)(np:Nat):Sp:=λvs H Q E=>vs.length=np/\∃(F:n_ (Ch×Ch)) (U V' M:Ch->Prop) (n:Sg) (ss:m_ Slot) (P:D->Sg->Prop) (Pr:PX),Xt K F U V' M H n ss vs/\W ss n P Pr /\
 (∀v H' d n',Ext U H H'->FeedC K F M H' n'->VR K V' M H H' κ v d->P d n'->Q v H')/\LiftX K F U M H Pr E
def X4(Φ:Fm->Prop)(X:Cx)(κ:Kd)(st:d6)(w:Aa):Prop:=∃t,PS X st t/\∀(C:Fm) (M:Ch->Prop) (H:Hp) (n:Sg) (ρ:m_ Slot) (σ:L2.St) (D2:E2) (E:Ends),Φ C->Rel X.K C M H n ρ σ->F_ X.K C κ D2 E->w D2 n ρ->t E σ H
def LY(Φ:Fm->Prop)(X:Cx)(κ:Kd)(st:m_ d6)(w:Aa):Prop:=∃t,PSs X st t/\∀(C:Fm) (M:Ch->Prop) (H:Hp) (n:Sg) (ρ:m_ Slot) (σ:L2.St) (D2:E2) (E:Ends),Φ C->Rel X.K C M H n ρ σ->F_ X.K C κ D2 E->w D2 n ρ->t E σ H
section
variable {Φ:Fm->Prop}{X:Cx}{κ:Kd}{st:Stmt}{rest:m_ Stmt}{u v:Aa}{wA:FU}{c:Expr}{pos p:Pos}
theorem B3(h:Mh X κ rest u):LY Φ X κ rest u:=let #[t,a,b]:=h; #[t,a,λC M H n ρ σ D2 E _=>b C M H n ρ σ D2 E]
theorem BC(h1:X4 Φ X κ st u)(h2:LY Φ X κ rest v):LY Φ X κ (st::rest)^Ay u v:=by
 let#[t,a1,a2]:=h1;let#[t',b1,b2]:=h2;exact#[_,A8 a1 b1,λC M H n ρ σ D2 E hc R L w=>a2 C M H n ρ σ {D2 with nx:=v D2} _ hc R #[λM H n ρ σ R w=>b2 C M H n ρ σ D2 E hc R L w,L.rt,L.bk,L.ct] w]
theorem Ce(h1:X4 Φ X κ st u):LY Φ X κ [st] u:=by
 let#[t,a1,a2]:=h1;exact#[t,Cq a1,a2]
theorem GX{a b:m_ d6}(hc:DT X c wA)(ha:LY Φ X κ a u)(hb:LY Φ X κ b v):X4 Φ X κ (.If c a b pos)^Ci wA u v:=by
 let#[t,a1,a2]:=hc;let#[t',b1,b2]:=ha;let#[t'',c1,c2]:=hb;refine#[_,OG a1 b1 c1,λC M H n ρ σ D2 E hC R L w=>?_];refine a2 C M H n ρ σ _ _ R w λb H1 n1 e1 f1 p=>?_;cases b with
 |true=>exact b2 C M H1 n1 ρ σ D2 E hC (R.step e1 f1) L p
 |false=>exact c2 C M H1 n1 ρ σ D2 E hC (R.step e1 f1) L p
end
abbrev Vd:=E2->PX->Sg->m_ Slot->Prop
def bn(X:Cx)(κ:Kd)(st:d6)(w:Vd):Prop:=∃t,YA X st t/\∀(C:Fm) (M:Ch->Prop) (H:Hp) (n:Sg) (ρ:m_ Slot) (σ:L2.St) (D2:E2) (E:Ends) (R:XK) (Pr:PX),Rel X.K C M H n ρ σ->F_ X.K C κ D2 E->LiftX X.K C.F C.U M H Pr R->w D2 Pr n ρ->t E R σ H
def Ul(X:Cx)(κ:Kd)(st:m_ d6)(w:Vd):Prop:=∃t,Sv X st t/\∀(C:Fm) (M:Ch->Prop) (H:Hp) (n:Sg) (ρ:m_ Slot) (σ:L2.St) (D2:E2) (E:Ends) (R:XK) (Pr:PX),Rel X.K C M H n ρ σ->F_ X.K C κ D2 E->LiftX X.K C.F C.U M H Pr R->w D2 Pr n ρ->t E R σ H
theorem LiftX.step{K:Frag}{F:n_ (Ch×Ch)}{U M:Ch->Prop}{H H1:Hp}{Pr:PX}{E:XK}(h:LiftX K F U M H Pr E)(e:Ext U H H1):LiftX K F U M H1 Pr E:=λnm C Uc ks ds vs dx H' n' e1=>h nm C Uc ks ds vs dx H' n'^e.trans e1
section
variable {X:Cx}{κ:Kd}{st:Stmt}{u v:Vd}{wA:FU}{c e:Expr}{pos p:Pos}{nm:Str}{ks:m_ Str}
def aZ(t:FU)(u v:Vd):Vd:=λD2 Pr n ρ=>t n ρ λc n1=>if c=k_ then u D2 Pr n1 ρ else v D2 Pr n1 ρ
theorem C8(h1:bn X κ st u):Ul X κ [st] u:=by
 let#[t,a1,a2]:=h1;exact#[t,RC a1,a2]
theorem Na{a b:m_ d6}(hc:DT X c wA)(ha:Ul X κ a u)(hb:Ul X κ b v):bn X κ (.If c a b pos)^aZ wA u v:=by
 let#[t,a1,a2]:=hc;let#[t',b1,b2]:=ha;let#[t'',c1,c2]:=hb;refine#[_,WH a1 b1 c1,λC M H n ρ σ D2 E R Pr r L l w=>?_];refine a2 C M H n ρ σ _ _ r w λb H1 n1 e1 f1 p=>?_;cases b with
 |true=>exact b2 C M H1 n1 ρ σ D2 E R Pr (r.step e1 f1) L (l.step e1) p
 |false=>exact c2 C M H1 n1 ρ σ D2 E R Pr (r.step e1 f1) L (l.step e1) p
def cC(X:Cx)(e:cr)(κ:Kd)(w:Sg->m_ Slot->(D->Sg->Prop)->PX->Prop):Prop:=∃t,bZ X e t/\∀(C:Fm) (M:Ch->Prop) (H:Hp) (n:Sg) (ρ:m_ Slot) (σ:L2.St) (P:D->Sg->Prop) (Q:VK) (R:XK) (Pr:PX),Rel X.K C M H n ρ σ->LiftX X.K C.F C.U M H Pr R->w n ρ P Pr->
 (∀v H' d n',Ext C.U H H'->FeedC X.K C.F M H' n'->VR X.K C.V M H H' κ v d->P d n'->Q v H')->t R σ H Q
abbrev X3:=E2->Str->m_ Str->m_ D->Sg->m_ Slot->Prop
def DH(X:Cx)(κ:Kd)(hs:m_ gW)(w:X3):Prop:=∃t,PH X hs t/\∀(C:Fm) (M:Ch->Prop) (H:Hp) (n:Sg) (ρ:m_ Slot) (σ:L2.St) (D2:E2) (E:Ends) (nm:Str) (Cc Uc:Ch) (ks:m_ Str) (ds:m_ D) (vs:m_ V) (dx:n_ Ch),
 Rel X.K C M H n ρ σ->F_ X.K C κ D2 E->XC X.K nm Cc Uc->b_ M H dx ks vs->ks.length=ds.length->Ats X.K M H ds vs->w D2 nm ks ds n ρ->t E Cc dx σ H
def aT(wb:Vd)(wh:X3):Aa:=λD2 n ρ=>wb D2 (λnm ks ds n'=>wh D2 nm ks ds n' ρ) n ρ
theorem W4{body:m_ d6}{h₀:gW}{hs:m_ gW}{wb:Vd}{wh:X3}(hst:X.stack=X.env::X.outer)(hfr:X.env.frame=P3 X.env.locals)(hx:∀e s,X.xe e s->False)(hb:Ul X κ body wb)(hh:DH X κ (h₀::hs) wh):
  DS X κ (.Try body (h₀::hs) [] [] pos) (aT wb wh):=by
 let#[t,a1,a2]:=hb;let#[th,b1,b2]:=hh;exact#[_,WI hst hfr hx a1 b1,λC M H n ρ σ D2 E r L w=>a2 C M H n ρ σ D2 E _ _ r L (λnm Cc Uc ks ds vs dx H' n' e f xc xd hl hs p=>#[Cc,rfl,b2 C M H' n' ρ σ D2 E nm Cc Uc ks ds vs dx (r.step e f) L xc xd hl hs p]) w]
def Qf:X3:=λ_ _ _ _ _ _=>False
theorem W9:DH X κ [] Qf:=#[_,WN,λ_ _ _ _ _ _ _ _ _ _ _ _ _ _ _ _ _ _ _ _ _ w=>w.elim]
end
end Dp
namespace K92
open L2 Dp Nt
def top(i:Nat):d6:=PySem.Challenge.pw_thinnet_k92_whole_a_keeper_through_deeds.main.body.getD i^.Pass #[0,0,0,0]
def EC(j:Nat)(s:d6):d6:=match s with
 |.ClassDef _ _ _ b _ _ _ _ _ _ _=>b.getD j^.Pass #[0,0,0,0]
 |_=>.Pass #[0,0,0,0]
abbrev FA:d6:=top 16
abbrev EO:d6:=top 51
abbrev DM:d6:=top 52
abbrev Ax:d6:=EC 0^top 43
abbrev Hr:d6:=top 64
structure Txt (K:Frag) (mg:Str->Option Cn):Prop where
 Gar:mg "abs"=j_
 Gai:mg "all"=j_
 Gap:mg "bool"=j_
 Gak:mg "enumerate"=j_
 Gas:mg "int"=j_
 Gab:mg "isinstance"=j_
 Gad:mg "len"=j_
 Gaq:mg "list"=j_
 Gal:mg "max"=j_
 Gaj:mg "min"=j_
 Gae:mg "range"=j_
 Gah:mg "repr"=j_
 Gam:mg "reversed"=j_
 Gac:mg "sorted"=j_
 Gan:mg "str"=j_
 Gaa:mg "tuple"=j_
 Gao:mg "zip"=j_
 Gaf:∃t,mg "MOST_PLACES"=P3 (.int 24 t)
 Gag:∃t,mg "MOST_TIES"=P3 (.int 60 t)
 x_NoPaper:∃C U,XC K "NoPaper" C U/\mg "NoPaper"=P3 (.ref C)
 x_TooMany:∃C U,XC K "TooMany" C U/\mg "TooMany"=P3 (.ref C)
 x_Twice:∃C U,XC K "Twice" C U/\mg "Twice"=P3 (.ref C)
 x_NoPlace:∃C U,XC K "NoPlace" C U/\mg "NoPlace"=P3 (.ref C)
 x_NoTie:∃C U,XC K "NoTie" C U/\mg "NoTie"=P3 (.ref C)
 x_ThinError:∃U,YD K U/\mg "ThinError"=P3^.ref U/\nsIn K mainGlobals "ThinError"=P3^P3^.ref U
section
variable {P:Program}{w:World}{K:Frag}{mg:Str->n_ Value}{base:Heap}
theorem je:BF ["_law_feed_here","_law_many","_law_digit","_law_at","_law_cell","_law_first"] ["_law_feed_here","_law_many"]^AK DM:=#[rfl,rfl,rfl,by decide +kernel,rfl,by decide +kernel,by decide +kernel]
theorem Ti{f:Ch}{fd:dR}(F:Fun K "_law_next" "_law_next" DM f fd)(ml:mg "len"=j_):FnOk P w K mg base E6 1 f fd ["_law_feed_here","_law_many"]^QS K .sh DC 2:=by
 refine F.ok je (λvs H Q E h=>h.1) λcdv A outer s H vs Q E hr h=>?_;let#[hl,F0,U,V',M,n,ss,Pd,ra,#[m,rfl,hm1,hm2,hn,hP],q]:=h;let#[dom,fU,uV,vM,fd0,pa]:=ra;cases pa with
 |cons r1 pa=>
 cases pa with
 |cons r2 pa=>
 cases pa;let#[#[f0,c],e0,hF]:=r1.1;cases e0;let#[v2,e2,h2]:=r2.1;cases e2;cases(show _=V.int m from h2);let#[a,r,cells,hf,hcf,hc,hcl,ha0,han]:=fd0.1 (f0,c) hF
 have fin:∀(a' r' z:Int) (H':Hp),(∀b o,H b=P3 o->b≠f0->H' b=P3 o)->H' f0=P3^.lst [.ref c,.int a',.int r']->0<=a'->a'<=a+1->0<=z->z<m->Q (.int z) H':=by
  intro a' r' z H' hk' hf' h0 h1 hz0 hz1;refine q (.int z) H' (.int z) (n - 1) (λb o e=>?_) #[λg hg=>?_,λb k hk=>(fd0.2 b k hk).to (λ_ _ z=>z) (λb vs e=>hk' b _ e λz=>by rw[z,hf]at e; cases e) (λb o e=>if z:b=f0 then#[_,z▸hf']else#[o,hk' b o e z]) λu e=>hk' b _ e λz=>by rw[z,hf]at e; cases e] rfl (hP z hz0 hz1)
  .by_cases hb:b=f0
   .subst hb
    exact#[_,hf',λnu _=>absurd (fU (b,c) hF) nu,λvs z=>by rw[z,hf]at e; cases e]
   .exact#[o,hk' b o e hb,λ_ _=>rfl,λ_ _=>rfl]
  .have:g=(f0,c):=XV^hg.symm.trans hF
   subst this;exact#[a',r',cells,hf',hcf,#[hc.1,hk' c _ hc.2 hcf],hcl,h0,by have e:(n - 1:Sg).n=n.n - 1:=rfl; omega]
 have hu:(A.deeper^envOfC "_law_next" (AK DM) s.heap.objs.size f cdv).units<cLine:=hr.units0;have hsq:∀{H':Hp}{xs:m_ V},H' f0=P3^.lst xs->SqL K H' f0 xs:=λh=>SqL.of h;have ed:∀z:Int,0<=z % m/\z % m<m:=λz=>#[Int.emod_nonneg _^by lk,Int.emod_lt_of_pos _^by lk]
 refine#[_,A8 (OG (Fe VD (EA ix_list (pv 0) Aq λ_ _=>rfl) Aq^BV _)
   (A8 (Dx (i:=2) je.nd rfl (eA rfl) (Bm DV (EA ix_list (pv 0) Aq λ_ _=>rfl)^pv 1))
   (A8 (Ki (Bm HF (EA ix_list (pv 0) Aq λ_ _=>rfl)^pv 1)^ND (pv 0) Aq set_list)
   (Cq^EQ^pv 2))) Kg)
  (A8 (Dx (i:=3) je.nd rfl (eA rfl) (EA ix_list (pv 0) Aq λ_ _=>rfl))
  (A8 (Ki (Bm op_add (pv 3) Aq)^ND (pv 0) Aq set_list)
  (A8 (Dx (i:=4) je.nd rfl (eA rfl) (Lz (Fe (Pa hu) (EA ix_list (pv 0) Aq λ_ _=>rfl) (Kl Cj)^BV _)
   (EA ix_list (EA ix_list (pv 0) Aq λ_ _=>rfl) (Bm DV (pv 3) (Fi Iq rfl ml PySem.boot_len (BK (EA ix_list (pv 0) Aq λ_ _=>rfl) Cj))) λ_ _=>rfl) Aq))
  (A8 (OG (PW.pt^Q_ (Fe VE (pv 4) (Bm RU Aq Aq)^BV _)^OD^Fe op_lt (pv 3) (Fi Iq rfl ml PySem.boot_len (BK (EA ix_list (pv 0) Aq λ_ _=>rfl) Cj))^BV _)
   (A8 (Ki (Bm HF (pv 4)^pv 1)^ND (pv 0) Aq set_list)
   (Cq^EQ^Bm DV (pv 4)^pv 1)) Kg)
  (A8 (Dx (i:=5) je.nd rfl (eA rfl) (Bm DV (Bm op_mul (Bm op_add (Bm op_add (Bm op_add (Bm DV (pv 4) Aq)^Bm op_mul (Bm op_mul Aq^pv 3)^pv 3)^Bm op_mul Aq^pv 3) Aq) Aq) Aq))
  (Cq^EQ^Bm DV (Bm HF (Bm DV (Bm op_mul (Bm op_add (pv 5)^Bm op_mul Aq^pv 3) Aq) Aq) Aq)^pv 1)))))),?_]
 refine#[_,rfl,f0,_,2,_,rfl,rfl,hsq hf,rfl,_,_,rfl,rfl,_,rfl,?_];refine B_ (λc1=>?_) λc1=>?_
 .refine#[_,rfl,f0,_,2,_,rfl,rfl,hsq hf,rfl,_,rfl,_,_,rfl,rfl,(by show(0:Int)<m; omega),?_]
  refine#[_,rfl,f0,_,2,_,rfl,rfl,hsq hf,rfl,_,rfl,_,_,rfl,rfl,#[(by show(0:Int)<m; omega),hm2],_,rfl,f0,_,2,2,rfl,rfl,hf,rfl,?_];refine#[_,rfl,?_];exact fin a _ _ _ (λb o e hb=>by rw[AI hb]; exact e) AM ha0 (by lk) (ed _).1 (ed _).2
 ·-- at=feed[1]; feed[1]=at+1
  refine#[_,rfl,f0,_,1,_,rfl,rfl,hsq hf,rfl,?_];refine#[_,rfl,_,_,rfl,rfl,_,rfl,f0,_,1,1,rfl,rfl,hf,rfl,?_];generalize hH1:Ah H f0^.lst^[V.ref c,V.int a,V.int r].set 1^V.int (a+1)=H1;have f1:H1 f0=P3^.lst [.ref c,.int (a+1),.int r]:=by rw[←hH1]; exact AM
  have k1:∀b o,H b=P3 o->b≠f0->H1 b=P3 o:=λb o e hb=>by rw[←hH1,AI hb]; exact e
  have c1':H1 c=P3^.lst^cells.map V.int:=k1 c _ hc.2 hcf
  have rest:∀(z:Int) (H2:Hp),(∀b o,H1 b=P3 o->H2 b=P3 o)->
    (PF (YZ (Ye (Qo^Df (Gg λi j=>V.bl (decide (j<=i))) (Bw 4)^Df (rI aB λi j=>V.int (i ^ j.toNat)) (tC^V.int 10)^tC^V.int 18)^Qo^Df (Gg λi j=>V.bl (decide (i<j))) (Bw 3)^aF (λxs H Q=>∃x n,xs=[x]/\Xy K x H n/\Q (V.int n) H)^N5 (Df (WC K) (Bw 0)^tC^V.int 0) Qp) (PF (Lk (Df (rI Up λi j=>V.int (i / j)) (Bw 4)^Bw 1)^ZJ (Bw 0) (tC^V.int 2) U1)^TB^Df (rI (λ_ j=>0<j) λi j=>V.int (i % j)) (Bw 4)^Bw 1) Uu)^PF (Lk (Df (rI (λ_ j=>0<j) λi j=>V.int (i % j)) (Df (rI CMul λi j=>V.int (i*j)) (Df (Gg λi j=>V.int (i+j)) (Df (Gg λi j=>V.int (i+j)) (Df (Gg λi j=>V.int (i+j)) (Df (rI (λ_ j=>0<j) λi j=>V.int (i % j)) (Bw 4)^tC^V.int 1000003)^Df (rI CMul λi j=>V.int (i*j)) (Df (rI CMul λi j=>V.int (i*j)) (tC^V.int 41)^Bw 3)^Bw 3)^Df (rI CMul λi j=>V.int (i*j)) (tC^V.int 17)^Bw 3)^tC^V.int 3)^tC^V.int 51749)^tC^V.int 999917)^Gv 5)^TB^Df (rI (λ_ j=>0<j) λi j=>V.int (i % j)) (Df (rI Up λi j=>V.int (i / j)) (Df (rI (λ_ j=>0<j) λi j=>V.int (i % j)) (Df (rI CMul λi j=>V.int (i*j)) (Df (Gg λi j=>V.int (i+j)) (Bw 5)^Df (rI CMul λi j=>V.int (i*j)) (tC^V.int 8111)^Bw 3)^tC^V.int 39373)^tC^V.int 2097143)^tC^V.int 3)^Bw 1)
     {nx:=λ_ H'=>Q .non H',rt:=Q} [P3^.ref f0,P3^.int m,j_,P3^.int a,P3^.int z,j_] H2:=by
   intro z H2 k2;have f2:=k2 _ _ f1;have c2:=k2 _ _ c1'
   have lastWay:∀H3:Hp,H3=H2->(PF (Lk (Df (rI (λ_ j=>0<j) λi j=>V.int (i % j)) (Df (rI CMul λi j=>V.int (i*j)) (Df (Gg λi j=>V.int (i+j)) (Df (Gg λi j=>V.int (i+j)) (Df (Gg λi j=>V.int (i+j)) (Df (rI (λ_ j=>0<j) λi j=>V.int (i % j)) (Bw 4)^tC^V.int 1000003)^Df (rI CMul λi j=>V.int (i*j)) (Df (rI CMul λi j=>V.int (i*j)) (tC^V.int 41)^Bw 3)^Bw 3)^Df (rI CMul λi j=>V.int (i*j)) (tC^V.int 17)^Bw 3)^tC^V.int 3)^tC^V.int 51749)^tC^V.int 999917)^Gv 5)^TB^Df (rI (λ_ j=>0<j) λi j=>V.int (i % j)) (Df (rI Up λi j=>V.int (i / j)) (Df (rI (λ_ j=>0<j) λi j=>V.int (i % j)) (Df (rI CMul λi j=>V.int (i*j)) (Df (Gg λi j=>V.int (i+j)) (Bw 5)^Df (rI CMul λi j=>V.int (i*j)) (tC^V.int 8111)^Bw 3)^tC^V.int 39373)^tC^V.int 2097143)^tC^V.int 3)^Bw 1)
     {nx:=λ_ H'=>Q .non H',rt:=Q} [P3^.ref f0,P3^.int m,j_,P3^.int a,P3^.int z,j_] H3:=by
    intro H3 e3;subst e3;have hb:CMul (41*a) a:=.inr #[by lk,by lk];refine#[_,rfl,_,_,rfl,rfl,(by show(0:Int)<1000003; decide),_,rfl,_,_,rfl,rfl,.inl #[by cbv,by cbv],_,rfl,_,_,rfl,rfl,hb,_,_,rfl,rfl,_,rfl,_,_,rfl,rfl,.inl #[by cbv,by cbv],_,_,rfl,rfl,_,_,rfl,rfl,_,_,rfl,rfl,.inr #[by cbv,by cbv],_,_,rfl,rfl,(by show(0:Int)<999917; decide),?_];refine#[_,rfl,_,rfl,_,_,rfl,rfl,.inl #[by cbv,by cbv],_,_,rfl,rfl,_,_,rfl,rfl,.inr #[by cbv,by cbv],_,_,rfl,rfl,(by show(0:Int)<2097143; decide),_,_,rfl,rfl,#[by cbv,by cbv],_,rfl,_,_,rfl,rfl,(by show(0:Int)<m; omega),?_];exact fin (a+1) r _ _ (λb o e hb=>k2 b o^k1 b o e hb) f2 (by lk) (by lk) (ed _).1 (ed _).2
   refine#[_,rfl,_,_,rfl,rfl,#[by cbv,by cbv,by cbv],_,_,rfl,rfl,_,rfl,?_];refine B_ (λc3=>?_) λc3=>?_
   .refine#[_,rfl,_,rfl,f0,_,0,_,rfl,rfl,hsq f2,rfl,_,_,rfl,.inl #[_,SqL.of c2,rfl],_,_,rfl,rfl,_,rfl,?_]
    refine B_ (λc4=>?_) λc4=>lastWay H2 rfl;refine#[_,rfl,_,rfl,_,_,rfl,rfl,#[(by show(0:Int)<m; omega),hm2],_,rfl,f0,_,2,2,rfl,rfl,f2,rfl,?_];refine#[_,rfl,_,rfl,_,_,rfl,rfl,(by show(0:Int)<m; omega),?_];exact fin (a+1) _ _ _ (λb o e hb=>by rw[AI hb]; exact k2 b o^k1 b o e hb) AM (by lk) (by lk) (ed _).1 (ed _).2
   .refine B_ (λc4=>absurd c4^by simp) λ_=>lastWay H2 rfl
  refine#[_,rfl,f0,_,0,_,rfl,rfl,hsq f1,rfl,(by show 0<=sizeLine; decide),λp hp=>?_];have kp:∀b o,H1 b=P3 o->Ah H1 p (.lst []) b=P3 o:=λb o e=>by rw[AI^AU e hp]; exact e
  refine#[c,p,_,rfl,rfl,SqL.of^kp _ _ c1',SqL.of AM,_,rfl,?_];cases cells with
  |nil=>exact B4^rest 0 _ kp
  | cons z0 cs=>
   refine CU ?_;have hlen:(((z0::cs).map V.int).length:Int)=(cs.length:Int)+1:=by simp
   have hpos:(0:Int)<(((z0::cs).map V.int).length:Int):=by lk
   obtain⟨z,hz⟩:∃z,atI ((z0::cs).map V.int) (a % (((z0::cs).map V.int).length:Int))=P3^.int z:=by
    have h1:=Int.emod_nonneg a (show(((z0::cs).map V.int).length:Int)≠0 by lk);have h2:=Int.emod_lt_of_pos a hpos;generalize a % (((z0::cs).map V.int).length:Int)=j at h1 h2;obtain⟨k,rfl⟩:∃k:Nat,j=(k:Int):=#[j.toNat,by lk];have hk:k<(z0::cs).length:=by rw[FM]at h2; omega
    refine#[(z0::cs)[k],AA ?_];rw[cX,No hk];rfl
   refine#[_,rfl,f0,_,0,_,rfl,rfl,hsq^kp _ _ f1,rfl,_,rfl,_,rfl,f0,_,0,_,rfl,rfl,hsq^kp _ _ f1,rfl,_,_,rfl,.inl #[_,SqL.of^kp _ _ c1',rfl],_,_,rfl,rfl,hpos,c,_,_,_,rfl,rfl,SqL.of^kp _ _ c1',hz,?_];exact rest z _ kp
end
end K92
namespace Nt
open L2 Dp
def cs(x:Str):m_ Nat:=x.cps.toList
theorem XM{x y:Str}(h:cs x=cs y):x=y:=by
 let#[a]:=x;unfold cs at h
 simp_all
def Ds(x:Str):Prop:=1<=x.length/\x.length<=8/\∀c∈cs x,97<=c/\c<=122
def rising(xs:m_ Str):Prop:=xs.Pairwise λx y=>cs x<cs y
theorem Rg(a b:m_ Nat):ltCps a b=decide (a<b):=ltCps_eq a b
theorem Gp:∀(l:m_ Str) (p:Str),risingS p l=k_->(p::l).Pairwise λa b=>¬cs b<cs a
 |[],p,_=>jH _ _
 |x::r,p,h=>by
  have h':(!ltCps _ _&&risingS x r)=k_:=h;rw[dB,g_,Rg,decide_eq_false_iff_not]at h';have ih:=Gp r x h'.2;refine dE.mpr #[λy hy=>?_,ih]
  rcases Tk.mp hy with rfl|hy
  .exact h'.1
  .exact List.le_trans h'.1^(dE.mp ih).1 y hy
theorem CZ{l:m_ Str}(h:sortedS l=k_)(nd:l.Nodup):rising l:=by
 have hp:l.Pairwise λa b=>¬cs b<cs a:=by
  cases l with
  |nil=>simp_all
  |cons x r=>exact Gp r x h
 exact(hp.and nd).imp λ{a b} #[h1,h2]=>fE λh3=>h2^XM^List.le_antisymm h1 h3
theorem C1(lo:Int)(n:Nat):(EI lo n).length=n:=by unfold EI; grind
theorem Lr{lo:Int}{n:Nat}{d:D}(h:d∈EI lo n):∃k:Nat,k<n/\d=.int (lo+k):=by
 let#[k,hk,rfl]:=Sc.mp h;exact#[k,d8.mp hk,rfl]
end Nt
namespace Dp
open L2
end Dp
namespace L2
section
variable {X:Cx}{tg elt iter:Expr}{ifs:m_ Expr}{sc:Scope}{pos spos pos':Pos}{N':m_ Str}{js:m_^n_ Nat}{wi:TI}{i:Nat}{x:Str}
theorem TQ(hc:X.calm=k_)(N':m_ Str)(js:m_^n_ Nat)(hi:PI X tg iter wi)
  (hB:F6 sc X.env.scope X.N N' js=k_) (hN:X.N.Nodup) (hix:X.N[i]?=P3 x) (hx:Loc X.env.scope x)
  (hsw:swapsWith (.ListComp elt [#[tg,iter,ifs,0]] sc pos) (P3^.Name x pos') spos.line X.env=pure k_)
  (hs:∀x,foldedSetIterable iter X.env x=pure x:=by intro _; rfl)
  (hf:X.fn x=k_\/X.env.scope.names.lookup x=P3 .local:=by first|exact .inl rfl|exact .inr rfl|assumption):
  PS X (.Assign [.Name x pos'] (.ListComp elt [#[tg,iter,ifs,0]] sc pos) spos) (Lk (Qq X sc N' js tg elt ifs wi)^Gv i):=by
 intro zG s σ H D I h;have O:CompOk X sc N' js:=CompOk.of hB;let#[cl,hclos,hcl,hcl2]:=Ik (scope:=sc) (env:=X.env) λx hx=>I.ok.has x^O.free x hx;rw[exec_Assign_Name_used _ _ _ _ hsw];refine Db^gS^Db ?_;show wpAny _ _ (do let _ ←comprehension (.ListComp elt [#[tg,iter,ifs,0]] sc pos) sc X.env _ (newList []) l_ (eval iter X.env)^P3^assign (.Name x pos') X.env) _ _ s
 refine Db (dI (wpAny_comprehension_free (Q:=λ_ s'=>SP X zG D .next s') (use:=P3^assign (.Name x pos') X.env) rfl hs hclos O.kind O.names (A5 (hi zG s σ H _ I h) λv s1 h1=>A5 h1 λitv s2 h2=>?_))
  (λ_ s' hq=>UF^UF hq) λ_ _ e=>e)
 let#[it,fp,tn,J,H2,e,I2,T,st2,f2,hq]:=h2;subst e
 have kfree:X.K.lookup s2.heap.objs.size=j_:=by
  cases q:X.K.lookup s2.heap.objs.size with
  |none=>rfl
  |some o=>exact absurd (TM^I2.kIn _ _ q)^dZ _
 let#[g,tt,te,W,hg,ht,he,#[m0,w0],hW]:=hq s2.heap.objs.size (I2.hok.fresh^Rs _) kfree cl (s2.heap.objs.size+1) s2 H2 fp;refine eR^wpAny_newFunctionEnv O.cell (by intro y hy; simp at hy) (λh₁ hns₁ hsb₁=>?_) O.kind
 dsimp only at hns₁ hsb₁ ⊢
 generalize hH2:s2.heap.push {cls:=.type "list",dict:=j_,data:=.seq ([]:m_ Cn).toArray}=Hh at hns₁ hsb₁ ⊢;have hCe:Hh.objs.size=s2.heap.objs.size+1:=by rw[←hH2,dS]
 have hlt:∀b∈fp,b<s2.heap.objs.size:=λb hb=>by
  let#[o,e,_]:=T.obj _ _ st2 b hb;exact TM e
 have old:∀b o,s2.heap.get? b=P3 o->h₁.get? b=P3 o:=λb o e=>hsb₁.extBut b o (by rw[hCe]; exact cb^eF^TM e)^Ev _ (hH2▸Ev _ e);have hD:∃n,h₁.get? s2.heap.objs.size=P3 {cls:=.type "list",data:=.seq #[] n}:=#[_,hsb₁.extBut _ _ (by rw[hCe]; exact cb^fM _)^Ev _ (hH2▸Re _ rfl)]
 have I3:∀tk,Inv (Af X sc N' cl (s2.heap.objs.size+1) s2 H2 fp) [] (CP js σ) (Ah H2 s2.heap.objs.size^.lst []) {s2 with heap:=h₁,toks:=tk}:=λtk=>
  ME I2 hc O hcl hcl2 f2 (λb hb=>let #[o,e,_]:=T.obj _ _ st2 b hb; #[o,e]) (by rw[←hCe]; exact hns₁) old hD
 have st3:tn 0 h₁:=T.keep _ _ _ st2 λb hb o e=>old b o e
 have fr3:∀b∈fp,Ah H2 s2.heap.objs.size (.lst []) b=j_:=λb hb=>by
  rw[AI^cb^hlt b hb];exact(f2 b hb).1
 have loop:∀tk,codeAny (model X.prog X.w) X.A (.compLoop (.ListComp elt [#[tg,iter,ifs,0]] sc pos) 0 (.ref it) (.ref s2.heap.objs.size)^compEnvC sc cl (s2.heap.objs.size+1) X.env)
   (compPost (model X.prog X.w) X.A X.xe (P3^assign (.Name x pos') X.env) (λ_ s'=>SP X zG D .next s') (.ref s2.heap.objs.size) (s2.heap.objs.size+1)) {s2 with heap:=h₁,toks:=tk}:=λtk=>by
  refine J3 (W:=W) (m0:=m0) (Q:=λv H1=>Gv i v σ H1 λzN H2=>D.nx zN H2) I2 f2 hlt (dO _) T hg ht he hW (λzZ H' s' J' q'=>?_) (I3 tk) st3 fr3 w0;let#[m,hn,_]:=J'.loc;have hCn:H' (s2.heap.objs.size+1)=j_:=J'.free;have I4:Inv X zG σ H' s':=IP (h':=s'.heap) I2 f2 (dO _) J' λb _=>rfl;let#[g1,g2,g3,g4,g5,g6]:=I2.fpOk (b:=s2.heap.objs.size+1) (dO _) hCn;show wpAny (model X.prog X.w) X.A (assign (.Name x pos') X.env^.ref s2.heap.objs.size) (λ_ s''=>∃m,s''.heap.Ns (s2.heap.objs.size+1) m/\∀h',gj (s2.heap.objs.size+1) s''.heap h'->SP X zG D .next {s'' with heap:=h'}) X.xe s';refine wpAny_assign_Name (JZ (v:=.ref s2.heap.objs.size) I4 hN hix hx rfl (λs5 I5 zz=>?_) hf);let#[a,hsame,ha]:=zz
  have na:s2.heap.objs.size+1≠a:=by
   rcases ha with rfl|ha
   .exact g2
   .exact λz=>g5 _ _ ha z.symm
  refine#[m,hn.sameBut hsame na,λh' hs'=>?_];exact#[_,H',I5.turned (t':=s5.toks) (it:=s2.heap.objs.size+1) (λb o hb e=>hs'.extBut b o hb e) hCn g2 g4 g5 g6,q']
 rw[show(newEnv sc Hh.objs.size X.env.globals cl X.env.qual j_ .none (P3 X.env) builtinsNs).locals=s2.heap.objs.size+1 from hCe];show codeAny (model X.prog X.w) X.A (.compStart (.ListComp elt [#[tg,iter,ifs,0]] sc pos) 0 (.ref it) (.ref s2.heap.objs.size)^compEnvC sc cl (s2.heap.objs.size+1) X.env) _ _;exact codeAny_compStart_list (loop _)^T.self _ 0 _ _ _ st3^loop _
end
end L2
namespace Dp
open L2
section
variable {X:Cx}{zU:Kd}{tg elt iter:Expr}{ifs:m_ Expr}{sc:Scope}{pos:Pos}{src:Dr}{b:BW}{tt:FU}{te:DW}
theorem SV(hc:X.calm=k_)(N':m_ Str)(js:m_^n_ Nat)(hi:Ve X tg iter src)(hg:∀cl C s H fp,DG (Af X sc N' cl C s H fp) tg b)(ht:∀cl C s H fp,X5 (Af X sc N' cl C s H fp) ifs tt)(he:∀cl C s H fp,DE (Af X sc N' cl C s H fp) elt zU te)
  (hB:F6 sc X.env.scope X.N N' js=k_) (hk:zU≠.tp:=by intro z; cases z)
  (hs:∀x,foldedSetIterable iter X.env x=pure x:=by intro _; rfl):∃wi,PI X tg iter wi/\∀(C:Fm) (M:Ch->Prop) (H:Hp) (n:Sg) (ρ:m_ Slot) (σ:L2.St) (P:D->Sg->Prop) (Q:VK),Rel X.K C M H n ρ σ->FY js src b tt te n ρ P->
   (∀v H' d n',Ext C.U H H'->FeedC X.K C.F M H' n'->VR X.K C.V M H H' .fr v d->P d n'->Q v H')->Qq X sc N' js tg elt ifs wi σ H Q:=by
 let#[wi,a1,a2]:=hi;refine#[wi,a1,λC M H n ρ σ P Q R w q=>?_];refine a2 C M H n ρ σ _ _ R w λJ H1 ds n1 e1 f1 y w1=>?_;let#[hlen,w1]:=w1;have R1:=R.step e1 f1;intro l hl hkl cl Ca s0 H0 fp;let#[g,g1,g2]:=hg cl Ca s0 H0 fp;let#[tc,c1,c2]:=ht cl Ca s0 H0 fp;let#[tx,x1,x2]:=he cl Ca s0 H0 fp
 have noU:¬C.U l:=λz=>by
  let#[o,z]:=R1.udom l z;rw[hl]at z; cases z
 generalize hM':(λb=>M b\/b=l)=M';have M'l:M' l:=by rw[←hM']; exact .inr rfl
 have M'of:∀b,M b->M' b:=λb z=>by rw[←hM']; exact .inl z
 have ofM':∀b,M' b->M b\/b=l:=λb z=>by rw[←hM']at z; exact z
 have inV:∀b,C.V b\/b=l->M' b:=λb z=>z.elim (λz=>M'of b^R1.vM b z) λz=>by rw[z]; exact M'l
 have lenj:js.length=N'.length:=Eb (CompOk.of hB).cap
 refine#[g,tc,tx,λi m zZ H'=>m=ds.length - i/\i<=ds.length/\∃n' zY acc vs,Rel X.K #[M',C.F,C.U,λb=>C.V b\/b=l,H1,[],[]] M' H' n' zY zZ/\H' l=P3^.lst vs/\Ats X.K M' H' acc vs/\acc.length<=i/\Pres M H1 M' H' /\
   Co b tt te (λacc n2=>P (.lst acc) n2) (ds.drop i) acc n' zY,g1,c1,x1,#[ds.length,by simp,cq _,n1,Fs js ρ,[],[],?_],?_]
 .have gr:Grow H1^Ah H1 l^.lst []:=Ad hl
  have pr:Pres M H1 M'^Ah H1 l^.lst []:=#[λb o e _ _=>gr.all b o e,λb z=>(ofM' b z).elim .inl λz=>.inr (by rw[z]; exact hl),λb vs e=>gr.all b _ e,λb o e=>#[o,gr.all b o e]];refine#[#[?_,λa z=>z,λa z=>?_,gr.ext,R1.fU,λa z=>.inl^R1.uV a z,inV,f1.pres pr (λf o _ e=>gr.all f.1 o e) λa u e=>gr.all a _ e,?_,λp hp=>absurd hp^by simp,λi d a q z=>OV R1.sl q z,λi s a q o _=>absurd o (by rw[D1 q]; decide),λi j s t a q o _ _ _ _=>absurd o (by rw[D1 q]; decide),λp hp=>absurd hp^by simp],AM,rfl,cq _,pr,w1]
  .unfold Fs CP
   rw[FM,FM]
  .rcases ofM' a z with z|z
   .let#[o,z]:=R1.dom a z
    exact#[o,gr.all a o z]
   .subst z
    exact#[_,AM]
  .refine MA R1.sl pr λd v h=>h.same pr (λa o _ e=>gr.all a o e) λa e n1 z=>z.elim n1 λz=>?_
   subst e;let#[o,w]:=h.lies;rw[z,hl]at w;cases w
 .rintro i m zZ H' ⟨rfl,hi,n',zY,acc,vs,R',hlv,hac,hal,pr,w'⟩
  by_cases hlt:i<ds.length
  .have ed:ds.drop i=ds[i]::ds.drop (i+1):=fD hlt
   rw[ed]at w';let#[go,yl]:=(y i M' H' pr R'.ext R'.dom).1 ds[i] (No hlt);refine .inr #[go,λx H2 hy=>?_];let#[gr,hx]:=yl x H2 hy;have R2':=R'.step gr.ext^R'.feed.grow gr;refine g2 _ M' H2 n' zY zZ ds[i] x _ _ R2' hx w' λzP zV R3 w3=>?_;refine c2 _ M' H2 n' zP zV _ _ R3 w3 λc H4 n4 e4 f4 w4=>?_;have R4:=R3.step e4 f4;have p4:Pres M' H' M' H4:=gr.pres.trans^R3.pres e4;have l4:H4 l=P3^.lst vs:=e4.keep (gr.all _ _ hlv) noU;cases c with
   |false=>exact#[ds.length - (i+1),by lk,rfl,hlt,n4,zP,acc,vs,R4,l4,hac.pres p4,by lk,pr.trans p4,w4]
   | true=>
    refine x2 _ M' H4 n4 zP zV _ _ R4 w4 λyv H5 d5 n5 e5 f5 r5 w5=>?_;have R5:=R4.step e5 f5;have p5:Pres M' H4 M' H5:=R4.pres e5;have l5:H5 l=P3^.lst vs:=e5.keep l4 noU;have hy5:=r5.shOf R4.dom hk;have a5:=(hac.pres p4).pres p5;have pu:Pres M' H5 M'^Ah H5 l^.lst (vs++[yv]):=Ek M'l l5;have hvl:vs.length=acc.length:=hac.length;refine#[vs,l5,by rw[dg]; omega,ds.length - (i+1),by lk,rfl,hlt,n5,zP,acc++[d5],vs++[yv],?_,AM,(a5.append^Ats.one hy5).pres pu,by rw[cZ,c7]; omega,(pr.trans p4).trans^p5.trans pu,w5];refine#[R5.len,R5.sub,λa z=>?_,λb o e=>?_,R5.fU,R5.uV,R5.vM,?_,λj s hs=>?_,λp hp=>absurd hp^by simp,R5.br0,R5.new,R5.two,λp hp=>absurd hp^by simp]
    .by_cases ha:a=l
     .subst ha; exact#[_,AM]
     .rw[AI ha]; exact R5.dom a z
    .let#[o',q1,q2]:=R5.ext b o e
     by_cases hb:b=l
     .subst hb
      have e':H1 b=P3 o:=e;rw[hl]at e'; cases e'
     .exact#[o',by rw[AI hb]; exact q1,q2]
    .refine f5.pres pu (λf o hf e=>?_) λa u e=>by rw[AI λz=>by rw[z,l5]at e; cases e]; exact e
     rw[AI λz=>noU^by rw[←z]; exact R1.fU f hf];exact e
    .have hs5:=R5.sl j s hs
     cases s with
     |no=>trivial
     |sh d=>let#[v,e1,h2]:=hs5; exact#[v,e1,h2.pres pu]
     |ex a nm ks ds=>let#[e1,h2]:=hs5; exact#[e1,h2.pres pu]
     | br d=>
      let#[v,e1,h2]:=hs5;refine#[v,e1,h2.same pu (λa o z e=>?_) λ_ _ z=>z];subst z;let#[o3,w]:=R5.br0 j d a hs e1
      have hal:a≠l:=λz=>by
       have w':H1 a=P3 o3:=w;rw[z,hl]at w'; cases w'
      rw[AI hal]; exact e
     |ow d=>
      let#[a,e1,h2,_]:=hs5;exact absurd h2 (R5.new j _ a hs rfl e1).1
     |lt a d=>
      let#[e1,h2,_]:=hs5;exact absurd h2 (R5.new j _ a hs rfl e1).1
     |fd=>exact hs5
  .have e:i=ds.length:=by lk
   subst e;rw[gR]at w';refine .inl #[(y _ M' H' pr R'.ext R'.dom).2 (Rs _),?_];have eb:Ext C.U H1 H':=R'.ext;have less:Pres M' H' M H':=Pres.less M'of;refine q _ H' (.lst acc) n' (e1.trans eb) (R'.feed.pres less (λ_ _ _ z=>z) λ_ _ z=>z) (VR.back e1 ?_) w';exact#[l,rfl,hl,vs,hlv,by rw[hM']; exact hac]
theorem Ol{κ:Kd}{i:Nat}{x:Str}{pos' spos:Pos}(hN:X.N.Nodup)(hix:X.N[i]?=P3 x)(hx:Loc X.env.scope x)(hc:X.calm=k_)(N':m_ Str)(js:m_^n_ Nat)(hi:Ve X tg iter src)(hg:∀cl C s H fp,DG (Af X sc N' cl C s H fp) tg b)(ht:∀cl C s H fp,X5 (Af X sc N' cl C s H fp) ifs tt)(he:∀cl C s H fp,DE (Af X sc N' cl C s H fp) elt zU te)
  (hB:F6 sc X.env.scope X.N N' js=k_) (hsw:swapsWith (.ListComp elt [#[tg,iter,ifs,0]] sc pos) (P3^.Name x pos') spos.line X.env=pure k_:=by rfl) (hk:zU≠.tp:=by intro z; cases z)
  (hs:∀x,foldedSetIterable iter X.env x=pure x:=by intro _; rfl)
  (hf:X.fn x=k_\/X.env.scope.names.lookup x=P3 .local:=by first|exact .inl rfl|exact .inr rfl|assumption):DS X κ (.Assign [.Name x pos'] (.ListComp elt [#[tg,iter,ifs,0]] sc pos) spos)^BB i^FY js src b tt te:=by
 let#[wi,a1,a2]:=SV hc N' js hi hg ht he hB hk hs;exact#[_,TQ hc N' js a1 hB hN hix hx hsw hs hf,λC M H n ρ σ D2 E R L w=>a2 C M H n ρ σ _ _ R w λv H' d n' e1 f1 r1 p=>L.nx M H' n' _ _ ((R.step e1 f1).set^r1.shOf R.dom^by grind) p]
end
abbrev Fu(K:Frag)(x:Str)(st:d6)(f:Ch)(fd:dR):Prop:=Fun K x x st f fd
theorem cO{P:cm}{w:cy}{K:Frag}{mg:Str->n_ Cn}{base:cf}{x:Str}{st:d6}{f:Ch}{fd:dR}{N ps:m_ Str}{k:Nat}{κ:Kd}{W:W2}{wb:Aa}(F:Fu K x st f fd)(S:BF N ps^AK st)
  (hb:∀{cdv:Cn}{A:c_}{outer:m_ Env}{s:Go}{H:Hp}{E:XK},Room k^A.deeper^envOfC x (AK st) s.heap.objs.size f cdv->Mh (D7 E6 P w K mg base N x (AK st) f cdv A outer s H E).nox κ (An st) wb)
  (hW:∀{ss n Pd},W ss n Pd->wb {nx:=λn _=>κ=.sh/\Pd .non n,rt:=Pd} n (ss++dX (N.length - ps.length) .no)) (hNp:ps.length<=N.length:=by decide):
  FnOk P w K mg base E6 (k+1) f fd ps (QS K κ W ps.length):=b7 F S hNp (λ_ _ _ _ _ _ h=>hb h) λ_ _ _ _ h=>hW h
section
variable {X:Cx}
theorem cg{m:Nat}(hr:Room m X.A){e:cr}{es:m_ cr}{k:Nat}{ps:m_ Str}{κ:Kd}{W:W2}{x:Str}{p pos:Pos}{was:LX}(G:Got X.prog X.w X.K X.mg X.base x k ps κ W)(ha:Mi X (e::es) was)(hk:k<=m:=by decide)(hg:Gl X x:=by rfl)
  (hdb:(x==("__debug__":Str))=l_:=by decide) (he:starEach (e::es) X.env=(l_,eval e X.env)::starEach es X.env:=by rfl) (hpl:(backTo pos^starEach es X.env).any (·.1)=l_:=by rfl):DE X (.Call (.Name x p) (e::es) [] pos) κ^Ap W was:=SR G (hr.mono hk) hg ha hdb he hpl
variable {tg iter elt:Expr}{ifs:m_ Expr}{sc:Scope}{pos:Pos}{b:BW}{tt:FU}{te:DW}{zU:Kd}{src:Dr}
theorem cP(N':m_ Str)(js:m_^n_ Nat)(hi:Ve X tg iter src)(hg:∀{cl C s H fp},DG (Af X sc N' cl C s H fp) tg b)(ht:∀{cl C s H fp},X5 (Af X sc N' cl C s H fp) ifs tt)(he:∀{cl C s H fp},DE (Af X sc N' cl C s H fp) elt zU te)
  (hB:F6 sc X.env.scope X.N N' js=k_) (hc:X.calm=k_:=by rfl) (hk:zU≠.tp:=by intro z; cases z) (hs:∀x,foldedSetIterable iter X.env x=pure x:=by intro _; rfl):DE X (.ListComp elt [#[tg,iter,ifs,0]] sc pos) .fr^FY js src b tt te:=UR hc N' js hi (λ_ _ _ _ _=>hg) (λ_ _ _ _ _=>ht) (λ_ _ _ _ _=>he) hB hk hs
end
section
variable {X:Cx}{x:Str}{pos pos':Pos}{e a b tg iter elt:Expr}{es ifs:m_ Expr}{κ zT zO zU:Kd}{wa wb te:DW}{was:LX}{sc:Scope}{bb:BW}{tt:FU}{src:Dr}
theorem CA(i:Nat)(hN:X.N.Nodup)(he:DE X e zU wa)(hi:X.N[i]?=P3 x:=by rfl)(hx:Loc X.env.scope x:=by first|exact .inl rfl|exact .inr rfl)(hk:zU≠.tp:=by intro z; cases z)(hs:swapsWith e (P3^.Name x pos') pos.line X.env=pure l_:=by rfl)
  (hf:X.fn x=k_\/X.env.scope.names.lookup x=P3 .local:=by first|exact .inl rfl|exact .inr rfl|assumption):DS X κ (.Assign [.Name x pos'] e pos)^BB i wa:=W5 hN hi hx he hk hs hf
theorem W3(i:Nat)(hN:X.N.Nodup)(he:DE X e .fr wa)(hi:X.N[i]?=P3 x:=by rfl)(hx:Loc X.env.scope x:=by first|exact .inl rfl|exact .inr rfl)(hs:swapsWith e (P3^.Name x pos') pos.line X.env=pure l_:=by rfl)
  (hf:X.fn x=k_\/X.env.scope.names.lookup x=P3 .local:=by first|exact .inl rfl|exact .inr rfl|assumption):DS X κ (.Assign [.Name x pos'] e pos)^Nw i wa:=UG hN hi hx he hs hf
theorem Cg(i:Nat)(hN:X.N.Nodup)(hi:X.N[i]?=P3 x:=by rfl)(hx:Loc X.env.scope x:=by first|exact .inl rfl|exact .inr rfl)(hf:X.fn x=k_\/X.env.scope.names.lookup x=P3 .local:=by first|exact .inl rfl|exact .inr rfl|assumption):DG X (.Name x pos)^A6 i:=LC hN hi hx hf
theorem UM{bs:m_ D->m_ Slot->(m_ Slot->Prop)->Prop}{j:Nat}(h:aA X es bs)(hc:X.calm=k_:=by rfl)(hn:(assignEach es X.env).length=es.length:=by rfl)(hst:(assignEach es X.env).findIdx? (·.1)=j_:=by rfl):DG X (.Tuple es j pos)^MY es.length bs:=W_ hc h hn hst
theorem Bk(h:DE X e κ wa)(hr:Mi X es was)(hk:κ≠.tp:=by intro z; cases z)(hs:starEach (e::es) X.env=(l_,eval e X.env)::starEach es X.env:=by rfl):Mi X (e::es)^AH (AR wa) was:=AQ (Zi h hk) hr hs
theorem A4(i:Nat)(hr:Mi X es was)(hN:X.N[i]?=P3 x:=by rfl)(hv:VZ X.env.scope x:=by first|exact eA rfl|exact fu (eA rfl)|exact fu (fu rfl))(hd:(x==("__debug__":Str))=l_:=by decide)(hcd:(x==("__classdict__":Str))=l_:=by decide)
  (hs:starEach (.Name x pos::es) X.env=(l_,eval (.Name x pos) X.env)::starEach es X.env:=by rfl):Mi X (.Name x pos::es)^AH (AR^AG i) was:=Bk (dv i hN hv hd hcd) hr (by intro z; cases z) hs
theorem Au(ha:DE X a zT wa)(hb:DE X b zO wb)(hs:LW b:=by intro _ _; rfl):DE X (.Subscript a b pos) .sh^As C7 wa wb:=Zg Ws bU ha hb hs
theorem GY(N':m_ Str)(js:m_^n_ Nat)(hi:Ve X tg iter src)(hg:∀{cl C s H fp},N'.Nodup->DG (Af X sc N' cl C s H fp) tg bb)(ht:∀{cl C s H fp},X5 (Af X sc N' cl C s H fp) ifs tt)(he:∀{cl C s H fp},DE (Af X sc N' cl C s H fp) elt zU te)
  (hB:F6 sc X.env.scope X.N N' js=k_:=by kernel_rfl) (hn:N'.Nodup:=by decide +kernel) (hc:X.calm=k_:=by rfl) (hk:zU≠.tp:=by intro z; cases z) (hs:∀x,foldedSetIterable iter X.env x=pure x:=by intro _; rfl):DE X (.ListComp elt [#[tg,iter,ifs,0]] sc pos) .fr^FY js src bb tt te:=cP N' js hi (hg hn) ht he hB hc hk hs
theorem Bu{op:CmpOp}{r:R2}{f:D->D->(D->Prop)->Prop}(ho:OpR X (compareOp op) r)(hA:Eu X.K .sh r f)(ha:DE X a zT wa)(hb:DE X b zO wb)(hm:behindInMarks op b=l_:=by first|exact BV _|with_unfolding_all rfl):DT X (.Compare a [op] [b] pos)^Ae^As f wa wb:=W1 ho hA ha hb hm
theorem S1(hm:X.mg "len"=j_)(ha:DE X e κ wa)(hg:Gl X "len":=by rfl)(he:starEach [e] X.env=[(l_,eval e X.env)]:=by rfl):DE X (.Call (.Name "len" pos') [e] [] pos) .sh^Sz ZX^AZ wa A7:=AY Iq Zq hg hm PySem.boot_len (AO ha AT he) (he:=he)
theorem SD(hm:X.mg "tuple"=j_)(ha:DE X e κ wa)(hg:Gl X "tuple":=by rfl)(he:starEach [e] X.env=[(l_,eval e X.env)]:=by rfl):DE X (.Call (.Name "tuple" pos') [e] [] pos) .sh^Sz HJ^AZ wa A7:=QF JN Sa hg hm boot_tuple (AO ha AT he) (he:=he)
def WM:=PySem.F.plainAttrs_list
def X8:=PySem.F.slot_list_append
def X7:=PySem.F.type_list_append
end
theorem bz{P:cm}{w:cy}{K:Frag}{mg:Str->n_ Cn}{base:cf}{x q:Str}{st:d6}{f:Ch}{fd:dR}{N ps:m_ Str}{k:Nat}{κ:Kd}{W:W2}{wb:Aa}(F:Fun K x q st f fd)(S:BF N ps^AK st)
  (hb:∀{cdv:Cn}{A:c_}{outer:m_ Env}{s:Go}{H:Hp}{E:XK},Room k^A.deeper^envOfC q (AK st) s.heap.objs.size f cdv->Mh (D7 E6 P w K mg base N q (AK st) f cdv A outer s H E).nox κ (An st) wb)
  (hW:∀{ss n Pd},W ss n Pd->wb {nx:=λn _=>κ=.sh/\Pd .non n,rt:=Pd} n (ss++dX (N.length - ps.length) .no)) (hNp:ps.length<=N.length:=by decide):
  FnOk P w K mg base E6 (k+1) f fd ps (QS K κ W ps.length):=b7 F S hNp (λ_ _ _ _ _ _ h=>hb h) λ_ _ _ _ h=>hW h
end Dp
namespace Nt
open L2 Dp
theorem GO{α β:Type}{f:α->β}:∀{l:m_ α},l.Nodup->(∀a∈l,∀b∈l,f a=f b->a=b)->(l.map f).Nodup
 |[],_,_=>di
 |a::l,h,hf=>by
  rw[cz]at h;rw[dL,cz];refine#[λhm=>?_,GO h.2 λx hx y hy=>hf x (TW _ hx) y^TW _ hy];let#[b,hb,e]:=Sc.mp hm;exact h.1 (hf a Op b (TW _ hb) e.symm▸hb)
theorem F8(ss:m_ Str):Ma^ss.map .str=P3 ss:=by
 induction ss with
 |nil=>rfl
 |cons y r ih=>
  rw[dL];unfold Ma
  grind
structure Ak where
 a:Str
 b:Str
 len:Int
structure Net where
 ps:List Str
 ts:List Ak
def AN(t:Ak):D:=.tup [.str t.a,.str t.b,.int t.len]
def enc(N:Net):D:=.tup [.tup^N.ps.map .str,.tup^N.ts.map AN]
def Be(s t:Ak):Prop:=cs s.a<cs t.a\/(s.a=t.a/\cs s.b<cs t.b)
structure Net.Ok (N:Net):Prop where
 names:∀x∈N.ps,Ds x
 rise:rising N.ps
 tin:∀t∈N.ts,t.a∈N.ps/\t.b∈N.ps/\cs t.a<cs t.b/\1<=t.len/\t.len<=1000000
 trise:N.ts.Pairwise Be
structure Ix where
 i:Nat
 j:Nat
 len:Int
abbrev EE(Pd:D->Sg->Prop):E2:={nx:=λn _=>Kd.sh=.sh/\Pd .non n,rt:=Pd}
theorem BO{b:BW}{te:DW}{P:m_ D->Sg->Prop}(g:D->D)(I:m_ Slot->Prop):∀(ds acc:m_ D) (n:Sg) (ρ:m_ Slot),
  (∀d∈ds,∀(ρ:m_ Slot) (n:Sg) (nx:D->Sg->m_ Slot->Prop),I ρ->(∀zY,I zY->nx (g d) n zY)->b d ρ λzS=>te n zS λy n2=>nx y n2 zS)->I ρ->P (acc++ds.map g) n->Co b HZ te P ds acc n ρ
 |[],acc,n,ρ,_,_,h=>by rw[jd,c9]at h; exact h
 |d::ds,acc,n,ρ,ht,hρ,h=>ht d Op ρ n _ hρ λzY hρ'=>
  BO g I ds _ n _ (λd hd=>ht d^TW _ hd) hρ' (by simp_all)
section
theorem Zk{α:Type}(xs:m_ α):Dp.cutD xs (P3 1) j_=xs.drop 1:=by
 unfold Dp.cutD;rw[HT.sIx_none,show 1=((1:Nat):Int)from rfl,HT.sIx_nat]
 by_cases h:1<=xs.length
 .rw[iN h]
  exact List.take_of_length_le^by simp_all
 grind
end
def strsOf(xs:m_ D):m_ Str:=(Ma xs).getD []
theorem XW{α:Type}(p:α->Bool)(l:m_ α):(l.map p).all id=l.all p:=by simp_all
theorem Lo{x:Str}(h:∀c∈cs x,c<1114112):PyData.strOk x=k_:=by
 unfold PyData.strOk;rw[←Array.all_toList,eg];intro c hc;exact decide_eq_true^h c hc
theorem By{x:Str}(h:Ds x):CS^.str x:=#[rfl,Lo λc hc=>by have:=h.2.2 c hc; omega,cq _]
theorem MB{ps:m_ Str}(h:∀p∈ps,Ds p):CJ^ps.map .str=k_/\fH^Bg^ps.map .str=k_/\eW^Bg^ps.map .str=0:=by
 induction ps with
 |nil=>exact#[rfl,rfl,rfl]
 | cons p r ih=>
  let#[h1,h2,h3]:=ih λq hq=>h q^TW _ hq;refine#[by assumption,?_,?_]
  .rw[dL,Bg,fH,h2,ip]
   exact(By^h p Op).2.1
  assumption
theorem CQ{ps:m_ Str}(h:∀p∈ps,Ds p):CS^.tup^ps.map .str:=by
 let#[h1,h2,h3]:=MB h;refine#[h1,h2,?_];show eW _+1<=100
 simp_all
theorem Hk(ps:m_ Str):strsOf^ps.map .str=ps:=by unfold strsOf; rw[F8]; rfl
mutual
def G_(B:Nat):D->Prop
 |.int i=>i.natAbs<=B
 |.str x=>∀c∈cs x,c<1114112
 |.tup ds=>IU B ds
 |.lst ds=>IU B ds
 |.dic _ _=>False
 |.fdi _ _=>False
 |.dit _ _=>False
 |.ob _=>False
 |_=>True
def IU(B:Nat):m_ D->Prop
 |[]=>True
 |d::ds=>G_ B d/\IU B ds
end
mutual
def QR:D->Nat
 |.int _=>200
 |.str x=>x.length
 |.tup ds=>Ll ds
 |.lst ds=>Ll ds
 |_=>0
def Ll:m_ D->Nat
 |[]=>0
 |d::ds=>QR d+1+Ll ds
end
mutual
def QV:D->Nat
 |.tup ds=>Jz ds+1
 |.lst ds=>Jz ds+1
 |_=>0
def Jz:m_ D->Nat
 |[]=>0
 |d::ds=>max (QV d)^Jz ds
end
theorem fines_iff{B:Nat}:∀{ds:m_ D},IU B ds↔∀d∈ds,G_ B d
 |[]=>#[(λ_ d h=>by cases h),λ_=>trivial]
 | d::ds=>by
  have ih:=@fines_iff B ds;constructor
  .rintro⟨h1,h2⟩ e he
   rcases Tk.mp he with rfl|he
   .exact h1
   .exact ih.mp h2 e he
  .exact λh=>#[h d Op,ih.mpr λe he=>h e^TW _ he]
theorem dps_le{k:Nat}:∀{ds:m_ D},Jz ds<=k↔∀d∈ds,QV d<=k
 |[]=>#[(λ_ d h=>by cases h),λ_=>cq _]
 | d::ds=>by
  have ih:=@dps_le k ds;show max (QV d)^Jz ds<=k↔_;rw[Nat.max_le,ih];constructor
  .rintro⟨h1,h2⟩ e he
   rcases Tk.mp he with rfl|he
   .exact h1
   .exact h2 e he
  .exact λh=>#[h d Op,λe he=>h e^TW _ he]
theorem N6:∀(xs:m_ D),xs.length<=Ll xs
 |[]=>cq _
 |d::xs=>by
  have:=N6 xs
  show xs.length+1<=QR d+1+Ll xs;lk
mutual
theorem K8{B:Nat}(hB:B<10 ^ 45):∀{d:D},G_ B d->EB d=k_/\(toPy d).showable=k_/\(toPy d).canLay0=k_/\(toPy d).depth=QV d/\(toPy d).leavesShort 60=k_/\(toPy d).weight<=QR d
 |.non,_=>#[rfl,rfl,rfl,rfl,rfl,Rs _]
 |.bl b,_=>#[rfl,rfl,rfl,rfl,rfl,Rs _]
 | .int i,h=>by
  have h':i.natAbs<=B:=h;have hlt:i.natAbs<10 ^ 45:=gq h' hB;have h2:i.natAbs<2 ^ 150:=Nat.lt_trans hlt^by cbv
  have hl:i.natAbs.log2<150:=by
   by_cases h0:i.natAbs=0
   .rw[h0]; decide
   .exact(Nat.log2_lt h0).mpr h2
  refine#[rfl,?_,rfl,rfl,?_,?_]
  .show decide (i.natAbs.log2<1920)=k_
   exact decide_eq_true^by lk
  .show decide ((PyData.shown^.int i).length<=60)=k_
   refine decide_eq_true ?_
   have:=int_text_length_le10 (a:=i) (k:=45) (by cbv) hlt
   show(eJ^toString i).length<=60;rw[PySem.ofString_length];lk
  .show(if i==0 then 0 else i.natAbs.log2+1)<=200
   split <;>lk
 |.str x,h=>by
  have h':∀c∈cs x,c<1114112:=h;refine#[rfl,rfl,Lo h',rfl,?_,Rs _];show(x.cps.toList.all λc=>decide (c<16 ^ 8))=k_;rw[eg];intro c hc;exact decide_eq_true^Nat.lt_trans (h' c hc)^by cbv
 |.tup ds,h=>by
  let#[h1,h2,h3,h4,h5,h6]:=IT hB (ds:=ds) h;refine#[h1,h2,h3,?_,h5,h6];show eW^Bg ds+1=Jz ds+1;rw[h4]
 |.lst ds,h=>by
  let#[h1,h2,h3,h4,h5,h6]:=IT hB (ds:=ds) h;refine#[h1,h2,h3,?_,h5,h6];show eW^Bg ds+1=Jz ds+1;rw[h4]
 |.dic ks ds,h=>(show False from h).elim
 |.fdi ks ds,h=>(show False from h).elim
 |.dit ks ds,h=>(show False from h).elim
 |.ob _,h=>(show False from h).elim
theorem IT{B:Nat}(hB:B<10 ^ 45):∀{ds:m_ D},IU B ds->CJ ds=k_/\PyData.showableAll^Bg ds=k_/\fH^Bg ds=k_/\eW^Bg ds=Jz ds/\jR 60^Bg ds=k_/\PyData.weightAll^Bg ds<=Ll ds
 |[],_=>#[rfl,rfl,rfl,rfl,rfl,Rs _]
 | d::ds,h=>by
  let#[h1,h2,h3,h4,h5,h6]:=K8 hB (d:=d) h.1;let#[g1,g2,g3,g4,g5,g6]:=IT hB (ds:=ds) h.2;refine#[?_,?_,?_,?_,?_,?_]
  .show(EB d&&CJ ds)=k_
   rw[h1,g1]; rfl
  .show((toPy d).showable&&PyData.showableAll^Bg ds)=k_
   rw[h2,g2]; rfl
  .show((toPy d).canLay0&&fH^Bg ds)=k_
   rw[h3,g3]; rfl
  .show max (toPy d).depth^eW^Bg ds=max (QV d)^Jz ds
   rw[h4,g4]
  .show((toPy d).leavesShort 60&&jR 60^Bg ds)=k_
   rw[h5,g5]; rfl
  .show(toPy d).weight+1+PyData.weightAll^Bg ds<=QR d+1+Ll ds
   lk
end
theorem Qw{B:Nat}{d:D}(hB:B<10 ^ 45)(h:G_ B d)(hd:QV d<=100)(hs:QR d<=270000):Ja d:=by
 let#[h1,h2,h3,h4,h5,h6]:=K8 hB h;refine#[h1,h2,by rw[h4]; exact hd,?_]
 have:=PyData.shown_le 60 (by cbv) (toPy d) h5
 rw[PySem.sizeLine_eq]
 have:62*(toPy d).weight<=62*270000:=Nat.mul_le_mul_left _^by lk
 lk
theorem HC{B:Nat}{d:D}(hB:B<10 ^ 45)(h:G_ B d)(hd:QV d<=100)(hs:QR d<=200000):Ja d:=Qw hB h hd^by lk
theorem IK{B:Nat}{d:D}(hB:B<10 ^ 45)(h:G_ B d)(hd:QV d<=100):CS d:=by
 let#[h1,h2,h3,h4,h5,h6]:=K8 hB h;exact#[h1,h3,by rw[h4]; exact hd]
def item(d:D):Prop:=G_ 1000001 d/\QR d<=450/\QV d<=1
theorem Hj{k:Nat}:∀{ds:m_ D},(∀d∈ds,QR d+1<=k)->Ll ds<=k*ds.length
 |[],_=>cq _
 |d::ds,h=>by
  have h2:=Hj λe he=>h e^TW _ he;show QR d+1+Ll ds<=k*(ds.length+1)
  grind
theorem Fx{B:Nat}{xs:m_ D}(h:∀d∈xs,G_ B d):G_ B^.tup xs:=fines_iff.mpr h
theorem item_str{x:Str}(h1:x.length<=8)(h2:∀c∈cs x,c<1114112):item^.str x:=#[h2,by show x.length<=450; omega,cq _]
theorem Cy{x:Str}(h:Ds x):item^.str x:=item_str h.2.1 λc hc=>by have:=h.2.2 c hc; omega
theorem MC{a b:Str}{l:Int}(ha:item^.str a)(hb:item^.str b)(la:a.length<=8)(lb:b.length<=8)(hl:l.natAbs<=1000001):item^.tup [.str a,.str b,.int l]:=by
 refine#[Fx λd hd=>?_,?_,?_]
 .simp at hd
  rcases hd with rfl|rfl|rfl
  .exact ha.1
  .exact hb.1
  .exact hl
 .show a.length+1+(b.length+1+(200+1+0))<=450
  lk
 .show max 0^max 0^max 0 0+1<=1
  decide
theorem IL{N:Net}(ok:N.Ok):∀d∈N.ts.map AN,item d:=λd hd=>by
 let#[t,ht,rfl]:=Sc.mp hd;let#[h1,h2,_,h3,h4]:=ok.tin t ht;have n1:=ok.names _ h1;have n2:=ok.names _ h2;exact MC (Cy n1) (Cy n2) n1.2.1 n2.2.1^by lk
theorem Tz{N:Net}(ok:N.Ok):∀d∈N.ps.map D.str,item d:=λd hd=>by
 let#[x,hx,rfl]:=Sc.mp hd;exact Cy^ok.names x hx
theorem Vt{xs ys:m_ D}(hx:∀d∈xs,item d)(hy:∀d∈ys,item d)(lx:xs.length<=26)(ly:ys.length<=80):G_ 1000001^.tup [.tup xs,.tup ys]/\QR^.tup [.tup xs,.tup ys]<=48000/\QV^.tup [.tup xs,.tup ys]<=3:=by
 have s1:=Hj λd hd=>ft (hx d hd).2.1;have s2:=Hj λd hd=>ft (hy d hd).2.1;have d1:=dps_le.mpr λd hd=>(hx d hd).2.2;have d2:=dps_le.mpr λd hd=>(hy d hd).2.2;refine#[Fx λd hd=>?_,?_,?_]
 .simp at hd
  rcases hd with rfl|rfl
  .exact Fx λd hd=>(hx d hd).1
  .exact Fx λd hd=>(hy d hd).1
 .show Ll xs+1+(Ll ys+1+0)<=48000
  lk
 .show max (Jz xs+1)^max (Jz ys+1) 0+1<=3
  lk
theorem Br(x:Str):¬cs x<cs x:=gz _
theorem z2:2<=sizeLine:=by cbv
theorem z3:3<=sizeLine:=by cbv
theorem z0:0<=sizeLine:=cq _
end Nt
namespace L2
def Yw:R2:=λy x H Q=>∃a o,x=.ref a/\DGet H a y o/\Q (.bl o.isSome) H
def U_:R2:=λy x H Q=>∃a o,x=.ref a/\DGet H a y o/\Q (.bl (!o.isSome)) H
def Yx:R2:=λx y H Q=>∃a v,x=.ref a/\DGet H a y^P3 v/\Q v H
theorem NE{X:Cx}{k:Nat}(hr:Room k X.A):OpR X (compareOp .In) Yw:=by
 intro zG s σ H y x iv u Q I ry rx #[a,ov,ex,g,q];subst ex;obtain rfl:u=cV a:=rx;exact bR (IQ hr) I g ry λs3 I3=>#[.bl _,H,I3,rfl,q]
theorem Di{X:Cx}{k:Nat}(hr:Room k X.A):OpR X (compareOp .NotIn) U_:=by
 intro zG s σ H y x iv u Q I ry rx #[a,ov,ex,g,q];subst ex;obtain rfl:u=cV a:=rx;exact UU (IQ hr) I g ry λs3 I3=>#[.bl _,H,I3,rfl,q]
end L2
namespace Dp
open L2
def BA:m_ Key->m_ D->Key->n_ D
 |k0::ks,d::ds,k=>if k0=k then P3 d else BA ks ds k
 |_,_,_=>j_
section
variable {K:Frag}{X:Cx}
theorem FZ{M:Ch->Prop}{H:Hp}{k:Key}:∀{ks:m_ Key}{ds:m_ D}{vs:m_ V},Ats K M H ds vs->
  match BA ks ds k with
  |some z=>∃v,EH (ks.zip vs) k=P3 v/\At K M H z v
  |none=>EH (ks.zip vs) k=j_
 |[],ds,vs,h=>by exact rfl
 |k0::ks,[],vs,h=>by cases h; exact rfl
 | k0::ks,d::ds,vs,h=>by
  let#[v,r,rfl,h1,h2]:=h;have ih:=FZ (k:=k) (ks:=ks) h2;unfold BA
  by_cases e:k0=k
  .rw[if_pos e]
   refine#[v,?_,h1];show EH ((k0,v)::ks.zip r) k=P3 v;rw[EK e]
  .have:EH ((k0,v)::ks.zip r) k=EH _ k:=EL e
   simp_all
def keyOf:D->n_ Key
 |.int i=>P3^.inl i
 |.str x=>P3^.inr x
 |_=>j_
theorem C3{U M:Ch->Prop}{H:Hp}{d:D}{v:V}{k:Key}(e:keyOf d=P3 k)(h:AtT K U M H d v):v=kV k:=by
 cases d with
 |int i=>cases e; exact h
 |str x=>cases e; exact h.str.1
 |_=>cases e
def Ih:D->n_ (m_ Key×m_ D)
 |.dic ks ds=>P3 (ks,ds)
 |.fdi ks ds=>P3 (ks,ds)
 |_=>j_
theorem Ig{U M:Ch->Prop}{H:Hp}{d:D}{x:V}{ks:m_ Key}{ds:m_ D}(e:Ih d=P3 (ks,ds))(h:AtT K U M H d x):∃a vs,x=.ref a/\Rd H a^.dK^ks.zip vs/\Ats K M H ds vs:=by
 cases d with
 |dic k2 d2=>cases e; let#[a,vs,rfl,_,ha,_,hs]:=h; exact#[a,vs,rfl,.inl ha,hs]
 |fdi k2 d2=>cases e; let#[a,vs,rfl,#[o,_,ha],_,hs]:=h; exact#[a,vs,rfl,.inr #[o,ha],hs]
 |_=>cases e
theorem HN{H:Hp}{a:Ch}{kvs:m_ (Key×V)}{k:Key}(e:Rd H a^.dK kvs):DGet H a (kV k)^EH kvs k:=.inl #[_,k,e,rfl,rfl]
def QA(neg:Bool)(e d:D)(P:D->Prop):Prop:=∃ks ds k,Ih d=P3 (ks,ds)/\keyOf e=P3 k/\P^.bl (if neg then !(BA ks ds k).isSome else(BA ks ds k).isSome)
def Fy(d e:D)(P:D->Prop):Prop:=∃ks ds k z,Ih d=P3 (ks,ds)/\keyOf e=P3 k/\BA ks ds k=P3 z/\P z
theorem Si:Eu K .sh Yw^QA l_:=λU M H e d y x P Q dom vM hy hx w q=>by
 let#[ks,ds,k,hd,he,w]:=w;let#[a,vs,rfl,ha,hs]:=Ig hd hx;refine#[a,_,rfl,by rw[C3 he hy]; exact HN ha,q _ H (.bl _) .refl rfl ?_];have h:=FZ (k:=k) (ks:=ks) hs;cases c:BA ks ds k with
 |none=>simp_all
 |some z=>rw[c]at h w; let#[v,h1,_]:=h; simp_all
theorem Eh:Eu K .sh U_^QA k_:=λU M H e d y x P Q dom vM hy hx w q=>by
 let#[ks,ds,k,hd,he,w]:=w;let#[a,vs,rfl,ha,hs]:=Ig hd hx;refine#[a,_,rfl,by rw[C3 he hy]; exact HN ha,q _ H (.bl _) .refl rfl ?_];have h:=FZ (k:=k) (ks:=ks) hs;cases c:BA ks ds k with
 |none=>simp_all
 |some z=>rw[c]at h w; let#[v,h1,_]:=h; simp_all
theorem Xc:Eu K .sh Yx Fy:=λU M H d e x y P Q dom vM hx hy w q=>by
 let#[ks,ds,k,z,hd,he,hz,w]:=w;let#[a,vs,rfl,ha,hs]:=Ig hd hx;have h:=FZ (k:=k) (ks:=ks) hs;rw[hz]at h;let#[v,h1,h2]:=h;exact#[a,v,rfl,by rw[C3 he hy,←h1]; exact HN ha,q v H z .refl h2 w]
variable {a b:Expr}{zT zO:Kd}{wa wb:DW}{pos:Pos}
theorem Bq{k:Nat}(hr:Room k X.A)(ha:DE X a zT wa)(hb:DE X b zO wb)(hs:Xv b:=by intro _ _; rfl):DE X (.Subscript a b pos) .sh^As Fy wa wb:=by
 let#[ta,ha1,ha2]:=ha;let#[tb,hb1,hb2]:=hb;exact#[_,Km (IQ hr) ha1 hb1 hs,λC M H n ρ σ P Q R w q=>Ec Xc ha2 hb2 C M H n ρ σ P Q R w q]
end
def Ur(i:Nat)(w:DW):Aa:=λD2 n ρ=>∃a:Int,ρ[i]?=P3^.sh^.int a/\w n ρ λd n1=>∃b:Int,d=.int b/\D2.nx n1^ρ.set i^.sh^.int (a+b)
theorem UI{X:Cx}{κ zU:Kd}{e:cr}{wa:DW}{pos:Pos}{i:Nat}{x:Str}{pos':Pos}(hN:X.N.Nodup)(hi:X.N[i]?=P3 x)(hx:Loc X.env.scope x)(he:DE X e zU wa)
  (hf:X.fn x=k_\/X.env.scope.names.lookup x=P3 .local:=by first|exact .inl rfl|exact .inr rfl|assumption):DS X κ (.AugAssign (.Name x pos') .Add e pos)^Ur i wa:=by
 let#[t,a1,a2]:=he;refine#[_,WL hN hi hx a1 Wv hf,λC M H n ρ σ D2 E R L w=>?_];let#[a,ha,w]:=w;let#[v,e1,h1]:=R.sl i _ ha;cases(h1);refine#[_,getD_some e1,a2 C M H n ρ σ _ _ R w λv H' d n' e1 f1 r1 p=>?_];let#[b,rfl,p]:=p;exact#[a,b,rfl,NS r1,L.nx M H' n' _ _ ((R.step e1 f1).set (d:=.int _) rfl) p]
end Dp
namespace So
open PySem.W
section
variable {O:KeyOrd}{key:Nat->O.α}{N:Nat}{cmp:Nat->Nat->(Bool->Shared->Prop)->Shared->Prop}{s:Shared}{p p0:Array Nat}
def KN(O:KeyOrd)(key:Nat->O.α)(p:Array Nat)(i:Nat):O.α:=key^p.getD i 0
def Srt(O:KeyOrd)(key:Nat->O.α)(p:Array Nat)(k:Nat):Prop:=∀i j,i<=j->j<k->O.kle (KN O key p i)^KN O key p j
def Z8(O:KeyOrd)(key:Nat->O.α)(p:Array Nat)(k:Nat):Prop:=∀i j,i<=j->j<k->O.kle (KN O key p j)^KN O key p i
def Vg(O:KeyOrd)(key:Nat->O.α)(N:Nat)(cmp:Nat->Nat->(Bool->Go->Prop)->Go->Prop)(s:Go):Prop:=∀(i j:Nat) (C:Bool->Go->Prop),i<N->j<N->C (O.blt (key i)^key j) s->cmp i j C s
def Bd(N:Nat)(p:Array Nat):Prop:=0<N/\∀x∈p,x<N
theorem T7(p:Array Nat)(i:Nat):p.getD i 0=(p[i]?).getD 0:=by
 simp
theorem Bd.get(h:Bd N p)(i:Nat):p.getD i 0<N:=by
 rw[T7];cases e:p[i]? with
 |none=>exact h.1
 |some x=>exact h.2 x^Array.mem_of_getElem? e
theorem Bd.perm{p':Array Nat}(h:Bd N p)(hp:p'.Perm p):Bd N p':=#[h.1,λx hx=>h.2 x^hp.mem_iff.mp hx]
theorem Ei{p q:Array Nat}{i j:Nat}(h:p[i]?=q[j]?):KN O key p i=KN O key q j:=by
 unfold KN
 simp_all
theorem KL{src d:Nat}(hs:src<p.size)(hd:d<=src)(k:Nat):
  KN O key (bubble p src d) k=if k=src - d then KN O key p src else if src - d<k/\k<=src then KN O key p (k - 1)else KN O key p k:=by
 have e:=getElem?_bubble hs d hd k
 by_cases h1:k=src - d
 .rw[if_pos h1]at e ⊢; exact Ei e
 .rw[if_neg h1]at e ⊢
  by_cases h2:src - d<k/\k<=src
  .rw[if_pos h2]at e ⊢; exact Ei e
  .rw[if_neg h2]at e ⊢; exact Ei e
theorem Gd{i j:Nat}(hj:j<=p.size)(k:Nat):KN O key (kas_rev p i j) k=if i<=k/\k<j then KN O key p (i+j - 1 - k)else KN O key p k:=by
 have e:=getElem?_mirror_all (i:=i) hj k
 by_cases h1:i<=k/\k<j
 .rw[if_pos h1]at e ⊢; exact Ei e
 .rw[if_neg h1]at e ⊢; exact Ei e
theorem Bc{i j:Nat}(hj:j<=p.size)(heq:∀k,i<=k->k<j->KN O key p k=KN O key p (j - 1))(k:Nat):KN O key (kas_rev p i j) k=KN O key p k:=by
 rw[Gd hj]
 grind
theorem CG(p:Array Nat)(i j:Nat):(kas_rev p i j).Perm p:=mirror_perm _ _ _ _
theorem yes{α:Type}{T₁ T₂:KasT α}{Q:α->Go->Prop}(h:T₁.kasWp cmp Q s):(if k_=k_ then T₁ else T₂).kasWp cmp Q s:=by grind
theorem no{α:Type}{T₁ T₂:KasT α}{Q:α->Go->Prop}(h:T₂.kasWp cmp Q s):(if l_=k_ then T₁ else T₂).kasWp cmp Q s:=by grind
theorem Nh(hC:Vg O key N cmp s)(hb:Bd N p){nrem:Nat}{G:Nat->Go->Prop}:∀(f n:Nat),1<=n->n+f=nrem->Srt O key p n->
  (∀m,n<=m->m<=nrem->Srt O key p m->(m=nrem\/O.klt (KN O key p m)^KN O key p (m - 1))->G m s)->(kas_asc p f n).kasWp cmp G s
 |0,n,_,e,hs,h=>h n (Rs _) (by lk) hs^.inl^by lk
 | f+1,n,h1,e,hs,h=>by
  show cmp (p.getD n 0) (p.getD (n - 1) 0) (λc s'=>(if c=k_ then KasT.ret n else kas_asc p f (n+1)).kasWp cmp G s') s;refine hC _ _ _ (hb.get n) (hb.get _) ?_;cases hless:O.blt (key^p.getD n 0)^key^p.getD (n - 1) 0 with
  |true=>exact yes^h n (Rs _) (by lk) hs^.inr hless
  | false=>
   refine no^Nh hC hb f (n+1) (by lk) (by lk) (λi j hij hj=>?_) λm m1 m2 m3 m4=>h m (by lk) m2 m3 m4
   by_cases hjx:j<n
   .exact hs i j hij hjx
   .have hj':j=n:=by lk
    subst hj'
    by_cases hi':i=j
    .subst hi'; exact eX _
    .exact h9 (hs i (j - 1) (by lk)^by lk) hless
theorem HP(hC:Vg O key N cmp s){nrem:Nat}{G:Array Nat×Nat×Nat->Go->Prop}:∀(f:Nat) (p:Array Nat) (n q:Nat),p.Perm p0->Bd N p->nrem<=p.size->1<=n->n+f=nrem->Z8 O key p n->q+1<=n->
  (∀i,n - (q+1)<=i->i<n->KN O key p i=KN O key p (n - 1))->
  (∀p' m q',p'.Perm p0->Bd N p'->p'.size=p.size->n<=m->m<=nrem->Z8 O key p' m->q'+1<=m->(∀i,m - (q'+1)<=i->i<m->KN O key p' i=KN O key p' (m - 1))->G (p',m,q') s)->(kas_desc f p n q).kasWp cmp G s
 |0,p,n,q,hp,hb,hz,h1,e,hs,hq,he,h=>h p n q hp hb rfl (Rs _) (by lk) hs hq he
 | f+1,p,n,q,hp,hb,hz,h1,e,hs,hq,he,h=>by
  show cmp (p.getD n 0) (p.getD (n - 1) 0) (λc s'=>(if c=k_ then(if q > 0 then kas_desc f (kas_rev p (n - (q+1)) n) (n+1) 0 else kas_desc f p (n+1) 0)
   else .ask (p.getD (n - 1) 0) (p.getD n 0) λd=>if d=k_ then .ret (p,n,q)else kas_desc f p (n+1) (q+1)).kasWp cmp G s') s
  refine hC _ _ _ (hb.get n) (hb.get _) ?_;cases hless:O.blt (key^p.getD n 0)^key^p.getD (n - 1) 0 with
  | true=>
   have hl:O.klt (KN O key p n)^KN O key p (n - 1):=hless
   have step1:∀xs:Array Nat,(∀k,KN O key xs k=KN O key p k)->Z8 O key xs (n+1):=by
    intro xs hk i j hij hj;rw[hk,hk]
    by_cases hjx:j<n
    .exact hs i j hij hjx
    .have hj':j=n:=by lk
     subst hj'
     by_cases hi':i=j
     .subst hi'; exact eX _
     .exact h9 (hU hl)^hs i (j - 1) (by lk)^by lk
   refine yes ?_;have hsz:n<=p.size:=by lk
   by_cases hq0:q > 0
   .rw[if_pos hq0]
    refine HP hC f _ (n+1) 0 ((CG _ _ _).trans hp) (hb.perm^CG _ _ _) (by rw[kas_rev_size]; exact hz) (by lk) (by lk) (step1 _^Bc hsz he) (by lk) (λi a b=>by congr 1; omega) λp' m q' a1 a2 a3 a4 a5 a6 a7 a8=>h p' m q' a1 a2 (a3.trans^kas_rev_size _ _) (by lk) a5 a6 a7 a8
   .rw[if_neg hq0]
    exact HP hC f _ (n+1) 0 hp hb hz (by lk) (by lk) (step1 _ λ_=>rfl) (by lk) (λi a b=>by congr 1; omega) λp' m q' a1 a2 a3 a4 a5 a6 a7 a8=>h p' m q' a1 a2 a3 (by lk) a5 a6 a7 a8
  | false=>
   refine no ?_;show cmp (p.getD (n - 1) 0) (p.getD n 0) (λd s'=>(if d=k_ then KasT.ret (p,n,q)else kas_desc f p (n+1) (q+1)).kasWp cmp G s') s;refine hC _ _ _ (hb.get _) (hb.get n) ?_;cases hlarger:O.blt (key^p.getD (n - 1) 0)^key^p.getD n 0 with
   |true=>exact yes (h p n q hp hb rfl (Rs _) (by lk) hs hq he)
   | false=>
    have heqx:KN O key p n=KN O key p (n - 1):=ja (O:=O) hlarger hless;refine no^HP hC f p (n+1) (q+1) hp hb hz (by lk) (by lk) (λi j hij hj=>?_) (by lk) (λi a b=>?_) λp' m q' a1 a2 a3 a4 a5 a6 a7 a8=>h p' m q' a1 a2 a3 (by lk) a5 a6 a7 a8
    .by_cases hjx:j<n
     .exact hs i j hij hjx
     .have hj':j=n:=by lk
      subst hj'
      by_cases hi':i=j
      .subst hi'; exact eX _
      .rw[heqx]; exact hs i (j - 1) (by lk)^by lk
    .rw[show n+1 - 1=n by lk]
     by_cases hix:i=n
     .subst hix; rfl
     .rw[heqx]; exact he i (by lk)^by lk
theorem Lj(hC:Vg O key N cmp s){n nrem:Nat}{G:Nat×Array Nat->Go->Prop}(hp:p.Perm p0)(hb:Bd N p)(hz:nrem<=p.size)(h1:1<=n)(hn:n<=nrem)(hs:Z8 O key p n)
  (h:∀m p',p'.Perm p0->Bd N p'->p'.size=p.size->1<=m->m<=nrem->Srt O key p' m->G (m,p') s):(kas_tail3 n nrem p).kasWp cmp G s:=by
 unfold kas_tail3;rw[KasT.kasWp_bind];have hsz:n<=p.size:=by lk
 refine Nh hC (hb.perm^CG _ _ _) _ n h1 (by lk) (λi j hij hj=>?_) λm m1 m2 m3 _=>h m _ ((CG _ _ _).trans hp) (hb.perm^CG _ _ _) (kas_rev_size _ _) (by lk) m2 m3;rw[Gd hsz,Gd hsz,if_pos^by lk,if_pos^by lk];exact hs _ _ (by lk)^by lk
theorem Gx(hC:Vg O key N cmp s){n nrem:Nat}{G:Nat×Array Nat->Go->Prop}(hp:p.Perm p0)(hb:Bd N p)(hz:nrem<=p.size)(hn:n+1<=nrem)(hs:Z8 O key p (n+1))
  (h:∀m p',p'.Perm p0->Bd N p'->p'.size=p.size->1<=m->m<=nrem->Srt O key p' m->G (m,p') s):(kas_descPart n nrem p).kasWp cmp G s:=by
 unfold kas_descPart;rw[KasT.kasWp_bind];refine HP (p0:=p0) hC (nrem - (n+1)) p (n+1) 0 hp hb hz (by lk) (by lk) hs (by lk) (λi a b=>by grind) λp' m q' a1 a2 a3 a4 a5 a6 a7 a8=>?_;have hsz:m<=p'.size:=by lk
 show(if q' > 0 then kas_tail3 m nrem^kas_rev p' (m - (q'+1)) m else kas_tail3 m nrem p').kasWp cmp G s
 by_cases hq0:q' > 0
 .rw[if_pos hq0]
  refine Lj hC ((CG _ _ _).trans a1) (a2.perm^CG _ _ _) (by rw[kas_rev_size]; omega) (by lk) a5 (λi j hij hj=>?_) λm' p'' b1 b2 b3 b4 b5 b6=>h m' p'' b1 b2 (b3.trans^(kas_rev_size _ _).trans a3) b4 b5 b6;rw[Bc hsz a8,Bc hsz a8];exact a6 i j hij hj
 .rw[if_neg hq0]
  exact Lj hC a1 a2 (by lk) (by lk) a5 a6 λm' p'' b1 b2 b3 b4 b5 b6=>h m' p'' b1 b2 (b3.trans a3) b4 b5 b6
theorem SU(hC:Vg O key N cmp s){nrem:Nat}{G:Nat×Array Nat->Go->Prop}(hp:p.Perm p0)(hb:Bd N p)(hz:nrem<=p.size)(h1:1<=nrem)
  (h:∀m p',p'.Perm p0->Bd N p'->p'.size=p.size->1<=m->m<=nrem->Srt O key p' m->G (m,p') s):(kas_count nrem p).kasWp cmp G s:=by
 unfold kas_count;rw[KasT.kasWp_bind];refine Nh (nrem:=nrem) hC hb (nrem - 1) 1 (Rs _) (by lk) (λi j hij hj=>by have:i=j:=(by lk); subst this; exact eX _) λn hn1 hn2 hsn hor=>?_
 by_cases hnn:n=nrem
 .rw[if_pos^by simpa using hnn]
  exact h n p hp hb rfl hn1 hn2 hsn
 .rw [if_neg^by simpa using hnn]
  have hlt:O.klt (KN O key p n)^KN O key p (n - 1):=hor.resolve_left hnn
  by_cases hgt:n > 1
  .rw[if_pos hgt]
   show cmp (p.getD 0 0) (p.getD (n - 1) 0) (λc s'=>(if c=k_ then KasT.ret (n,p)else kas_descPart n nrem^kas_rev p 0 n).kasWp cmp G s') s;refine hC _ _ _ (hb.get _) (hb.get _) ?_;cases hrose:O.blt (key^p.getD 0 0)^key^p.getD (n - 1) 0 with
   |true=>exact yes (h n p hp hb rfl hn1 hn2 hsn)
   | false=>
    have hrose':O.kle (KN O key p (n - 1))^KN O key p 0:=hrose;have hsz:n<=p.size:=by lk
    have hall:∀k,0<=k->k<n->KN O key p k=KN O key p (n - 1):=by
     intro k _ hk;have a1:=hsn 0 k (by lk) hk;have a2:=hsn k (n - 1) (by lk) (by lk);exact ja a2^h9 hrose' a1
    refine no^Gx hC ((CG _ _ _).trans hp) (hb.perm^CG _ _ _) (by rw[kas_rev_size]; exact hz) (by lk) (λi j hij hj=>?_) λm' p'' b1 b2 b3 b4 b5 b6=>h m' p'' b1 b2 (b3.trans^kas_rev_size _ _) b4 b5 b6;rw[Bc hsz hall,Bc hsz hall]
    by_cases hjn:j<n
    .rw[hall i (by lk)^by lk,hall j (by lk) hjn]; exact eX _
    .have hj':j=n:=by lk
     subst hj'
     by_cases hi':i=j
     .subst hi'; exact eX _
     .rw[hall i (by lk)^by lk]; exact hU hlt
  .rw[if_neg hgt]
   have hn1':n=1:=by lk
   subst hn1';refine Gx hC hp hb hz (by lk) (λi j hij hj=>?_) h
   by_cases hi':i=j
   .subst hi'; exact eX _
   .have hi0:i=0:=by lk
    have hj1:j=1:=by lk
    subst hi0; subst hj1
    exact hU hlt
theorem Hx(hC:Vg O key N cmp s)(hb:Bd N p){k:Nat}(hs:Srt O key p k){G:Nat->Go->Prop}
  (h:∀l,l<=k->(∀i,i<l->O.kle (KN O key p i)^KN O key p k)->(∀i,l<=i->i<k->O.klt (KN O key p k)^KN O key p i)->G l s):∀(f l r:Nat),l<=r->r<=k->r - l<=f->
  (∀i,i<l->O.kle (KN O key p i)^KN O key p k)->(∀i,r<=i->i<k->O.klt (KN O key p k)^KN O key p i)->(kas_place p k f l r).kasWp cmp G s
 |0,l,r,hlr,hrk,hm,hlo,hhi=>by
  have:l=r:=by lk
  subst this;exact h l hrk hlo hhi
 | f+1,l,r,hlr,hrk,hm,hlo,hhi=>by
  unfold kas_place
  by_cases hge:l≥r
  .rw[if_pos hge]
   have:l=r:=by lk
   subst this;exact h l hrk hlo hhi
  .rw[if_neg hge]
   refine hC _ _ _ (hb.get _) (hb.get _) ?_;cases hless:O.blt (key^p.getD k 0)^key^p.getD ((l+r) / 2) 0 with
   |true=>
    have hl:O.klt (KN O key p k)^KN O key p ((l+r) / 2):=hless;exact yes^Hx hC hb hs h f l ((l+r) / 2) (by lk) (by lk) (by lk) hlo λi h1 h2=>KeyOrd.klt_of_klt_of_kle hl^hs _ _ h1 h2
   |false=>
    have hl:O.kle (KN O key p ((l+r) / 2))^KN O key p k:=hless;exact no^Hx hC hb hs h f ((l+r) / 2+1) r (by lk) (by lk) (by lk) (λi h1=>h9 (hs i ((l+r) / 2) (by lk)^by lk) hl) hhi
theorem Ec(hC:Vg O key N cmp s){n:Nat}{G:Array Nat->Go->Prop}(h:∀p',p'.Perm p0->Srt O key p' n->G p' s):∀(f:Nat) (p:Array Nat) (k:Nat),p.Perm p0->Bd N p->n<=p.size->k+f=n->Srt O key p k->(kas_bin f p k).kasWp cmp G s
 |0,p,k,hp,hb,hz,e,hs=>h p hp^by rw[←e]; exact hs
 | f+1,p,k,hp,hb,hz,e,hs=>by
  rw[show kas_bin (f+1) p k=(kas_place p k k 0 k).bind λl=>kas_bin f (bubble p k (k - l)) (k+1)from rfl,KasT.kasWp_bind];refine Hx hC hb hs (λl hlk hlo hhi=>?_) k 0 k (cq _) (Rs _) (by lk) (λi hi=>by lk) λi a b=>by lk
  have hks:k<p.size:=by lk
  refine Ec hC h f _ (k+1) ((bubble_perm _ _ _).trans hp) (hb.perm^bubble_perm _ _ _) (by rw[bubble_size]; exact hz) (by lk) λi j hij hj=>?_;rw[KL hks^by lk,KL hks^by lk,show k - (k - l)=l by lk]
  by_cases hi1:i=l
  .rw[if_pos hi1]
   by_cases hj1:j=l
   .rw[if_pos hj1]; exact eX _
   .rw[if_neg hj1,if_pos^by lk]
    exact hU^hhi (j - 1) (by lk)^by lk
  .rw [if_neg hi1]
   by_cases hi2:l<i/\i<=k
   .rw[if_pos hi2,if_neg^by lk,if_pos^by lk]
    exact hs (i - 1) (j - 1) (by lk)^by lk
   .rw[if_neg hi2]
    by_cases hj1:j=l
    .rw[if_pos hj1]; exact hlo i^by lk
    .rw[if_neg hj1]
     by_cases hj2:l<j/\j<=k
     .rw[if_pos hj2]
      exact hs i (j - 1) (by lk)^by lk
     .rw[if_neg hj2]
      exact hs i j hij^by lk
theorem sort_ok{n:Nat}(h1:1<=n)(hC:Vg O key n cmp s){G:Array Nat->Go->Prop}(h:∀p,p.Perm^c8^dA n->Srt O key p n->G p s):(kas_sort n).kasWp cmp G s:=by
 unfold kas_sort;rw[KasT.kasWp_bind];have hb:Bd n^c8^dA n:=#[h1,λx hx=>by grind];have hsz:(c8^dA n).size=n:=by simp
 refine SU hC (jK _) hb (by lk) h1 λm p' a1 a2 a3 a4 a5 a6=>?_
 by_cases hlt:m<n
 .rw[if_pos hlt,show max m 1=m by lk]
  exact Ec hC h _ p' m a1 a2 (by lk) (by lk) a6
 .rw[if_neg hlt]
  exact h p' a1^by grind
end
end So
namespace L2
open PySem.W
def Wg:Key->Key->Bool
 |.inl i,.inl j=>decide (i<j)
 |.inr x,.inr y=>decide (x.cps.toList<y.cps.toList)
 |.inl _,.inr _=>k_
 |.inr _,.inl _=>l_
def Ag:m_ Key->m_ Key->Bool
 |[],[]=>l_
 |[],_::_=>k_
 |_::_,[]=>l_
 |x::xs,y::ys=>if x=y then Ag xs ys else Wg x y
theorem NO:∀x:Key,Wg x x=l_
 |.inl i=>decide_eq_false^Int.lt_irrefl i
 |.inr x=>decide_eq_false^gz _
theorem Ps:∀x y z:Key,Wg x y=k_->Wg y z=k_->Wg x z=k_
 |.inl i,.inl j,.inl k,h1,h2=>decide_eq_true^Int.lt_trans (of_decide_eq_true h1)^of_decide_eq_true h2
 |.inr i,.inr j,.inr k,h1,h2=>decide_eq_true^gX (of_decide_eq_true h1)^of_decide_eq_true h2
 |.inl i,.inl j,.inr k,_,_=>rfl
 |.inl i,.inr j,.inr k,_,_=>rfl
 |.inl i,.inr j,.inl k,_,h=>by cases h
 |.inr i,.inl j,_,h,_=>by cases h
 |.inr i,.inr j,.inl k,_,h=>by cases h
theorem Ji:∀x y:Key,Wg x y=l_->Wg y x=l_->x=y
 |.inl i,.inl j,h1,h2=>congrArg _^by have a:=of_decide_eq_false h1; have b:=of_decide_eq_false h2; omega
 |.inr x,.inr y,h1,h2=>by
  have e:=List.le_antisymm (of_decide_eq_false h2)^of_decide_eq_false h1;let#[u]:=x
  simp_all
 |.inl i,.inr j,h,_=>by cases h
 |.inr i,.inl j,_,h=>by cases h
theorem A3:∀x:m_ Key,Ag x x=l_
 |[]=>rfl
 |x::xs=>by unfold Ag; rw[if_pos rfl]; exact A3 xs
theorem Bo:∀x y z:m_ Key,Ag x y=k_->Ag y z=k_->Ag x z=k_
 |[],[],_,h,_=>by cases h
 |[],_::_,[],_,h=>by cases h
 |[],_::_,_::_,_,_=>rfl
 |_::_,[],_,h,_=>by cases h
 |_::_,_::_,[],_,h=>by cases h
 | x::xs,y::ys,z::zs,h1,h2=>by
  unfold Ag at h1 h2 ⊢
  by_cases e1:x=y
  .subst e1
   rw[if_pos rfl]at h1
   by_cases e2:x=z
   .subst e2
    rw[if_pos rfl]at h2 ⊢;exact Bo xs ys zs h1 h2
   grind
  .rw[if_neg e1]at h1
   by_cases e2:y=z
   .grind
   .rw[if_neg e2]at h2
    have h3:=Ps x y z h1 h2
    by_cases e3:x=z
    .subst e3
     rw[NO]at h3;cases h3
    grind
theorem BX:∀x y:m_ Key,Ag x y=l_->Ag y x=l_->x=y
 |[],[],_,_=>rfl
 |[],_::_,h,_=>by cases h
 |_::_,[],_,h=>by cases h
 | x::xs,y::ys,h1,h2=>by
  unfold Ag at h1 h2
  by_cases e:x=y
  .subst e
   rw[if_pos rfl]at h1 h2;rw[BX xs ys h1 h2]
  .rw[if_neg e]at h1
   rw[if_neg λz=>e z.symm]at h2;exact absurd (Ji x y h1 h2) e
def PV:KeyOrd:=#[m_ Key,Ag,A3,Bo,λa b c h=>by
 cases h1:Ag a b with
 |true=>exact .inl rfl
 |false=>
  cases h2:Ag b a with
  |true=>exact .inr^Bo b a c h2 h
  |false=>rw[←BX a b h1 h2]; exact .inr h,BX]
theorem Ft:∀x y:m_ Key,CF x y=k_->Fv x y=Ag x y
 |[],[],_=>rfl
 |[],_::_,_=>rfl
 |_::_,[],_=>rfl
 | x::xs,y::ys,h=>by
  have h':(Jc x y&&CF xs ys)=k_:=h;rw[dB]at h';unfold Fv Ag
  by_cases e:x=y
  .rw[if_pos e,if_pos e]; exact Ft xs ys h'.2
  .rw[if_neg e,if_neg e]
   cases x with
   |inl i=>cases y with
    |inl j=>rfl
    |inr z=>cases h'.1
   |inr i=>cases y with
    |inl j=>cases h'.1
    |inr z=>rfl
section
variable {prog:Program}{w:World}{A:Around}{E:Value->Shared->Prop}{s:Shared}
theorem Rk{b:Bool}{Q:Bool->Go->Prop}{nx ny:Nat}:∀(ns ms:m_ Key) (us ws:m_ Cn) (i:Nat),Vals (ns.map kOf) us->Vals (ms.map kOf) ws->CF ns ms=k_->ns.length+ny=ms.length+nx->Q (Fv ns ms) s->
  KatLex prog w A b (decide (nx<ny)) Q (us.zip ws) i s
 |[],[],us,ws,i,h1,h2,_,hl,q=>by
  cases h1;cases h2;refine kat_nil ?_;rw[show decide (nx<ny)=l_ from decide_eq_false^by simp only[eK]at hl; omega];exact q
 |[],m::ms,us,ws,i,h1,h2,_,hl,q=>by
  cases h1;rw[List.zip_nil_left];refine kat_nil ?_;rw[show decide (nx<ny)=k_ from decide_eq_true^by simp only[eK,ce]at hl; omega];exact q
 |n::ns,[],us,ws,i,h1,h2,_,hl,q=>by
  cases h2;rw[List.zip_nil_right];refine kat_nil ?_;rw[show decide (nx<ny)=l_ from decide_eq_false^by simp only[eK,ce]at hl; omega];exact q
 | n::ns,m::ms,us,ws,i,h1,h2,hs,hl,q=>by
  have hs':(Jc n m&&CF ns ms)=k_:=hs;rw[dB]at hs';have q':Q (if n=m then Fv ns ms else aJ n m) s:=q;cases h1 with
  | @cons _ u _ ur r1 t1=>
   cases h2 with
   | @cons _ v _ vr r2 t2=>
    rw[fS];have ih:n=m->KatLex prog w A b (decide (nx<ny)) Q (ur.zip vr) (i+1) s:=λe=>Rk ns ms ur vr (i+1) t1 t2 hs'.2 (by simp only[ce]at hl; omega) (by rw[if_pos e]at q'; exact q');cases n with
    | inl x=>
     cases m with
     |inr y=>cases hs'.1
     | inl y=>
      let#[tu,rfl]:=r1;let#[tv,rfl]:=r2;refine kat_cons^wpAny_eqBool_int ?_
      by_cases e:x=y
      .rw[show(x==y)=k_ by simpa using e]
       exact kat_yes^ih^by rw[e]
      .rw[show(x==y)=l_ by simpa using e]
       refine kat_no ?_;rw[if_neg λz=>e^Sum.inl.inj z]at q';cases hf:(b&&i==0)with
       |true=>exact oneLt_int q'
       |false=>exact kat_one _ _^jM (show PySem.W.BoolBack Q (.bool (decide (x<y))) s from q')
    | inr x=>
     cases m with
     |inl y=>cases hs'.1
     | inr y=>
      let#[tu,rfl]:=r1;let#[tv,rfl]:=r2;refine kat_cons^wpAny_eqBool_str ?_
      by_cases e:x=y
      .rw[show decide (x=y)=k_ by simpa using e]
       exact kat_yes^ih^by rw[e]
      .rw[show decide (x=y)=l_ by simpa using e]
       refine kat_no ?_;rw[if_neg λz=>e^gZ z]at q';cases hf:(b&&i==0)with
       |true=>exact oneLt_str q'
       |false=>exact kat_one _ _^PySem.P.lt_str (show PySem.W.BoolBack Q (.bool (decide (x.cps.toList<y.cps.toList))) s from q')
structure O7 (h:cf) (ks:List Cn) (keys:List^List Key):Prop where
 at_:∀(i:Nat) (ns:List Key),keys[i]?=P3 ns->∃a o its n,ks[i]?=P3^.ref a/\h.get? a=P3 o/\o.cls=.type "tuple"/\o.data=.seq its n/\Vals (ns.map kOf) its.toList
 len:ks.length=keys.length
 same:∀x∈keys,∀y∈keys,CF x y=k_
 ne:∀x∈keys,x≠[]
def aD:Key->String
 |.inl _=>"int"
 |.inr _=>"str"
theorem firsts{h:cf}:∀(ks:m_ Cn) (keys:m_^m_ Key) (T:String),ks.length=keys.length->(∀(i:Nat) (ns:m_ Key),keys[i]?=P3 ns->∃a o its n,ks[i]?=P3^.ref a/\h.get? a=P3 o/\o.cls=.type "tuple"/\o.data=.seq its n/\Vals (ns.map kOf) its.toList)->
  (∀x∈keys,∃k r,x=k::r/\aD k=T)->∃fs:m_ Cn,KatTups h ks fs/\fs.length=keys.length/\∀v∈fs,typeOf v=pure^.type T
 |[],[],T,_,_,_=>#[[],trivial,rfl,λv hv=>by cases hv]
 |[],_::_,T,hl,_,_=>by cases hl
 |_::_,[],T,hl,_,_=>by cases hl
 | k::ks,x::keys,T,hl,h1,h2=>by
  let#[fs,g1,g2,g3]:=firsts ks keys T (by simpa using hl) (λi ns e=>by
   let#[a,o,its,n,e1,r]:=h1 (i+1) ns (by simpa using e);exact#[a,o,its,n,by simpa using e1,r]) λy hy=>h2 y^TW _ hy
  let#[a,o,its,n,e1,e2,e3,e4,e5]:=h1 0 x rfl;have e1:k=.ref a:=by simpa using e1
  subst e1;let#[k,r,rfl,hk]:=h2 x Op;rw[dL]at e5;cases hits:its.toList with
  |nil=>rw[hits]at e5; cases e5
  | cons f tl=>
   rw[hits]at e5;cases e5 with
   | cons r1 r2=>
    refine#[f::fs,KatTups.cons e2 e3 e4 (by rw[←Array.getElem?_toList,hits]; rfl) g1,by rw[ce,ce,g2],λv hv=>?_]
    rcases Tk.mp hv with rfl|hv
    .cases k with
     |inl i=>let#[t,rfl]:=r1; subst hk; rfl
     |inr i=>let#[t,rfl]:=r1; subst hk; rfl
    .exact g3 v hv
theorem JX{ks:m_ Cn}{keys:m_^m_ Key}(K:O7 s.heap ks keys)(h2:2<=ks.length){G:Array Nat->Go->Prop}(h:∀p,p.Perm^c8^dA ks.length->So.Srt PV (λi=>keys.getD i []) p ks.length->G p s):
  wpAny (model prog w) A (keyKind' ks.toArray) (λκ s'=>(kas_sort ks.length).kasWp (kas_ask prog w A κ ks) G s') (λ_ _=>False) s:=by
 obtain⟨x0,xr,hx⟩:∃x0 xr,keys=x0::xr:=by
  cases e:keys with
  |nil=>have:=K.len; rw[e]at this; simp only[eK]at this; omega
  |cons x r=>exact#[x,r,rfl]
 have m0:x0∈keys:=by rw[hx]; exact Op
 obtain⟨k0,r0,e0⟩:∃k r,x0=k::r:=by
  cases e:x0 with
  |nil=>exact absurd e^K.ne x0 m0
  |cons k r=>exact#[k,r,rfl]
 have hty:∀x∈keys,∃k r,x=k::r/\aD k=aD k0:=λx hm=>by
  cases e:x with
  |nil=>exact absurd e^K.ne x hm
  | cons k r=>
   refine#[k,r,rfl,?_];have hsm:=K.same x hm x0 m0;rw[e,e0]at hsm;have hsm:(Jc k k0&&CF r r0)=k_:=hsm;rw[dB]at hsm;cases k with
   |inl i=>cases k0 with
    |inl j=>rfl
    |inr j=>cases hsm.1
   |inr i=>cases k0 with
    |inl j=>cases hsm.1
    |inr j=>rfl
 let#[fs,g1,g2,g3]:=firsts ks keys (aD k0) K.len K.at_ hty;refine kat_kind g1 (by rw[g2,←K.len]; omega) (λv hv=>by rw[g3 v hv]; exact Looks.now) (by simp) ?_;refine So.sort_ok (O:=PV) (key:=λi=>keys.getD i []) (by lk) (λi j C hi hj hC=>?_) h;have hi':i<keys.length:=by rw[←K.len]; exact hi
 have hj':j<keys.length:=by rw[←K.len]; exact hj
 let#[a,o,its,n,e1,e2,e3,e4,e5]:=K.at_ i keys[i] (No hi');let#[a',o',its',n',e1',e2',e3',e4',e5']:=K.at_ j keys[j] (No hj');unfold kas_ask;rw[show ks.getD i dG=.ref a by rw[dU,e1]; rfl,show ks.getD j dG=.ref a' by rw[dU,e1']; rfl];have hsm:=K.same _ (dY hi') _^dY hj';refine kat_lt e2 e4 e2' e4' (Rk keys[i] keys[j] _ _ 0 e5 e5' hsm ?_ ?_)
 .have l1:=e5.length
  have l2:=e5'.length;have l3:(keys[i].map kOf).length=keys[i].length:=FM ..;have l4:(keys[j].map kOf).length=keys[j].length:=FM ..;have l5:its.toList.length=its.size:=eU;have l6:its'.toList.length=its'.size:=eU;lk
 .rw[Ft _ _ hsm]
  have g1:keys.getD i []=keys[i]:=by rw[dU,No hi']; rfl
  have g2:keys.getD j []=keys[j]:=by rw[dU,No hj']; rfl
  have hC':C (Ag (keys.getD i [])^keys.getD j []) s:=hC;rw[g1,g2]at hC';exact hC'
theorem Dt{v:Cn}{kw:m_ (Str×Cn)}{Q:Cn->Go->Prop}(ha1:argsOk "sorted" #[[v],kw])(ha2:∀x,argsOk "list.sort" #[[.ref x],kw])
  (hc:wpAny (model prog w) A.in1 (collect v) (λvs s1=>vs.length<=sizeLine/\wpAny (model prog w) A.in1.in1 (f8.«list.sort» #[[.ref s1.heap.objs.size],kw]) (λfin s'=>fin=.done^.ret .none/\Q (.ref s1.heap.objs.size) s') E {s1 with heap:=s1.heap.push^seqObj "list" vs.toArray 0}) E s):
  wpAny (model prog w) A (call (.builtin "sorted") [v] kw) Q E s:=call_function_entry_kw kind_sorted plain_sorted entry_sorted ha1^Db^UF^Db^dI hc (λvs s1 h=>Db^iq (Db^eI^wpAny_call_entry_kw PyProof.Rows.slot_list_sort #[_,Re _ rfl,rfl] PyProof.Rows.entry_list_sort (dI h.2 (λfin s' hf=>#[_,hf.1,UF #[_,rfl,hf.2]]) λ_ _ x=>x)^ha2 _) h.1) λ_ _ x=>x
def DL(h:cf)(D:Ch)(vs:m_ Cn):cf:=((h.update D^dW λ_=>(#[]:Array Cn)).push^seqObj "tuple" vs.toArray 0).push^seqObj "list" #[] 0
theorem GH{h:cf}{D:Ch}{vs:m_ Cn}{b:Ch}{o:Obj}(hb:b≠D)(e:h.get? b=P3 o):(DL h D vs).get? b=P3 o:=
 Ev _ (Ev _^(ZB _ _^dH hb).trans e)
theorem Hl{h:cf}{D:Ch}{vs:m_ Cn}{n:Nat}(ho:h.get? D=P3^seqObj "list" vs.toArray n):∃e1,(DL h D vs).get? D=P3^seqObj "list" #[] e1/\(h.update D^dW λ_=>(#[]:Array Cn)).get? D=P3^seqObj "list" #[] e1:=by
 obtain⟨e1,ho1⟩:∃e1,(h.update D _).get? D=P3^seqObj _ _ e1:=#[_,gB ho _];exact#[e1,Ev _^Ev _ ho1,ho1]
theorem L8{D:Ch}{vs:m_ Cn}{n:Nat}{P:PySem.Fin->Go->Prop}{G:Array Nat->Prop}(ho:s.heap.get? D=P3^seqObj "list" vs.toArray n)(h64:vs.length<64)
  (hk:2<=vs.length->wpAny (model prog w) A (keyKind' vs.toArray) (λκ s'=>(kas_sort vs.length).kasWp (kas_ask prog w A κ vs) (λp s''=>s''={s with heap:=DL s.heap D vs}/\G p) s') (λ_ _=>False) {s with heap:=DL s.heap D vs})
  (h1:vs.length<2->G^c8^dA vs.length) (hfin:∀(p:Array Nat) (h':cf) (c:Nat),p.size=vs.length->G p->(∀b o,b≠D->s.heap.get? b=P3 o->h'.get? b=P3 o)->h'.get? D=P3^seqObj "list" (c8^p.toList.map λi=>vs.getD i dG) c->P (.done^.ret .none) {s with heap:=h'}):
  wpAny (model prog w) A (f8.«list.sort» #[[.ref D],[]]) P E s:=by
 let#[e1,ho6,ho1]:=Hl ho
 have fin:∀(p:Array Nat),p.size=vs.length->G p->P (.done^.ret .none) {s with heap:=(DL s.heap D vs).update D^dW λ_=>c8^p.toList.map λi=>vs.getD i dG}:=λp hp hg=>by
  obtain⟨c2,hc2⟩:∃c2,((DL s.heap D vs).update D^dW λ_=>c8^p.toList.map λi=>vs.getD i dG).get? D=P3^seqObj "list" (c8^p.toList.map λi=>vs.getD i dG) c2:=#[_,gB ho6 λ_=>c8^p.toList.map λi=>vs.getD i dG];exact hfin p _ c2 hp hg (λb o hb e=>(ZB _ _^dH hb).trans^GH hb e) hc2
 rw[list_sort_plain];refine Db (iO ho rfl ?_);refine Db (fc ho rfl ?_ (by rw[cY,dg]; omega) (cq _));refine Db (iW ho1 rfl ?_);refine Db (wpAny_newTuple ?_^by show vs.length<=_; rw[dg]; omega);refine Db^iq ?_^cq _;refine eI ?_;show wpAny (model prog w) A _ P E {s with heap:=DL s.heap D vs}
 dsimp only
 by_cases h2:vs.length<2
 .have h2':vs.toArray.size<2:=by rw[cY]; exact h2
  rw[if_pos h2',if_pos h2'];refine Db^UF ?_;rw[StateT.run_pure];refine Db^UF ?_
  dsimp only
  refine Db (iW ho6 rfl ?_);have hsz:(c8^dA vs.length).size=vs.length:=by simp
  have hout:(arrOf^SortSt.mk' general' (vs.toArray.zip vs.toArray) #[] 7 j_).map (·.2)=c8 ((c8^dA vs.length).toList.map λi=>vs.getD i dG):=by
   refine kat_snds rfl ?_;have e:=kas_range^vs.toArray.zip vs.toArray;rw[show(vs.toArray.zip vs.toArray).size=vs.length by simp]at e;exact e.symm
  rw[hout];refine Db (fc ho6 rfl ?_ (cq _) (by rw[cY,FM,eU,hsz,dg]; omega));simp only[bne_self_eq_false,eZ,if_false];exact UF^fin _ hsz^h1 h2
 .have h2':¬vs.toArray.size<2:=by rw[cY]; exact h2
  rw[if_neg h2',if_neg h2'];refine Db^dI (hk^by lk) (λκ s0 hk=>?_) λ_ _ x=>x.elim
  refine Db (dI (kat_run (Q:=λst' s'=>∃p:Array Nat,p.size=vs.length/\arrOf st'=p.map^kas_item^vs.toArray.zip vs.toArray/\failedOf st'=j_/\s'={s with heap:=DL s.heap D vs}/\G p)
   rfl (by lk) h64 (λp' st' s' a1 a2 a3 a4=>#[p',a1,a2,a3,a4]) hk) ?_ λ_ _ e=>e)
  rintro⟨⟨⟩,st'⟩ s' ⟨p,hp,har,hf,rfl,hg⟩
  dsimp only
  have hout:=kat_snds rfl har;have hsz:(c8^p.toList.map λi=>vs.getD i dG).size=vs.length:=by rw[cY,FM,eU,hp]
  rw[hout];refine Db (iW ho6 rfl ?_);refine Db (fc ho6 rfl ?_ (cq _) (c5 (gl hsz)^by rw[dg]; omega));rw[hf];simp only[bne_self_eq_false,eZ,if_false];exact UF^fin p hp hg
theorem Pt{D:Ch}{f:Cn}{vs:m_ Cn}{n:Nat}{P:PySem.Fin->Go->Prop}(ho:s.heap.get? D=P3^seqObj "list" vs.toArray n)(h64:vs.length<64)(J:m_ Cn->Go->Prop)(kS:Ch)(hkS:kS=s.heap.objs.size+1)
  (h0:∀e1,(DL s.heap D vs).get? D=P3^seqObj "list" #[] e1->J [] {s with heap:=DL s.heap D vs})
  (hstep:∀(ks:m_ Cn) (s':Go) (e:Nat) (v:Cn),J ks s'->s'.heap.get? kS=P3^seqObj "list" ks.toArray e->vs[ks.length]?=P3 v->wpAny (model prog w) A (call f [v]) (λk s''=>s''.heap.get? kS=P3^seqObj "list" ks.toArray e/\J (ks++[k]) {s'' with heap:=s''.heap.update kS (dW (·.push k))}) (λ_ _=>False) s')
  (hend:∀(e1:Nat),(DL s.heap D vs).get? D=P3^seqObj "list" #[] e1->∀(ks:m_ Cn) (s':Go),J ks s'->ks.length=vs.length->s'.heap.get? D=P3^seqObj "list" #[] e1/\∃G:Array Nat->Prop,
   (2<=vs.length->wpAny (model prog w) A (keyKind' ks.toArray) (λκ s2=>(kas_sort vs.length).kasWp (kas_ask prog w A κ ks) (λp s''=>s''=s'/\G p) s2) (λ_ _=>False) s')/\(vs.length<2->G^c8^dA vs.length) /\
   ∀(p:Array Nat) (h':cf) (c:Nat),p.size=vs.length->G p->(∀b o,b≠D->b≠kS->s'.heap.get? b=P3 o->h'.get? b=P3 o)->h'.get? D=P3^seqObj "list" (c8^p.toList.map λi=>vs.getD i dG) c->(∃o,h'.get? kS=P3 o)->P (.done^.ret .none) {s' with heap:=h'}):
  wpAny (model prog w) A (ksk_tree D f l_) P E s:=by
 let#[e1,ho6,ho1]:=Hl ho;have hsz1:((s.heap.update D^dW λ_=>(#[]:Array Cn)).push^seqObj "tuple" vs.toArray 0).objs.size=kS:=by rw[iP,Heap.size_update,hkS]
 have hD:D<s.heap.objs.size:=TM ho;have hDk:D≠kS:=by rw[hkS]; exact cb^eF hD
 have hk0:(DL s.heap D vs).get? kS=P3^seqObj "list" #[] 0:=by rw[←hsz1]; exact Re _ rfl
 unfold ksk_tree;refine Db (iO ho rfl ?_);refine Db (fc ho rfl ?_ (by rw[cY,dg]; omega) (cq _));refine Db (iW ho1 rfl ?_);refine Db (wpAny_newTuple ?_^by show vs.length<=_; rw[dg]; omega);refine Db^iq ?_^cq _;refine eI ?_;show wpAny (model prog w) A (ksk_rest D f l_ vs.toArray e1^.ref ((s.heap.update D^dW λ_=>(#[]:Array Cn)).push^seqObj "tuple" vs.toArray 0).objs.size) P E {s with heap:=DL s.heap D vs};rw[hsz1];unfold ksk_rest;refine Db^gw ?_
 first
  |rw[List.forIn_toArray]
  |(rw[←Array.forIn_toList]; simp only[List.toList_toArray])
  |rw[←Array.forIn_toList]
 refine Db^ksk_fold (I:=λi s'=>∃ks e,gY ks=i/\J ks s'/\s'.heap.get? kS=P3^seqObj "list" ks.toArray e) vs 0 _ #[[],0,rfl,h0 e1 ho6,hk0] (λj x s' hx hI=>?_) λs' hI=>?_
 .let#[ks,e,hl,hJ,hk]:=hI
  have hj:j<vs.length:=(Uf.mp hx).1;have hl:ks.length=j:=by lk
  refine Db^wpAny_attempt^dI (hstep ks s' e x hJ hk^by rw[hl]; exact hx) (λk s'' hk2=>?_) λ_ _ hF=>hF.elim;have ea:(c8 ks).push k=c8 (ks++[k]):=by simp
  obtain⟨c2,hc2⟩:∃c2,(s''.heap.update kS (dW (·.push k))).get? kS=P3^seqObj "list" (c8 (ks++[k])) c2:=#[_,by rw[←ea]; exact gB hk2.1 (·.push k)]
  try dsimp only
  refine Db (fc hk2.1 rfl ?_ (by rw[cY,dg]; omega) (c5 (gl (Array.size_push ..))^by rw[cY,dg]; omega));exact UF #[rfl,ks++[k],c2,by rw[cZ,c7]; omega,hk2.2,hc2]
 .let#[ks,e,hl,hJ,hk]:=hI
  have hl:ks.length=vs.length:=by lk
  let#[hD',G,g2,g1,g3]:=hend e1 ho6 ks s' hJ hl
  try dsimp only
  refine Db (iO hk rfl ?_)
  have tail:∀(st:SortSt) (p:Array Nat),p.size=vs.length->G p->(arrOf st).map (·.2)=c8 (p.toList.map λi=>vs.getD i dG)->failedOf st=j_->wpAny (model prog w) A (ksk_tail D l_ e1 (.ref kS) st) P E s':=λst p hp hg hout hf=>by
   have hsz:(c8^p.toList.map λi=>vs.getD i dG).size=vs.length:=by rw[cY,FM,eU,hp]
   obtain⟨ck,hck⟩:∃ck,(s'.heap.update kS^dW λ_=>(#[]:Array Cn)).get? kS=P3^seqObj "list" #[] ck:=#[_,gB hk λ_=>#[]];have hD2:(s'.heap.update kS^dW λ_=>(#[]:Array Cn)).get? D=P3^seqObj "list" #[] e1:=(ZB _ _^dH hDk).trans hD';obtain⟨c2,hc2⟩:∃c2,((s'.heap.update kS^dW λ_=>(#[]:Array Cn)).update D^dW λ_=>c8^p.toList.map λi=>vs.getD i dG).get? D=P3^seqObj "list" (c8^p.toList.map λi=>vs.getD i dG) c2:=#[_,gB hD2 λ_=>c8^p.toList.map λi=>vs.getD i dG];unfold ksk_tail
   try dsimp only
   rw[hout];refine Db (fc hk rfl ?_ (by rw[cY,dg]; omega) (cq _));refine Db^gE ?_;refine Db (iW hD2 rfl ?_);refine Db (fc hD2 rfl ?_ (cq _) (c5 (gl hsz)^by rw[dg]; omega));rw[hf];simp only[bne_self_eq_false,eZ,if_false];refine UF^g3 p _ c2 hp hg (λb o hb1 hb2 e=>(ZB _ _^dH hb1).trans^(ZB _ _^dH hb2).trans e) hc2 #[_,(ZB _ _ hDk).trans hck]
  unfold ksk_end
  try dsimp only
  simp only[eZ,if_false]
  by_cases h2:vs.length<2
  .have h2':vs.toArray.size<2:=by rw[cY]; exact h2
   rw[if_pos h2',if_pos h2'];refine Db^UF ?_;rw[StateT.run_pure];refine Db^UF ?_
   try dsimp only
   refine tail _ (c8^dA vs.length) (by simp) (g1 h2) (kat_snds hl ?_) rfl;have er:=kas_range^ks.toArray.zip vs.toArray;rw[show(ks.toArray.zip vs.toArray).size=vs.length by simp[hl]]at er;exact er.symm
  .have h2':¬vs.toArray.size<2:=by rw[cY]; exact h2
   rw[if_neg h2',if_neg h2'];refine Db^dI (g2^by lk) (λκ s0 hk=>?_) λ_ _ x=>x.elim
   refine Db (dI (kat_run (Q:=λst' s2=>∃p:Array Nat,p.size=vs.length/\arrOf st'=p.map^kas_item^ks.toArray.zip vs.toArray/\failedOf st'=j_/\s2=s'/\G p)
    hl (by lk) h64 (λp' st' s2 a1 a2 a3 a4=>#[p',a1,a2,a3,a4]) hk) ?_ λ_ _ e=>e)
   rintro⟨⟨⟩,st'⟩ s2 ⟨p,hp,har,hf,rfl,hg⟩
   try dsimp only
   exact tail st' p hp hg (kat_snds hl har) hf
end
section
variable {X:Cx}{zG:m_ (Addr×Obj)}{σ:L2.St}{H:Hp}{s:Shared}{h':Heap}
structure QP (X:Cx) (zG:List (Ch×Obj)) (D:Ch):Prop where
 new:X.s₀.heap.objs.size<=D
 loc:D≠X.env.locals
 cell:∀x c,X.env.cells.lookup x=P3 c->c≠D
 pin:∀p∈X.pn++zG,p.1≠D
 fs:D∉X.fs
theorem Inv.mine(I:Inv X zG σ H s){D:Ch}(h:s.heap.objs.size<=D):QP X zG D:=by
 refine#[c5 I.sz h,λz=>?_,λx c e z=>?_,λp hp z=>?_,I.nofs h]
 .have:=I.lt
  rw[←z]at this;exact absurd this^f_.mpr h
 .let#[v,o,ho,_]:=I.cell x c e
  have:=TM ho
  rw[z]at this;exact absurd this^f_.mpr h
 .let#[e,_]:=I.pin p hp
  have:=TM e
  rw[z]at this;exact absurd this^f_.mpr h
structure KeysAt (K:Frag) (H:Hp) (vs:List V) (keys:List^List Key):Prop where
 len:vs.length=keys.length
 at_:∀(i:Nat) (ns:List Key),keys[i]?=P3 ns->∃a,vs[i]?=P3^.ref a/\SqT K H a (ns.map kOf)
 same:∀x∈keys,∀y∈keys,CF x y=k_
 ne:∀x∈keys,x≠[]
def KJ(keys:m_^m_ Key)(ix:m_ Nat):Prop:=ix.Perm^dA keys.length/\∀i j,i<=j->j<keys.length->Ag (keys.getD (ix.getD j 0) [])^keys.getD (ix.getD i 0) []=l_
theorem KeysAt.tups{vs:m_ V}{us:m_ Cn}{keys:m_^m_ Key}(I:Inv X zG σ H s)(r:Vals vs us)(k:KeysAt X.K H vs keys){h':cf}(hk:∀b o,s.heap.get? b=P3 o->h'.get? b=P3 o):O7 h' us keys:=by
 refine#[λi ns e=>?_,r.length.symm.trans k.len,k.same,k.ne];let#[a,e1,h1]:=k.at_ i ns e;let#[u,e2,r2]:=r.get e1;cases r2;let#[its,r3,#[o,ho,hc,n,hd],_]:=I.tuple h1;exact#[a,o,_,n,e2,hk a o ho,hc,hd,by grind]
theorem GG:∀{vs:m_ V}{us:m_ Cn},Vals vs us->∀i:Nat,RelV (vs.getD i .non)^us.getD i dG
 |_,_,.nil,i=>by simp[RelV]
 |_,_,.cons r t,0=>by simpa using r
 |_,_,.cons r t,i+1=>by simpa using GG t i
theorem Hd{f:Nat->V}{g:Nat->Cn}(h:∀i,RelV (f i)^g i):∀ix:m_ Nat,Vals (ix.map f)^ix.map g
 |[]=>.nil
 |i::ix=>.cons (h i)^Hd h ix
theorem getD_list(p:Array Nat)(i:Nat):p.getD i 0=p.toList.getD i 0:=by simp
theorem RT{keys:m_^m_ Key}{n:Nat}{p:Array Nat}(hn:keys.length=n)(h1:p.Perm^c8^dA n)(h2:So.Srt PV (λi=>keys.getD i []) p n):KJ keys p.toList:=by
 subst hn;refine#[Array.perm_iff_toList_perm.mp h1,λi j hij hj=>?_];have h:=h2 i j hij hj;unfold So.KN at h;rw[getD_list,getD_list]at h;exact h
theorem PK{A':c_}{E':Cn->Go->Prop}{vs:m_ V}{us:m_ Cn}{keys:m_^m_ Key}{Q:VK}(I:Inv X zG σ H s)(r:Vals vs us)(h64:vs.length<64)(k:KeysAt X.K H vs keys)
  (q:∀(ix:m_ Nat) (l:Ch),KJ keys ix->H l=j_->Q (.ref l)^Ah H l^.lst^ix.map λi=>vs.getD i .non):
  wpAny (model X.prog X.w) A' (f8.«list.sort» #[[.ref s.heap.objs.size],[]]) (λfin s'=>fin=.done^.ret .none/\EP X zG σ Q (.ref s.heap.objs.size) s') E' {s with heap:=s.heap.push^seqObj "list" us.toArray 0}:=by
 have hl:=r.length;have hkl:keys.length=us.length:=k.len.symm.trans hl;refine L8 (G:=λp=>p.Perm _/\So.Srt PV (λi=>keys.getD i []) p us.length) (n:=0) (Re _ rfl) (by lk) (λh2=>?_) (λh1=>#[jK _,λi j hij hj=>?_]) λp h' c hp hg hold hD=>#[rfl,?_]
 .refine JX (keys:=keys) (k.tups I r λb o e=>?_) h2 λp a b=>#[rfl,a,b]
  exact GH (cb^TM e)^Ev _ e
 .have:i=j:=by lk
  subst this;exact eX _
 .have hf:H s.heap.objs.size=j_:=I.fresh
  have hix:(p.toList.map λi=>vs.getD i .non).length=us.length:=by grind
  refine#[.ref s.heap.objs.size,Ah H s.heap.objs.size^.lst _,I.laid (t':=s.toks) (λb o e=>hold b o (cb^TM e)^Ev _ e) (Rs _) #[by rw[hix,←hl,dg]; omega,_,c,Hd (GG r) p.toList,hD],rfl,q _ _ (RT hkl hg.1 hg.2) hf]
theorem MT{prog:cm}{w:cy}{A:c_}{E:Cn->Go->Prop}{s:Go}{l:Ch}{vs:m_ Cn}{Q:m_ Cn->Go->Prop}(hl:IsTup s.heap l vs.toArray)
  (h:Q vs {s with heap:=(s.heap.push^seqObj "list" #[] 0).update s.heap.objs.size (dW (·++vs.toArray))}) (hsz:vs.length<=sizeLine):
  wpAny (model prog w) A (collect^.ref l) Q E s:=by
 let#[o,ho,hc,n,hd]:=id hl;unfold collect;refine Db^wpAny_runValue^eY entry_proto_collect' ?_;show wpAny _ _ (do again (.builtin "list.__iadd__" #[[←newList [],.ref l],[]])) _ _ s;refine Db^iq^UF #[ia _ (by decide +kernel),eY entry_list_iadd' ?_];show wpAny _ _ (fV (.ref s.heap.objs.size) (.ref l)^.ref s.heap.objs.size) _ _ {s with heap:=s.heap.push^seqObj "list" #[] 0};unfold fV;have ho':(s.heap.push^seqObj "list" #[] 0).get? l=P3 o:=Ev _ ho;refine Db^gn (T:="tuple") #[o,ho',hc] ?_;have ht:(dP "tuple"==dP "tuple")=k_:=by rfl
 rw[if_pos^by rw[ht]; simp];refine Db^iO ho' hd ?_;refine Db (iO (xs:=#[]) (n:=0) (Re _ rfl) rfl ?_);rw[if_neg^by simp];refine Db (fc (xs:=#[]) (n:=0) (Re _ rfl) rfl ?_ (cq _) (by show(#[]++vs.toArray).size<=sizeLine+1; simp only[Array.size_append,cY,eK]; omega));refine UF ?_
 show wpAny (model prog w) A (do
   let o ←load s.heap.objs.size
   match o.data with
   |.seq xs _=>pure xs.toList
   |_=>unsupported "internal:collect") Q E {s with heap:=(s.heap.push^seqObj "list" #[] 0).update s.heap.objs.size (dW (·++vs.toArray))}
 refine Db^wpAny_load (gB (Re _ rfl) _) ?_;show wpAny _ _ (pure ((#[]:Array Cn)++vs.toArray).toList) Q E _;rw[show((#[]:Array Cn)++vs.toArray).toList=vs by simp];exact UF h
theorem MU{h:cf}{g:Array Cn->Array Cn}{b:Ch}{o:Obj}(e:h.get? b=P3 o):((h.push^seqObj "list" #[] 0).update h.objs.size^dW g).get? b=P3 o:=
 (ZB _ _^dH^cb^TM e).trans (Ev _ e)
theorem Ij{κ:Bool}{A':c_}{E':Cn->Go->Prop}{p:Ch}{vs:m_ V}{Q:m_ Cn->Go->Prop}(I:Inv X zG σ H s)(h:SqK κ X.K H p vs)(q:∀us s1,Vals vs us->vs.length<=sizeLine->Inv X zG σ H s1->Q us s1):
  wpAny (model X.prog X.w) A' (collect^.ref p) Q E' s:=by
 cases κ with
 |true=>
  let#[its,r,pl,hz]:=I.list h;exact collect_list pl.isList (q _ _ r hz^I.kept λb o e=>MU e)^by rw[←r.length]; exact hz
 |false=>
  let#[its,r,pl,hz]:=I.tuple h;exact MT pl (q _ _ r hz^I.kept λb o e=>MU e)^by rw[←r.length]; exact hz
def Q5(K:Frag):m_ V->Hp->VK->Prop:=λxs H Q=>∃(κ:Bool) (p:Ch) (vs:m_ V) (keys:m_^m_ Key),xs=[.ref p]/\SqK κ K H p vs/\vs.length<64/\KeysAt K H vs keys /\
 ∀(ix:m_ Nat) (l:Ch),KJ keys ix->H l=j_->Q (.ref l)^Ah H l^.lst^ix.map λi=>vs.getD i .non
theorem FR:B9 X (.builtin "sorted")^Q5 X.K:=by
 intro zG s σ H xs us Q I r h;let#[κ,p,vs,keys,rfl,hq,h64,hk,q]:=h;let#[u,rfl,rx]:=vals1 r;cases rx;exact Dt (args_sorted1 _) (λx=>args_list_sort _)^Ij I hq λus s1 r1 hz I1=>#[by rw[←r1.length]; exact hz,PK I1 r1 h64 hk q]
end
def Ew(H:Hp)(L:m_ Ch)(f:Ch->Obj):Hp:=λb=>if b∈L then(H b).map^HO.frz^f b else H b
theorem C4{H:Hp}{L:m_ Ch}{f:Ch->Obj}{b:Ch}(h:b∉L):Ew H L f b=H b:=by unfold Ew; rw[if_neg h]
theorem HI{H:Hp}{L:m_ Ch}{f:Ch->Obj}{b:Ch}{o:HO}(h:b∈L)(e:H b=P3 o):Ew H L f b=P3^.frz (f b) o:=by unfold Ew; grind
section
variable {X:Cx}{zG:m_ (Addr×Obj)}{σ:L2.St}{H:Hp}{s:Shared}
theorem Inv.frz{L:m_ Ch}(I:Inv X zG σ H s)(hL:∀b∈L,∃kvs,H b=P3^.dK kvs):∃f,Inv X zG σ (Ew H L f) s:=by
 have keep:∀(f:Ch->Obj) b o,H b=P3 o->(∀kvs,o≠.dK kvs)->Ew H L f b=P3 o:=λf b o e n=>by
  rw[C4 λhm=>by grind];exact e
 refine#[λb=>(s.heap.get? b).getD {cls:=.none,data:=.fields #[]},?_];refine I.step (g':=s.gens) (d':=s.drawn) (t':=s.toks) (h':=s.heap) (ch:=[]) (λ_ z=>nomatch z) (λ_ _ _ _ _ e _=>e) (λb o _ _ _ e _=>#[o.slots,e]) (λb o _ e n=>?_) (λb o _ e=>#[o,e]) (λb xs e=>keep _ b _ e λ_ z=>by cases z) (λb o u e=>keep _ b _ e λ_ z=>by cases z) (λb ps e=>#[#[],by grind]) (λ_ h=>h) (λb u e=>?_) I.bare
 .unfold Ew
  simp_all
 .by_cases hb:b∈L
  .let#[kvs,e2]:=hL b hb
   rw[HI hb e2]at e;cases e;let#[z,y,vs,r,ob,es,ep,e3,c]:=(show ObjOk X.prog X.w H s.heap b^.dK kvs from I.hok b _ e2);exact#[by rw[e3]; rfl,z,y,vs,r,ob,es,ep,e3,c]
  .rw[C4 hb]at e
   exact(I.hok b u e).stay (λ_ _ _ q=>q) (λc q=>keep _ c _ q λ_ z=>by cases z) λc xs q=>keep _ c _ q λ_ z=>by cases z
def aw(t:TE):TE:=λσ H Q=>t σ H λv H1=>∃L:m_ Ch,(∀b∈L,∃kvs,H1 b=P3^.dK kvs)/\∀f:Ch->Obj,Q v^Ew H1 L f
theorem RO{e:cr}{t:TE}(h:PE X e t):PE X e^aw t:=by
 intro zG s σ H Q I hq;refine A5 (h _ s σ H _ I hq) λu s1 zz=>?_;let#[v,H1,I1,r,L,hL,q]:=zz;let#[f,I2]:=I1.frz hL;exact#[v,_,I2,r,q f]
end
end L2
namespace Nt
open L2 Dp
def Dk(ts:m_ Ak)(p:Str):m_ (Str×Int):=ts.flatMap λt=>(if t.a=p then [(t.b,t.len)]else [])++(if t.b=p then [(t.a,t.len)]else [])
def S0(ts:m_ Ak)(p:Str):D:=.fdi ((Dk ts p).map λx=>.inr x.1)^(Dk ts p).map λx=>.int x.2
def EN(N:Net):D:=.dic (N.ps.map .inr)^N.ps.map^S0 N.ts
def Sk:W2:=λss n P=>∃N:Net,ss=[.sh^enc N]/\N.Ok/\N.ps.length<=1000/\N.ts.length<=1000/\P (EN N) n
def kv(x:Str×Int):Key×V:=(.inr x.1,.int x.2)
structure Stp (H:Hp) (d:Ch) (as:List (Str×Ch)) (tb:Str->List (Key×V)) (H':Hp):Prop where
 old:∀b o,H b=P3 o->H' b=P3 o
 new:H d=j_
 top:H' d=P3 (.dK^as.map λx=>(.inr x.1,.ref x.2))
 inn:∀x∈as,H x.2=j_/\x.2≠d/\H' x.2=P3 (.dK^tb x.1)
 ads:(as.map (·.2)).Nodup
 nms:(as.map (·.1)).Nodup
theorem HB{as:m_ (Str×Ch)}(hn:(as.map (·.1)).Nodup){p:Str}{a:Ch}(h:(p,a)∈as):EH (as.map λx=>((.inr x.1:Key),V.ref x.2))^.inr p=P3^.ref a:=by
 induction as with
 |nil=>cases h
 | cons x r ih=>
  rw[dL,cz]at hn
  rcases Tk.mp h with e|h
  .rw[←e]
   exact EK rfl
  .exact(EL λe=>hn.1^by rw[gZ e]; exact Sc.mpr #[_,h,rfl]).trans^ih hn.2 h
theorem M_{as:m_ (Str×Ch)}{p:Str}{v:V}(h:p∉as.map (·.1)):putK (as.map λx=>((.inr x.1:Key),V.ref x.2)) (.inr p) v=(as.map λx=>((.inr x.1:Key),V.ref x.2))++[(.inr p,v)]:=by
 unfold putK
 simp_all
theorem OF{xs:m_ (Str×Int)}{p:Str}{l:Int}(h:p∉xs.map (·.1)):putK (xs.map kv) (.inr p)^.int l=(xs++[(p,l)]).map kv:=by
 unfold putK;rw[if_neg,dD]
 .rfl
 .rw[h_]
  rintro⟨y,hy,e⟩;let#[x,hx,rfl]:=Sc.mp hy;exact h^Sc.mpr #[x,hx,gZ^of_decide_eq_true e]
theorem Stp.more{H H':Hp}{d q:Ch}{as:m_ (Str×Ch)}{tb:Str->m_ (Key×V)}{p:Str}(s:Stp H d as tb H')(hq:H' q=j_)(hp:p∉as.map (·.1))(ht:tb p=[]):
  Stp H d (as++[(p,q)]) tb (Ah (Ah H' q^.dK []) d^.dK^putK (as.map λx=>((.inr x.1:Key),V.ref x.2)) (.inr p)^.ref q):=by
 have nq:q≠d:=λe=>by rw[e,s.top]at hq; cases hq
 have hHq:H q=j_:=by
  cases c:H q with
  |none=>rfl
  |some o=>rw[s.old q o c]at hq; cases hq
 refine#[λb o e=>?_,s.new,?_,λx hx=>?_,?_,?_]
 .have n1:b≠d:=λz=>by rw[z,s.new]at e; cases e
  have n2:b≠q:=λz=>by rw[z,hHq]at e; cases e
  rw[AI n1,AI n2];exact s.old b o e
 .rw[AM,M_ hp,dD]; rfl
 .rcases cn.mp hx with hx|hx
  .let#[h1,h2,h3]:=s.inn x hx
   have n2:x.2≠q:=λz=>by rw[z,hq]at h3; cases h3
   exact#[h1,h2,by rw[AI h2,AI n2]; exact h3]
  .rw[On.mp hx]
   exact#[hHq,nq,by rw[AI nq,AM,ht]]
 .rw[dD,eG]
  refine#[s.ads,cz.mpr #[(λh=>by cases h),di],λa ha b hb e=>?_];let#[x,hx,rfl]:=Sc.mp ha;have hb:b=q:=On.mp hb;let#[h1,h2,h3]:=s.inn x hx;rw[e,hb,hq]at h3;cases h3
 .rw[dD,eG]
  refine#[s.nms,cz.mpr #[(λh=>by cases h),di],λa ha b hb e=>?_];have hb:b=p:=On.mp hb;exact hp^by rw[←hb,←e]; exact ha
theorem Pj{as:m_ (Str×Ch)}(hn:(as.map (·.1)).Nodup){p:Str}{a b:Ch}(h1:(p,a)∈as)(h2:(p,b)∈as):a=b:=by
 have:=(HB hn h1).symm.trans^HB hn h2
 grind
theorem Ph{as:m_ (Str×Ch)}(hn:(as.map (·.2)).Nodup){p q:Str}{a:Ch}(h1:(p,a)∈as)(h2:(q,a)∈as):p=q:=by
 induction as with
 |nil=>cases h1
 | cons x r ih=>
  rw[dL,cz]at hn
  rcases Tk.mp h1 with e1|g1
  .rcases Tk.mp h2 with e2|g2
   .grind
   .exact absurd (Sc.mpr #[_,g2,by rw[←e1]]) hn.1
  .rcases Tk.mp h2 with e2|g2
   .exact absurd (Sc.mpr #[_,g1,by rw[←e2]]) hn.1
   .exact ih hn.2 g1 g2
theorem Stp.put{H H':Hp}{d a:Ch}{as:m_ (Str×Ch)}{tb tb2:Str->m_ (Key×V)}{p:Str}{kvs:m_ (Key×V)}(s:Stp H d as tb H')(ha:(p,a)∈as)(h1:tb2 p=kvs)(h2:∀q,q≠p->tb2 q=tb q):
  Stp H d as tb2 (Ah H' a^.dK kvs):=by
 let#[i1,i2,i3]:=s.inn _ ha;refine#[λb o e=>?_,s.new,?_,λx hx=>?_,s.ads,s.nms]
 .have n1:b≠a:=λz=>by grind
  rw[AI n1];exact s.old b o e
 .rw[AI^dH i2]
  exact s.top
 .let#[g1,g2,g3]:=s.inn x hx
  refine#[g1,g2,?_]
  by_cases e:x.2=a
  .have:=Ph s.ads (show(x.1,a)∈as by grind) ha
   rw[e,AM,this,h1]
  .have:x.1≠p:=λz=>e^Pj s.nms (show(p,x.2)∈as by grind) ha
   rw[AI e,h2 _ this];exact g3
theorem L4(ts:m_ Ak)(t:Ak)(p:Str):Dk (ts++[t]) p=Dk ts p++((if t.a=p then [(t.b,t.len)]else [])++(if t.b=p then [(t.a,t.len)]else [])):=by
 unfold Dk
 simp_all
theorem Kz{ts:m_ Ak}{p q:Str}(h:q∈(Dk ts p).map (·.1)):∃t∈ts,(t.a=p/\t.b=q)\/(t.b=p/\t.a=q):=by
 let#[x,hx,rfl]:=Sc.mp h;let#[t,ht,hx]:=dk.mp hx;refine#[t,ht,?_]
 rcases cn.mp hx with hx|hx
 .simp_all
 simp_all
theorem OR(ts:m_ Ak)(p:Str):(Dk ts p).length<=2*ts.length:=by
 induction ts with
 |nil=>exact cq _
 |cons t r ih=>
  unfold Dk at ih ⊢;rw[fI,cZ,cZ];have h1:(if t.a=p then [(t.b,t.len)]else []).length<=1:=by grind
  grind
theorem SA{ts:m_ Ak}{t:Ak}(hp:(ts++[t]).Pairwise Be)(hlt:∀s∈ts++[t],cs s.a<cs s.b):t.b∉(Dk ts t.a).map (·.1)/\t.a∉(Dk ts t.b).map (·.1):=by
 rw[List.pairwise_append]at hp
 have key:∀s∈ts,¬((s.a=t.a/\s.b=t.b)\/(s.b=t.a/\s.a=t.b)):=λs hs e=>by
  have h1:=hp.2.2 s hs t (On.mpr rfl);have h2:=hlt s^df _ hs;have h3:=hlt t^cW _ (On.mpr rfl)
  rcases e with⟨e1,e2⟩|⟨e1,e2⟩
  .unfold Be at h1
   grind
  grind
 refine#[λh=>?_,λh=>?_]
 .let#[s,hs,e]:=Kz h
  exact key s hs e
 .let#[s,hs,e]:=Kz h
  exact key s hs^e.elim (λz=>.inr #[z.2,z.1]) λz=>.inl #[z.2,z.1]
theorem Kb{xs:m_ Str}(h:rising xs):xs.Nodup:=h.imp λ{a b} hlt e=>by grind
theorem NI{xs:m_ Str}(h:xs.Nodup){i:Nat}(hi:i<xs.length):xs[i]∉xs.take i:=by
 have e:xs=xs.take i++xs[i]::xs.drop (i+1):=by
  simp_all
 intro hm;rw[e,eG]at h;exact h.2.2 _ hm _ Op rfl
theorem Stp.at_{K:Frag}{M:Ch->Prop}{H H':Hp}{d:Ch}{as:m_ (Str×Ch)}{N:Net}(dom:∀a,M a->∃o,H a=P3 o)(s:Stp H d as (λp=>(Dk N.ts p).map kv) H')(hp:as.map (·.1)=N.ps)(f:Ch->Obj):At K M (Ew H' (as.map (·.2)) f) (EN N)^.ref d:=by
 have nd:∀b,H b=j_->¬M b:=λb e m=>by let#[o,h]:=dom b m; rw[h]at e; cases e
 have zip1:∀as:m_ (Str×Ch),(as.map λx=>((.inr x.1:Key),V.ref x.2))=((as.map (·.1)).map (.inr:Str->Key)).zip (as.map λx=>V.ref x.2):=λas=>by
  grind
 refine#[d,as.map λx=>.ref x.2,rfl,#[nd d s.new,by rw[C4 (λhm=>by let#[x,hx,e]:=Sc.mp hm; exact(s.inn x hx).2.1 e),s.top,zip1,hp]],by rw[FM,FM],?_];rw[←hp]
 have go:∀bs:m_ (Str×Ch),(∀x∈bs,x∈as)->Ats K M (Ew H' (as.map (·.2)) f) ((bs.map (·.1)).map^S0 N.ts) (bs.map λx=>V.ref x.2):=λbs=>by
  induction bs with
  |nil=>intro _; rfl
  | cons x r ih=>
   intro hx;refine#[.ref x.2,r.map λx=>V.ref x.2,rfl,?_,ih λy hy=>hx y^TW _ hy];let#[g1,g2,g3]:=s.inn x^hx x Op
   have zip2:∀xs:m_ (Str×Int),xs.map kv=(xs.map λx=>(.inr x.1:Key)).zip (xs.map λx=>V.int x.2):=λxs=>by
    induction xs with
    |nil=>rfl
    |cons x r ih=>rw[dL,ih]; rfl
   refine#[x.2,(Dk N.ts x.1).map λx=>V.int x.2,rfl,#[f x.2,nd _ g1,by rw[HI (Sc.mpr #[x,hx x Op,rfl]) g3,zip2]],by rw[FM,FM],?_];generalize Dk N.ts x.1=xs
   induction xs with
   |nil=>rfl
   |cons x r ih=>exact#[.int x.2,_,rfl,rfl,ih]
 exact go as λ_ h=>h
end Nt
namespace L2
open PySem.W
section
variable {X:Cx}{zG:m_ (Addr×Obj)}{σ:L2.St}{H:Hp}{s:Shared}{h':Heap}
theorem Inv.adopt2{D e:Ch}{o:HO}(I:Inv X zG σ H s)(m:QP X zG D)(hn:H D=j_)(m2:QP X zG e)(hn2:H e=j_)(hne:D≠e)(k:∀b u,b≠D->b≠e->s.heap.get? b=P3 u->h'.get? b=P3 u)(new:ObjOk X.prog X.w (Ah H D o) h' D o):Inv X zG σ (Ah H D o) {s with heap:=h'}:=by
 have nin:∀b,b∉[D,e]->b≠D/\b≠e:=λb hc=>#[λz=>hc (by rw[z]; exact Op),λz=>hc^by rw[z]; exact TW _ (On.mpr rfl)]
 refine I.step (g':=s.gens) (d':=s.drawn) (t':=s.toks) (ch:=[D,e]) (λb hb=>?_) (λb u _ _ hc q _=>k b u (nin b hc).1 (nin b hc).2 q) (λb u _ _ hc q _=>#[u.slots,k b u (nin b hc).1 (nin b hc).2 q]) (λb u hc q n=>?_)
  (λb u hc q=>#[u,k b u (nin b hc).1 (nin b hc).2 q]) (λb xs q=>?_) (λb u v q=>?_) (λb ps q=>#[#[],?_]) (λmm hm=>?_) (λb u q=>?_) I.bare
 .rcases Tk.mp hb with rfl|hb
  .exact#[.inr m.new,m.loc,m.cell,m.pin]
  .rw[On.mp hb]
   exact#[.inr m2.new,m2.loc,m2.cell,m2.pin]
 .rw[AI (nin b hc).1]; exact n
 .rw[AI^AU q hn]; exact q
 .rw[AI^AU q hn]; exact q
 .rw[AI^AU q hn,q]; simp
 .let#[u,es,ep,ho,r]:=hm
  exact#[u,es,ep,k _ u (dH m.loc) (dH m2.loc) ho,r]
 .by_cases hb:b=D
  .subst hb; rw[AM]at q; cases q; exact new
  .rw[AI hb]at q
   refine(I.hok b u q).stay (λc v hc q2=>k c v ?_ ?_ q2) (λc q2=>by rw[AI^AU q2 hn]; exact q2) λc xs q2=>by rw[AI^AU q2 hn]; exact q2
   .grind
   grind
def Vy(K:Frag)(sp:Sp)(te:TE):TE:=λσ H Q=>te σ H λx H1=>∃(κ:Bool) (l:Ch) (vs:m_ V) (keys:m_^m_ Key) (J:m_ V->Hp->Prop),x=.ref l/\SqK κ K H1 l vs/\vs.length<64/\J [] H1 /\
 (∀ks H2 v,J ks H2->vs[ks.length]?=P3 v->sp [v] H2 (λk H3=>J (ks++[k]) H3) E0) /\
 ∀ks H2,J ks H2->ks.length=vs.length->KeysAt K H2 ks keys/\∀(ix:m_ Nat) (l:Ch),KJ keys ix->H2 l=j_->Q (.ref l)^Ah H2 l^.lst^ix.map λi=>vs.getD i .non
theorem RM{k:Nat}{f:Ch}{fd:dR}{pn fn:Str}{sp:Sp}{te:TE}{e:cr}{p fp kp pos:Pos}(F:FnOk X.prog X.w X.K X.mg X.base E6 k f fd [pn] sp)(hr:Room (k+2) X.A)(hg:Gl X "sorted")(hm:X.mg "sorted"=j_)
  (hgf:Gl X fn) (hmf:X.mg fn=P3^.ref f) (hb:Binds X.K fd [pn] []) (he:PE X e te) (hs:starEach [e] X.env=[(l_,eval e X.env)]:=by rfl) (hdf:(fn==("__debug__":Str))=l_:=by decide):
  PE X (.Call (.Name "sorted" p) [e] [#[P3 "key",.Name fn fp,kp]] pos) (Vy X.K sp te):=by
 intro zG s σ H Q I h;refine eN^D4 I hg hm gG ?_
 refine callWith_kw (A5 (BK he Cj hs pos zG s σ H (λvs H1=>∃x,vs=[x]/\∃(κ:Bool) (l:Ch) (vs:m_ V) (keys:m_^m_ Key) (J:m_ V->Hp->Prop),x=.ref l/\SqK κ X.K H1 l vs/\vs.length<64/\J [] H1 /\
   (∀ks H2 v,J ks H2->vs[ks.length]?=P3 v->sp [v] H2 (λk H3=>J (ks++[k]) H3) E0) /\
   ∀ks H2,J ks H2->ks.length=vs.length->KeysAt X.K H2 ks keys/\∀(ix:m_ Nat) (l:Ch),KJ keys ix->H2 l=j_->Q (.ref l)^Ah H2 l^.lst^ix.map λi=>vs.getD i .non) I ?first) λus s1 #[xs,H1,I1,r1,q1]=>kws_cons^Em I1 hgf hmf (kws_nil ?_) hdf) (by rw[hs]; rfl)^by rw[hs]; rfl
 case first=>
  show te σ H _;refine cast (congrArg (te σ H) ?_) h
  funext x H1
  refine propext #[λz=>#[x,rfl,z],fun#[y,e,z]=>?_];cases e;exact z
 let#[x,rfl,κ,l,vs,keys,J,rfl,hq,h64,j0,jstep,jend]:=q1;let#[u,rfl,ru]:=vals1 r1;cases ru;show wpAny (model X.prog X.w) X.A (call (.builtin "sorted") [.ref l] [(eJ "key",.ref f)]) _ _ s1;refine Dt (ksk_s1 _ _) (λx=>ksk_l1 _ _)^Ij I1 hq λus s2 r2 hz I2=>#[by rw[←r2.length]; exact hz,?_];rw[ksk_t1];have hl:=r2.length;generalize hD:s2.heap.objs.size=D;have hsz3:(s2.heap.push^seqObj "list" us.toArray 0).objs.size=D+1:=by rw[iP,hD]
 have hoD:(s2.heap.push^seqObj "list" us.toArray 0).get? D=P3^seqObj "list" us.toArray 0:=by rw[←hD]; exact Re _ rfl
 have mD:QP X zG D:=I2.mine (by rw[hD]; exact Rs _);have mK:QP X zG (D+2):=I2.mine (by rw[hD]; exact Nat.le_add_right _ _);have nD:H1 D=j_:=I2.hok.fresh (by rw[hD]; exact Rs _);have nK:H1 (D+2)=j_:=I2.hok.fresh (by rw[hD]; exact Nat.le_add_right _ _);have hne:D≠D+2:=cb^eF^fM D;have nstk:∀b,QP X zG b->b∉Js X.stack:=λb m z=>(Tk.mp^I2.stkSub b z).elim m.loc m.fs
 refine Pt (s:={s2 with heap:=s2.heap.push^seqObj "list" us.toArray 0}) (n:=0) hoD (by rw[←hl]; exact h64)
  (λks s'=>∃kV H',Vals kV ks/\J kV H'/\Inv X zG σ H' s'/\H' D=j_/\H' (D+2)=j_/\s'.heap.get? D=(DL (s2.heap.push^seqObj "list" us.toArray 0) D us).get? D) (D+2) (by show D+2=(s2.heap.push _).objs.size+1; rw[hsz3]) (λe1 he1=>?_) (λks s' e v hJ hk hv=>?_) λe1 he1 ks s' hJ hkl=>?_
 .refine#[[],H1,.nil,j0,?_,nD,nK,rfl]
  exact I2.kept (t':=s2.toks) λb o q=>GH (by rw[←hD]; exact cb^TM q)^Ev _ q
 .let#[kV,H',rk,hJ,I',n1,n2,hD']:=hJ
  have hi:ks.length<us.length:=(Uf.mp hv).1;have hvi:vs[kV.length]?=P3 (vs[kV.length]'(by rw[rk.length]; omega)):=No _;let#[u',e2,ru]:=r2.get hvi;rw[rk.length,hv]at e2;cases e2;have hsp:=jstep kV H' _ hJ hvi;have E1:Env0 X.prog X.w X.K X.mg X.base X.A.in1.in1 X.stack s' H':=I'.env0.in1.in1;refine gO^fo (F.run X.A.in1.in1 X.stack s' H' #[[v],[]] [v] _ _ E0 (hr.in1).in1 E1 (by simpa using hb s' [v] I'.kIn rfl) (.cons ru .nil) hsp) λr s'' hq'=>?_;cases r with
  |error e=>exact dQ hq'
  | ok fl=>
   cases fl with
   |next=>exact dQ hq'
   |brk=>exact dQ hq'
   |cont=>exact dQ hq'
   | ret u=>
    let#[w',H3,os,bare,un,hok,rw',q3]:=id hq'
    obtain⟨oD,eD⟩:∃o,s'.heap.get? D=P3 o:=by
     let#[c,hc,_]:=Hl hoD;exact#[_,hD'.trans hc]
    have kD:s''.heap.get? D=P3 oD:=un.keep D oD eD n1 (nstk D mD) (by simp);have kK:s''.heap.get? (D+2)=P3^seqObj "list" ks.toArray e:=un.keep _ _ hk n2 (nstk _ mK) (by simp);have f1:H3 D=j_:=un.free D oD eD n1 (by simp);have f2:H3 (D+2)=j_:=un.free _ _ hk n2 (by simp);have I3:Inv X zG σ H3 s'':=I'.call' os un hok bare (λb z=>absurd z^by simp);refine#[kK,kV++[w'],H3,rk.append^.cons rw' .nil,q3,?_,f1,f2,?_]
    .exact I3.turned (t':=s''.toks) (λb o hb q=>(ZB _ _^dH hb).trans q) f2 mK.loc (.inr mK.new) mK.cell mK.pin
    .show(s''.heap.update (D+2) _).get? D=_
     rw[ZB _ _^dH hne,kD,←eD,hD']
 .let#[kV,H',rk,hJ,I',n1,n2,hD']:=hJ
  let#[hka,q]:=jend kV H' hJ (by rw[rk.length,hkl,hl]);have hkk:keys.length=us.length:=by rw[←hka.len,rk.length,hkl]
  refine#[hD'.trans he1,λp=>p.Perm^c8^dA us.length/\So.Srt PV (λi=>keys.getD i []) p us.length,λh2=>?_,λh1=>#[jK _,λi j hij hj=>?_],λp h' c hp hg hold hDn _=>#[rfl,?_]]
  .have ts:=JX (prog:=X.prog) (w:=X.w) (A:=X.A.in1.in1) (keys:=keys) (hka.tups I' rk λb o e=>e) (by lk) (G:=λp s''=>s''=s'/\p.Perm^c8^dA us.length/\So.Srt PV (λi=>keys.getD i []) p us.length) λp a b=>#[rfl,by rw[←hkl]; exact a,by rw[←hkl]; exact b]
   rw[hkl]at ts;exact ts
  .have:i=j:=by lk
   subst this;exact eX _
  .have hix:(p.toList.map λi=>vs.getD i .non).length=us.length:=by rw[FM,eU,hp]
   refine#[.ref D,Ah H' D^.lst^p.toList.map λi=>vs.getD i .non,I'.adopt2 mD n1 mK n2 hne hold #[by rw[hix,←hl,dg]; omega,_,c,Hd (GG r2) p.toList,hDn],rfl,q _ _ (RT hkk hg.1 hg.2) n1]
theorem Hz{α β:Type}{F:α->β->Prop}:∀{l₁:m_ α}{l₂:m_ β}{j:Nat}{a:α}{b:β},Paired F l₁ l₂->l₁[j]?=P3 a->l₂[j]?=P3 b->F a b
 |_,_,_,_,_,.nil,h,_=>by simp at h
 |_,_,0,_,_,.cons r t,h1,h2=>by
  grind
 |_,_,j+1,_,_,.cons r t,h1,h2=>Hz (j:=j) t (by simp_all)^by simp_all
end
end L2
namespace Dp
open L2
section
variable {K:Frag}
def VM(ds:m_ D)(P:D->Prop):Prop:=match ds with
 |[.int i,.int j]=>P^.int (if j<i then j else i)
 |_=>False
def Zb(ds:m_ D)(P:D->Prop):Prop:=match ds with
 |[.int i]=>P^.int (if i<0 then -i else i)
 |_=>False
theorem XZ:Cf K .sh (λxs H Q=>∃i j,xs=[.int i,.int j]/\Q (.int (if j<i then j else i)) H) VM:=by
 intro U M H ds vs P Q dom vM hp w q;unfold VM at w
 split at w
 .rename_i i j
  cases hp with
  | cons r1 r2=>cases r2 with
   |cons r3 r4=>
    cases r4;cases r1.int;cases r3.int;exact#[i,j,rfl,q _ H (.int _) .refl rfl w]
 grind
theorem Zt:Cf K .sh (λxs H Q=>∃i,xs=[.int i]/\Q (.int (if i<0 then -i else i)) H) Zb:=by
 intro U M H ds vs P Q dom vM hp w q;unfold Zb at w
 split at w
 .rename_i i
  cases hp with
  |cons r1 r2=>
   cases r2;cases r1.int;exact#[i,rfl,q _ H (.int _) .refl rfl w]
 grind
end
def CT:D->n_^m_ Key
 |.tup xs=>Jn xs
 |_=>j_
def GA(kf:D->n_^m_ Key)(xs:m_ D):Prop:=xs.Pairwise λa b=>∀ka kb,kf a=P3 ka->kf b=P3 kb->Ag kb ka=l_
def Keyed(kf:D->n_^m_ Key)(xs:m_ D):Prop:=(∀x∈xs,∃k,kf x=P3 k/\k≠[])/\∀x∈xs,∀y∈xs,∀ka kb,kf x=P3 ka->kf y=P3 kb->CF ka kb=k_
theorem range_getD(xs:m_ D):(dA xs.length).map (λi=>xs.getD i .non)=xs:=by
 apply List.ext_getElem
 .simp
 simp_all
theorem OP{kf:D->n_^m_ Key}{xs:m_ D}{keys:m_^m_ Key}{ix:m_ Nat}(hl:keys.length=xs.length)(hk:∀(i:Nat) (x:D),xs[i]?=P3 x->∃k,keys[i]?=P3 k/\kf x=P3 k)(h:KJ keys ix):
  (ix.map λi=>xs.getD i .non).Perm xs/\GA kf (ix.map λi=>xs.getD i .non):=by
 let#[hp,hs]:=h;constructor
 .have:=hp.map λi=>xs.getD i D.non
  rw[hl,range_getD]at this;exact this
 .unfold GA
  rw[i6];intro i j hi hj hij ka kb ea eb;rw[List.getElem_map]at ea eb;rw[FM]at hi hj;have il:ix.length=keys.length:=by rw[hp.length_eq,fJ]
  have g:∀i (h:i<ix.length) k,kf (xs.getD ix[i] .non)=P3 k->keys.getD (ix.getD i 0) []=k:=λi h k e=>by
   have hm:ix[i]<keys.length:=d8.mp^hp.mem_iff.mp^dY h;have hx:ix[i]<xs.length:=by rw[←hl]; exact hm
   let#[k',e1,e2]:=hk ix[i] xs[ix[i]] (No hx);have e3:xs.getD ix[i] .non=xs[ix[i]]:=by rw[dU,No hx]; rfl
   rw[e3,e2]at e;have e4:ix.getD i 0=ix[i]:=by rw[dU,No h]; rfl
   rw[e4,dU,e1];exact XV e
  have:=hs i j (jA hij)^by rw[←il]; exact hj
  rw[g i hi ka ea,g j hj kb eb]at this;exact this
theorem Eo{kf:D->n_^m_ Key}:∀{xs:m_ D},(∀x∈xs,∃k,kf x=P3 k/\k≠[])->∃keys:m_^m_ Key,keys.length=xs.length/\(∀(i:Nat) (x:D),xs[i]?=P3 x->∃k,keys[i]?=P3 k/\kf x=P3 k/\k≠[])
 |[],_=>#[[],rfl,λi x e=>by simp at e]
 | x::xs,h=>by
  let#[k,e1,e2]:=h x Op;let#[keys,l,g]:=Eo (xs:=xs) λy hy=>h y^TW _ hy;refine#[k::keys,by simp_all,λi y e=>?_];cases i with
  |zero=>
   simp_all
  |succ i=>
   simp_all
section
variable {K:Frag}{M:Addr->Prop}{H:Hp}
theorem Ats.getD:∀{ds:m_ D}{vs:m_ V},Ats K M H ds vs->∀i:Nat,At K M H (ds.getD i .non)^vs.getD i .non
 |[],vs,h,i=>by cases(h); simp[At]
 |d::ds,vs,h,0=>by
  let#[v,r,e,h1,h2]:=h
  grind
 |d::ds,vs,h,i+1=>by
  let#[v,r,e,h1,h2]:=h;subst e
  simpa using Ats.getD h2 i
theorem Ats.pick{ds:m_ D}{vs:m_ V}(h:Ats K M H ds vs):∀ix:m_ Nat,Ats K M H (ix.map λi=>ds.getD i .non)^ix.map λi=>vs.getD i .non
 |[]=>rfl
 |i::ix=>#[_,_,rfl,h.getD i,Ats.pick h ix]
theorem GS{kf:D->n_^m_ Key}{ds:m_ D}{vs:m_ V}{keys:m_^m_ Key}(hkf:∀d k v,d∈ds->kf d=P3 k->At K M H d v->∃a,v=.ref a/\SqT K H a^k.map kOf)(hs:Ats K M H ds vs)(hK:Keyed kf ds)(hl:keys.length=ds.length)(hk:∀(i:Nat) (x:D),ds[i]?=P3 x->∃k,keys[i]?=P3 k/\kf x=P3 k/\k≠[]):KeysAt K H vs keys:=by
 have from_:∀(i:Nat) (ns:m_ Key),keys[i]?=P3 ns->∃x,ds[i]?=P3 x/\kf x=P3 ns/\ns≠[]:=λi ns e=>by
  have hi:i<ds.length:=by rw[←hl]; exact(Uf.mp e).1
  let#[k,e1,e2,e3]:=hk i ds[i] (No hi);rw[e]at e1;cases e1;exact#[ds[i],No hi,e2,e3]
 refine#[hs.length.trans hl.symm,λi ns e=>?_,λx hx y hy=>?_,λx hx=>?_]
 .let#[d,e1,e2,_]:=from_ i ns e
  let#[v,e3,h3]:=hs.get e1;let#[a,rfl,h4]:=hkf d ns v (gP e1) e2 h3;exact#[a,e3,h4]
 .let#[i,hi]:=fY.mp hx
  let#[j,hj]:=fY.mp hy;let#[d,e1,e2,_]:=from_ i x hi;let#[d',e1',e2',_]:=from_ j y hj;exact hK.2 d (gP e1) d' (gP e1') x y e2 e2'
 .let#[i,hi]:=fY.mp hx
  let#[d,e1,e2,e3]:=from_ i x hi;exact e3
theorem GU{d:D}{k:m_ Key}{v:V}(e:CT d=P3 k)(h:At K M H d v):∃a,v=.ref a/\SqT K H a^k.map kOf:=by
 cases d with
 |tup xs=>
  let#[a,vs,e1,hn,hs]:=h
  have:=Fw (e) hs
  subst this;exact#[a,e1,hn.sq]
 |_=>cases e
def R8(ds:m_ D)(P:D->Prop):Prop:=∃d xs,ds=[d]/\G3 d=P3 xs/\xs.length<64/\Keyed CT xs/\∀xs':m_ D,xs'.Perm xs->GA CT xs'->P^.lst xs'
theorem LQ:Cf K .fr (Q5 K) R8:=by
 intro U M H ds vs P Q dom vM hp w q;let#[d,xs,rfl,e,h64,hK,w]:=w;let#[v,rfl,hx]:=Dh hp;let#[κ,a,us,rfl,hs,sq]:=KZ hx e (λ_ z=>z) vM;let#[keys,hl,hk]:=Eo hK.1;refine#[κ,a,us,_,rfl,sq M H (Pres.refl _ _)^Ext.refl _ _,by rw[hs.length]; exact h64,GS (λd k v _=>GU) hs hK hl hk,λix l ho hn=>?_];let#[o1,o2]:=OP (kf:=CT) hl (λi x e=>by let#[k,a,b,_]:=hk i x e; simp_all) ho;exact q _ _ _ (Ad hn) (C6 hn^hs.pick ix)^w _ o1 o2
end
section
variable {X:Cx}{a e:Expr}{zT:Kd}{wa:DW}{pos p fp kp:Pos}
def Vl(W:W2)(wa:DW):DW:=λn ρ P=>wa n ρ λd n1=>∃(xs:m_ D) (rk:D->D),G3 d=P3 xs/\xs.length<64/\(∀x∈xs,∀Pd:D->Sg->Prop,Pd (rk x) n1->W [.sh x] n1 Pd)/\Keyed (λx=>CT^rk x) xs /\
 ∀xs':m_ D,xs'.Perm xs->GA (λx=>CT^rk x) xs'->P (.lst xs') n1
theorem SM{k:Nat}{fn pn:Str}{W:W2}(G:Got X.prog X.w X.K X.mg X.base fn k [pn] .sh W)(hr:Room (k+2) X.A)(hg:Gl X "sorted")(hm:X.mg "sorted"=j_)(hgf:Gl X fn)(he:DE X e zT wa)
  (hs:starEach [e] X.env=[(l_,eval e X.env)]:=by rfl) (hdf:(fn==("__debug__":Str))=l_:=by decide):DE X (.Call (.Name "sorted" p) [e] [#[P3 "key",.Name fn fp,kp]] pos) .fr^Vl W wa:=by
 let#[f,fd,F,hmf,hkf,hb,hW]:=G;let#[t,h1,h2]:=he;refine#[_,RM F hr hg hm hgf hmf hb h1 hs hdf,λC M H n ρ σ P Q R w q=>?_];refine h2 C M H n ρ σ _ _ R w λv H1 d n1 e1 f1 r1 p=>?_;let#[xs,rk,hd,h64,hw,hK,w]:=p;have R1:=R.step e1 f1;let#[κ,l,us,rfl,hs,sq]:=KZ (U:=C.U) (r1.tpOf R.dom R.vM) hd R.uV R1.vM;let#[keys,hl,hk]:=Eo hK.1;have hlen:=hs.length;refine#[κ,l,us,keys,λks H2=>Ext C.U H1 H2/\FeedC X.K C.F M H2 n1/\ks.length<=xs.length/\∀(i:Nat) (k:V),ks[i]?=P3 k->∃x,xs[i]?=P3 x/\At X.K M H2 (rk x) k,rfl,sq M H1 (Pres.refl _ _)^Ext.refl _ _,by rw[hlen]; exact h64,#[Ext.refl _ _,f1,cq _,λi k z=>absurd (show(j_:n_ V)=P3 k from z) λh=>nomatch h],λks H2 v hJ hv=>?_,λks H2 hJ hkl=>?_]
 .let#[ex,fd2,hle,hat]:=hJ
  have R2':=R1.step ex fd2;have hi:ks.length<xs.length:=by rw[←hlen]; exact(Uf.mp hv).1
  have hxi:xs[ks.length]?=P3 xs[ks.length]:=No hi;let#[v',e2,hA]:=(hs.pres^R1.pres ex).get hxi;rw[hv]at e2;cases e2;refine#[rfl,C.F,C.U,C.V,M,n1,[.sh xs[ks.length]],λd n=>d=rk xs[ks.length]/\n=n1,#[R2'.dom,R2'.fU,R2'.uV,R2'.vM,fd2,.cons #[#[v,rfl,hA],rfl] .nil],hw _ (dY hi) _ #[rfl,rfl],λr H3 d n' ex3 f3 vr hd=>?_];let#[rfl,rfl]:=hd;refine#[ex.trans ex3,f3,by rw[cZ,c7]; omega,λi k hik=>?_]
  by_cases hlt:i<ks.length
  .rw[fi hlt]at hik
   let#[x,h3,h4]:=hat i k hik;exact#[x,h3,h4.pres^R2'.pres ex3]
  .rw[eP^by lk]at hik
   have hi0:i=ks.length:=by
    have:=(Uf.mp hik).1
    rw[c7]at this;lk
   subst hi0;rw[Nat.sub_self]at hik;cases(show P3 r=P3 k from hik);exact#[_,hxi,vr]
 .let#[ex,fd2,hle,hat]:=hJ
  have R2':=R1.step ex fd2;have hkx:ks.length=xs.length:=by rw[hkl,hlen]
  have hs2:Ats X.K M H2 (xs.map rk) ks:=by
   have go:∀(xs:m_ D) (ks:m_ V),ks.length=xs.length->(∀(i:Nat) (k:V),ks[i]?=P3 k->∃x,xs[i]?=P3 x/\At X.K M H2 (rk x) k)->Ats X.K M H2 (xs.map rk) ks:=by
    intro xs
    induction xs with
    |nil=>intro ks h _; exact g8.mp h
    | cons x xs ih=>
     intro ks h hh;cases ks with
     |nil=>cases h
     | cons k ks=>
      let#[x',e3,h3]:=hh 0 k rfl;cases(show P3 x=P3 x' from e3)
      exact#[k,ks,rfl,h3,ih ks (by simpa using h) λi k' e4=>by
       let#[y,e5,h5]:=hh (i+1) k' (by simpa using e4);exact#[y,by simpa using e5,h5]]
   exact go xs ks hkx hat
  have hK2:Keyed CT^xs.map rk:=by
   refine#[λy hy=>?_,λy hy z hz ka kb ea eb=>?_]
   .let#[x,hx,rfl]:=Sc.mp hy
    exact hK.1 x hx
   .let#[x,hx,rfl]:=Sc.mp hy
    let#[x',hx',rfl]:=Sc.mp hz;exact hK.2 x hx x' hx' ka kb ea eb
  refine#[GS (λd k v _=>GU) hs2 hK2 (by rw[hl,FM]) λi x e=>?_,λix l ho hn=>?_]
  .rw[cX]at e
   let#[x',hx',rfl]:=dJ.mp e;exact hk i x' hx'
  .let#[o1,o2]:=OP (kf:=λx=>CT^rk x) hl (λi x e=>by let#[k,a,b,_]:=hk i x e; exact#[k,a,b]) ho
   have g:Grow H2 (Ah H2 l^.lst^ix.map λi=>us.getD i .non):=Ad hn;refine q _ _ (.lst^ix.map λi=>xs.getD i .non) n1 ((e1.trans ex).trans g.ext) (fd2.grow g) (VR.back (e1.trans ex) ?_)^w _ o1 o2;exact C6 hn^(hs.pres^R1.pres ex).pick ix
def S2:Key->D
 |.inl i=>.int i
 |.inr x=>.str x
def K4:Key->Prop
 |.inl _=>True
 |.inr x=>x.length<=sizeLine
theorem SS{K:Frag}{M:Ch->Prop}{H:Hp}{k:Key}(h:K4 k):At K M H (S2 k)^kOf k:=by
 cases k with
 |inl i=>exact rfl
 |inr x=>exact#[rfl,h]
end
end Dp
namespace L2
section
open PySem.MeetsSeq
open PySem.AutoSeq1 (wpAny_loadPart')
theorem Q0(l:Ch)(items:Array Cn)(n:Nat)(x:Cn)(e:Cn->Bool)(j:Nat)(hj:j<items.size)(hit:e items[j]=k_)(hs1:items.size<=sizeLine)(prog:cm)(w:cy)(A:c_)(R:Result->Go->Prop)(hp:cf)(g:Array GenState)(d:Drawn)(tk:Nat)(os:_)
  (hl:hp.get? l=P3 {cls:=.type "list",dict:=j_,data:=.seq items n,slots:=#[]}) (he:∀y,y∈items->PySem.SeqAt.EqAt A.in1 #[hp,g,d,tk,os] y x^e y) (h:R (.ok^.ret .none) #[hp.update l^dW λxs=>xs.eraseIdxIfInBounds j,g,d,tk,os]):
  ∀k i:Nat,j - i=k->i<=j->(∀m (hm:m<items.size),i<=m->m<j->e items[m]=l_)->
   wpAny (model prog w) A.in1 (f8.«list.remove.loop» #[[.ref l,x,rawInt i],[]]) (λfin s'=>match fin with|.done f=>R (.ok f) s'|.again c'=>c'.quiet=k_/\codeAny (model prog w) A c' R s') (λe s'=>R (.error e) s') #[hp,g,d,tk,os]:=by
 intro k
 induction k with
 |zero=>
  intro i hk hij hno;have hij':i=j:=by lk
  subst hij'
  wp_walk using d9 hl
  have hi:items[((i:Nat):Int).toNat]?=P3 items[i]:=by simp[hj]
  rw[hi];refine Db^he _ (iy hj) prog w _ _ ?_;rw[hit];have hz':(items.eraseIdxIfInBounds i).size<=sizeLine+1:=c5 (size_erased items _)^hV hs1
  wp_walk using (gC hl rfl (hz:=hs1) (_hz':=hz')),d9 hl
  simpa using h
 | succ k ih=>
  intro i hk hij hno;have hlt:i<items.size:=by lk
  wp_walk using d9 hl
  have hi:items[((i:Nat):Int).toNat]?=P3 items[i]:=by simp[hlt]
  have hc:((i:Int)+1)=((i+1:Nat):Int):=by push_cast; rfl
  rw[hi];refine Db^he _ (iy hlt) prog w _ _ ?_;rw[hno i hlt (Rs _)^by lk]
  wp_walk
  rw[hc]
  exact#[e_ plain_remove_loop _,eY entry_remove_loop (by
   rw[fG plain_remove_loop _];exact ih (i+1) (by lk) (by lk) λm hm h1 h2=>hno m hm (by lk) h2)]
theorem Q1{prog:cm}{w:cy}{A:c_}{E:Cn->Go->Prop}{s:Go}{Q:Cn->Go->Prop}(l:Ch)(items:Array Cn)(n:Nat)(x:Cn)(e:Cn->Bool)(j:Nat)(hj:j<items.size)(hit:e items[j]=k_)(hno:∀m (hm:m<items.size),m<j->e items[m]=l_)
  (hs1:items.size<=sizeLine) (hl:s.heap.get? l=P3 {cls:=.type "list",dict:=j_,data:=.seq items n,slots:=#[]}) (he:∀y,y∈items->PySem.SeqAt.EqAt A.in1 s y x^e y)
  (h:Q .none {s with heap:=s.heap.update l^dW λxs=>xs.eraseIdxIfInBounds j}):wpAny (model prog w) A (call (.builtin "list.remove") [.ref l,x]) Q E s:=by
 have key:wpAny (model prog w) A.in1 (f8.«list.remove» #[[.ref l,x],[]]) (λfin s'=>match fin with|.done f=>wants Q E (.ok f) s'|.again c'=>c'.quiet=k_/\codeAny (model prog w) A c' (wants Q E) s') (λe s'=>wants Q E (.error e) s') s:=by
  let#[hp,g,d,tk,os]:=s
  wp_walk using d9 hl
  exact#[e_ plain_remove_loop _,eY entry_remove_loop (Q0 l _ n x e j hj hit hs1 _ w A _ hp g d tk os hl he h _ 0 rfl (cq _) (λm hm _ h2=>hno m hm h2))]
 exact gO^iJ PySem.F.slot_list_remove.plain PySem.F.entry_list_remove^PySem.F.slot_list_remove.check _ _ _ _ _ _ _ _ #[_,hl,rfl] (PySem.F.args_list_remove_2 _ _) key
end
section
variable {X:Cx}
def OB:V->m_ V->Hp->VK->Prop:=λx vs H Q=>∃(l:Ch) (xs:m_ V) (y:V) (ds:m_ gA) (d:gA) (j:Nat),x=.ref l/\vs=[y]/\H l=P3^.lst xs/\RVs H ds xs/\RV H d y/\fH ds=k_/\d.canLay0=k_/\d.depth<=100 /\
 (∃dj,ds[j]?=P3 dj/\fP dj d=k_)/\(∀m dm,m<j->ds[m]?=P3 dm->fP dm d=l_)/\Q .non^Ah H l^.lst^xs.eraseIdx j
theorem Pn{k:Nat}(hr:Room k X.A):Xx X "list.remove" OB:=by
 intro zG s σ H x vs v us Q I rx rv h;let#[l,xs,y,ds,d,j,rfl,rfl,hH,hds,hd,c1,c2,dd,#[dj,hj,hit],hno,q]:=h;cases rx;let#[u,rfl,ru]:=rv.one;let#[z,its,n,r,hl,e]:=I.lstM hH;let#[as,ra]:=RVs.reads I hds r;let#[bs,rb]:=RV.reads I hd ru;have hm:=PySem.SeqAt.readsAll_map ds its as c1 ra;have hlen:ds.length=its.length:=by rw[←hm,FM]
 have hu:=hr.un;have hmin:min (eW ds) d.depth<=d.depth:=h8 _ _
 have at_:∀m dm,ds[m]?=P3 dm->∀(h:m<its.toArray.size),PySem.SeqAt.readOf s.heap its.toArray[m]=dm:=λm dm e h=>by
  rw[←hm,cX]at e;have h':m<its.length:=by simpa using h
  rw[No h']at e;have e:=XV e
  simpa using e
 have hjl:j<its.length:=by rw[←hlen]; exact(Uf.mp hj).1
 refine Q1 l its.toArray n u (λy=>fP (PySem.SeqAt.readOf s.heap y) d) j (by rw[cY]; exact hjl) (by rw[at_ j dj hj]; exact hit) (λm hm' hlt=>?_) (by rw[cY]; omega) e (PySem.SeqAt.items_eqAt (vs:=its.toArray) (by rw[List.toList_toArray]; exact ra) rb c1 c2^by lk) ?_
 .have hml:m<ds.length:=by rw[hlen]; simpa using hm'
  rw[at_ m ds[m] (No hml) hm'];exact hno m ds[m] hlt (No hml)
 .refine#[.non,_,I.lset (t':=s.toks) (its':=its.eraseIdx j) hH e ?_ (r.eraseIdx j) ?_,rfl,q]
  .show its.toArray.eraseIdxIfInBounds j=(its.eraseIdx j).toArray
   rw[List.eraseIdxIfInBounds_toArray]
  .have:=Jm xs j
   lk
end
end L2
namespace Dp
open L2
def bP(d:D)(ds:m_ D)(P:D->D->Prop):Prop:=∃(xs:m_ D) (y:D) (j:Nat),d=.lst xs/\ds=[y]/\CS^.lst xs/\CS y/\(∃x,xs[j]?=P3 x/\De x y=k_)/\(∀m x,m<j->xs[m]?=P3 x->De x y=l_)/\P (.lst^xs.eraseIdx j) .non
theorem Zo{K:Frag}:Xw K OB bP:=by
 intro M H a d ds vs P Q m t hv w q;let#[xs,y,j,rfl,rfl,#[n1,l1,_],#[n2,l2,d2],#[x,hx,hit],hno,w]:=w;let#[us,h1,h2]:=t;let#[u,r,rfl,hu,hr]:=hv;cases(show r=[]from hr)
 have get:∀(m:Nat) (p:gA),(Bg xs)[m]?=P3 p->∃x,xs[m]?=P3 x/\p=toPy x:=λm p e=>by
  rw[Cu,cX]at e;let#[x,e1,rfl]:=dJ.mp e
  grind
 refine#[a,us,u,Bg xs,toPy y,j,rfl,rfl,h1,h2.rv n1,hu.rv n2,l1,l2,d2,#[toPy x,by rw[Cu,cX,hx]; rfl,hit],λm p hm e=>?_,q _ (.lst^xs.eraseIdx j) .non _ #[us.eraseIdx j,AM,?_] rfl w]
 .let#[x',e1,rfl]:=get m p e
  exact hno m x' hm e1
 .exact(h2.eraseIdx j).pres^Ek m h1
def Qc(c:FU)(wb:Aa):Aa:=λD2 n ρ=>∃W:Nat->Sg->m_ Slot->Prop,(∃m,W m n ρ)/\∀m n ρ,W m n ρ->
 c n ρ λb n1=>if b=k_ then ∃N:Sg->m_ Slot->Prop,(∀n' zY,N n' zY->∃m',m'<m/\W m' n' zY)/\wb {D2 with nx:=N,ct:=N,bk:=D2.nx} n1 ρ else D2.nx n1 ρ
section
variable {X:Cx}{κ:Kd}{c:Expr}{body:m_ Stmt}{wc:FU}{wb:Aa}{pos:Pos}
theorem IZ(hp:jI (model X.prog X.w) X.A X.env X.xe)(hc:DT X c wc)(hb:Mh X κ body wb):DS X κ (.While c body [] pos)^Qc wc wb:=by
 let#[tc,c1,c2]:=hc;let#[tb,b1,b2]:=hb;refine#[_,RD hp c1 b1,λC M H n ρ σ D2 E R L w=>?_];let#[W,#[m0,w0],turn]:=w;refine#[λm zZ H'=>∃M' n' zY,Rel X.K C M' H' n' zY zZ/\W m n' zY,#[m0,M,n,ρ,R,w0],?_];rintro m zZ H' ⟨M',n',zY,R',w'⟩;refine c2 C M' H' n' zY zZ _ _ R' (turn m n' zY w') λb H2 n2 e f p=>?_;have R2:=R'.step e f;cases b with
 | true=>
  rw[if_pos rfl]at p ⊢;let#[N,hN,p]:=p;refine#[λzV H3=>∃M3 n3 zP,Rel X.K C M3 H3 n3 zP zV/\N n3 zP,λzV H3 #[M3,n3,zP,R3,w3]=>?_,?_]
  .let#[m',hm,w4]:=hN n3 zP w3
   exact#[m',hm,M3,n3,zP,R3,w4]
  .exact b2 C M' H2 n2 zY zZ {D2 with nx:=N,ct:=N,bk:=D2.nx} _ R2 #[λM4 H4 n4 zR zQ R4 w4=>#[M4,n4,zR,R4,w4],L.rt,λM4 H4 n4 zR zQ R4 w4=>L.nx M4 H4 n4 zR zQ R4 w4,λM4 H4 n4 zR zQ R4 w4=>#[M4,n4,zR,R4,w4]] p
 |false=>
  rw[if_neg^by cbv]at p ⊢;exact L.nx M' H2 n2 zY zZ R2 p
theorem GF{D2:E2}{n:Sg}{ρ:m_ Slot}(I:Nat->Sg->m_ Slot->Prop)(m0:Nat)(h0:I m0 n ρ)
  (hs:∀m n ρ (N:Sg->m_ Slot->Prop),I m n ρ->(∀m' n' zY,m'<m->I m' n' zY->N n' zY)->wc n ρ λb n1=>if b=k_ then wb {D2 with nx:=N,ct:=N,bk:=D2.nx} n1 ρ else D2.nx n1 ρ)
  (mono:∀n ρ (P Q:Bool->Sg->Prop),(∀b n1,P b n1->Q b n1)->wc n ρ P->wc n ρ Q):Qc wc wb D2 n ρ:=by
 refine#[I,#[m0,h0],λm n ρ h=>?_];refine mono n ρ _ _ (λb n1 p=>?_)^hs m n ρ (λn' zY=>∃m',m'<m/\I m' n' _) h λm' n' zY hm hi=>#[m',hm,hi];cases b with
 |true=>exact#[_,λ_ _ z=>z,p]
 |false=>exact p
end
end Dp
namespace Nt
open L2 Dp
def YT(s t:Ak):Decidable (s=t):=
 if h:s.a=t.a/\s.b=t.b/\s.len=t.len then .isTrue (by let#[a,b,l]:=s; let#[a',b',l']:=t; let#[h1,h2,h3]:=h; simp only at h1 h2 h3; subst h1 h2 h3; rfl)else .isFalse λe=>h^by rw[e]; exact#[rfl,rfl,rfl]
instance:DecidableEq Ak:=YT
abbrev EF(Pd:D->Sg->Prop):E2:={nx:=λn _=>Kd.fr=.sh/\Pd .non n,rt:=Pd}
def Ab(t:Ak):m_ Key:=[.inl t.len,.inr t.a,.inr t.b]
def Bv(ts:m_ Ak):Prop:=ts.Pairwise λs t=>Ag (Ab t)^Ab s=l_
def Lu:D->D
 |.tup [x,y,z]=>.tup [z,x,y]
 |d=>d
def bE(x:Str×Int):D:=.tup [.str x.1,.int x.2]
abbrev Zx:W2:=λss n P=>∃x y z:D,ss=[.sh^.tup [x,y,z]]/\P (.tup [z,x,y]) n
def Xk:W2:=λss n P=>∃(d:D) (ts:m_ Ak),ss=[.sh d]/\G3 d=P3^ts.map AN/\ts.length<64/\∀ts':m_ Ak,ts'.Perm ts->Bv ts'->P (.lst^ts'.map AN) n
theorem Hs{s t:Ak}(h:Ab s=Ab t):s=t:=by
 let#[a,b,l]:=s;let#[a',b',l']:=t;unfold Ab at h
 grind
theorem Ej{α:Type}{R:α->α->Prop}(anti:∀a b,R a b->R b a->a=b):∀{l1 l2:m_ α},l1.Perm l2->l1.Pairwise R->l2.Pairwise R->l1=l2
 |[],l2,p,_,_=>(List.nil_perm.mp p).symm
 |a::l1,[],p,_,_=>absurd (List.perm_nil.mp p)^eO _ _
 | a::l1,b::l2,p,h1,h2=>by
  have e:a=b:=by
   rcases Tk.mp^p.mem_iff.mp Op with e|h
   .exact e
   .rcases Tk.mp^p.mem_iff.mpr^Op with e|h'
    .exact e.symm
    .exact anti a b ((dE.mp h1).1 b h')^(dE.mp h2).1 a h
  subst e;rw[Ej anti ((List.perm_cons a).mp p) (dE.mp h1).2 (dE.mp h2).2]
theorem BQ{l1 l2:m_ Ak}(p:l1.Perm l2)(h1:Bv l1)(h2:Bv l2):l1=l2:=Ej (λa b x y=>Hs^BX _ _ y x) p h1 h2
theorem Nx{α:Type}{f:α->D}{g:D->α}(hg:∀x,g^f x=x){xs:m_ D}{ts:m_ α}(h:xs.Perm^ts.map f):∃ts':m_ α,ts'.Perm ts/\xs=ts'.map f:=by
 refine#[xs.map g,?_,?_]
 .have:=h.map g
  rw[ej,show g∘f=id from funext hg,e8]at this;exact this
 .rw[ej]
  have:∀x∈xs,(f∘g) x=x:=λx hx=>by
   let#[t,_,rfl]:=Sc.mp^h.mem_iff.mp hx
   grind
  rw[gc this,List.map_id']
def JK:D->Ak
 |.tup [.str a,.str b,.int l]=>#[a,b,l]
 |_=>#["","",0]
section
theorem RS{ts:m_ Ak}(h:GA (λx=>CT^Lu x)^ts.map AN):Bv ts:=by
 unfold GA at h;rw[hX]at h;exact h.imp λ{s t} z=>z _ _ rfl rfl
theorem K0{N:Net}(ok:N.Ok){x:Str}{p:Str×Int}(h:p∈Dk N.ts x):p.1∈N.ps/\1<=p.2/\p.2<=1000000/\∃t∈N.ts,t.len=p.2/\((t.a=x/\t.b=p.1)\/(t.b=x/\t.a=p.1)):=by
 let#[t,ht,h]:=dk.mp h;let#[m1,m2,m3,m4,m5]:=ok.tin t ht
 rcases cn.mp h with h|h
 .split at h
  .rename_i e
   rw[On.mp h];exact#[m2,m4,m5,t,ht,rfl,.inl #[e,rfl]]
  .cases h
 .split at h
  .rename_i e
   rw[On.mp h];exact#[m1,m4,m5,t,ht,rfl,.inr #[e,rfl]]
  .cases h
theorem HK(s t:Ak):De (AN s)^AN t=k_↔s=t:=by
 let#[a,b,l]:=s;let#[a',b',l']:=t;show(a==a'&&(b==b'&&(l==l'&&k_)))=k_↔_
 simp_all
theorem En{xs:m_ D}(h:∀d∈xs,item d):CS^.lst xs:=by
 have d1:=dps_le.mpr λd hd=>(h d hd).2.2;exact IK (by cbv) (fines_iff.mpr λd hd=>(h d hd).1)^by show Jz xs+1<=100; omega
theorem Jv{α β:Type}(f:α->β):∀(l:m_ α) (i:Nat),(l.map f).eraseIdx i=(l.eraseIdx i).map f
 |[],i=>rfl
 |x::l,0=>rfl
 |x::l,i+1=>by
  show f x::(l.map f).eraseIdx i=f x::(l.eraseIdx i).map f;rw[Jv f l i]
theorem UD{N:Net}(ok:N.Ok){x o:Str}{s t:Ak}(hs:s∈N.ts)(ht:t∈N.ts)(e:Be s t)(h1:(s.a=x/\s.b=o)\/(s.b=x/\s.a=o))(h2:(t.a=x/\t.b=o)\/(t.b=x/\t.a=o)):False:=by
 have ls:=(ok.tin s hs).2.2.1;have lt:=(ok.tin t ht).2.2.1;have irr:∀a,¬cs a<cs a:=λa=>gz _
 rcases h1 with⟨a1,b1⟩|⟨a1,b1⟩ <;>rcases h2 with⟨a2,b2⟩|⟨a2,b2⟩ <;>rw[a1,b1]at ls <;>rw[a2,b2]at lt
 .rcases e with e|⟨_,e⟩
  .rw[a1,a2]at e; exact irr _ e
  grind
 .grind
 .exact irr _^gX ls lt
 .rcases e with e|⟨_,e⟩
  .rw[b1,b2]at e; exact irr _ e
  grind
theorem Pl{N:Net}(ok:N.Ok)(x:Str):((Dk N.ts x).map (·.1)).Nodup:=by
 have go:∀ts:m_ Ak,(∀t∈ts,t∈N.ts)->ts.Pairwise Be->((Dk ts x).map (·.1)).Nodup:=by
  intro ts
  induction ts with
  |nil=>intro _ _; exact di
  | cons t ts ih=>
   intro hin hp;have i1:=ih (λs hs=>hin s^TW _ hs) (dE.mp hp).2;have lt:=(ok.tin t^hin t Op).2.2.1
   have new:∀y,((t.a=x/\t.b=y)\/(t.b=x/\t.a=y))->y∉(Dk ts x).map (·.1):=λy hy hm=>by
    let#[s,hs,h]:=Kz hm;exact UD ok (hin t Op) (hin s^TW _ hs) ((dE.mp hp).1 s hs) hy h
   have e:Dk (t::ts) x=((if t.a=x then [(t.b,t.len)]else [])++(if t.b=x then [(t.a,t.len)]else []))++Dk ts x:=by
    unfold Dk;rw[fI]
   rw[e]
   by_cases h1:t.a=x
   .have h2:¬t.b=x:=λz=>by rw[h1,z]at lt; exact gz _ lt
    rw[if_pos h1,if_neg h2,c9,iC,dL,cz];exact#[new _^.inl #[h1,rfl],i1]
   .rw[if_neg h1,cw]
    by_cases h2:t.b=x
    .rw[if_pos h2,iC,dL,cz]
     exact#[new _^.inr #[h2,rfl],i1]
    .rw[if_neg h2,cw]
     exact i1
 exact go N.ts (λ_ h=>h) ok.trise
end
def EM(t:Ak):m_ Key:=[.inr t.a,.inr t.b,.inl t.len]
def J8(ts:m_ Ak):Prop:=ts.Pairwise λs t=>Ag (EM t)^EM s=l_
theorem JJ(s:Ak):¬Be s s:=by
 rintro(h|⟨_,h⟩) <;>exact Br _ h
theorem N3{s t:Ak}(h:Be s t):Ag (EM s)^EM t=k_:=by
 show(if fW _=.inr _ then(if fW _=.inr _ then(if iA _=.inl _ then l_ else decide _)else decide (cs _<cs _))else decide (cs _<cs _))=k_
 rcases h with h|⟨h,h'⟩
 .rw[if_neg λe=>Br s.a^by simp_all,decide_eq_true h]
 .rw[if_pos (by rw[h]),if_neg λe=>Br s.b^by grind,decide_eq_true h']
theorem BG{ts:m_ Ak}(h:ts.Pairwise Be):ts.Nodup:=h.imp λ{s t} h e=>by rw[e]at h; exact JJ _ h
theorem sub_len{l m:m_ Ak}(hl:l.Nodup)(hm:m.Nodup)(h:∀t∈l,t∈m):l.length<=m.length:=by
 have:l.Perm (m.filter λt=>decide (t∈l)):=(fe hl^hm.filter _).mpr λt=>by
  simp_all
 rw[this.length_eq];exact cj _ _
theorem V6{N:Net}(ok:N.Ok){ts:m_ Ak}(h:∀t∈ts,t∈N.ts)(hp:ts.Pairwise Be):Net.Ok #[N.ps,ts]:=#[ok.names,ok.rise,λt ht=>ok.tin t^h t ht,hp]
end Nt
namespace L2
open PySem.W
end L2
namespace Dp
open L2
end Dp
namespace Nt
open L2 Dp
def look(ts:m_ Ak)(x y:Str):n_ Int:=((Dk ts x).find? λz=>decide (z.1=y)).map (·.2)
def K3(ts:m_ Ak):Str->m_ Str->Int->n_ Int
 |_,[],s=>P3 s
 |x,y::r,s=>match look ts x y with
  |some l=>K3 ts y r (s+l)
  |none=>j_
def Ls:n_ Int->D
 |some i=>.int i
 |none=>.non
def EW:D->Bool
 |.str _=>k_
 |_=>l_
def Wi(N:Net):m_ Str->D
 |x::r=>if x∈N.ps then Ls^K3 N.ts x r 0 else .non
 |[]=>.non
def ZC(N:Net):D->D
 |.tup xs=>if xs.all EW then Wi N^strsOf xs else .non
 |_=>.non
def ZN(d:D):Prop:=G_ (10 ^ 40) d/\QR d<=160000/\QV d<=50
abbrev bV:W2:=λss n P=>∃(N:Net) (d:D),ss=[.sh^enc N,.sh d]/\N.Ok/\N.ps.length<=26/\N.ts.length<=60/\ZN d/\P (ZC N d) n
theorem Ln:∀{xs:m_ D},xs.all EW=k_->∃ys:m_ Str,xs=ys.map .str
 |[],_=>#[[],rfl]
 |d::r,h=>by
  rw[jV,dB]at h;let#[ys,e]:=Ln h.2;cases d with
  |str x=>exact#[x::ys,by grind]
  |_=>cases h.1
theorem all_strs(ys:m_ Str):(ys.map D.str).all EW=k_:=by rw[List.all_map]; exact eg.mpr λ_ _=>rfl
theorem KR{g:Str->D}{x:Str}:∀{ps:m_ Str},BA (ps.map .inr) (ps.map g)^.inr x=if x∈ps then P3^g x else j_
 |[]=>rfl
 |p::ps=>by
  show(if fW p=.inr x then P3 _ else BA _ _ _)=_;rw[KR]
  grind
theorem KS{y:Str}:∀{xs:m_ (Str×Int)},BA (xs.map λx=>.inr x.1) (xs.map λx=>.int x.2)^.inr y=((xs.find? λz=>decide (z.1=y)).map (·.2)).map .int
 |[]=>rfl
 |p::ps=>by
  show(if fW _=.inr y then P3 _ else BA _ _ _)=_;rw[KS]
  by_cases e:p.1=y
  .simp_all
  simp_all
theorem Rj{N:Net}(ok:N.Ok){x y:Str}{l:Int}(h:look N.ts x y=P3 l):y∈N.ps/\1<=l/\l<=1000000:=by
 unfold look at h;cases c:(Dk N.ts x).find? λz=>decide (z.1=y)with
 |none=>grind
 |some z=>
  have h1:=List.find?_some c;let#[t,ht,hz]:=dk.mp^i7 c;let#[m1,m2,_,m3,m4]:=ok.tin t ht
  rcases cn.mp hz with hz|hz
  .simp_all
  simp_all
section
variable {n:Sg}
theorem L9{N:Net}(ok:N.Ok){D2:E2}{b0 b1:Slot}:∀(r:m_ Str) (x:Str) (s:Int) (s4 s5:Slot),x∈N.ps->(match K3 N.ts x r s with|some l=>∀s4 s5,D2.nx n [b0,b1,.sh^EN N,.sh^.int l,s4,s5]|none=>D2.rt .non n)->
  Bn (MY 2^B7 (A6 4)^B7 (A6 5) Ir) (Ay (Ci (Ae^As (QA k_) (AG 5)^As Fy (AG 2)^AG 4) (DJ^wC D.non) Bs)^Ur 3^As Fy (As Fy (AG 2)^AG 4)^AG 5) D2 (E7 ((x::r).map .str)^r.map .str) n [b0,b1,.sh^EN N,.sh^.int s,s4,s5]
 |[],x,s,s4,s5,hx,h=>h s4 s5
 | y::r,x,s,s4,s5,hx,h=>by
  have v1:BA (N.ps.map .inr) (N.ps.map^S0 N.ts)^.inr x=P3^S0 N.ts x:=by rw[KR,if_pos hx]
  refine#[rfl,rfl,?_];refine#[_,_,.inr x,_,rfl,rfl,v1,_,_,.inr y,rfl,rfl,?_];rw[KS];unfold K3 at h;have hl:((Dk N.ts x).find? λz=>decide (z.1=y)).map (·.2)=look N.ts x y:=rfl;rw[hl];cases c:look N.ts x y with
  |none=>rw[c]at h; exact CU h
  |some l=>
   rw[c]at h;have v2:BA ((Dk N.ts x).map λz=>.inr z.1) ((Dk N.ts x).map λz=>.int z.2)^.inr y=P3^.int l:=by rw[KS,hl,c]; rfl
   refine B4 #[s,rfl,_,_,.inr x,_,rfl,rfl,v1,_,_,.inr y,_,rfl,rfl,v2,l,rfl,?_];exact L9 ok r y (s+l) _ _ (Rj ok c).1 h
theorem BD{b:BW}{tt:FU}{te:DW}{P:m_ D->Sg->Prop}(c:D->Bool)(g:D->D)(I:m_ Slot->Prop):∀(ds acc:m_ D) (n:Sg) (ρ:m_ Slot),
  (∀d∈ds,∀(ρ:m_ Slot) (n:Sg) (nx:D->Sg->m_ Slot->Prop) (sk:Sg->m_ Slot->Prop),I ρ->(∀zY,I zY->c d=k_->nx (g d) n zY)->(∀zY,I zY->c d=l_->sk n zY)->b d ρ λzS=>tt n zS λc n1=>if c=k_ then te n1 zS λy n2=>nx y n2 zS else sk n1 zS)->I ρ->P (acc++(ds.filter c).map g) n->Co b tt te P ds acc n ρ
 |[],acc,n,ρ,_,_,h=>by rw[List.filter_nil,jd,c9]at h; exact h
 |d::ds,acc,n,ρ,ht,hρ,h=>ht d Op ρ n _ _ hρ
  (λzY hρ' hc=>BD c g I ds _ n _ (λd hd=>ht d^TW _ hd) hρ'^by simp_all)
  (λzY hρ' hc=>BD c g I ds _ n _ (λd hd=>ht d^TW _ hd) hρ'^by grind)
end
theorem OO{ts:m_ Ak}(h:GA CT^ts.map AN):J8 ts:=by
 unfold GA at h;rw[hX]at h;exact h.imp λ{s t} z=>z _ _ rfl rfl
theorem Cd{N:Net}(ok:N.Ok){ts:m_ Ak}(h:∀t∈ts,t∈N.ts):CS^.tup^ts.map AN/\CS^.lst^ts.map AN:=by
 have it:∀d∈ts.map AN,item d:=λd hd=>by
  let#[t,ht,rfl]:=Sc.mp hd;exact IL ok _^Sc.mpr #[t,h t ht,rfl]
 have d1:Jz^ts.map AN<=1:=dps_le.mpr λd hd=>(it d hd).2.2;exact#[IK (B:=1000001) (by cbv) (fines_iff.mpr λd hd=>(it d hd).1) (by show Jz^ts.map AN+1<=100; omega),En it]
theorem Cr{N:Net}(ok:N.Ok){t:Ak}(h:t∈N.ts):CS^AN t:=by
 have it:=IL ok _^Sc.mpr #[t,h,rfl];exact IK (B:=1000001) (by cbv) it.1^by have:=it.2.2; omega
theorem Et{ts:m_ Ak}{t:Ak}:((ts.map AN).any λy=>De y^AN t)=decide (t∈ts):=by
 rw[dC,h_,decide_eq_true_eq];constructor
 .rintro⟨d,hd,e⟩
  let#[s,hs,rfl]:=Sc.mp hd;rw[←(HK s t).mp e];exact hs
 .intro h
  exact#[AN t,Sc.mpr #[t,h,rfl],(HK t t).mpr rfl]
theorem Qn{s t:Ak}(h:EM s=EM t):s=t:=by
 let#[a,b,l]:=s;let#[a',b',l']:=t;unfold EM at h;simp only[List.cons.injEq,Sum.inl.injEq,Sum.inr.injEq,and_true]at h;let#[rfl,rfl,rfl]:=h;rfl
theorem CN{l1 l2:m_ Ak}(p:l1.Perm l2)(h1:J8 l1)(h2:J8 l2):l1=l2:=Ej (λa b x y=>Qn^BX _ _ y x) p h1 h2
theorem B6{ts:m_ Ak}(h:ts.Pairwise Be):J8 ts:=h.imp λ{s t} z=>by
 cases e:Ag (EM t)^EM s with
 |false=>rfl
 |true=>
  have:=Bo _ _ _ (N3 z) e
  rw[A3]at this;cases this
def UZ:W2:=λss n P=>∃l t b x:Int,ss=[.sh^.int l,.sh^.tup [.int t,.int b],.sh^.int x]/\1<=b/\b<=1000000/\1<=t/\t<=1000000/\P (.bl (decide (l*b<=x*t))) n
section
theorem b8{i j:Int}(h0:0<=j)(h1:j<=1000000):CMul i j:=.inr #[by lk,by lk]
end
end Nt
namespace L2
open PySem.W
section
variable {prog:Program}{w:World}{A:Around}{E:Value->Shared->Prop}{R:Result->Shared->Prop}{I:Addr}{fp wr:m_ Addr}{n:Nat}{P:Nat->Value->Prop}{St:Nat->Heap->Prop}
def Vf(prog:cm)(w:cy)(A:c_)(op:CmpOp)(P:Nat->Cn->Prop)(Cm:cf->Prop)(bt:Nat->Nat->Bool):Prop:=
 ∀i j vi vj (s:Go) (Q:Cn->Go->Prop) (E:Cn->Go->Prop),Cm s.heap->P i vi->P j vj->Q (.bool^bt i j) s->wpAny (model prog w) A (richCompare op vi vj) Q E s
theorem Pp(W:Walks prog w A.in1 I fp wr n P St)(bt:Nat->Nat->Bool)(Cm:cf->Prop)(hcmp:Vf prog w A.in1 .Lt P Cm bt)(S:Ch)(hSf:S∉fp)(hmono:∀h h':cf,Cm h->(∀b o,b∉wr->b≠S->h.get? b=P3 o->h'.get? b=P3 o)->Cm h'):
  ∀(k j:Nat) (s:Go) (vb:Cn) (c:Nat),n - (j+1)=k->j+1<=n->St (j+1) s.heap->Cm s.heap->P (argBest bt j) vb->
  s.heap.get? S=P3 {cls:=.type "list",dict:=j_,data:=.seq #[ vb,vb] c,slots:=#[]}->
  (∀v h' tk,P (argBest bt (n - 1)) v->(∀b o,b∉wr->b≠S->s.heap.get? b=P3 o->h'.get? b=P3 o)->R (.ok^.ret v) {s with heap:=h',toks:=tk})->
  codeAny (model prog w) A (.builtin "min.loop" #[[.ref I,.none,.ref S],[]]) R s:=by
 have hSw:S∉wr:=λh=>hSf^W.sub _ h;have hname:(toString "min"++toString ".loop":String)="min.loop":=by cbv
 intro k
 induction k with
 |zero=>
  intro j s vb c hk hj hst hcm hPb hS hR;have hin:j+1=n:=by lk
  refine eY PySem.F.entry_min_loop ?_;rw[fG PySem.F.plain_min_loop _];show wpAny _ A.in1 (seqItems?^.ref S >>=_) _ _ s;refine Db (eQ hS rfl ?_);show wpAny _ A.in1 (tryCatch (pyNext^.ref I) _ >>=_) _ _ s;refine Db^iV^W.done s _ _ (hin▸hst) λh' tk hk'=>?_;have hS':=hk' S _ hSw hS;show wpAny _ A.in1 (updateSeq S (λ_=>#[]) >>=_) _ _ _;refine Db ?_;refine gC hS' rfl (Db^gE^UF ?_);refine hR vb _ tk (by rw[←hin]; exact hPb) λb o hbw hbS e=>(ZB _ _^dH hbS).trans^hk' b o hbw e
 | succ k ih=>
  intro j s vb c hk hj hst hcm hPb hS hR;have hlt:j+1<n:=by lk
  refine eY PySem.F.entry_min_loop ?_;rw[fG PySem.F.plain_min_loop _];show wpAny _ A.in1 (seqItems?^.ref S >>=_) _ _ s;refine Db (eQ hS rfl ?_);show wpAny _ A.in1 (tryCatch (pyNext^.ref I) _ >>=_) _ _ s;refine Db^iV^W.item (j+1) s _ _ hlt hst λv h' tk hP hst' hk'=>?_;have hS':=hk' S _ hSw hS;have hcm':Cm h':=hmono _ _ hcm λb o h1 _ e=>hk' b o h1 e;show wpAny _ A.in1 (tryCatch (holding [v,v] (richCompare .Lt v vb >>=_)) _ >>=_) _ _ _;refine Db^iV^eI^Db^hcmp (j+1) (argBest bt j) v vb _ _ _ hcm' hP hPb ?_;refine Db^eI^et ?_;refine Db^gE^UF ?_;cases hb:bt (j+1)^argBest bt j with
  | true=>
   simp only[if_true];refine Db ?_;refine gC hS' rfl (Db^gE ?_);rw[hname]
   refine UF #[e_ PySem.F.plain_min_loop _,ih (j+1) _ v _ (by lk) hlt (W.frame _ _ _ hst' λb hbf o e=>?_) (hmono _ _ hcm' λb o _ h2 e=>(ZB _ _^dH h2).trans e) (by simp only[argBest,hb,if_true]; exact hP) (d_ _ hS' rfl)
    λv' h'' tk'' hP' hk''=>?_]
   .exact(ZB _ _ λh:S=b=>hSf^by rw[h]; exact hbf).trans e
   .exact hR v' h'' tk'' hP' λb o hbw hbS e=>hk'' b o hbw hbS^(ZB _ _^dH hbS).trans^hk' b o hbw e
  |false=>
   simp only[eZ,if_false];refine Db^gE ?_;rw[hname];refine UF #[e_ PySem.F.plain_min_loop _,ih (j+1) _ vb c (by lk) hlt hst' hcm' (by simp only[argBest,hb,eZ,if_false]; exact hPb) hS' λv' h'' tk'' hP' hk''=>?_];exact hR v' h'' tk'' hP' λb o hbw hbS e=>hk'' b o hbw hbS^hk' b o hbw e
theorem NK(W:Walks prog w A.in1 I fp wr n P St)(bt:Nat->Nat->Bool)(Cm:cf->Prop)(hcmp:Vf prog w A.in1 .Lt P Cm bt)(S:Ch)(hSf:S∉fp)(hmono:∀h h':cf,Cm h->(∀b o,b∉wr->b≠S->h.get? b=P3 o->h'.get? b=P3 o)->Cm h')(hn:0<n){s:Go}{c:Nat}(hst:St 0 s.heap)(hcm:Cm s.heap)
  (hS:s.heap.get? S=P3 {cls:=.type "list",dict:=j_,data:=.seq #[] c,slots:=#[]})
  (hR:∀v h' tk,P (argBest bt (n - 1)) v->(∀b o,b∉wr->b≠S->s.heap.get? b=P3 o->h'.get? b=P3 o)->R (.ok^.ret v) {s with heap:=h',toks:=tk}):
  codeAny (model prog w) A (.builtin "min.loop" #[[.ref I,.none,.ref S],[]]) R s:=by
 have hSw:S∉wr:=λh=>hSf^W.sub _ h;have hname:(toString "min"++toString ".loop":String)="min.loop":=by cbv
 refine eY PySem.F.entry_min_loop ?_;refine Db (eQ hS rfl ?_);refine Db^iV^W.item 0 s _ _ hn hst λv h' tk hP hst' hk'=>?_;have hS':=hk' S _ hSw hS;have hcm':Cm h':=hmono _ _ hcm λb o h1 _ e=>hk' b o h1 e;show wpAny _ A.in1 (updateSeq S (λ_=>#[ v,v]) >>=_) _ _ _;refine Db ?_;refine gC hS' rfl ?_;rw[hname];refine UF #[e_ PySem.F.plain_min_loop _,Pp W bt Cm hcmp S hSf hmono _ 0 _ v _ rfl hn (W.frame _ _ _ hst' λb hbf o e=>?_) (hmono _ _ hcm' λb o _ h2 e=>(ZB _ _^dH h2).trans e) hP (d_ _ hS' rfl) λv' h'' tk'' hP' hk''=>?_]
 .exact(ZB _ _ λh:S=b=>hSf^by grind).trans e
 .exact hR v' h'' tk'' hP' λb o hbw hbS e=>hk'' b o hbw hbS^(ZB _ _^dH hbS).trans^hk' b o hbw e
theorem min_list{s:Go}{l:Ch}{items:Array Cn}{Q:Cn->Go->Prop}(bt:Nat->Nat->Bool)(hh:A.handled=j_)(hl:s.heap.IsList l items)(hn:0<items.size)
  (hcmp:∀i j vi vj (s':Go) (Q:Cn->Go->Prop) (E:Cn->Go->Prop),(∀b o,s.heap.get? b=P3 o->s'.heap.get? b=P3 o)->items[i]?=P3 vi->items[j]?=P3 vj->Q (.bool^bt i j) s'->wpAny (model prog w) A.in1 (richCompare .Lt vi vj) Q E s')
  (h:∀v h' tk,items[argBest bt (items.size - 1)]?=P3 v->(∀b o,s.heap.get? b=P3 o->h'.get? b=P3 o)->Q v {s with heap:=h',toks:=tk}):wpAny (model prog w) A (call (.builtin "min") [.ref l]) Q E s:=by
 have hname:(toString "min"++toString ".loop":String)="min.loop":=by cbv
 have hlt:l<s.heap.objs.size:=by let#[_,e,_]:=hl; exact TM e
 refine call_function_tree PySem.F.kind_min PySem.F.plain_min PySem.F.entry_min (PySem.F.args_min1 _) ?_;show wpAny _ A.in1 (ie "min" ["key","default"] 0 #[[],[]] >>=_) _ _ s;refine Db^jN (show ie "min" ["key","default"] 0 #[[],[]]=pure [j_,j_]from rfl) ?_;refine Db^UF ?_;refine Db^eT hl ?_;refine Db^eR ?_;rw[hname];have W:=Walks.list (prog:=prog) (w:=w) (A:=A.in1) hh s.heap.objs.size l (cb hlt) items;have hs1:(s.heap.push {cls:=.type "list_iterator",data:=.fields #[ .ref l,.int 0 0]}).objs.size=s.heap.objs.size+1:=dS _ _;refine UF #[e_ PySem.F.plain_min_loop _,NK W bt (λh'=>∀b o,s.heap.get? b=P3 o->h'.get? b=P3 o) (λi j vi vj s' Q E hc h1 h2 q=>hcmp i j vi vj s' Q E hc h1 h2 q) (s.heap.push {cls:=.type "list_iterator",data:=.fields #[ .ref l,.int 0 0]}).objs.size (λhm=>?_) (λh1 h2 hc hk b o e=>hk b o (λhm=>?_) ?_^hc b o e) hn #[#[_,Ev _ (Re _ rfl),rfl,rfl],(hl.push _).push _] (λb o e=>Ev _^Ev _ e) (Re _ rfl) λv h' tk hP hk=>?_]
 .rw[hs1]at hm
  rcases Tk.mp hm with e|hm
  .exact absurd e^Nat.succ_ne_self _
  .rw[←On.mp hm]at hlt
   exact absurd hlt^f_.mpr^dO _
 .rw[On.mp hm]at e
  exact absurd (TM e)^dZ _
 .rw[hs1]
  exact cb^eF^TM e
 .refine h v h' tk hP λb o e=>hk b o (λhm=>?_) ?_^Ev _^Ev _ e
  .rw[On.mp hm]at e
   exact absurd (TM e)^dZ _
  .rw[hs1]
   exact cb^eF^TM e
end
theorem Iu(keys:m_^m_ Key):∀m:Nat,argBest (λi j=>Ag (keys.getD i [])^keys.getD j []) m<=m/\∀i,i<=m->Ag (keys.getD i [])^keys.getD (argBest (λi j=>Ag (keys.getD i [])^keys.getD j []) m) []=l_
 |0=>#[Rs _,λi hi=>by
  have:i=0:=by lk
  subst this;exact A3 _]
 | m+1=>by
  let#[h1,h2]:=Iu keys m;unfold argBest
  by_cases c:Ag (keys.getD (m+1) [])^keys.getD (argBest (λi j=>Ag (keys.getD i [])^keys.getD j []) m) []=k_
  .rw[if_pos c]
   refine#[Rs _,λi hi=>?_]
   by_cases e:i=m+1
   .subst e; exact A3 _
   .cases z:Ag (keys.getD i [])^keys.getD (m+1) [] with
    |false=>rfl
    |true=>
     have:=Bo _ _ _ z c
     rw[h2 i^by lk]at this;cases this
  grind
section
variable {X:Cx}
def U6(K:Frag):m_ V->Hp->VK->Prop:=λxs H Q=>∃(p:Ch) (vs:m_ V) (keys:m_^m_ Key),xs=[.ref p]/\SqL K H p vs/\0<vs.length/\KeysAt K H vs keys /\
 ∀j v,vs[j]?=P3 v->(∀i,i<vs.length->Ag (keys.getD i [])^keys.getD j []=l_)->Q v H
theorem QI{k:Nat}(hr:Room k X.A):B9 X (.builtin "min")^U6 X.K:=by
 intro zG s σ H xs us Q I r h;let#[p,vs,keys,rfl,hq,hn,hk,q]:=h;let#[u,rfl,rx]:=vals1 r;cases rx;let#[its,r',pl,hz]:=I.list hq;have hl:=r'.length;have tk:=hk.tups I r' λb o e=>e;have hu:=hr.un;refine min_list (λi j=>Ag (keys.getD i [])^keys.getD j []) hr.hd pl.isList (by rw[cY]; omega) (λi j vi vj s' Q' E' hold h1 h2 q'=>?_) λv h' tk' hv hold=>?_
 .have hi:i<keys.length:=by rw[←hk.len,hl]; have:=(gU.mp h1).1; simpa using this
  have hj:j<keys.length:=by rw[←hk.len,hl]; have:=(gU.mp h2).1; simpa using this
  let#[a,#[cls,dd,data,sl],xs,n,e1,e2,e3,e4,e5]:=tk.at_ i keys[i] (No hi);let#[a',#[cls',dd',data',sl'],xs',n',e1',e2',e3',e4',e5']:=tk.at_ j keys[j] (No hj);simp only at e3 e4 e3' e4';subst e3 e4 e3' e4';have e1:its.toArray[i]?=P3^.ref a:=by rw[←e1]; simp
  have e1':its.toArray[j]?=P3^.ref a':=by rw[←e1']; simp
  rw[e1]at h1;rw[e1']at h2;cases h1;cases h2;have hsm:=hk.same _ (dY hi) _^dY hj;have g1:keys.getD i []=keys[i]:=by rw[dU,No hi]; rfl
  have g2:keys.getD j []=keys[j]:=by rw[dU,No hj]; rfl
  simp only[g1,g2]at q';rw[←Ft _ _ hsm]at q'
  exact richCompare_meets_room (op:=.Lt) #[_,hold _ _ e2,rfl] #[_,hold _ _ e2',rfl] PySem.F.slot_tuple_lt PySem.F.entry_tuple_lt (PySem.F.args_tuple_lt_2 _ _) (Ey a a' xs xs' n n' dd dd' sl sl' keys[i] keys[j] e5 e5' hsm)
   #[hold _ _ e2,hold _ _ e2',show iF (Fv keys[i] keys[j])≠Value.notImplemented/\Q' (.bool (Fv keys[i] keys[j])) s' from#[(λx=>nomatch x),q']] (by show X.A.units+1<cLine; omega)
 .let#[b1,b2]:=Iu keys (its.toArray.size - 1)
  rw[cY]at hv b1 b2;have hj:argBest (λi j=>Ag (keys.getD i [])^keys.getD j []) (its.length - 1)<vs.length:=by lk
  let#[u,e1,ru]:=r'.get^No hj;have e2:its.toArray[argBest (λi j=>Ag (keys.getD i [])^keys.getD j []) (its.length - 1)]?=P3 u:=by rw[←e1]; simp
  rw[e2]at hv;cases hv;exact#[_,H,I.kept (t':=tk') hold,ru,q _ _ (No hj) λi hi=>b2 i^by lk]
end
end L2
namespace Dp
open L2
def ZT(ds:m_ D)(P:D->Prop):Prop:=∃xs,ds=[.lst xs]/\0<xs.length/\Keyed CT xs/\∀x∈xs,(∀y∈xs,∀kx ky,CT x=P3 kx->CT y=P3 ky->Ag ky kx=l_)->P x
theorem XX{K:Frag}:Cf K .sh (U6 K) ZT:=by
 intro U M H ds vs P Q dom vM hp w q;let#[xs,rfl,hn,hK,w]:=w;let#[v,rfl,hx]:=Dh hp;let#[a,us,rfl,_,hq,hs]:=hx;let#[keys,hl,hk]:=Eo hK.1;have hlen:=hs.length;refine#[a,us,keys,rfl,.inl hq,by lk,GS (λd k v _=>GU) hs hK hl hk,λj v hv hle=>?_];have hj:j<xs.length:=by rw[←hlen]; exact(Uf.mp hv).1
 let#[v',e1,h1]:=hs.get^No hj;rw[hv]at e1;cases e1;refine q v H xs[j] .refl h1 (w _ (dY hj) λy hy kx ky ex ey=>?_);let#[i,hi]:=fY.mp hy;have hil:i<xs.length:=(Uf.mp hi).1;let#[k1,a1,b1,_]:=hk i y hi;let#[k2,a2,b2,_]:=hk j xs[j] (No hj)
 grind
end Dp
namespace L2
def bj(d:Ch)(o:Obj)(kvs:m_ (Key×V)):It:=
 #[λi H=>H d=P3^.frz o^.dK kvs/\i<kvs.length,λi H x H'=>∃T p,x=.ref T/\H T=j_/\kvs[i]?=P3 p/\H'=Ah H T^.tup [kV p.1,p.2],λi H=>H d=P3^.frz o^.dK kvs/\kvs.length<=i]
theorem Ro{P:cm}{w:cy}{k:Key}{u:Cn}(h:(A2 P w).is k u=k_):RelV (kV k) u:=by
 rcases A_ h with⟨i,t,rfl,rfl⟩|⟨x,t,rfl,rfl⟩
 .exact#[t,rfl]
 .exact#[t,rfl]
theorem Es{X:Cx}{zG:m_ (Ch×Obj)}{σ:L2.St}{H:Hp}{s:Go}{d:Ch}{o:Obj}{kvs:m_ (Key×V)}{es:Array DictEntry}{ep:Nat}(I:Inv X zG σ H s)(h:H d=P3^.frz o^.dK kvs)(hd:o.data=.dict es ep):
  ∃ws,KV kvs ws/\s.heap.DictAt (A2 X.prog X.w) d ws ep:=by
 let#[e0,_,_,ws,kv,o',es',ep',e1,e2,e3,e4]:=(I.hok d _ h);rw[e0]at e1;cases e1;rw[hd]at e3;cases e3;exact#[ws,kv,o,es,e0,e2,hd,e4]
theorem Ms{P:cm}{w:cy}{K:Frag}{els:m_ cr}{j:Nat}{pos:Pos}(d it:Ch)(o:Obj)(kvs:m_ (Key×V))(es:Array DictEntry)(ep:Nat)(hdat:o.data=.dict es ep):
  Turn P w K (.Tuple els j pos) (bj d o kvs) [it] it (λi h=>∃ok ov,IsItemIter h it d i kvs.length ep ok ov) where
 mem:=by simp
 obj:=λi h #[ok,ov,st] c hc=>by
  rw[On.mp hc];exact#[_,st,λv q=>by cases q]
 keep:=λi h h' #[ok,ov,st] k=>#[ok,ov,k it (by simp) _ st]
 item:=by
  intro X hP hw hK hc i zG s σ H E I hf st hg;subst hP hw hK;let#[hH,hi]:=hg;let#[ok,ov,st]:=st;let#[ws,kv,D]:=Es I hH hdat
  have hl:=kv.length;have hiw:i<ws.length:=by lk
  rw[hl]at st;obtain⟨k,v,hkv⟩:∃k v,ws[i]=(k,v):=#[_,_,rfl];have hx:ws[i]?=P3 (k,v):=by rw[No hiw,hkv]
  have hp:kvs[i]?=P3 kvs[i]:=No hi;let#[ek,rv]:=Hz kv hp hx;have ek:kvs[i].1=k:=ek;refine wpAny_pyNext_items_item st D hx λkey h' hkey hout htup hsz hold=>#[_,rfl,?_];refine wpAny_letOwnedTupleGo_items hout λh2 hit2 hsame=>?_;have hT:H s.heap.objs.size=j_:=I.hok.fresh^Rs _;have nit:s.heap.objs.size≠it:=fm^TM st
  have kk:∀c o,c∉[it]->s.heap.get? c=P3 o->h2.get? c=P3 o:=λc o hc e=>by
   have hc:c≠it:=λz=>hc (by rw[z]; exact On.mpr rfl);exact(hsame.2 c hc).trans^hold c o hc e
  have I2:Inv X zG σ (Ah H s.heap.objs.size^.tup [kV kvs[i].1,kvs[i].2]) {s with heap:=h2}:=by
   refine I.turnLaid (t':=s.toks) (ch:=[it]) (λc hc=>hf c hc) kk (Rs _) ?_;exact#[by show 2<=sizeLine; decide,[key,v],.cons (Ro^by rw[ek]; exact hkey)^.cons rv .nil,#[_,(hsame.2 _ nit).trans htup,rfl,_,rfl,rfl,rfl]]
  refine#[.ref s.heap.objs.size,_,I2,rfl,#[_,_,rfl,hT,hp,rfl],#[key,v,by rw[hl]; exact hit2],λc hc=>?_];rw[On.mp hc,AI^dH nit];exact(hf it^by simp).1
 done:=by
  intro X hP hw hK hc i zG s σ H E I hf st hg;subst hP hw hK;let#[hH,hi]:=hg;let#[ok,ov,st]:=st;let#[ws,kv,D]:=Es I hH hdat
  have hl:=kv.length;rw[hl]at st;refine wpAny_pyNext_items_end (I.ok.hd hc) st D (iD^by lk) λh' ext=>#[rfl,?_];exact I.turnedL (t':=s.toks) (ch:=[it]) (λc hc=>hf c hc) λc o hc e=>ext c o (λz=>hc^by rw[z]; exact On.mpr rfl) e
 self:=λA i s Q E #[ok,ov,st] h=>PySem.W.kcp_self st h
def Ww(to:TE):TI:=λσ H R=>to σ H λx H1=>∃d o kvs,x=.ref d/\H1 d=P3^.frz o^.dK kvs/\∀r,H1 r=j_->R (bj d o kvs)^Ah H1 r^.ext λh=>h.IsItemsView r d
theorem RI{X:Cx}{e:cr}{els:m_ cr}{j:Nat}{tpos apos cpos:Pos}{to:TE}(ho:PE X e to)(hbase:attributeBase e "items" X.env^eval e X.env=eval e X.env:=by rfl)(hline:(apos.endLine==cpos.line)=k_:=by rfl):
  PI X (.Tuple els j tpos) (.Call (.Attribute e "items" apos) [] [] cpos) (Ww to):=by
 intro zG s σ H R I h;refine wpAny_Call_method0_late hbase hline^A5 (ho zG s σ H _ I h) λv s1 zz=>?_;let#[x,H1,I1,r1,d,o,kvs,ex,hd,q]:=zz;subst ex;cases r1;let#[h1,h2,lo]:=NR I1^.inl #[kvs,.inr #[o,hd]];let#[_,_,ws,kv,D]:=E4 I1.hok^.inr #[o,hd];refine#["dict","dict.items",PySem.F.plainAttrs_dict,PySem.F.slot_dict_items,PySem.F.type_dict_items,h1,h2,fO rfl (PySem.evalArgs_none ?_)];refine iI PySem.F.slot_dict_items D.typeIs PySem.F.entry_dict_items (PySem.F.args_dict_items_1 _) (meets_dict_items (A2 X.prog X.w) d lo) #[#[ws,D],?_];have hf:H1 s1.heap.objs.size=j_:=I1.fresh;have hv:(s1.heap.push {cls:=.type "dict_items",data:=.fields #[ .ref d]}).IsItemsView s1.heap.objs.size d:=#[_,Re _ rfl,rfl,rfl]
 have I2:Inv X zG σ (Ah H1 s1.heap.objs.size^.ext λh=>h.IsItemsView s1.heap.objs.size d) {s1 with heap:=s1.heap.push {cls:=.type "dict_items",data:=.fields #[ .ref d]}}:=
  I1.laid (t':=s1.toks) (λb o e=>Ev _ e) (Rs _) #[hv,#[_,Re _ rfl],λh1 h2 #[o,e,c] k=>#[o,k o e,c]]
 have hd2:(Ah H1 s1.heap.objs.size^.ext λh=>h.IsItemsView s1.heap.objs.size d) d=P3^.frz o^.dK kvs:=by rw[AI^AU hd hf]; exact hd
 obtain⟨es,ep,hdat⟩:∃es ep,o.data=.dict es ep:=by
  let#[e0,_,_,ws,kv,o',es',ep',e1,e2,e3,e4]:=(show ObjOk X.prog X.w H1 s1.heap d^.frz o^.dK kvs from I1.hok d _ hd)
  grind
 let#[ws2,kv2,D2]:=Es I2 hd2 hdat
 have hl:=kv2.length;refine wpAny_pyIter_items (s:={s1 with heap:=s1.heap.push {cls:=.type "dict_items",data:=.fields #[ .ref d]}}) hv D2 ?_;refine#[_,[(s1.heap.push {cls:=.type "dict_items",data:=.fields #[ .ref d]}).objs.size],_,bj d o kvs,_,rfl,I2.kept (t':=s1.toks) λb o e=>Ev _ e,Ms d _ o kvs es ep hdat,#[.none,.none,by rw[hl]; exact Re _ rfl],λc hc=>?_,q _ hf];rw[On.mp hc];exact I2.fpOk (Rs _) I2.fresh
end L2
namespace Dp
open L2
def wItems(wa:DW):Dr:=λn ρ P=>wa n ρ λd n1=>∃ks ds,d=.fdi ks ds/\(∀k∈ks,K4 k)/\P (E7 (ks.map S2) ds) n1
theorem Rp(k:Key):kV k=kOf k:=by cases k <;>rfl
section
variable {X:Cx}{a:Expr}{zT:Kd}{wa:DW}{els:m_ Expr}{j:Nat}{tpos apos cpos:Pos}
theorem SF(ha:DE X a zT wa)(hbase:attributeBase a "items" X.env^eval a X.env=eval a X.env:=by rfl)(hline:(apos.endLine==cpos.line)=k_:=by rfl):DI X (.Tuple els j tpos) (.Call (.Attribute a "items" apos) [] [] cpos)^wItems wa:=by
 let#[t,a1,a2]:=ha;refine#[_,RI a1 hbase hline,λC M H n ρ σ P Rr R w q=>?_];refine a2 C M H n ρ σ _ _ R w λv H1 d n1 ee f1 r1 p=>?_;let#[ks,ds,rfl,hfit,p]:=p;have R1:=R.step ee f1;obtain⟨ad,vs,rfl,⟨o,nM,hd⟩,hlen,hs⟩:∃a vs,v=.ref a/\NdF M H1 a ks vs/\ks.length=ds.length/\Ats X.K M H1 ds vs:=r1.tpOf R.dom R.vM;have hl:=hs.length;refine#[ad,o,_,rfl,hd,λr hr=>?_];have g:Grow H1 (Ah H1 r^.ext λh=>h.IsItemsView r ad):=Ad hr;refine q _ _ _ n1 (ee.trans g.ext) (f1.grow g) (λi M' H' pr dom=>?_) p;have pr2:Pres M H1 M' H':=g.pres.trans pr;have hd':H' ad=P3^.frz o^.dK^ks.zip vs:=(pr2.nd nM hd).2;have zl:(ks.zip vs).length=ks.length:=by rw[iQ]; omega
 have zd:(E7 (ks.map S2) ds).length=ks.length:=by unfold E7; rw[List.length_zipWith,FM]; omega
 refine#[λe he=>?_,λhle=>#[hd',by lk]];have hi:i<ks.length:=by rw[←zd]; exact(Uf.mp he).1
 have hid:i<ds.length:=by lk
 refine#[#[hd',by lk],λx H2 y=>?_];let#[T,pp,rfl,hT,hp,rfl]:=y;let#[v',e1,h1]:=(hs.pres pr2).get^No hid
 have e2:(ks.zip vs)[i]?=P3 (ks[i],v'):=by
  rw[i8];exact#[No hi,e1]
 rw[e2]at hp;cases hp
 have e3:e=.tup [S2 ks[i],ds[i]]:=by
  unfold E7 at he;rw[iB,cX,No hi,No hid]at he;exact(XV he).symm
 subst e3;refine#[Ad hT,C5 dom hT #[_,_,rfl,?_,_,_,rfl,h1,rfl]];show At X.K M' H' (S2 ks[i]) (kV ks[i]);rw[Rp];exact SS^hfit _^dY hi
end
section
variable {K:Frag}{C:Fm}{M:Addr->Prop}{H:Hp}{n:Sg}{ρ:m_ Slot}{σ:L2.St}
theorem Rel.hold(R:Rel K C M H n ρ σ){p:Ch}{o:HO}(hp:H p=j_)(nv:¬QW o:=by rintro⟨_,z⟩; cases z):Rel K C (λb=>M b\/b=p) (Ah H p o) n ρ σ:=by
 have g:Grow H^Ah H p o:=Ad hp;have pr:Pres M H _^Ah H p o:=D5 hp;refine#[R.len,λa z=>.inl^R.sub a z,λa z=>?_,R.ext.trans g.ext,R.fU,R.uV,λa z=>.inl^R.vM a z,(R.feed.grow g).more p (λf hf q=>?_) λu z=>nv #[u,by rw[AM]at z; exact XV z],λi s q=>(R.sl i s q).pres pr (λ_ z=>.inl z) g.ext R.uV,λq hq=>(R.pin q hq).trans pr,R.br0,R.new,R.two,λq hq=>?_]
 .rcases z with z|z
  .let#[u,h1]:=R.dom a z
   exact#[u,g.all a u h1]
  .rw[z]; exact#[o,AM]
 .let#[_,_,_,_,_,h3,_]:=R.feed.1 f hf
  have:=h3.2
  grind
 .let#[h1,h2,h3,h4]:=R.kept q hq
  exact#[g.all _ _ h1,#[.inl h2.1,h2.2],h3,h4]
end
def IR(ks:m_ Key)(k:Key):Bool:=ks.any λk0=>decide (k0=k)
theorem hasK_iff{ks:m_ Key}{k:Key}:IR ks k=k_↔k∈ks:=by
 unfold IR
 simp_all
def Ck(ks:m_ Key)(k:Key):m_ Key:=if IR ks k=k_ then ks else ks++[k]
def C2{α:Type}(ks:m_ Key)(ds:m_ α)(k:Key)(d:α):m_ α:=if IR ks k=k_ then gv (λk0 d0=>if k0=k then d else d0) ks ds else ds++[d]
theorem UX{ks:m_ Key}{vs:m_ V}(hl:ks.length=vs.length)(k:Key):((ks.zip vs).any λkv=>decide (kv.1=k))=IR ks k:=by
 rw[dC,h_,hasK_iff];constructor
 .rintro⟨⟨a,b⟩,hm,e⟩
  have e:=of_decide_eq_true e;rw[←e];exact(iG hm).1
 .intro h
  let#[i,hi,e]:=List.mem_iff_getElem.mp h;exact#[(ks[i],vs[i]'(by lk)),List.mem_iff_getElem.mpr #[i,by grind,by grind],by grind]
theorem RA{ks:m_ Key}{vs:m_ V}(hl:ks.length=vs.length)(k:Key)(v:V):putK (ks.zip vs) k v=(Ck ks k).zip^C2 ks vs k v:=by
 unfold putK Ck C2;rw[UX hl]
 by_cases h:IR ks k=k_
 .have go:∀(ks:m_ _) (vs:m_ V),((ks.zip vs).map λkv=>if kv.1=k then(kv.1,v)else kv)=ks.zip^gv (λk0 d0=>if k0=k then v else d0) ks vs:=by
   intro ks
   induction ks with
   |nil=>intro vs; rfl
   | cons a ks ih=>
    intro vs;cases vs with
    |nil=>rfl
    |cons b vs=>
     show(if a=k then(a,v)else(a,b))::_=(a,if a=k then v else b)::_;exact List.cons_eq_cons.mpr #[by split <;>rfl,ih vs]
  simp_all
 .rw[if_neg h,if_neg h,if_neg h,List.zip_append hl]
  rfl
theorem Ats.put{K:Frag}{M:Ch->Prop}{H:Hp}{k:Key}{d:D}{v:V}(hd:At K M H d v):∀{ks:m_ Key}{ds:m_ D}{vs:m_ V},Ats K M H ds vs->Ats K M H (gv (λk0 d0=>if k0=k then d else d0) ks ds)^gv (λk0 d0=>if k0=k then v else d0) ks vs
 |[],ds,vs,h=>rfl
 |a::ks,[],vs,h=>by cases(h); rfl
 |a::ks,e::ds,vs,h=>by
  let#[u,r,rfl,h1,h2]:=h;refine#[_,_,rfl,?_,Ats.put hd h2]
  grind
theorem Ats.putX{K:Frag}{M:Ch->Prop}{H:Hp}{k:Key}{d:D}{v:V}{ks:m_ Key}{ds:m_ D}{vs:m_ V}(hd:At K M H d v)(h:Ats K M H ds vs):Ats K M H (C2 ks ds k d)^C2 ks vs k v:=by
 unfold C2
 split
 .exact Ats.put hd h
 .exact h.append^Ats.one hd
theorem OE{α:Type}{ks:m_ Key}{ds:m_ α}{k:Key}{d:α}(hl:ks.length=ds.length):(Ck ks k).length=(C2 ks ds k d).length:=by
 unfold Ck C2
 grind
theorem JW:∀{ks:m_ Key}{ds:m_ D}{k:Key},k∉ks->BA ks ds k=j_
 |[],ds,k,_=>by rfl
 |a::ks,[],k,_=>rfl
 |a::ks,d::ds,k,h=>by
  unfold BA;rw[if_neg λe=>h^by grind];exact JW λz=>h^TW _ z
theorem JV:∀{ks:m_ Key}{ds:m_ D}{k:Key},ks.length=ds.length->k∈ks->∃z,BA ks ds k=P3 z
 |[],ds,k,_,h=>by cases h
 |a::ks,[],k,h,_=>by cases h
 | a::ks,d::ds,k,hl,h=>by
  unfold BA
  by_cases e:a=k
  .simp_all
  .rw[if_neg e]
   exact JV (by simp_all)^(Tk.mp h).resolve_left λz=>e z.symm
theorem Qi{ks:m_ Key}{ds:m_ D}{k:Key}{d:D}(hl:ks.length=ds.length)(j:Key):BA (Ck ks k) (C2 ks ds k d) j=if j=k then P3 d else BA ks ds j:=by
 unfold Ck C2
 by_cases h':IR ks k=k_
 .have h:=hasK_iff.mp h'
  rw[if_pos h',if_pos h']
  have go:∀(ks:m_ Key) (ds:m_ D),ks.length=ds.length->(j=k->k∈ks)->BA ks (gv (λk0 d0=>if k0=k then d else d0) ks ds) j=if j=k then P3 d else BA ks ds j:=by
   intro ks
   induction ks with
   |nil=>
    intro ds _ hm
    by_cases e:j=k
    .exact absurd (hm e) ci
    .rw[if_neg e]; cases ds <;>rfl
   | cons a ks ih=>
    intro ds hl hm;cases ds with
    |nil=>cases hl
    | cons e ds=>
     show(if a=j then P3 (if a=k then d else e)else BA ks _ j)=if j=k then P3 d else if a=j then P3 e else BA ks ds j
     by_cases e1:a=j
     .rw[if_pos e1,if_pos e1]
      by_cases e2:j=k
      .rw[if_pos e2,if_pos^e1.trans e2]
      .rw[if_neg e2,if_neg λz=>e2^e1.symm.trans z]
     .rw[if_neg e1,if_neg e1]
      refine ih ds (by simpa using hl) λz=>(Tk.mp^hm z).resolve_left λw=>e1^w.symm.trans z.symm
  exact go ks ds hl λ_=>h
 .have h:k∉ks:=λz=>h'^hasK_iff.mpr z
  rw[if_neg h',if_neg h']
  have go:∀(ks:m_ Key) (ds:m_ D),ks.length=ds.length->k∉ks->BA (ks++[k]) (ds++[d]) j=if j=k then P3 d else BA ks ds j:=by
   intro ks
   induction ks with
   | nil=>
    intro ds hl _;cases ds with
    |nil=>
     show(if k=j then P3 d else j_)=if j=k then P3 d else j_
     by_cases e:j=k
     .rw[if_pos e,if_pos e.symm]
     .rw[if_neg e,if_neg λz=>e z.symm]
    |cons e ds=>cases hl
   | cons a ks ih=>
    intro ds hl hm;cases ds with
    |nil=>cases hl
    |cons e ds=>
     show(if a=j then P3 e else BA (ks++[k]) (ds++[d]) j)=if j=k then P3 d else if a=j then P3 e else BA ks ds j
     rw[ih ds (by simpa using hl) λz=>hm^TW _ z]
     by_cases e1:a=j
     .rw[if_pos e1,if_pos e1,if_neg λz=>hm^by rw[←z,←e1]; exact Op]
     .rw[if_neg e1,if_neg e1]
  exact go ks ds hl h
section
variable {X:Cx}{a b e:Expr}{κ zT zO:Kd}{wa wb:DW}{pos pos':Pos}
def Vq(wk wv:DW):DW:=λn ρ P=>wk n ρ λk n1=>wv n1 ρ λd n2=>∃key,keyOf k=P3 key/\P (.dic [key] [d]) n2
theorem MQ(ha:DE X a zT wa)(hb:DE X b zO wb)(hk:zO≠.tp:=by intro z; cases z):DE X (.Dict [P3 a] [b] pos) .fr^Vq wa wb:=by
 let#[t,h1,h2]:=ha;let#[u,g1,g2]:=hb;refine#[_,Tc (RE h1 g1 TR) rfl rfl (eO _ _) (by show 1<=15; decide),λC M H n ρ σ P Q R w q=>λp hp=>?_];have R1:=R.hold (o:=.dK []) hp
 have np:¬C.U p:=λz=>by
  let#[o,w]:=R.dom p^R.vM p^R.uV p z;rw[hp]at w; cases w
 refine h2 C _ _ n ρ σ _ _ R1 w λx H2 k n1 e1 f1 r1 p1=>?_;have R2:=R1.step e1 f1;refine g2 C _ _ n1 ρ σ _ _ R2 p1 λy H3 d n2 e2 f2 r2 p2=>?_;let#[key,hkey,p2]:=p2;have R3:=R2.step e2 f2;have hat:At X.K (λb=>M b\/b=p) H3 d y:=r2.shOf R2.dom hk;have hp3:H3 p=P3^.dK []:=e2.keep (e1.keep AM np) np;have hx:x=kV key:=C3 hkey^r1.tpOf R1.dom R1.vM;refine#[hp3,[(key,y)],by rw[hx]; rfl,by show 1<=15; decide,?_];show Q (.ref p)^Ah H3 p^.dK [(key,y)];refine q _ _ (.dic [key] [d]) n2 (λb o eb=>?_) ?_ #[p,rfl,hp,[y],AM,rfl,?_] p2
 .have nb:b≠p:=AU eb hp
  let#[o1,z1,k1,t1]:=e1 b o (by rw[AI nb]; exact eb);let#[o2,z2,k2,t2]:=e2 b o1 z1;exact#[o2,by rw[AI nb]; exact z2,λnu nv=>(k2 nu^by rw[k1 nu nv]; exact nv).trans^k1 nu nv,λvs z=>(t2 vs^(t1 vs z).trans z).trans^t1 vs z]
 .refine f2.pres #[λb o eb nb _=>by rw[AI λz=>nb^.inr z]; exact eb,λb z=>.inl^.inl z,λb vs eb=>by rw[AI λz=>by rw[z,hp3]at eb; cases eb]; exact eb,λb o eb=>(fR (b=p)).elim (λz=>by rw[z]; exact#[_,AM]) λz=>#[o,by rw[AI z]; exact eb]] (λf o hf eb=>?_) λb u eb=>by rw[AI λz=>by rw[z,hp3]at eb; cases eb]; exact eb
  rw[AI λz=>np^by rw[←z]; exact R.fU f hf];exact eb
 .exact#[y,[],rfl,hat.pres^Ek (.inr rfl) hp3,rfl]
def JS(i:Nat)(wk wv:DW):Aa:=λD2 n ρ=>∃ks ds,ρ[i]?=P3^.ow^.dic ks ds/\wv n ρ λd n1=>wk n1 ρ λk n2=>∃key,keyOf k=P3 key/\ks.length<sizeLine/\D2.nx n2^ρ.set i^.ow^.dic (Ck ks key)^C2 ks ds key d
theorem LA{i k:Nat}{x:cr}(hr:Room k X.A)(hx:PE X x^Bw i)(ha:DE X a zT wa)(hb:DE X b zO wb)(hk:zO≠.tp:=by intro z; cases z)
  (hs:swapsWith b (P3^.Subscript x a pos') pos.line X.env=pure l_:=by rfl):DS X κ (.Assign [.Subscript x a pos'] b pos)^JS i wa wb:=by
 let#[t,h1,h2]:=ha;let#[u,g1,g2]:=hb;refine#[_,HD (IQ hr) hx h1 g1 hs,λC M H n ρ σ D2 E R L w=>?_];let#[ks,ds,hd,w]:=w;refine g2 C M H n ρ σ _ _ R w λv H1 d n1 e1 f1 r1 p=>?_;have R1:=R.step e1 f1;let#[ad,ea,m,nv,tt]:=R1.sl i _ hd;refine#[.ref ad,getD_some ea,?_];refine h2 C M H1 n1 ρ σ _ _ R1 p λy H2 kk n2 e2 f2 r2 p=>?_;let#[key,hkey,hlt,p]:=p;have R2:=R1.step e2 f2;let#[ad',ea',m',nv',tt']:=R2.sl i _ hd;rw[ea]at ea';cases ea';let#[vs,hH,hl,hs']:=tt';have hat:At X.K M H2 d v:=(r1.shOf R.dom hk).pres^R1.pres e2;have hvl:ks.length=vs.length:=by rw[hl,hs'.length]
 refine#[ad,_,rfl,by rw[C3 hkey^r2.tpOf R1.dom R1.vM]; exact DPut.k hH (by rw[iQ]; omega),L.nx M _ n2 _ σ (R2.mut (e:=.dic (Ck ks key)^C2 ks ds key d) hd ea #[C2 ks vs key v,by rw[AM,RA hvl],OE hl,(hs'.putX hat).pres^Ek m' hH]) p]
def YS:D->n_ Bool
 |.lst xs=>P3 (!xs.isEmpty)
 |.tup xs=>P3 (!xs.isEmpty)
 |.bl b=>P3 b
 |.non=>P3 l_
 |_=>j_
def YF(wa:DW):FU:=λn ρ P=>wa n ρ λd n1=>∃c,YS d=P3 c/\P c n1
theorem KD{K:Frag}{M:Ch->Prop}{H:Hp}{ds:m_ D}{vs:m_ V}(h:Ats K M H ds vs):vs.isEmpty=ds.isEmpty:=by
 have:=h.length
 cases vs <;>cases ds <;>first|rfl|cases this
theorem Vw{U M:Ch->Prop}{H:Hp}{K:Frag}{d:D}{x:V}{c:Bool}(h:AtT K U M H d x)(e:YS d=P3 c):Xq K x H c:=by
 cases d with
 |lst ds=>cases e; let#[a,vs,rfl,_,hq,hs]:=h; exact .inl #[vs,.inl hq,by rw[KD hs]]
 |tup ds=>cases e; let#[a,vs,rfl,hq,hs]:=h; exact .inr^.inl #[vs,.inl^.inl hq,by rw[KD hs]]
 |bl b=>cases e; rw[h.bl]; exact rfl
 |non=>cases e; rw[h]; exact rfl
 |_=>cases e
theorem NZ(h:DE X e κ wa)(he:∀whole,isTrue e X.env whole=(do let v ←whole; standAt e.pos; holding [v]^truthy v):=by intro _; rfl):DT X e^YF wa:=by
 let#[t,h1,h2]:=h;refine#[_,RB h1 he,λC M H n ρ σ P Q R w q=>?_];refine h2 C M H n ρ σ _ _ R w λv H' d n' e1 f1 r1 p=>?_;let#[c,hc,p]:=p;exact#[c,Vw (r1.tpOf R.dom R.vM) hc,q c H' n' e1 f1 p]
def Ex(neg:Bool)(d e:D)(P:D->Prop):Prop:=e=.non/\P^.bl (if neg then !Rt d else Rt d)
theorem G0{K:Frag}:Eu K .sh (λx y H Q=>y=.non/\Q (.bl (decide (x=.non))) H)^Ex l_:=λU M H d e x y P Q dom vM hx hy w q=>by
 let#[rfl,w]:=w;exact#[hy,q _ H _ .refl (by rw[MD hx]; rfl) w]
theorem Nk{K:Frag}:Eu K .sh (λx y H Q=>y=.non/\Q (.bl (!decide (x=.non))) H)^Ex k_:=λU M H d e x y P Q dom vM hx hy w q=>by
 let#[rfl,w]:=w;exact#[hy,q _ H _ .refl (by rw[MD hx]; rfl) w]
variable {apos cpos:Pos}{f:Expr}{κf:Kd}{wf:DW}
def YK(wa wk:DW):DW:=λn ρ P=>wa n ρ λd n1=>∃ks ds,Ih d=P3 (ks,ds)/\wk n1 ρ λk n2=>∃key,keyOf k=P3 key/\P ((BA ks ds key).getD .non) n2
def Qg(wa wk wx:DW):DW:=λn ρ P=>wa n ρ λd n1=>∃ks ds,Ih d=P3 (ks,ds)/\wk n1 ρ λk n2=>wx n2 ρ λz n3=>∃key,keyOf k=P3 key/\P ((BA ks ds key).getD z) n3
theorem Qh{U M:Ch->Prop}{H:Hp}{K:Frag}{d z:D}{x v:V}{ks:m_ Key}{ds:m_ D}{key:Key}(e:Ih d=P3 (ks,ds))(h:AtT K U M H d x)(hz:At K M H z v):∃a o,x=.ref a/\DGet H a (kV key) o/\At K M H ((BA ks ds key).getD z)^o.getD v:=by
 let#[a,vs,rfl,ha,hs]:=Ig e h;refine#[a,_,rfl,HN ha,?_];have h:=FZ (k:=key) (ks:=ks) hs;cases c:BA ks ds _ with
 |none=>simp_all
 |some y=>rw[c]at h; let#[u,h1,h2]:=h; grind
theorem Ry{U M:Ch->Prop}{H:Hp}{K:Frag}{d:D}{x:V}{ks:m_ Key}{ds:m_ D}(e:Ih d=P3 (ks,ds))(h:AtT K U M H d x):∃a,x=.ref a/\aQ H a:=by
 let#[a,vs,rfl,ha,hs]:=Ig e h;exact#[a,rfl,.inl #[_,ha]]
theorem UQ{k:Nat}(hr:Room k X.A)(ha:DE X a zT wa)(hb:DE X b zO wb)(m:M1 X a "get" apos b cpos:=by exact#[rfl,rfl,rfl,rfl]):DE X (.Call (.Attribute a "get" apos) [b] [] cpos) .sh^YK wa wb:=by
 let#[t,h1,h2]:=ha;let#[u,g1,g2]:=hb;refine#[_,RQ (IQ hr) h1 g1 m,λC M H n ρ σ P Q R w q=>?_];refine h2 C M H n ρ σ _ _ R w λv H1 d n1 e1 f1 r1 p=>?_;let#[ks,ds,hd,p]:=p;have R1:=R.step e1 f1;let#[ad,rfl,hI]:=Ry hd^r1.tpOf R.dom R.vM;refine#[ad,rfl,hI,?_];refine g2 C M H1 n1 ρ σ _ _ R1 p λy H2 kk n2 e2 f2 r2 p=>?_;let#[key,hkey,p]:=p;have R2:=R1.step e2 f2;have hat:=(r1.tpOf R.dom R.vM).pres (R1.pres e2) e2 R.uV;let#[ad',o,ex,g,hz]:=Qh (key:=key) hd hat (z:=.non) (v:=.non) rfl;cases ex;exact#[o,by rw[C3 hkey^r2.tpOf R1.dom R1.vM]; exact g,q _ H2 _ n2 (e1.trans e2) f2 hz p]
theorem UP{k:Nat}(hr:Room k X.A)(ha:DE X a zT wa)(hb:DE X b zO wb)(hf:DE X f κf wf)(hk:κf≠.tp:=by intro z; cases z)(m:M2 X a "get" apos b f cpos:=by exact#[rfl,rfl,rfl,rfl]):DE X (.Call (.Attribute a "get" apos) [b,f] [] cpos) .sh^Qg wa wb wf:=by
 let#[t,h1,h2]:=ha;let#[u,g1,g2]:=hb;let#[u2,k1,k2]:=hf;refine#[_,RP (IQ hr) h1 g1 k1 m,λC M H n ρ σ P Q R w q=>?_];refine h2 C M H n ρ σ _ _ R w λv H1 d n1 e1 f1 r1 p=>?_;let#[ks,ds,hd,p]:=p;have R1:=R.step e1 f1;let#[ad,rfl,hI]:=Ry hd^r1.tpOf R.dom R.vM;refine#[ad,rfl,hI,?_];refine g2 C M H1 n1 ρ σ _ _ R1 p λy H2 kk n2 e2 f2 r2 p=>?_;have R2:=R1.step e2 f2;refine k2 C M H2 n2 ρ σ _ _ R2 p λz H3 dz n3 e3 f3 r3 p=>?_;let#[key,hkey,p]:=p;have R3:=R2.step e3 f3;have hat:=((r1.tpOf R.dom R.vM).pres (R1.pres e2) e2 R.uV).pres (R2.pres e3) e3 R.uV;have hy:=(r2.tpOf R1.dom R1.vM).pres (R2.pres e3) e3 R.uV;let#[ad',o,ex,g,hz]:=Qh (key:=key) hd hat^r3.shOf R2.dom hk;cases ex;exact#[o,by rw[C3 hkey hy]; exact g,q _ H3 _ n3 ((e1.trans e2).trans e3) f3 hz p]
end
end Dp
namespace L2
open AutoSeq1 (wpAny_loadPart')
theorem Pg:typeLookup (.type "list_reverseiterator") "__len__"=pure j_:=by kernel_rfl
theorem Rz:typeLookup (.type "list_reverseiterator") "__length_hint__"=pure^P3^.builtin "list_reverseiterator.__length_hint__":=by kernel_rfl
theorem boot_reversed:bootBuiltins "reversed"=P3^.type "reversed":=by decide +kernel
def Z_(prog:cm)(w:cy)(St:Nat->Go->Prop)(I:Ch):Prop:=∀(A:c_) (E:Cn->Go->Prop) (s':Go) (Q:Bool->Go->Prop),St 0 s'->(∀b tk,s'.toks<=tk->Q b {s' with toks:=tk})->wpAny (model prog w) A (ig^.ref I) Q E s'
section
variable {prog:Program}{w:World}{A:Around}{E:Value->Shared->Prop}{s:Shared}{I:Addr}{fp wr:m_ Addr}{G:Array GenState->Array GenState->Prop}{n:Nat}{P:Nat->Value->Prop}{St:Nat->Shared->Prop}{c:String}
theorem Nf{Q:m_ Cn->Go->Prop}(nc:(dP c==dP "list")=l_/\(dP c==dP "tuple")=l_)(hH:Z_ prog w St I)
  (W:WalksS prog w A.in1 I fp wr G n P St) (hT:∀i s,St i s->s.TypeIs (.ref I) c) (hst:St 0 s) (hfp:∀b∈fp,b<s.heap.objs.size) (hI:I∈fp)
  (hQ:∀s' acc,Moved wr G s s'->ItemsOf P acc n->Q acc.toList s') (hn:n<=sizeLine):wpAny (model prog w) A (collect^.ref I) Q E s:=by
 have hSf:s.heap.objs.size∉fp:=λhm=>dZ _^hfp _ hm;have hSI:s.heap.objs.size≠I:=λe=>hSf (e▸hI);unfold collect;refine Db^wpAny_runValue^eY F.entry_proto_collect ?_;rw[fG F.plain_proto_collect _];show wpAny _ A.in1 (newList [] >>=λl=>again^.builtin "list.__iadd__" #[[l,.ref I],[]]) _ _ s;refine Db^eR ?_;refine UF #[e_ F.plain_list_iadd _,eY F.entry_list_iadd ?_];rw[fG F.plain_list_iadd _];have hst₁:=W.frame 0 s (s.heap.push {cls:=.type "list",data:=.seq ([]:m_ Cn).toArray}) s.toks hst (Rs _) λb _ o e=>Ev _ e;have hS₁:(s.heap.push {cls:=.type "list",data:=.seq ([]:m_ Cn).toArray}).get? s.heap.objs.size=P3 {cls:=.type "list",data:=.seq ([]:m_ Cn).toArray}:=Re _ rfl;have h1:jF (.ref s.heap.objs.size)^.ref I=l_:=by simp[jF,hSI]
 show wpAny _ A.in1 (fV (.ref s.heap.objs.size) (.ref I)^.ref s.heap.objs.size) _ _ _;unfold fV;refine Db^gn (hT 0 _ hst₁) ?_;rw[if_neg^by rw[h1,nc.1,nc.2]; decide];refine Db^W.self 0 _ _ _ hst₁ ?_;refine Db^eI ?_;refine hH _ _ _ _ hst₁ λb tk htk=>?_
 have fin:∀(h:cf) (c₁ tk':Nat),s.toks<=tk'->St 0 {s with heap:=h,toks:=tk'}->h.get? s.heap.objs.size=P3 {cls:=.type "list",data:=.seq #[] c₁}->(∀b o,b≠s.heap.objs.size->s.heap.get? b=P3 o->h.get? b=P3 o)->
   ∀R:Result->Go->Prop,(∀s' acc c,s'.heap.get? s.heap.objs.size=P3 {cls:=.type "list",dict:=j_,data:=.seq acc c,slots:=#[]}->Moved wr G s s'->ItemsOf P acc n->R (.ok^.ret^.ref s.heap.objs.size) s')->
   codeAny (model prog w) A (.builtin "list.extend.loop" #[[.ref s.heap.objs.size,.ref I,.ref s.heap.objs.size],[]]) R {s with heap:=h,toks:=tk'}:=by
  intro h c₁ tk' ht st0 hS hk R hR;refine codeAny_extend_loopS W hn _ hSf _ n 0 _ _ _ rfl (cq _) st0 hS (ItemsOf.nil P) λs' acc' c' hm hS' hacc=>hR s' acc' c' hS' #[λb o hb e=>hm.heap b o (λhmem=>?_)^hk b o (cb^TM e) e,hm.gens,hm.drawn,hm.os,c5 ht hm.toks] hacc
  rcases Tk.mp hmem with e'|hmem
  .exact absurd (TM e)^by rw[e']; exact dZ _
  .exact hb hmem
 have last:∀s' acc c,s'.heap.get? s.heap.objs.size=P3 {cls:=.type "list",dict:=j_,data:=.seq acc c,slots:=#[]}->Moved wr G s s'->ItemsOf P acc n->wpAny (model prog w) A (load s.heap.objs.size >>=λo=>match o.data with
   |.seq xs _=>pure xs.toList
   |_=>unsupported "internal:collect") Q E s':=λs' acc c h1 h2 h3=>Db^wpAny_load h1^UF^hQ s' acc h2 h3
 have st2:=W.frame 0 _ (s.heap.push {cls:=.type "list",data:=.seq ([]:m_ Cn).toArray}) tk hst₁ htk λb _ o e=>e;refine wpAny_ite_split (λ_=>?_) λ_=>UF #[e_ F.plain_extend_loop _,fin _ 0 tk htk st2 hS₁ (λb o _ e=>Ev _ e) _ last];refine Db^gw ?_;refine Db ?_;show wpAny _ _ (updateSeq s.heap.objs.size (·.push .none) >>=λ_=>updateSeq s.heap.objs.size (·.pop)) _ _ _;refine Db (gC hS₁ rfl ?_);have hS₂:=d_ (dW (·.push dG)) hS₁ rfl;refine gC (hz:=by seq_fits) hS₂ rfl ?_;have hS₃:=d_ (dW (·.pop)) hS₂ rfl;refine UF #[e_ F.plain_extend_loop _,fin _ _ tk htk ?_ hS₃ (λb o hb e=>?_) _ last]
 .refine W.frame 0 {s with heap:=s.heap.push {cls:=.type "list",data:=.seq ([]:m_ Cn).toArray},toks:=tk} _ tk st2 (Rs _) λb hb o e=>?_
  have hbS:b≠s.heap.objs.size:=λh=>hSf (h▸hb);exact(ZB _ _^dH hbS).trans^(ZB _ _^dH hbS).trans e
 .exact(ZB _ _^dH hb).trans^(ZB _ _^dH hb).trans^Ev _ e
theorem JL{Q₁:Cn->Go->Prop}(nc:(dP c==dP "list")=l_/\(dP c==dP "tuple")=l_)(hH:Z_ prog w St I)(W:WalksS prog w A.in1.in1 I fp wr G n P St)(hT:∀i s,St i s->s.TypeIs (.ref I) c)(hst:St 0 s)(hfp:∀b∈fp,b<s.heap.objs.size)(hI:I∈fp)
  (h:∀s' acc,Moved wr G s s'->ItemsOf P acc n->Q₁ (.ref s'.heap.objs.size) {s' with heap:=s'.heap.push {cls:=.type "tuple",data:=.seq acc}}) (hsz:n<=sizeLine):
  codeAny (model prog w) A (.call (.builtin "tuple.__new__") #[[.type "tuple",.ref I],[]]) (wants Q₁ E) s:=by
 refine codeAny_of_tree ?_;show wpAny _ A.in1 (do checkBuiltinCall "tuple.__new__" #[[.type "tuple",.ref I],[]]; again^.builtin "tuple.__new__" #[[.type "tuple",.ref I],[]]) _ _ s;refine Db^jN (F.newCall_tuple_1 _)^UF #[e_ F.plain_tuple_new _,eY F.entry_tuple_new ?_];rw[fG F.plain_tuple_new _];have hsub:=sub_tuple_self;have hinit:=init_tuple_lookup;have hmh:=madeHere_tuple;have hTI:=hT 0 s hst;have nc2:=nc.2
 wp_walk using gn hTI,Nf (hn:=hsz) nc hH W hT hst hfp hI
 intro s' acc hm hacc;show wpAny _ _ (gp acc.toList.toArray >>=λv=>ret v) _ _ _;unfold gp;refine Db (eR ?_^by show acc.toList.toArray.size<=sizeLine; simp only[Array.toArray_toList]; rw[hacc.1]; exact hsz);refine UF ?_;have e:acc.toList.toArray=acc:=by simp
 rw[e];exact h s' acc hm hacc
theorem JM{Q:Cn->Go->Prop}(nc:(dP c==dP "list")=l_/\(dP c==dP "tuple")=l_)(hH:Z_ prog w St I)(W:WalksS prog w A.in1.in1.in1 I fp wr G n P St)(hT:∀i s,St i s->s.TypeIs (.ref I) c)(hst:St 0 s)(hfp:∀b∈fp,b<s.heap.objs.size)(hI:I∈fp)
  (hQ:∀s' acc,Moved wr G s s'->ItemsOf P acc n->Q (.ref s'.heap.objs.size) {s' with heap:=s'.heap.push {cls:=.type "tuple",data:=.seq acc}}) (hsz:n<=sizeLine):
  wpAny (model prog w) A (call (.type "tuple") [.ref I]) Q E s:=by
 refine callType_codes (Q₁:=λobj s₁=>s₁.TypeIs obj "tuple"/\Q obj s₁) jS (F.typeCall_tuple_1 _) F.entry_object_init
  (JL (hsz:=hsz) nc hH W hT hst hfp hI λs' acc hm hacc=>#[#[_,Re _ rfl,rfl],hQ s' acc hm hacc]) λobj s₁ h₁=>?_
 exact#[h₁.1,F.args_object_init_2 obj _,object_init_meets jS.init.lookup jS.made (by cbv) prog w A.in1 _ s₁ #[h₁.1,rfl,h₁.2]]
theorem Rh(hT:∀i s,St i s->s.TypeIs (.ref I) "list_reverseiterator"):Z_ prog w St I:=by
 intro A E s Q hst h;have h0:=hT 0 _ hst;unfold ig;refine Db^jJ h0 Pg ?_;show wpAny _ A (specialOf (cV I)^eJ "__length_hint__" >>=_) _ _ _;refine Db (jJ h0 Rz ?_)
 (generalize hid:("list_reverseiterator.__length_hint__":String)=id0; wp_delta; rw[show splitId id0=P3 ("list_reverseiterator","__length_hint__")from by subst hid; decide +kernel]; subst hid)
 refine Db^wpAny_isInstance (b:=k_) h0 (by rw[isSubtype_type]; kernel_rfl) ?_;exact UF^h _ _^Rs _
end
section
variable {X:Cx}{e:Expr}{te:TE}{p1 p2 q1 q2:Pos}
def Z4(X:Cx)(R:Ch->m_ V->Hp->Prop):Prop:=∀{zG:m_ (Ch×Obj)}{σ:St}{H1:Hp}{s1:Go}{l:Ch}{xs:m_ V},Inv X zG σ H1 s1->R l xs H1->∃its:m_ Cn,Vals xs its/\xs.length<=sizeLine/\l<s1.heap.objs.size /\
 ∀{A:c_}{E:Cn->Go->Prop}{Q:Cn->Go->Prop},(∀(o:Obj) (tk0:Nat) (c:String) (St0:Nat->Go->Prop),o.isFreed=l_->(dP c==dP "list")=l_/\(dP c==dP "tuple")=l_->WalksS X.prog X.w X.A.in1.in1.in1 s1.heap.objs.size [s1.heap.objs.size,l] [s1.heap.objs.size] (λa b=>b=a) its.toArray.size (λi v=>its.toArray[its.toArray.size - 1 - i]?=P3 v) St0->
  (∀i s,St0 i s->s.TypeIs (.ref s1.heap.objs.size) c)->Z_ X.prog X.w St0 s1.heap.objs.size->St0 0 {s1 with heap:=s1.heap.push o,toks:=tk0}->Q (.ref s1.heap.objs.size) {s1 with heap:=s1.heap.push o,toks:=tk0})->wpAny (model X.prog X.w) A (call (.type "reversed") [.ref l]) Q E s1
def Ut(R:Ch->m_ V->Hp->Prop)(te:TE):TE:=λσ H Q=>te σ H λx H1=>∃l xs,x=.ref l/\R l xs H1/\∀r,H1 r=j_->Q (.ref r)^Ah H1 r^.tup xs.reverse
theorem TZ{R:Ch->m_ V->Hp->Prop}(ok:Z4 X R)(he:PE X e te)(hg1:Gl X "tuple")(hm1:X.mg "tuple"=j_)(hg2:Gl X "reversed")(hm2:X.mg "reversed"=j_)(h1:starEach [ii (.Name "reversed" p2) [e] [] q2] X.env=[(l_,eval (ii (.Name "reversed" p2) [e] [] q2) X.env)])
  (h2:starEach [e] X.env=[(l_,eval e X.env)]):PE X (.Call (.Name "tuple" p1) [.Call (.Name "reversed" p2) [e] [] q2] [] q1)^Ut R te:=by
 intro zG s σ H Q I h;refine eN^D4 I hg1 hm1 boot_tuple ?_;refine eM ?_ h1 rfl;rw[h1];refine fB ?_;refine eN^D4 I hg2 hm2 boot_reversed ?_;refine eM ?_ h2 rfl;rw[h2];refine fB^A5 (he zG s σ H _ I h) λu s1 zz=>?_;let#[x,H1,I1,r1,l,xs,ex,hq,q]:=zz;refine fh ?_;subst ex;cases r1;let#[its,r',hz,hlt,go]:=ok I1 hq;have hlen:=r'.length;refine go λo tk0 c St0 fr nc W hT hH h0=>fh ?_;have hn1:H1 s1.heap.objs.size=j_:=I1.fresh;have I2:Inv X zG σ H1 {s1 with heap:=s1.heap.push o,toks:=tk0}:=I1.kept (t':=tk0) λb o e=>Ev _ e;have fpk:GB X zG H1 s1.heap.objs.size:=I1.fpOk (Rs _) hn1;refine JM nc hH W hT h0 (λb hb=>?_) Op (λs' acc hm hacc=>?_)^by rw[cY,←hlen]; exact hz
 .rcases Tk.mp hb with rfl|hb
  .exact TM^Re _ fr
  .obtain rfl:=On.mp hb
   exact c6 hlt^by show s1.heap.objs.size<=(s1.heap.push _).objs.size; rw[iP]; exact dO _
 .let#[h',g',d',tk',os']:=s'
  have e1:g'=s1.gens:=hm.gens;have e2:d'=s1.drawn:=hm.drawn;have e3:os'=s1.os:=hm.os;subst e1 e2 e3;have I3':=I2.turnedL (h':=h') (t':=tk') (ch:=[s1.heap.objs.size]) (λc hc=>by rw[On.mp hc]; exact fpk) λb o hb e=>hm.heap b o hb e;have I3:Inv X zG σ H1 {s1 with heap:=h',toks:=tk'}:=I3'
  have hv:acc.toList=its.reverse:=by
   refine List.ext_getElem? λi=>?_;let#[a1,a2]:=hacc;have e0:acc.toList[i]?=acc[i]?:=by simp
   rw[e0]
   by_cases hi:i<its.length
   .have hi2:i<acc.size:=by rw[a1,cY]; exact hi
    have a3:=a2 i acc[i] (fj hi2);rw[List.getElem?_reverse hi,fj hi2,←a3,cY];simp
   .rw[iD^by rw[iS]; omega]
    exact Array.getElem?_eq_none^by rw[a1,cY]; omega
  have hv2:acc=its.reverse.toArray:=by rw[←hv]
  have rr:Vals xs.reverse its.reverse:=r'.reverse;refine#[.ref h'.objs.size,Ah H1 h'.objs.size^.tup xs.reverse,I3.laid (t':=tk') (λb o e=>Ev _ e) (Rs _) (show ObjOk X.prog X.w _ _ _^.tup xs.reverse from#[by rw[iS]; exact hz,its.reverse,rr,by rw[hv2]; exact IsTupN.new _ _]),rfl,q _^I3.hok.fresh^Rs _]
def S_(K:Frag)(te:TE):TE:=Ut (λl xs H=>SqL K H l xs) te
theorem PR(hc:X.calm=k_)(he:PE X e te)(hg1:Gl X "tuple")(hm1:X.mg "tuple"=j_)(hg2:Gl X "reversed")(hm2:X.mg "reversed"=j_)(h1:starEach [ii (.Name "reversed" p2) [e] [] q2] X.env=[(l_,eval (ii (.Name "reversed" p2) [e] [] q2) X.env)]:=by rfl)
  (h2:starEach [e] X.env=[(l_,eval e X.env)]:=by rfl):PE X (.Call (.Name "tuple" p1) [.Call (.Name "reversed" p2) [e] [] q2] [] q1)^S_ X.K te:=by
 refine TZ (λ{zG σ H1 s1 l xs} I1 hq=>?_) he hg1 hm1 hg2 hm2 h1 h2;let#[its,r',pl,hz]:=I1.list hq;have hl:s1.heap.IsList l its.toArray:=pl.isList;have hlt:l<s1.heap.objs.size:=by let#[_,e,_]:=id hl; exact TM e
 refine#[its,r',hz,hlt,λ{A E Q} k=>call_reversed_list hl (k (revObj l ((its.toArray.size:Int) - 1)) s1.toks "list_reverseiterator" _ rfl (by cbv) (Walks.listRev (A:=X.A.in1.in1.in1) (I1.ok.hd hc) s1.heap.objs.size l (cb hlt) its.toArray).toS (λi s' hs=>hs.2.1.typeIs) (Rh λi s' hs=>hs.2.1.typeIs) #[cq _,#[_,Re _ rfl,rfl,by show Data.fields _=_; simp[revObj]],hl.push _])]
end
end L2
namespace Dp
open L2
def S5(wa:DW):DW:=λn ρ P=>wa n ρ λd n1=>∃xs,d=.lst xs/\P (.tup xs.reverse) n1
section
variable {X:Cx}{a:Expr}{zT:Kd}{wa:DW}{p1 p2 q1 q2:Pos}
theorem QE(hc:X.calm=k_)(ha:DE X a zT wa)(hg1:Gl X "tuple")(hm1:X.mg "tuple"=j_)(hg2:Gl X "reversed")(hm2:X.mg "reversed"=j_)(h1:starEach [ii (.Name "reversed" p2) [a] [] q2] X.env=[(l_,eval (ii (.Name "reversed" p2) [a] [] q2) X.env)]:=by rfl)
  (h2:starEach [a] X.env=[(l_,eval a X.env)]:=by rfl):DE X (.Call (.Name "tuple" p1) [.Call (.Name "reversed" p2) [a] [] q2] [] q1) .sh^S5 wa:=by
 let#[t,a1,a2]:=ha;refine#[_,PR hc a1 hg1 hm1 hg2 hm2 h1 h2,λC M H n ρ σ P Q R w q=>?_];refine a2 C M H n ρ σ _ _ R w λv H1 d n1 e1 f1 r1 p=>?_;let#[xs,rfl,p]:=p;have R1:=R.step e1 f1;let#[ad,vs,rfl,nV,hq,hs]:=r1.tpOf R.dom R.vM;refine#[ad,vs,rfl,.inl hq,λr hr=>?_];have g:Grow H1^Ah H1 r^.tup vs.reverse:=Ad hr;exact q _ _ (.tup _) n1 (e1.trans g.ext) (f1.grow g) (C5 R1.dom hr^hs.reverse) p
end
end Dp
namespace Nt
open L2 Dp
def Ed(N:Net)(x y:Str)(l:Int):Prop:=(y,l)∈Dk N.ts x
inductive Wk (N:Net) (s:Str):Str->Int->Prop
 |nil:Wk N s s 0
 |snoc {x y:Str}{d l:Int}:Wk N s x d->Ed N x y l->Wk N s y (d+l)
def Least(N:Net)(s x:Str)(d:Int):Prop:=Wk N s x d/\∀d',Wk N s x d'->d<=d'
theorem Ed.pos{N:Net}(ok:N.Ok){x y:Str}{l:Int}(h:Ed N x y l):1<=l/\l<=1000000:=by
 let#[_,h1,h2,_]:=K0 ok h
 simp_all
theorem Ed.ins{N:Net}(ok:N.Ok){x y:Str}{l:Int}(h:Ed N x y l):y∈N.ps:=(K0 ok h).1
theorem Wk.pos{N:Net}(ok:N.Ok){s x:Str}{d:Int}(h:Wk N s x d):0<=d:=by
 induction h with
 |nil=>lk
 |snoc _ he ih=>have:=he.pos ok; omega
theorem Least.unique{N:Net}{s x:Str}{d d':Int}(h:Least N s x d)(h':Least N s x d'):d=d':=by
 have:=h.2 d' h'.1
 have:=h'.2 d h.1
 lk
theorem F7{N:Net}{s:Str}{F:Str->n_ Int}(h0:∃d,F s=P3 d/\d<=0)(hw:∀x d,F x=P3 d->Wk N s x d)(hc:∀x d y l,F x=P3 d->Ed N x y l->∃d',F y=P3 d'/\d'<=d+l):
  (∀x d,F x=P3 d->Least N s x d)/\∀x d,Wk N s x d->F x≠j_:=by
 have main:∀x d,Wk N s x d->∃d',F x=P3 d'/\d'<=d:=by
  intro x d h
  induction h with
  |nil=>exact h0
  |snoc _ he ih=>
   grind
 refine#[λx d e=>#[hw x d e,λd' h=>?_],λx d h e=>?_]
 .let#[d1,e1,h1]:=main x d' h
  simp_all
 .let#[d1,e1,_]:=main x d h
  grind
theorem HL{N:Net}{t:Ak}(ht:t∈N.ts):Ed N t.a t.b t.len/\Ed N t.b t.a t.len:=by
 constructor
 .exact dk.mpr #[t,ht,df _^by simp_all]
 .exact dk.mpr #[t,ht,cW _^by simp_all]
theorem Ed.tie{N:Net}(ok:N.Ok){x y:Str}{l:Int}(h:Ed N x y l):∃t∈N.ts,t.len=l/\((t.a=x/\t.b=y)\/(t.b=x/\t.a=y)):=by
 let#[_,_,_,t,ht,e,h]:=K0 ok h;exact#[t,ht,e,h]
structure Dmap (ks:List Key) (ds:List D) (enc:α->D) (F:Str->Option α):Prop where
 len:ks.length=ds.length
 at_:∀x:Str,BA ks ds^.inr x=(F x).map enc
 dom:∀k∈ks,∃x:Str,k=.inr x
 nd:ks.Nodup
theorem Dmap.mem{α:Type}{ks:m_ Key}{ds:m_ D}{enc:α->D}{F:Str->n_ α}(h:Dmap ks ds enc F)(x:Str):(.inr x∈ks)↔F x≠j_:=by
 constructor
 .intro hm e
  let#[z,hz]:=JV h.len hm;rw[h.at_,e]at hz;cases hz
 .intro hn
  by_cases hm:fW x∈ks
  .exact hm
  .have:=JW (ds:=ds) hm
   rw[h.at_]at this
   simp_all
theorem Dmap.one{α:Type}{enc:α->D}{s:Str}{a:α}:Dmap [.inr s] [enc a] enc (λx=>if x=s then P3 a else j_):=by
 refine#[rfl,λx=>?_,λk hk=>#[s,On.mp hk],cz.mpr #[ci,di]];show(if fW s=.inr x then P3 _ else j_)=(if x=s then P3 a else j_).map _
 by_cases e:x=s
 .simp_all
 .rw[if_neg e,if_neg λz=>e (gZ z).symm]; rfl
def GI{α:Type}(F:Str->n_ α)(x:Str)(a:α):Str->n_ α:=λy=>if y=x then P3 a else F y
theorem BM{α:Type}{F:Str->n_ α}{x:Str}{a:α}:GI F x a x=P3 a:=if_pos rfl
theorem BJ{α:Type}{F:Str->n_ α}{x y:Str}{a:α}(h:y≠x):GI F x a y=F y:=if_neg h
theorem Dmap.put{α:Type}{ks:m_ Key}{ds:m_ D}{enc:α->D}{F:Str->n_ α}(h:Dmap ks ds enc F)(x:Str)(a:α):Dmap (Ck ks^.inr x) (C2 ks ds (.inr x)^enc a) enc^GI F x a:=by
 refine#[OE h.len,λy=>?_,λk hk=>?_,?_]
 .rw[Qi h.len]
  unfold GI
  by_cases e:y=x
  .rw[if_pos e,if_pos^by rw[e]]; rfl
  .rw[if_neg e,if_neg λz=>e^gZ z,h.at_]
 .unfold Ck at hk
  split at hk
  .exact h.dom k hk
  .rcases cn.mp hk with hk|hk
   .exact h.dom k hk
   simp_all
 .unfold Ck
  split
  .exact h.nd
  .rename_i hn
   rw[eG];refine#[h.nd,cz.mpr #[ci,di],λa ha b hb e=>hn^hasK_iff.mpr ?_]
   grind
theorem Dmap.le{α:Type}{ks:m_ Key}{ds:m_ D}{enc:α->D}{F:Str->n_ α}(h:Dmap ks ds enc F){ps:m_ Str}(hp:∀x,F x≠j_->x∈ps):ks.length<=ps.length:=by
 have:∀(ks:m_ Key) (ps:m_ Str),ks.Nodup->(∀k∈ks,∃x:Str,k=.inr x/\x∈ps)->ks.length<=ps.length:=by
  intro ks
  induction ks with
  |nil=>simp_all
  | cons k ks ih=>
   intro ps hn hm;let#[x,rfl,hx]:=hm k Op;have hn:=cz.mp hn
   have h1:=ih (ps.erase x) hn.2 λj hj=>by
    let#[y,rfl,hy]:=hm j^TW _ hj
    grind
   grind
 refine this ks ps h.nd λk hk=>?_;let#[x,rfl]:=h.dom k hk;exact#[x,rfl,hp x^(h.mem x).mp hk]
abbrev La:=Str->n_ (Int×n_ Str)
structure Dj (N:Net) (s:Str) (F:La) (Wt:List Str):Prop where
 start:F s=P3 (0,j_)
 ins:∀x,F x≠j_->x∈N.ps
 wk:∀x d p,F x=P3 (d,p)->Wk N s x d
 prev:∀x d p,F x=P3 (d,p)->(p=j_/\x=s)\/∃y dy q l,p=P3 y/\F y=P3 (dy,q)/\y∉Wt/\Ed N y x l/\d=dy+l
 wfound:∀x∈Wt,F x≠j_
 nd:Wt.Nodup
 done:∀x d p y l,F x=P3 (d,p)->x∉Wt->Ed N x y l->∃dy q,F y=P3 (dy,q)/\dy<=d+l
 near:∀x d p y dy q,F x=P3 (d,p)->x∉Wt->F y=P3 (dy,q)->y∈Wt->d<=dy
theorem Dj.init{N:Net}{s:Str}(hs:s∈N.ps):Dj N s (λx=>if x=s then P3 (0,j_)else j_) [s]:=by
 have iff:∀x d p,(if x=s then P3 ((0:Int),(j_:n_ Str))else j_)=P3 (d,p)->x=s/\d=0/\p=j_:=λx d p e=>by
  grind
 refine#[if_pos rfl,λx e=>?_,λx d p e=>?_,λx d p e=>?_,λx hx=>?_,cz.mpr #[ci,di],λx d p y l e hx=>?_,λx d p y dy q e hx=>?_]
 .grind
 .let#[rfl,rfl,rfl]:=iff x d p e
  exact .nil
 .let#[rfl,rfl,rfl]:=iff x d p e
  exact .inl #[rfl,rfl]
 .simp_all
 .exact absurd (On.mpr (iff x d p e).1) hx
 .exact absurd (On.mpr (iff x d p e).1) hx
structure Dm (N:Net) (s:Str) (F:La) (Wt:List Str) (v:Str) (dv:Int) (seen:List (Str×Int)):Prop where
 start:F s=P3 (0,j_)
 ins:∀x,F x≠j_->x∈N.ps
 wk:∀x d p,F x=P3 (d,p)->Wk N s x d
 prev:∀x d p,F x=P3 (d,p)->(p=j_/\x=s)\/∃y dy q l,p=P3 y/\F y=P3 (dy,q)/\y∉Wt/\Ed N y x l/\d=dy+l
 wfound:∀x∈Wt,F x≠j_
 nd:Wt.Nodup
 done:∀x d p y l,F x=P3 (d,p)->x∉Wt->x≠v->Ed N x y l->∃dy q,F y=P3 (dy,q)/\dy<=d+l
 near:∀x d p y dy q,F x=P3 (d,p)->x∉Wt->F y=P3 (dy,q)->y∈Wt->d<=dy
 here:∃p,F v=P3 (dv,p)
 out:v∉Wt
 least:∀x d p,F x=P3 (d,p)->x∉Wt->d<=dv
 gone:∀y l,(y,l)∈seen->∃dy q,F y=P3 (dy,q)/\dy<=dv+l
theorem Dj.take{N:Net}{s:Str}{F:La}{Wt:m_ Str}(h:Dj N s F Wt){v:Str}{dv:Int}{p:n_ Str}(hv:v∈Wt)(e:F v=P3 (dv,p))(hmin:∀y∈Wt,∀dy q,F y=P3 (dy,q)->dv<=dy):Dm N s F (Wt.erase v) v dv []:=by
 have sub:∀x,x∈Wt.erase v->x∈Wt:=λx hx=>List.mem_of_mem_erase hx;have out:v∉Wt.erase v:=λz=>(h.nd.mem_erase_iff.mp z).1 rfl
 have back:∀x,x∉Wt.erase v->x=v\/x∉Wt:=λx hx=>by
  grind
 refine#[h.start,h.ins,h.wk,λx d q ex=>?_,λx hx=>h.wfound x^sub x hx,h.nd.erase v,λx d q y l ex hx nx he=>?_,λx d q y dy q2 ex hx ey hy=>?_,#[p,e],out,λx d q ex hx=>?_,λy l hy=>by cases hy]
 .rcases h.prev x d q ex with z|⟨y,dy,q2,l,e1,e2,e3,e4,e5⟩
  .exact .inl z
  .exact .inr #[y,dy,q2,l,e1,e2,λz=>e3^sub y z,e4,e5]
 .rcases back x hx with z|z
  .exact absurd z nx
  .exact h.done x d q y l ex z he
 .rcases back x hx with z|z
  .subst z
   rw[e]at ex;cases ex;exact hmin y (sub y hy) dy q2 ey
  .exact h.near x d q y dy q2 ex z ey^sub y hy
 .rcases back x hx with z|z
  .grind
  .exact h.near x d q v dv p ex z e hv
theorem Dm.finish{N:Net}{s:Str}{F:La}{Wt:m_ Str}{v:Str}{dv:Int}{seen:m_ (Str×Int)}(h:Dm N s F Wt v dv seen)(hs:∀y l,Ed N v y l->(y,l)∈seen):Dj N s F Wt:=by
 refine#[h.start,h.ins,h.wk,h.prev,h.wfound,h.nd,λx d p y l e hx he=>?_,h.near]
 by_cases z:x=v
 .subst z
  let#[p',e']:=h.here;rw[e']at e;cases e;exact h.gone y l^hs y l he
 .exact h.done x d p y l e hx z he
theorem Dm.find{N:Net}(ok:N.Ok){s:Str}{F:La}{Wt:m_ Str}{v:Str}{dv:Int}{seen:m_ (Str×Int)}(h:Dm N s F Wt v dv seen){y:Str}{l:Int}(he:Ed N v y l)(hy:F y=j_):Dm N s (GI F y (dv+l,P3 v)) (Wt++[y]) v dv (seen++[(y,l)]):=by
 have hpos:=(he.pos ok).1;let#[pv,ev]:=h.here;have ne:∀x d p,F x=P3 (d,p)->x≠y:=λx d p e z=>by rw[z,hy]at e; cases e
 have keep:∀x d p,F x=P3 (d,p)->GI F y (dv+l,P3 v) x=P3 (d,p):=λx d p e=>by rw[BJ^ne x d p e]; exact e
 have yW:y∉Wt:=λz=>h.wfound y z hy
 have cases_:∀x d p,GI F y (dv+l,P3 v) x=P3 (d,p)->(x=y/\d=dv+l/\p=P3 v)\/(x≠y/\F x=P3 (d,p)):=λx d p e=>by
  by_cases z:x=y
  .rw[z,BM]at e; cases e; exact .inl #[z,rfl,rfl]
  .rw[BJ z]at e; exact .inr #[z,e]
 have inW:∀x,x∉Wt++[y]->x∉Wt/\x≠y:=λx hx=>#[λz=>hx^df _ z,λz=>hx^cW _^by rw[z]; exact On.mpr rfl]
 have vW:v∉Wt++[y]:=λz=>by
  rcases cn.mp z with z|z
  .exact h.out z
  .exact ne v dv pv ev^On.mp z
 refine#[keep _ _ _ h.start,λx hx=>?_,λx d p e=>?_,λx d p e=>?_,λx hx=>?_,?_,λx d p z l2 e hx nx he2=>?_,λx d p z dz q e hx ez hz=>?_,#[pv,keep _ _ _ ev],vW,λx d p e hx=>?_,λz l2 hz=>?_]
 .by_cases z:x=y
  .rw[z]; exact he.ins ok
  .rw[BJ z]at hx; exact h.ins x hx
 .rcases cases_ x d p e with⟨rfl,rfl,_⟩|⟨_,e⟩
  .exact .snoc (h.wk v dv pv ev) he
  .exact h.wk x d p e
 .rcases cases_ x d p e with⟨rfl,rfl,rfl⟩|⟨_,e⟩
  .exact .inr #[v,dv,pv,l,rfl,keep _ _ _ ev,vW,he,rfl]
  .rcases h.prev x d p e with z|⟨u,du,q,l2,e1,e2,e3,e4,e5⟩
   .exact .inl z
   .refine .inr #[u,du,q,l2,e1,keep _ _ _ e2,λz=>?_,e4,e5]
    rcases cn.mp z with z|z
    .exact e3 z
    .exact ne u du q e2^On.mp z
 .rcases cn.mp hx with hx|hx
  .have:=h.wfound x hx
   cases e:F x with
   |none=>exact absurd e this
   |some a=>rw[keep x a.1 a.2 e]; intro z; cases z
  .rw[On.mp hx,BM]; intro z; cases z
 .rw[eG]
  exact#[h.nd,cz.mpr #[ci,di],λa ha b hb e=>yW^by rw[←On.mp hb,←e]; exact ha]
 .let#[w1,w2]:=inW x hx
  rcases cases_ x d p e with⟨z,_⟩|⟨_,e⟩
  .exact absurd z w2
  .let#[d3,q3,e3,h3]:=h.done x d p z l2 e w1 nx he2
   exact#[d3,q3,keep _ _ _ e3,h3]
 .let#[w1,w2]:=inW x hx
  rcases cases_ x d p e with⟨z,_⟩|⟨_,ex⟩
  .exact absurd z w2
  .rcases cases_ z dz q ez with⟨_,e2,_⟩|⟨nz,ez⟩
   .have:=h.least x d p ex w1
    lk
   .rcases cn.mp hz with hz|hz
    .exact h.near x d p z dz q ex w1 ez hz
    .exact absurd (On.mp hz) nz
 .let#[w1,w2]:=inW x hx
  rcases cases_ x d p e with⟨z,_⟩|⟨_,e⟩
  .exact absurd z w2
  .exact h.least x d p e w1
 .rcases cn.mp hz with hz|hz
  .let#[d3,q3,e3,h3]:=h.gone z l2 hz
   exact#[d3,q3,keep _ _ _ e3,h3]
  .cases On.mp hz
   exact#[_,_,BM,iX _]
theorem Dm.nearer{N:Net}(ok:N.Ok){s:Str}{F:La}{Wt:m_ Str}{v:Str}{dv:Int}{seen:m_ (Str×Int)}(h:Dm N s F Wt v dv seen){y:Str}{l dy:Int}{qy:n_ Str}(he:Ed N v y l)(hy:F y=P3 (dy,qy))(hlt:dv+l<dy):Dm N s (GI F y (dv+l,P3 v)) Wt v dv (seen++[(y,l)]):=by
 have hpos:=(he.pos ok).1;let#[pv,ev]:=h.here
 have yW:y∈Wt:=by
  by_cases z:y∈Wt
  .exact z
  .have:=h.least y dy qy hy z
   lk
 have vy:v≠y:=λz=>h.out (by rw[z]; exact yW);have keep:∀x,x∉Wt->GI F y (dv+l,P3 v) x=F x:=λx hx=>BJ λz=>hx^by rw[z]; exact yW
 have cases_:∀x d p,GI F y (dv+l,P3 v) x=P3 (d,p)->(x=y/\d=dv+l/\p=P3 v)\/(x≠y/\F x=P3 (d,p)):=λx d p e=>by
  by_cases z:x=y
  .rw[z,BM]at e; cases e; exact .inl #[z,rfl,rfl]
  .rw[BJ z]at e; exact .inr #[z,e]
 have less:∀x d p,F x=P3 (d,p)->∃d' q,GI F y (dv+l,P3 v) x=P3 (d',q)/\d'<=d:=λx d p e=>by
  by_cases z:x=y
  .subst z
   rw[hy]at e;cases e;exact#[_,_,BM,by lk]
  .exact#[d,p,by rw[BJ z]; exact e,iX _]
 have sy:s≠y:=λz=>by
  have:=h.start
  rw[z,hy]at this;cases this
  have:=(h.wk v dv pv ev).pos ok
  lk
 refine#[by rw[BJ sy]; exact h.start,λx hx=>?_,λx d p e=>?_,λx d p e=>?_,λx hx=>?_,h.nd,λx d p z l2 e hx nx he2=>?_,λx d p z dz q e hx ez hz=>?_,#[pv,by rw[BJ vy]; exact ev],h.out,λx d p e hx=>?_,λz l2 hz=>?_]
 .by_cases z:x=y
  .rw[z]; exact he.ins ok
  .rw[BJ z]at hx; exact h.ins x hx
 .rcases cases_ x d p e with⟨rfl,rfl,_⟩|⟨_,e⟩
  .exact .snoc (h.wk v dv pv ev) he
  .exact h.wk x d p e
 .rcases cases_ x d p e with⟨rfl,rfl,rfl⟩|⟨_,e⟩
  .exact .inr #[v,dv,pv,l,rfl,by rw[BJ vy]; exact ev,h.out,he,rfl]
  .rcases h.prev x d p e with z|⟨u,du,q,l2,e1,e2,e3,e4,e5⟩
   .exact .inl z
   .exact .inr #[u,du,q,l2,e1,by rw[keep u e3]; exact e2,e3,e4,e5]
 .by_cases z:x=y
  .rw[z,BM]; intro w; cases w
  .rw[BJ z]; exact h.wfound x hx
 .rw[keep x hx]at e
  let#[d3,q3,e3,h3]:=h.done x d p z l2 e hx nx he2;let#[d4,q4,e4,h4]:=less z d3 q3 e3;exact#[d4,q4,e4,by lk]
 .rw[keep x hx]at e
  rcases cases_ z dz q ez with⟨rfl,rfl,_⟩|⟨nz,ez⟩
  .have:=h.least x d p e hx
   lk
  .exact h.near x d p z dz q e hx ez hz
 .rw[keep x hx]at e
  exact h.least x d p e hx
 .rcases cn.mp hz with hz|hz
  .let#[d3,q3,e3,h3]:=h.gone z l2 hz
   let#[d4,q4,e4,h4]:=less z d3 q3 e3;exact#[d4,q4,e4,by lk]
  .cases On.mp hz
   exact#[_,_,BM,iX _]
theorem Dm.skip{N:Net}{s:Str}{F:La}{Wt:m_ Str}{v:Str}{dv:Int}{seen:m_ (Str×Int)}(h:Dm N s F Wt v dv seen){y:Str}{l dy:Int}{qy:n_ Str}(hy:F y=P3 (dy,qy))(hle:dy<=dv+l):Dm N s F Wt v dv (seen++[(y,l)]):=by
 refine#[h.start,h.ins,h.wk,h.prev,h.wfound,h.nd,h.done,h.near,h.here,h.out,h.least,λz l2 hz=>?_]
 rcases cn.mp hz with hz|hz
 .exact h.gone z l2 hz
 simp_all
structure Told (N:Net) (s:Str) (F:La):Prop where
 start:F s=P3 (0,j_)
 ins:∀x,F x≠j_->x∈N.ps
 least:∀x d p,F x=P3 (d,p)->Least N s x d
 all:∀x d,Wk N s x d->F x≠j_
 prev:∀x d p,F x=P3 (d,p)->(p=j_/\x=s)\/∃y dy q l,p=P3 y/\F y=P3 (dy,q)/\Ed N y x l/\d=dy+l
theorem Dj.told{N:Net}{s:Str}{F:La}(h:Dj N s F []):Told N s F:=by
 have cl:=F7 (N:=N) (s:=s) (F:=λx=>(F x).map (·.1)) #[0,by rw[h.start]; rfl,iX _] (λx d e=>by
  let#[#[d',p],e1,e2]:=dJ.mp e;cases e2;exact h.wk x _ p e1) (λx d y l e he=>by
  let#[#[d',p],e1,e2]:=dJ.mp e;cases e2;let#[dy,q,e3,h3]:=h.done x _ p y l e1 ci he;exact#[dy,by rw[e3]; rfl,h3])
 refine#[h.start,h.ins,λx d p e=>cl.1 x d (by rw[e]; rfl),λx d hw e=>cl.2 x d hw (by rw[e]; rfl),λx d p e=>?_]
 rcases h.prev x d p e with z|⟨y,dy,q,l,e1,e2,_,e4,e5⟩
 .exact .inl z
 simp_all
abbrev Kn:=Str->n_ Int
structure Bf (N:Net) (s:Str) (c:Nat) (K:Kn):Prop where
 start:∃d,K s=P3 d/\d<=0
 ins:∀x,K x≠j_->x∈N.ps
 wk:∀x d,K x=P3 d->Wk N s x d
 top:∀x d,K x=P3 d->d<=1000000*(c:Int)
def big:Nat:=27000001
def wt(K:Kn)(x:Str):Nat:=match K x with
 |some d=>d.toNat
 |none=>big
def QT(ps:m_ Str)(K:Kn):Nat:=(ps.map^wt K).sum
theorem Qt{f g:Str->Nat}:∀{ps:m_ Str},(∀x∈ps,f x<=g x)->(ps.map f).sum<=(ps.map g).sum
 |[],_=>Rs _
 |x::ps,h=>by
  have h2:=Qt λy hy=>h y^TW _ hy
  grind
theorem Qs{f g:Str->Nat}:∀{ps:m_ Str},(∀x∈ps,f x<=g x)->(∃x∈ps,f x<g x)->(ps.map f).sum<(ps.map g).sum
 |[],_,#[x,hx,_]=>by cases hx
 | x::ps,h,#[y,hy,hl]=>by
  have h1:=h x Op;rw[dL,dL,jW,jW]
  rcases Tk.mp hy with rfl|hy
  .have h2:=Qt λy hy=>h y^TW _ hy
   lk
  .have h2:=Qs (λy hy=>h y^TW _ hy) #[y,hy,hl]
   lk
theorem Bf.put {N:Net} (ok:N.Ok) {s:Str}{c c':Nat}{K:Kn} (h:Bf N s c K) (hc:c' ≤ 26) (hcc:c ≤ c') {x y:Str}{d l:Int} (hx:K x=P3 d) (he:Ed N x y l) (hn:K y=j_ → c'=c + 1) (hl:∀ d',K y=P3 d' → d + l < d'):Bf N s c'^GI K y (d + l) ∧ QT N.ps^GI K y (d + l) < QT N.ps K:=by
  have hp:=he.pos ok;have hd:=(h.wk x d hx).pos ok;have hw:Wk N s y (d + l):=.snoc (h.wk x d hx) he;have td:=h.top x d hx
  have ht : d + l ≤ 1000000 * (c':Int):=by
    cases e:K y with
    | none => rw[hn e]; have:((c + 1:Nat):Int)=(c:Int) + 1:=by lk
              rw[this,Int.mul_add]; omega
    | some d'=>
      have h1:=hl d' e;have h2:=h.top y d' e;have:(1000000:Int) * (c:Int) ≤ 1000000 * (c':Int):=gI (by lk) (by lk);lk
  refine#[#[?_,λz hz=>?_,λz dz e=>?_,λz dz e=>?_],Qs (λz _=>?_) #[y,he.ins ok,?_]]
  · let#[d0,e0,h0]:=h.start
    by_cases z:s=y
    · have:=hl d0^by rw[←z]; exact e0
      lk
    .exact#[d0,by rw[BJ z]; exact e0,h0]
  · by_cases e:z=y
    .rw[e]; exact he.ins ok
    .rw[BJ e]at hz; exact h.ins z hz
  · by_cases w:z=y
    .rw[w,BM]at e; cases e; rw[w]; exact hw
    .rw[BJ w]at e; exact h.wk z dz e
  · by_cases w:z=y
    .rw[w,BM]at e; cases e; exact ht
    · rw[BJ w]at e
      have h2:=h.top z dz e;have:(1000000:Int) * (c:Int) ≤ 1000000 * (c':Int):=gI (by lk) (by lk);lk
  · unfold wt
    by_cases w:z=y
    · rw[w,BM]
      cases e:K y with
      |none=>show(d + l).toNat ≤ big; unfold big; omega
      |some d'=>show(d + l).toNat ≤ d'.toNat; have:=hl d' e; omega
    · rw[BJ w]
      exact Rs _
  · unfold wt
    rw[BM];cases e:K y with
    |none=>show(d + l).toNat < big; unfold big; omega
    |some d'=>show(d + l).toNat < d'.toNat; have:=hl d' e; omega
theorem Bf.init{N:Net}{s:Str}(hs:s∈N.ps):Bf N s 1 (λx=>if x=s then P3 0 else j_):=by
 have iff:∀x d,(if x=s then P3 (0:Int)else j_)=P3 d->x=s/\d=0:=λx d e=>by
  grind
 refine#[#[0,if_pos rfl,iX _],λx e=>by grind,λx d e=>?_,λx d e=>?_]
 .let#[rfl,rfl]:=iff x d e
  exact .nil
 .let#[rfl,rfl]:=iff x d e
  decide
def Hg(K:Kn)(e:Str×Str×Int):Prop:=∀d,K e.1=P3 d->∃d',K e.2.1=P3 d'/\d'<=d+e.2.2
structure LTold (N:Net) (s:Str) (K:Kn):Prop where
 ins:∀x,K x≠j_->x∈N.ps
 least:∀x d,K x=P3 d->Least N s x d
 all:∀x d,Wk N s x d->K x≠j_
 top:∀x d,K x=P3 d->d<=30000000
theorem Bf.told{N:Net}(ok:N.Ok){s:Str}{c:Nat}{K:Kn}(h:Bf N s c K)(hc:c<=26)(ht:∀t∈N.ts,Hg K (t.a,t.b,t.len)/\Hg K (t.b,t.a,t.len)):LTold N s K:=by
 have cl:=F7 h.start h.wk (λx d y l e he=>by
  let#[t,hm,e1,h2]:=he.tie ok;subst e1
  rcases h2 with⟨rfl,rfl⟩|⟨rfl,rfl⟩
  .exact(ht t hm).1 d e
  .exact(ht t hm).2 d e)
 exact#[h.ins,cl.1,cl.2,λx d e=>by have:=h.top x d e; omega]
def walk(N:Net):m_ Str->Int->Prop
 |[],_=>False
 |[_],d=>d=0
 |x::y::r,d=>∃l e,Ed N x y l/\walk N (y::r) e/\d=l+e
theorem O_{N:Net}{x y:Str}{r:m_ Str}{d l:Int}(he:Ed N x y l)(h:walk N (y::r) d):walk N (x::y::r) (l+d):=#[l,d,he,h,rfl]
def Far(N:Net)(a b:Str):n_ Int->Prop
 |some d=>Least N a b d
 |none=>∀d,¬Wk N a b d
theorem Far.unique{N:Net}{a b:Str}{o o':n_ Int}(h:Far N a b o)(h':Far N a b o'):o=o':=by
 cases o with
 |none=>
  cases o' with
  |none=>rfl
  |some d=>exact absurd (h'.1)^h d
 |some d=>
  cases o' with
  |none=>exact absurd (h.1)^h' d
  |some d'=>rw[Least.unique (h) h']
theorem Told.far{N:Net}{s:Str}{F:La}(h:Told N s F)(x:Str):Far N s x ((F x).map (·.1)):=by
 cases e:F x with
 |none=>exact λd hw=>h.all x d hw e
 |some a=>exact h.least x _ _ e
theorem LTold.far{N:Net}{s:Str}{K:Kn}(h:LTold N s K)(x:Str):Far N s x^K x:=by
 cases e:K x with
 |none=>exact λd hw=>h.all x d hw e
 |some d=>exact h.least x d e
def Way(N:Net)(a b:Str)(o:n_^m_ Str):Prop:=match o with
 |some w=>∃d r,w=a::r/\w.getLast?=P3 b/\walk N w d/\Least N a b d/\w.length<=30/\∀x∈w,x∈N.ps
 |none=>∀d,¬Wk N a b d
def Y5:n_ Str->D
 |some y=>.str y
 |none=>.non
def PY:n_ Int->D
 |some y=>.int y
 |none=>.non
def Y4:n_^m_ Str->D
 |some w=>.tup^w.map .str
 |none=>.non
def GV(p:Int×n_ Str):D:=.tup [.int p.1,Y5 p.2]
def okN(N:Net):Prop:=N.Ok/\N.ps.length<=25/\N.ts.length<=60
def Zy:W2:=λss n P=>∃(Wt:m_ Str) (ks:m_ Key) (ds:m_ D) (F:La),ss=[.br^.lst^Wt.map .str,.br^.dic ks ds]/\Dmap ks ds GV F/\(∀x∈Wt,F x≠j_)/\Wt≠[]/\Wt.length<=100 /\
 ∀v∈Wt,(∀y∈Wt,∀dv pv dy py,F v=P3 (dv,pv)->F y=P3 (dy,py)->dv<=dy)->P (.str v) n
def Xm:W2:=λss n P=>∃(N:Net) (s:Str),ss=[.sh^enc N,.sh^.str s]/\okN N/\s∈N.ps/\∀(ks:m_ Key) (ds:m_ D) (F:La),Dmap ks ds GV F->Told N s F->P (.dic ks ds) n
def Z1:W2:=λss n P=>∃(N:Net) (a b:Str),ss=[.sh^enc N,.sh^.str a,.sh^.str b]/\okN N/\a∈N.ps/\b∈N.ps/\∀o,Far N a b o->P (PY o) n
def Zw:W2:=λss n P=>∃(N:Net) (a b:Str),ss=[.sh^enc N,.sh^.str a,.sh^.str b]/\okN N/\a∈N.ps/\b∈N.ps/\∀o,Way N a b o->P (Y4 o) n
theorem bS{i j:Int}{x y:Str}(h:Ag [.inl j,.inr y] [.inl i,.inr x]=l_):i<=j:=by
 have h:(if iA j=.inl i then(if fW y=.inr x then l_ else decide _)else decide _)=l_:=h
 grind
section
theorem Al(x:Str):keyOf^.str x=P3^.inr x:=rfl
theorem Pm{N:Net}(ok:N.Ok){xs:m_ Str}(h:∀x∈xs,x∈N.ps):CS^.lst^xs.map .str:=En λd hd=>by
  let#[x,hx,rfl]:=Sc.mp hd;exact Cy^ok.names x^h x hx
theorem GC{N:Net}{Wt:m_ Str}(hn:Wt.Nodup)(h:∀x∈Wt,x∈N.ps):Wt.length<=N.ps.length:=by
 have:∀(xs ps:m_ Str),xs.Nodup->(∀x∈xs,x∈ps)->xs.length<=ps.length:=by
  intro xs
  induction xs with
  |nil=>grind
  |cons x xs ih=>
   intro ps hn hm;have hx:=hm x Op;have hn:=cz.mp hn;have h1:=ih (ps.erase x) hn.2 λj hj=>(List.mem_erase_of_ne λe=>hn.1^by simp_all).mpr^hm j^TW _ hj
   grind
 simp_all
theorem Hw(ks:m_ Key)(k:Key):(Ck ks k).length=if IR ks k=k_ then ks.length else ks.length+1:=by
 unfold Ck
 split
 .rfl
 simp_all
theorem Dmap.has{α:Type}{ks:m_ Key}{ds:m_ D}{enc:α->D}{F:Str->n_ α}(h:Dmap ks ds enc F){x:Str}:(F x=j_->IR ks^.inr x=l_)/\(F x≠j_->IR ks^.inr x=k_):=by
 constructor
 .intro e
  cases c:IR ks _ with
  |false=>rfl
  |true=>exact absurd e^(h.mem x).mp^hasK_iff.mp c
 .intro e
  exact hasK_iff.mpr^(h.mem x).mpr e
theorem PJ{N:Net}{x:Str}(hx:x∈N.ps):BA (N.ps.map .inr) (N.ps.map^S0 N.ts)^.inr x=P3^S0 N.ts x:=by
 have go:∀ps:m_ _,x∈ps->BA (ps.map .inr) (ps.map^S0 N.ts)^.inr x=P3^S0 N.ts x:=by
  intro ps
  induction ps with
  |nil=>grind
  | cons q ps ih=>
   intro h;show(if fW q=.inr x then P3 _ else BA _ _ _)=_
   by_cases e:q=x
   .grind
   .rw[if_neg λz=>e^gZ z]
    exact ih^(Tk.mp h).resolve_left λz=>e z.symm
 simp_all
theorem S3(l:m_ (Str×Int)):E7 ((l.map λx=>(.inr x.1:Key)).map S2) (l.map λx=>.int x.2)=l.map bE:=by
 induction l with
 |nil=>rfl
 |cons p l ih=>
  show D.tup _::E7 _ _=bE p::l.map _;rw[←ih];rfl
end
structure WInv (N:Net) (F:La) (b:Str) (db:Int) (acc:List Str) (pl:Option Str):Prop where
 st:(acc=[]/\pl=P3 b)\/∃z r dz,acc.reverse=z::r/\F z=P3 (dz,pl)/\walk N acc.reverse (db - dz)/\acc.reverse.getLast?=P3 b
 nd:acc.Nodup
 ins:∀x∈acc,x∈N.ps
 less:∀y dy q,pl=P3 y->F y=P3 (dy,q)->∀x∈acc,∃dx qx,F x=P3 (dx,qx)/\dy<dx
 fnd:∀y,pl=P3 y->F y≠j_
def wm(F:La):n_ Str->Nat
 |none=>0
 |some y=>((F y).getD (0,j_)).1.toNat+1
theorem WInv.step{N:Net}(ok:N.Ok){a:Str}{F:La}(T:Told N a F){b:Str}{db:Int}{qb:n_ Str}(eb:F b=P3 (db,qb)){acc:m_ Str}{y:Str}{dy:Int}{qy:n_ Str}(h:WInv N F b db acc^P3 y)(ey:F y=P3 (dy,qy)):WInv N F b db (acc++[y]) qy/\wm F qy<wm F^P3 y:=by
 have hy0:=(T.least y dy qy ey).1.pos ok
 have nx:∀w dw q,qy=P3 w->F w=P3 (dw,q)->dw<dy:=λw dw q e ew=>by
  rcases T.prev y dy qy ey with⟨z,_⟩|⟨w',dw',q',l,e1,e2,e3,e4⟩
  .rw[e]at z; cases z
  .rw[e]at e1
   cases e1;rw[ew]at e2;cases e2
   have:=(e3.pos ok).1
   lk
 have hf:∀w,qy=P3 w->F w≠j_:=λw e=>by
  rcases T.prev y dy qy ey with⟨z,_⟩|⟨w',dw',q',l,e1,e2,_⟩
  .rw[e]at z; cases z
  .rw[e]at e1
   cases e1;rw[e2];intro z; cases z
 refine#[#[.inr ?_,?_,λx hx=>?_,λw dw q e ew x hx=>?_,hf],?_]
 .rw [List.reverse_append,List.reverse_singleton,iC]
  rcases h.st with⟨rfl,e⟩|⟨z,r,dz,e1,e2,e3,e4⟩
  .cases e
   rw[eb]at ey;cases ey;exact#[_,_,_,rfl,eb,(by show db - db=0; omega),rfl]
  .refine#[y,acc.reverse,dy,rfl,ey,?_,?_]
   .rw[e1]at e3 ⊢
    rcases T.prev z dz (P3 y) e2 with⟨w,_⟩|⟨w',dw',q',l,k1,k2,k3,k4⟩
    .cases w
    .cases k1
     rw[ey]at k2;cases k2
     have:=O_ k3 e3
     rw[show l+(db - dz)=db - dy by lk]at this;exact this
   .rw[e1]at e4 ⊢
    exact e4
 .rw[eG]
  refine#[h.nd,cz.mpr #[ci,di],λx hx z hz e=>?_];rw[On.mp hz]at e;let#[dx,qx,ex,hlt]:=h.less y dy qy rfl ey x hx;rw[e,ey]at ex;cases ex;lk
 .rcases cn.mp hx with hx|hx
  .exact h.ins x hx
  .rw[On.mp hx]
   exact T.ins y^by rw[ey]; intro z; cases z
 .have h1:=nx w dw q e ew
  rcases cn.mp hx with hx|hx
  .let#[dx,qx,ex,hlt]:=h.less y dy qy rfl ey x hx
   exact#[dx,qx,ex,by lk]
  .rw[On.mp hx]
   exact#[dy,qy,ey,h1]
 .cases qy with
  |none=>exact Nat.succ_pos _
  | some w=>
   cases ew:F w with
   |none=>exact absurd ew (hf w rfl)
   |some p=>
    have h1:=nx w p.1 p.2 rfl ew;have h2:=(T.least w p.1 p.2 ew).1.pos ok;show((F w).getD (0,j_)).1.toNat+1<((F y).getD (0,j_)).1.toNat+1;rw[ew,ey];show p.1.toNat+1<dy.toNat+1;lk
section
theorem Lq{o:n_ Int}(h:∀d,o=P3 d->0<=d/\d<=30000000):Ja^PY o:=by
 cases o with
 |none=>exact HC (B:=0) (by cbv) trivial (cq _) (cq _)
 |some d=>exact HC (B:=30000000) (by cbv) (by show d.natAbs<=_; grind) (cq _)^by show 200<=200000; decide
end
theorem V5{N:Net}(okn:okN N):G_ 1000001^enc N/\QR^enc N<=48000/\QV^enc N<=3:=Vt (Tz okn.1) (IL okn.1) (by rw[FM]; have:=okn.2.1; omega)^by rw[FM]; have:=okn.2.2; omega
end Nt
namespace Dp
open L2
def YM(i:Nat)(b:BW)(body:Aa):Aa:=λD2 n ρ=>∃d ds,ρ[i]?=P3^.br d/\G3 d=P3 ds/\Bn b body D2 ds n ρ
section
variable {X:Cx}{κ:Kd}{tg:Expr}{body:m_ Stmt}{b:BW}{wb:Aa}{pos p:Pos}{x:Str}{i:Nat}
theorem Rel.lessKp{K:Frag}{C:Fm}{q:Ch×HO}{M:Ch->Prop}{H:Hp}{n:Sg}{ρ:m_ Slot}{σ:L2.St}(R:Rel K {C with kp:=q::C.kp} M H n ρ σ):Rel K C M H n ρ σ:=
 #[R.len,R.sub,R.dom,R.ext,R.fU,R.uV,R.vM,R.feed,R.sl,R.pin,R.br0,R.new,R.two,λp hp=>R.kept p^TW _ hp]
theorem UH(hp:jI (model X.prog X.w) X.A X.env X.xe)(hc:X.calm=k_)(h:PE X (.Name x p)^Bw i)(hg:DG X tg b)(hb:Mh X κ body wb)
  (hs:∀y,foldedSetIterable (.Name x p) X.env y=pure y:=by intro _; rfl):DS X κ (.For tg (.Name x p) body [] pos)^YM i b wb:=by
 let#[g,g1,g2]:=hg;let#[tb,b1,b2]:=hb;refine#[_,Kh hp hc (NC h) g1 b1 hs,λC M H n ρ σ D2 E R L w=>?_];let#[d,ds,hi,hd,w]:=w;let#[v,e1,hAt]:=R.sl i _ hi;cases d with
 | tup ds'=>
  cases hd;let#[a,vs,rfl,hn,hat]:=hAt;refine#[.ref a,getD_some e1,.inr^.inl #[a,rfl,#[vs,hn.sq],?_]];obtain⟨kp',ek⟩:∃kp',kp'=C.kp:=#[_,rfl];have R1:Rel X.K {C with kp:=kp'} M H n ρ σ:=by rw[ek]; exact R
  have less:∀{M H n ρ σ},Rel X.K {C with kp:=kp'} M H n ρ σ->Rel X.K C M H n ρ σ:=λR=>by rw[ek]at R; exact R
  have st:∀M' H' n' zY zZ,Rel X.K {C with kp:=kp',zG:=(M,H)::C.zG} M' H' n' zY zZ->SqT X.K H' a vs:=λM' H' n' zY zZ R'=>(hn.pres^R'.pin (M,H) Op).sq;refine#[λi m zZ H'=>m=ds.length - i/\i<=ds.length/\∃M' n' zY,Rel X.K {C with kp:=kp',zG:=(M,H)::C.zG} M' H' n' zY zZ/\Bn b wb D2 (ds.drop i) n' zY,#[ds.length,by simp,cq _,M,n,ρ,R1.pinned,w],?_];rintro i m zZ H' ⟨rfl,hil,M',n',zY,R',w'⟩;have pr:Pres M H M' H':=R'.pin (M,H) Op;have hq:=st M' H' n' zY zZ R'
  by_cases hlt:i<ds.length
  .have ed:ds.drop i=ds[i]::ds.drop (i+1):=fD hlt
   rw[ed]at w';let#[v,ev,hv]:=(hat.pres pr).get^No hlt;refine .inr #[#[vs,v,hq,ev],λzN H2=>∃M2 n2 zL,Rel X.K {C with kp:=kp',zG:=(M,H)::C.zG} M2 H2 n2 zL zN/\Bn b wb D2 (ds.drop (i+1)) n2 zL,λzN H2 #[M2,n2,zL,R2',w2]=>#[ds.length - (i+1),by lk,rfl,hlt,M2,n2,zL,R2',w2],λy H2 hy=>?_];let#[e2,hy]:=hy;subst e2
   have:P3 v=P3 y:=ev.symm.trans^hy vs hq
   cases this;refine g2 _ M' H2 n' zY zZ ds[i] v _ _ R' hv w' λzP zV R3 w3=>?_;refine b2 _ M' H2 n' zP zV {D2 with nx:=Bn b wb D2^ds.drop (i+1),ct:=Bn b wb D2^ds.drop (i+1),bk:=D2.nx} _ R3 #[λM4 H4 n4 zR zQ R4 w4=>#[M4,n4,zR,R4,w4],L.rt,λM4 H4 n4 zR zQ R4 w4=>L.nx M4 H4 n4 zR zQ (less R4.unpin) w4,λM4 H4 n4 zR zQ R4 w4=>#[M4,n4,zR,R4,w4]] w3
  .have e:i=ds.length:=by lk
   subst e;rw[gR]at w';exact .inl #[#[vs,hq,by rw[hat.length]; exact Rs _],L.nx M' H' n' zY zZ (less R'.unpin) w']
 | lst ds'=>
  cases hd;let#[a,vs,rfl,nV,hH,hat]:=hAt
  obtain⟨o,ho,hnv,hro⟩:∃o,H a=P3 o/\¬QW o/\∀H':Hp,H' a=P3 o->SqL X.K H' a vs:=by
   rcases hH with z|⟨u,z⟩
   .exact#[_,z,(by rintro⟨_,z⟩; cases z),λH' e=>.inl^.inl e]
   .exact#[_,z,(by rintro⟨_,z⟩; cases z),λH' e=>.inl^.inr #[u,e]]
  refine#[.ref a,getD_some e1,.inl #[a,rfl,#[vs,hro H ho],?_]]
  obtain⟨kp',R1,less,st⟩:∃kp',Rel X.K {C with kp:=kp'} M H n ρ σ/\(∀{M H n ρ σ},Rel X.K {C with kp:=kp'} M H n ρ σ->Rel X.K C M H n ρ σ)/\(∀M' H' n' zY zZ,Rel X.K {C with kp:=kp',zG:=(M,H)::C.zG} M' H' n' zY zZ->SqL X.K H' a vs):=by
   by_cases hM:M a
   .refine#[(a,o)::C.kp,#[R.len,R.sub,R.dom,R.ext,R.fU,R.uV,R.vM,R.feed,R.sl,R.pin,R.br0,R.new,R.two,λq hq=>?_],λR=>R.lessKp,λM' H' n' zY zZ R'=>hro H' (R'.kept (a,o) Op).1]
    rcases Tk.mp hq with rfl|hq
    .refine#[ho,#[hM,hnv],nV,λj e q z=>?_]
     let#[u,hu]:=R.br0 i _ a hi e1
     have:=(R.new j _ a q rfl z).2
     rw[hu]at this;cases this
    .exact R.kept q hq
   .exact#[C.kp,R,λR=>R,λM' H' n' zY zZ R'=>hro H'^(R'.pin (M,H) Op).1 a o ho hM hnv]
  refine#[λi m zZ H'=>m=ds.length - i/\i<=ds.length/\∃M' n' zY,Rel X.K {C with kp:=kp',zG:=(M,H)::C.zG} M' H' n' zY zZ/\Bn b wb D2 (ds.drop i) n' zY,#[ds.length,by simp,cq _,M,n,ρ,R1.pinned,w],?_];rintro i m zZ H' ⟨rfl,hil,M',n',zY,R',w'⟩;have pr:Pres M H M' H':=R'.pin (M,H) Op;have hq:=st M' H' n' zY zZ R'
  by_cases hlt:i<ds.length
  .have ed:ds.drop i=ds[i]::ds.drop (i+1):=fD hlt
   rw[ed]at w';let#[v,ev,hv]:=(hat.pres pr).get^No hlt;refine .inr #[#[vs,v,hq,ev],λzN H2=>∃M2 n2 zL,Rel X.K {C with kp:=kp',zG:=(M,H)::C.zG} M2 H2 n2 zL zN/\Bn b wb D2 (ds.drop (i+1)) n2 zL,λzN H2 #[M2,n2,zL,R2',w2]=>#[ds.length - (i+1),by lk,rfl,hlt,M2,n2,zL,R2',w2],λy H2 hy=>?_];let#[e2,hy]:=hy;subst e2
   have:P3 v=P3 y:=ev.symm.trans^hy vs hq
   cases this;refine g2 _ M' H2 n' zY zZ ds[i] v _ _ R' hv w' λzP zV R3 w3=>?_;refine b2 _ M' H2 n' zP zV {D2 with nx:=Bn b wb D2^ds.drop (i+1),ct:=Bn b wb D2^ds.drop (i+1),bk:=D2.nx} _ R3 #[λM4 H4 n4 zR zQ R4 w4=>#[M4,n4,zR,R4,w4],L.rt,λM4 H4 n4 zR zQ R4 w4=>L.nx M4 H4 n4 zR zQ (less R4.unpin) w4,λM4 H4 n4 zR zQ R4 w4=>#[M4,n4,zR,R4,w4]] w3
  .have e:i=ds.length:=by lk
   subst e;rw[gR]at w';exact .inl #[#[vs,hq,by rw[hat.length]; exact Rs _],L.nx M' H' n' zY zZ (less R'.unpin) w']
 |_=>cases hd
end
end Dp
namespace Nt
open L2 Dp
def sub(N:Net)(kept:m_ Ak):Net:=#[N.ps,N.ts.filter λu=>decide (u∈kept)]
def VG(N:Net)(t b:Int)(u:Ak):Prop:=∃d,Least N u.a u.b d/\d*b<=u.len*t
noncomputable def Bt(N:Net)(t b:Int)(u:Ak):Bool:=@decide (VG N t b u)^fL _
theorem nearB_iff{N:Net}{t b:Int}{u:Ak}:Bt N t b u=k_↔VG N t b u:=by
 unfold Bt
 grind
noncomputable def AW(N:Net)(t b:Int):m_ Ak->m_ Ak->m_ Ak
 |kept,[]=>kept
 |kept,u::r=>if Bt (sub N kept) t b u=k_ then AW N t b kept r else AW N t b (kept++[u]) r
def LV:W2:=λss n P=>∃(N:Net) (z:D) (ts:m_ Ak),ss=[.sh^enc N,.br z]/\G3 z=P3^ts.map AN/\ts.length<64/\∀ts':m_ Ak,ts'.Perm ts->J8 ts'->P (enc #[N.ps,ts']) n
def Sn:W2:=λss n P=>∃(N:Net) (u:Ak) (t b:Int),ss=[.sh^enc N,.sh^.tup [.int t,.int b],.sh^AN u]/\okN N/\u.a∈N.ps/\u.b∈N.ps/\1<=b/\b<=1000000/\1<=t/\t<=1000000/\∀o:n_^m_ Str,(∀w,o=P3 w->Way N u.a u.b^P3 w/\Bt N t b u=k_)->(o=j_->Bt N t b u=l_)->P (Y4 o) n
def Sj:W2:=λss n P=>∃(N:Net) (t b:Int),ss=[.sh^enc N,.sh^.tup [.int t,.int b]]/\okN N/\1<=b/\b<=1000000/\1<=t/\t<=1000000/\∀ord:m_ Ak,ord.Perm N.ts->Bv ord->P (enc^sub N^AW N t b [] ord) n
def Sq:W2:=λss n P=>∃(N:Net) (s:Str) (z:D) (us:m_ Ak),ss=[.br z,.sh^.str s]/\G3 z=P3^us.map AN/\(∀u,u∈us↔u∈N.ts)/\okN N/\s∈N.ps/\∀(ks:m_ Key) (ds:m_ D) (K:Kn),Dmap ks ds D.int K->LTold N s K->P (.dic ks ds) n
theorem sub_mem{N:Net}{kept:m_ Ak}{u:Ak}:u∈(sub N kept).ts↔u∈N.ts/\u∈kept:=by
 show u∈N.ts.filter _↔_
 simp_all
theorem CD{N:Net}(okn:okN N)(kept:m_ Ak):okN^sub N kept:=#[V6 okn.1 (λt h=>(sub_mem.mp h).1)^okn.1.trise.filter _,okn.2.1,c5 (cj _ _) okn.2.2]
theorem Qu{N:Net}(ok:N.Ok){kept ts:m_ Ak}(hk:∀t∈kept,t∈N.ts)(nd:kept.Nodup)(hp:ts.Perm kept)(hb:J8 ts):(#[N.ps,ts]:Net)=sub N kept:=by
 congr 1
 refine CN ((fe (hp.nodup_iff.mpr nd)^(BG ok.trise).filter _).mpr λt=>?_) hb^B6^ok.trise.filter _;rw[hp.mem_iff]
 simp_all
theorem BY{N:Net}{t b:Int}{kept r:m_ Ak}{u:Ak}:AW N t b kept (u::r)=if Bt (sub N kept) t b u=k_ then AW N t b kept r else AW N t b (kept++[u]) r:=rfl
theorem IH{α β:Type}:∀{l:m_ (α×β)},(l.map (·.1)).Nodup->∀{p q:α×β},p∈l->q∈l->p.1=q.1->p=q
 |a::l,nd,p,q,hp,hq,e=>by
  rw[dL,cz]at nd
  rcases Tk.mp hp with hp2|hp2 <;>rcases Tk.mp hq with hq2|hq2
  .rw[hp2,hq2]
  .grind
  .exact absurd (Sc.mpr #[p,hp2,by rw[e,hq2]]) nd.1
  .exact IH nd.2 hp2 hq2 e
theorem Tt{N:Net}(ok:N.Ok){x y:Str}{l:Int}(h:Ed N x y l):look N.ts x y=P3 l:=by
 unfold look;cases e:(Dk _ x).find? _ with
 |none=>exact absurd (List.find?_eq_none.mp e _ h)^by simp
 |some q=>
  have e1:=of_decide_eq_true^List.find?_some (p:=λz=>decide _) e;rw[IH (Pl ok x) (i7 e) h e1];rfl
theorem Ld{N:Net}(ok:N.Ok):∀{r:m_ Str}{x:Str}{s d:Int},walk N (x::r) d->K3 N.ts x r s=P3 (s+d)
 |[],x,s,d,h=>by
  have:=h
  subst this;show P3 s=P3 _
  grind
 |y::r,x,s,d,h=>by
  let#[l,e,he,hw,rfl]:=h;show(match look _ x y with|some l=>K3 _ y r _|none=>j_)=_;rw[Tt ok he];show K3 _ y r _=_;rw[Ld ok hw,Int.add_assoc]
theorem OU{N:Net}(ok:N.Ok){x:Str}{r:m_ Str}{d:Int}(hx:x∈N.ps)(hw:walk N (x::r) d):ZC N^.tup^(x::r).map .str=.int d:=by
 show(if((x::r).map _).all _ then Wi N _ else .non)=_;rw[if_pos^all_strs _,Hk];show(if x∈N.ps then Ls _ else .non)=_;rw[if_pos hx,Ld ok hw,Int.zero_add];rfl
theorem JR{N:Net}{B:Nat}(ok:N.Ok):∀{w:m_ Str},(∀x∈w,x∈N.ps)->IU B^w.map .str/\Ll^w.map .str<=9*w.length/\Jz^w.map .str<=0
 |[],_=>#[trivial,Rs _,Rs _]
 | x::r,h=>by
  let#[a,b,c]:=JR ok λy hy=>h y^TW _ hy;have hx:=ok.names x^h x Op;refine#[#[λch hc=>by have:=hx.2.2 ch hc; omega,a],?_,?_]
  .show x.length+1+Ll _<=9*(r.length+1)
   have:=hx.2.1
   lk
  assumption
theorem Lc{N:Net}(ok:N.Ok){w:m_ Str}(hl:w.length<=30)(h:∀x∈w,x∈N.ps):ZN^.tup^w.map .str:=by
 let#[a,b,c]:=JR ok h;exact#[a,by show Ll _<=160000; omega,by show Jz _+1<=50; omega]
end Nt
namespace Dp
open L2
end Dp
namespace Nt
open L2 Dp
end Nt
namespace L2
open AutoSeq1 (wpAny_loadPart')
theorem boot_enumerate:bootBuiltins "enumerate"=P3^.type "enumerate":=by decide +kernel
section
variable {prog:Program}{w:World}{A:Around}{E:Value->Shared->Prop}{s:Shared}
theorem QD{κ:Bool}(hh:A.handled=j_)(it l:Ch)(hne:l≠it)(items:Array Cn):Draws prog w A it [it,l] items.size (λi v=>items[i]?=P3 v) (λi h=>ItAt κ h it l i/\SqAt κ h l items) where
 live:=λ_ _ st=>let #[o,ho,_]:=st.1.lies; #[o,ho]
 frame:=λ_ _ _ st k=>#[st.1.mv λo e=>k it (by simp) o e,st.2.mv λo e=>k l (by simp) o e]
 item:=λi s Q E hi st hQ=>Er st.1 st.2 (x:=items[i]) (by simp[hi]) λh' a b=>hQ _ h' s.toks (by simp[hi]) #[a,st.2.eb b.extBut hne] b
 done:=λs Q E st hE=>F2 hh st.1 st.2 (by simp) hE
theorem Nb{κ:Bool}(hh:A.handled=j_)(it l:Ch)(items:Array Cn)(k:Nat)(hk:items[k]?=j_):Draws prog w A it [it,l] k (λ_ _=>True) (λi h=>ItAt κ h it l i/\SqAt κ h l items/\i=k) where
 live:=λ_ _ st=>let #[o,ho,_]:=st.1.lies; #[o,ho]
 frame:=λ_ _ _ st k=>#[st.1.mv λo e=>k it (by simp) o e,st.2.1.mv λo e=>k l (by simp) o e,st.2.2]
 item:=λi s Q E hi st hQ=>absurd st.2.2^cb hi
 done:=λs Q E st hE=>F2 hh st.1 st.2.1 hk hE
theorem Rc(κ:Bool)(l:Ch)(items:Array Cn):Meets (f8.«enumerate.__new__» #[[.type "enumerate",.ref l],[]]) (λ_ R s=>SqAt κ s.heap l items /\
   R (.ok^.ret^.ref (s.heap.push^Gu κ l).objs.size) {s with heap:=(s.heap.push^Gu κ l).push {cls:=.type "enumerate",data:=.fields #[ .none,.bool l_,.ref s.heap.objs.size,rawInt 0,.none,.none]}}):=
 .of_wp λprog w A R s h=>by
  let#[hp,g,d,tk,os]:=s; let#[hl,h]:=h
  have hsub:=sub_enumerate;cases κ with
  | true=>
   have hL:jO (gF #[hp,g,d,tk,os]) l items:=hl;let#[#[c,dct,dt,sl],ho,hc,n,hd]:=id hL;replace hc:c=.type "list":=hc;replace hd:dt=.seq items n:=hd;subst hc hd
   wp_walk using d9 ho
   refine wpAny_stack_any λst=>UF ?_
   split
   .rename_i c _ _ _ _ _
    cases(c==dP "enumerate") <;>(wp_walk using d9 ho,eT hL; exact#[_,rfl,h])
   ·(wp_walk using d9 ho,eT hL; exact#[_,rfl,h])
  | false=>
   have hL:jD (gF #[hp,g,d,tk,os]) l items:=hl;let#[#[c,dct,dt,sl],ho,hc,n,hd]:=id hL;replace hc:c=.type "tuple":=hc;replace hd:dt=.seq items n:=hd;subst hc hd
   wp_walk using d9 ho
   refine wpAny_stack_any λst=>UF ?_
   split
   .rename_i c _ _ _ _ _
    cases(c==dP "enumerate") <;>(wp_walk using d9 ho,dh hL; exact#[_,rfl,h])
   ·(wp_walk using d9 ho,dh hL; exact#[_,rfl,h])
theorem JO{κ:Bool}{l:Ch}{items:Array Cn}{Q:Cn->Go->Prop}(hl:SqAt κ s.heap l items)
  (h:∀h',IsEnum h' (s.heap.objs.size+1) s.heap.objs.size 0 .none->ItAt κ h' s.heap.objs.size l 0->(∀b o,s.heap.get? b=P3 o->h'.get? b=P3 o)->Q (.ref (s.heap.objs.size+1)) {s with heap:=h'}):
  wpAny (model prog w) A (call (.type "enumerate") [.ref l]) Q E s:=by
 refine callType_new F.called_enumerate (by cbv) (F.typeCall_enumerate_1 _) (F.newCall_enumerate_1 _) (λobj=>F.args_object_init_2 obj _) F.entry_enumerate_new (Rc κ l items) #[hl,?_];have hz:(s.heap.push^Gu κ l).objs.size=s.heap.objs.size+1:=dS ..;have g1:((s.heap.push^Gu κ l).push {cls:=.type "enumerate",data:=.fields #[ .none,.bool l_,.ref s.heap.objs.size,rawInt 0,.none,.none]}).get? (s.heap.push^Gu κ l).objs.size=P3 _:=Re _ rfl;rw[hz]at g1;refine#[#[_,by rw[hz]; exact g1,rfl],?_];rw[hz];exact h _ g1 ((IM κ s.heap l).mv λo e=>Ev _ e) λb o e=>Ev _^Ev _ e
end
def YC(K:Frag)(κ:Bool)(a:Ch)(xs:m_ V):It:=
 #[λi H=>SqK κ K H a xs/\i<xs.length,λi H x H'=>∃T p,x=.ref T/\H T=j_/\H'=Ah H T^.tup [.int i,p]/\xs[i]?=P3 p,λi H=>SqK κ K H a xs/\xs.length<=i]
structure X2 (κ:Bool) (e it a:Ch) (k:Nat) (h:cf):Prop where
 e:∃old,IsEnum h e it (k:Int) old
 i:ItAt κ h it a k
theorem PD{P:cm}{w:cy}{K:Frag}{es:m_ cr}{j:Nat}{pos:Pos}(κ:Bool)(e it a:Ch)(xs:m_ V)(ei:e≠it)(ae:a≠e)(ai:a≠it):
  Turn P w K (.Tuple es j pos) (YC K κ a xs) [e,it] e (X2 κ e it a) where
 mem:=by simp
 obj:=λi h st c hc=>by
  simp only[Tk,ci,or_false]at hc
  rcases hc with rfl|rfl
  .let#[o,q]:=st.e
   exact#[_,q,λv q=>by cases q]
  .exact st.i.lies
 keep:=λi h h' st k=>by
  let#[o,q]:=st.e;exact#[#[o,k e (by simp) _ q],st.i.mv λo e=>k it (by simp) o e]
 item:=by
  intro X hP hw hK hc i zG s σ H E I hf st hg;subst hP hw hK;let#[ha,hi]:=hg;let#[us,r1,q1]:=ha.at I;let#[u,hu,ru]:=r1.get^No hi;let#[old,ee]:=st.e;have l1:=r1.length;refine wpAny_pyNext_enum_itemD (QD (κ:=κ) (A:=X.A.in1) (I.ok.hd hc) it a ai us.toArray) ee #[st.i,q1] (by simp; omega) ei (by simp[ei,ae.symm]) λx h' tk hp a1 a2 a3 a4 a5=>#[_,rfl,?_]
  have hxu:x=u:=by
   have e2:us[i]?=P3 x:=by simpa using hp
   rw[hu]at e2;exact(XV e2).symm
  subst hxu;refine wpAny_letOwnedTupleGo_enum a1 λh2 b1 b2=>?_;have hT:H s.heap.objs.size=j_:=I.hok.fresh^Rs _
  have kk:∀c o,c∉[e,it]->s.heap.get? c=P3 o->h2.get? c=P3 o:=λc o hc z=>by
   simp only[Tk,ci,or_false,not_or]at hc;exact b2.extBut _ _ hc.1^a5 c o hc.1 hc.2 z
  have I2:Inv X zG σ (Ah H s.heap.objs.size^.tup [.int i,xs[i]]) {s with heap:=h2,toks:=tk+1}:=by
   refine I.turnLaid (t':=tk+1) (ch:=[e,it]) hf kk (Rs _) ?_;have nT:s.heap.objs.size≠e:=fm^TM ee;exact#[by show 2<=sizeLine; decide,[.int i tk,x],.cons #[_,rfl]^.cons ru .nil,#[_,b2.extBut _ _ nT a3,rfl,_,rfl,rfl,rfl]]
  refine#[.ref s.heap.objs.size,_,I2,rfl,#[_,_,rfl,hT,rfl,No hi],#[#[_,b1],a2.1.eb b2.extBut ei.symm],λc hc=>?_];have hcn:H c=j_:=(hf c hc).1
  have hlt:c≠s.heap.objs.size:=λz=>by
   obtain⟨o,ho⟩:∃o,s.heap.get? c=P3 o:=by
    simp only[Tk,ci,or_false]at hc
    rcases hc with rfl|rfl
    .exact#[_,ee]
    .let#[o,q,_]:=st.i.lies; exact#[o,q]
   rw[z]at ho;exact dZ _^TM ho
  rw[AI hlt]; exact hcn
 done:=by
  intro X hP hw hK hc i zG s σ H E I hf st hg;subst hP hw hK;let#[ha,hi]:=hg;let#[us,r1,q1]:=ha.at I;let#[old,ee]:=st.e;have l1:=r1.length;refine wpAny_pyNext_enum_endD (Nb (κ:=κ) (A:=X.A.in1) (I.ok.hd hc) it a us.toArray i^by simp; omega) ee #[st.i,q1,rfl] λh' kk=>#[rfl,?_];refine I.turnedL (t':=s.toks) (ch:=[e,it]) hf λc o hc e=>?_;simp only[Tk,ci,or_false,not_or]at hc;exact kk c o hc.2 e
 self:=λA i s Q E st h=>by
  let#[old,ee]:=st.e;exact wpAny_pyIter_enum ee h
section
variable {X:Cx}{e1:Expr}{es:m_ Expr}{j:Nat}{tpos p pos:Pos}{te:TE}
def ZI(K:Frag)(te:TE):TI:=λσ H R=>te σ H λv H1=>∃κ a xs,v=.ref a/\SqK κ K H1 a xs/\R (YC K κ a xs) H1
theorem TY(hg:Gl X "enumerate")(hm:X.mg "enumerate"=j_)(he:PE X e1 te)(hs:starEach [e1] X.env=[(l_,eval e1 X.env)]:=by rfl):
  PI X (.Tuple es j tpos) (.Call (.Name "enumerate" p) [e1] [] pos) (ZI X.K te):=by
 intro zG s σ H R I h;refine eN^D4 I hg hm boot_enumerate ?_;refine eM ?_ hs rfl;rw[hs];refine fB^A5 (he zG s σ H _ I h) λu s1 zz=>?_;let#[x,H1,I1,r1,κ,a,xs,ex,hq,q]:=zz;refine fh ?_;subst ex;cases r1;let#[us,r1',q1]:=hq.at I1;have la:a<s1.heap.objs.size:=by let#[o,e]:=q1.lies; exact TM e
 refine JO q1 λh' hz hi hk=>?_;refine wpAny_pyIter_enum hz ?_;refine#[s1.heap.objs.size+1,[s1.heap.objs.size+1,s1.heap.objs.size],_,YC X.K κ a xs,H1,rfl,I1.kept (t':=s1.toks) hk,PD κ _ _ a xs (by show(_:Nat)≠(_:Nat); omega) (cb^eF la)^cb la,#[#[_,hz],hi],λc hc=>?_,q]
 have hge:s1.heap.objs.size<=c:=by
  simp only[Tk,ci,or_false]at hc
  rcases hc with rfl|rfl
  .exact dO _
  .exact Rs _
 exact I1.fpOk hge^I1.hok.fresh hge
end
end L2
namespace Dp
open L2
def E3:Nat->m_ D->m_ D
 |_,[]=>[]
 |k,x::r=>.tup [.int (k:Int),x]::E3 (k+1) r
theorem Jx:∀(k:Nat) (ds:m_ D),(E3 k ds).length=ds.length
 |_,[]=>rfl
 |k,x::r=>by show(E3 (k+1) r).length+1=r.length+1; rw[Jx (k+1) r]
theorem Jy:∀(k:Nat) (ds:m_ D) (i:Nat),(E3 k ds)[i]?=(ds[i]?).map λx=>.tup [.int ((k+i:Nat):Int),x]
 |_,[],i=>by simp[E3]
 |k,x::r,0=>rfl
 |k,x::r,i+1=>by
  show(E3 (k+1) r)[i]?=(r[i]?).map _;rw[Jy (k+1) r i,show k+1+i=k+(i+1) by lk]
section
variable {K:Frag}
theorem ML{M:Ch->Prop}{H:Hp}{κ:Bool}{a:Ch}{vs:m_ V}{ds:m_ D}(hs:Ats K M H ds vs){i:Nat}{M':Ch->Prop}{H':Hp}(pr:Pres M H M' H')(h1:SqK κ K H' a vs)(dom:∀a,M' a->∃o,H' a=P3 o):
  (∀d,(E3 0 ds)[i]?=P3 d->(YC K κ a vs).go i H'/\∀x H2,(YC K κ a vs).yld i H' x H2->Grow H' H2/\At K M' H2 d x)/\((E3 0 ds).length<=i->(YC K κ a vs).stop i H'):=by
 have l1:=hs.length;refine#[λd hd=>?_,λhl=>#[h1,by rw[Jx]at hl; omega]];rw[Jy,Nat.zero_add]at hd;cases q1:ds[i]? with
 |none=>rw[q1]at hd; cases hd
 |some d1=>
  rw[q1]at hd;have hd':D.tup [.int (i:Int),d1]=d:=XV hd;have i1:i<ds.length:=(Uf.mp q1).1;refine#[#[h1,by lk],λx H2 y=>?_];let#[T,p,rfl,hT,rfl,e1]:=y;let#[v1,f1,a1]:=(hs.pres pr).get q1;rw[e1]at f1;cases f1;subst hd';exact#[Ad hT,C5 dom hT #[.int (i:Int),[p],rfl,rfl,p,[],rfl,a1,rfl]]
end
section
variable {X:Cx}{e1:Expr}{es:m_ Expr}{j:Nat}{tpos p pos:Pos}{κ:Kd}{wa:DW}
def YN(wa:DW):Dr:=λn ρ P=>wa n ρ λd n1=>∃xs,G3 d=P3 xs/\P (E3 0 xs) n1
theorem UL(hg:Gl X "enumerate")(hm:X.mg "enumerate"=j_)(h:DE X e1 κ wa)(hk:κ≠.tp:=by intro z; cases z)(hs:starEach [e1] X.env=[(l_,eval e1 X.env)]:=by rfl):
  DI X (.Tuple es j tpos) (.Call (.Name "enumerate" p) [e1] [] pos) (YN wa):=by
 let#[t,a1,a2]:=h;refine#[_,TY hg hm a1 hs,λC M H n ρ σ P Rr R w q=>?_];refine a2 C M H n ρ σ _ _ R w λv H1 d n1 ee f1 r1 p=>?_;let#[xs,hd,p]:=p;let#[zX,a,us,rfl,h1,s1]:=Mz (r1.shOf R.dom hk) hd;exact#[zX,a,us,rfl,s1 M H1^Pres.refl _ _,q _ H1 _ n1 ee f1 (λi M' H' pr dom=>ML h1 pr (s1 M' H' pr) dom) p]
end
end Dp
namespace L2
end L2
namespace Dp
open L2
end Dp
namespace Nt
open L2 Dp
end Nt
namespace Dp
open L2
end Dp
namespace L2
def bi(d:Ch)(o:Obj)(kvs:m_ (Key×V)):It:=
 #[λi H=>H d=P3^.frz o^.dK kvs/\i<kvs.length,λi H x H'=>H'=H/\∃p,kvs[i]?=P3 p/\x=kV p.1,λi H=>H d=P3^.frz o^.dK kvs/\kvs.length<=i]
theorem PC{P:cm}{w:cy}{K:Frag}{tg:cr}(d it:Ch)(o:Obj)(kvs:m_ (Key×V))(es:Array DictEntry)(ep:Nat)(hdat:o.data=.dict es ep):
  Turn P w K tg (bi d o kvs) [it] it (λi h=>h.IsKeyIter it d i kvs.length ep) where
 mem:=by simp
 obj:=λi h st c hc=>by
  rw[On.mp hc];let#[u,hu,_,hd]:=st;exact#[u,hu,λv q=>by rw[hd]at q; cases q]
 keep:=λi h h' st k=>st.at λu e=>k it (by simp) u e
 item:=by
  intro X hP hw hK hc i zG s σ H E I hf st hg;subst hP hw hK;let#[hH,hi]:=hg;let#[ws,kv,D]:=Es I hH hdat
  have hl:=kv.length;have hiw:i<ws.length:=by lk
  rw[hl]at st;obtain⟨k,v,hkv⟩:∃k v,ws[i]=(k,v):=#[_,_,rfl];have hx:ws[i]?=P3 (k,v):=by rw[No hiw,hkv]
  have hp:kvs[i]?=P3 kvs[i]:=No hi;let#[ek,rv]:=Hz kv hp hx;have ek:kvs[i].1=k:=ek;refine wpAny_pyNext_dict_item st D hx λkey h' hkey hit hsame=>#[_,rfl,?_];let#[u,hu,hcu,hdu]:=id hit;refine MF hu hcu hdu (by cbv) ?_;have I2:Inv X zG σ H {s with heap:=h'}:=I.turnedL (t':=s.toks) (ch:=[it]) hf λc o hc e=>hsame.extBut c o (λz=>hc^by rw[z]; exact On.mpr rfl) e;exact#[_,H,I2,Ro (by rw[←ek]at hkey; exact hkey),#[rfl,_,hp,rfl],by rw[hl]; exact hit,λb hb=>(hf b hb).1]
 done:=by
  intro X hP hw hK hc i zG s σ H E I hf st hg;subst hP hw hK;let#[hH,hi]:=hg;let#[ws,kv,D]:=Es I hH hdat
  have hl:=kv.length;rw[hl]at st;refine wpAny_pyNext_dict_end (I.ok.hd hc) st D (iD^by lk) λh' ext=>#[rfl,?_];exact I.turnedL (t':=s.toks) (ch:=[it]) hf λc o hc e=>ext c o (λz=>hc^by rw[z]; exact On.mpr rfl) e
 self:=λA i s Q E st h=>wpAny_pyIter_keyiter st h
def ZH(te:TE):TI:=λσ H R=>te σ H λx H1=>∃d o kvs,x=.ref d/\H1 d=P3^.frz o^.dK kvs/\R (bi d o kvs) H1
theorem TX{X:Cx}{e tg:cr}{te:TE}(he:PE X e te):PI X tg e^ZH te:=by
 intro zG s σ H R I h;refine A5 (he zG s σ H _ I h) λu s1 zz=>?_;let#[x,H1,I1,r1,d,o,kvs,ex,hd,q]:=zz;subst ex;cases r1;let#[_,lo,_]:=E4 I1.hok^.inr #[o,hd]
 obtain⟨es,ep,hdat⟩:∃es ep,o.data=.dict es ep:=by
  let#[e0,_,_,ws,kv,o',es',ep',e1,e2,e3,e4]:=(show ObjOk X.prog X.w H1 s1.heap d^.frz o^.dK kvs from I1.hok d _ hd);rw[e0]at e1;cases e1;exact#[es',ep',e3]
 let#[ws,kv,D]:=Es I1 hd hdat
 have hl:=kv.length;refine wpAny_pyIter_dict lo D ?_;refine#[s1.heap.objs.size,[s1.heap.objs.size],_,bi d o kvs,H1,rfl,I1.kept (t':=s1.toks) λb o e=>Ev _ e,PC d _ o kvs es ep hdat,#[_,Re _ rfl,rfl,by rw[hl]; rfl],λc hc=>?_,q];rw[On.mp hc];exact I1.fpOk (Rs _)^I1.hok.fresh^Rs _
end L2
namespace Dp
open L2
section
variable {X:Cx}{a tg:Expr}{zT:Kd}{wa:DW}
def YI(wa:DW):Dr:=λn ρ P=>wa n ρ λd n1=>∃ks ds,d=.fdi ks ds/\(∀k∈ks,K4 k)/\P (ks.map S2) n1
theorem UK(ha:DE X a zT wa):DI X tg a^YI wa:=by
 let#[t,a1,a2]:=ha;refine#[_,TX a1,λC M H n ρ σ P Rr R w q=>?_];refine a2 C M H n ρ σ _ _ R w λv H1 d n1 ee f1 r1 p=>?_;let#[ks,ds,rfl,hfit,p]:=p;have R1:=R.step ee f1;obtain⟨ad,vs,rfl,⟨o,nM,hd⟩,hlen,hs⟩:∃a vs,v=.ref a/\NdF M H1 a ks vs/\ks.length=ds.length/\Ats X.K M H1 ds vs:=r1.tpOf R.dom R.vM;have hl:=hs.length;refine#[ad,o,_,rfl,hd,q _ _ _ n1 ee f1 (λi M' H' pr dom=>?_) p];have hd':H' ad=P3^.frz o^.dK^ks.zip vs:=(pr.nd nM hd).2;have zl:(ks.zip vs).length=ks.length:=by rw[iQ]; omega
 refine#[λe he=>?_,λhle=>#[hd',by rw[FM]at hle; omega]];have hi:i<ks.length:=by have:=(Uf.mp he).1; rw[FM]at this; exact this
 refine#[#[hd',by lk],λx H2 y=>?_];let#[rfl,pp,hp,rfl]:=y
 have e2:(ks.zip vs)[i]?=P3 (ks[i],vs[i]'(by lk)):=by
  rw[i8];exact#[No hi,No^by lk]
 rw[e2]at hp;cases hp
 have e3:e=S2 ks[i]:=by
  rw[cX,No hi]at he;exact(XV he).symm
 subst e3;refine#[.refl,?_];rw[Rp];exact SS^hfit _^dY hi
def YL(wa:DW):DW:=λn ρ P=>wa n ρ λd n1=>∃ks ds,d=.dic ks ds/\CJ ds=k_/\P (.fdi ks ds) n1
mutual
theorem At.frz{K:Frag}{M:Ch->Prop}{H:Hp}{a:Ch}{f:Ch->Obj}{kvs:m_ (Key×V)}(ha:H a=P3^.dK kvs):∀{d:D}{v:V},EB d=k_->At K M H d v->At K M (Ew H [a] f) d v
 |.non,v,_,h=>h
 |.bl b,v,_,h=>h
 |.int i,v,_,h=>h
 |.str x,v,_,h=>h
 |.tup ds,v,hn,h=>by
  let#[b,vs,e,n2,hs]:=h;refine#[b,vs,e,?_,Ats.frz ha hn hs];unfold NdT at n2 ⊢;rw[C4 λz=>by rw[On.mp z,ha]at n2; cases n2];exact n2
 |.lst ds,v,hn,h=>by
  let#[b,vs,e,#[n1,n2],hs]:=h;refine#[b,vs,e,#[n1,?_],Ats.frz ha hn hs];rw[C4 λz=>by rw[On.mp z,ha]at n2; cases n2];exact n2
 |.dic _ _,v,hn,h=>by cases hn
 |.fdi _ _,v,hn,h=>by cases hn
 |.dit _ _,v,hn,h=>by cases hn
 |.ob _,v,hn,h=>by cases hn
theorem Ats.frz{K:Frag}{M:Ch->Prop}{H:Hp}{a:Ch}{f:Ch->Obj}{kvs:m_ (Key×V)}(ha:H a=P3^.dK kvs):∀{ds:m_ D}{vs:m_ V},CJ ds=k_->Ats K M H ds vs->Ats K M (Ew H [a] f) ds vs
 |[],vs,_,h=>h
 |d::ds,vs,hn,h=>by
  let#[v,r,e,h1,h2]:=h;have hn:(EB d&&CJ ds)=k_:=hn;rw[dB]at hn;exact#[v,r,e,At.frz ha hn.1 h1,Ats.frz ha hn.2 h2]
end
theorem SO(ha:DE X a .fr wa):DE X a .sh^YL wa:=by
 let#[t,a1,a2]:=ha;refine#[_,RO a1,λC M H n ρ σ P Q R w q=>?_];refine a2 C M H n ρ σ _ _ R w λv H1 d n1 e1 f1 r1 p=>?_;let#[ks,ds,rfl,hnd,p]:=p;let#[b,rfl,hb,vs,hH,hl,hs]:=r1;refine#[[b],λc hc=>by rw[On.mp hc]; exact#[_,hH],λf=>?_];have nM:¬M b:=λz=>by let#[o,w]:=R.dom b z; rw[hb]at w; cases w
 have out:∀{c:Ch},c≠b->Ew H1 [b] f c=H1 c:=λh=>C4 λz=>h^On.mp z;refine q _ _ (.fdi ks ds) n1 (λc o ec=>?_) ?_ #[b,vs,rfl,#[f b,nM,HI (On.mpr rfl) hH],hl,Ats.frz hH hnd ?_] p
 .have nb:c≠b:=AU ec hb
  let#[o1,z1,k1]:=e1 c o ec;exact#[o1,by rw[out nb]; exact z1,k1]
 .refine#[λg hg=>?_,λc k hc=>(f1.2 c k hc).to (λ_ _ z=>z) (λc vs e=>by rw[out λz=>by rw[z,hH]at e; cases e]; exact e) (λc o e=>?_) λu e=>by rw[out λz=>by rw[z,hH]at e; cases e]; exact e]
  rotate_left
  .by_cases z:c=b
   .rw[z]; exact#[_,HI (On.mpr rfl) hH]
   .exact#[o,by rw[out z]; exact e]
  let#[at_,rest,cells,h1,h2,#[n3,h3],h4]:=f1.1 g hg;exact#[at_,rest,cells,by rw[out λz=>by rw[z,hH]at h1; cases h1]; exact h1,h2,#[n3,by rw[out λz=>by rw[z,hH]at h3; cases h3]; exact h3],h4]
 .exact hs.pres^Pres.less (M':=M) λ_ z=>.inl z
end
end Dp
namespace L2
open PySem.W
end L2
namespace Dp
open L2
end Dp
namespace L2
section
variable {prog:Program}{w:World}{A:Around}{E:Value->Shared->Prop}{s:Shared}{x y:Str}{t u:Tok}
def Qj(x y:Str)(i:Nat):Str:=if i=0 then x else y
theorem Ny{i:Nat}{v:Cn}(h:(#[ eE x t,eE y u]:Array Cn)[i]?=P3 v):∃k,v=.str (Qj x y i) k:=by
 match i with
 |0=>exact#[t,(XV h).symm]
 |1=>exact#[u,(XV h).symm]
 |i+2=>simp at h
theorem J4:CmpOf prog w A .Lt (λi v=>(#[ eE x t,eE y u]:Array Cn)[i]?=P3 v) (λi j=>decide ((Qj x y i).cps.toList<(Qj x y j).cps.toList)):=λi j vi vj s Q E hi hj h=>by
 let#[a,rfl]:=Ny hi;let#[b,rfl]:=Ny hj;exact richCompare_gives (op:=.Lt) (gx s _ a) (gx s _ b) PySem.F.slot_str_lt PySem.F.entry_str_lt (PySem.F.args_str_lt_2 _ _) (gives_str_lt _ _ a b) (λe=>nomatch e) h
theorem J5:CmpOf prog w A .Gt (λi v=>(#[ eE x t,eE y u]:Array Cn)[i]?=P3 v) (λi j=>decide ((Qj x y j).cps.toList<(Qj x y i).cps.toList)):=λi j vi vj s Q E hi hj h=>by
 let#[a,rfl]:=Ny hi;let#[b,rfl]:=Ny hj;exact richCompare_gives (op:=.Gt) (gx s _ a) (gx s _ b) PySem.F.slot_str_gt PySem.F.entry_str_gt (PySem.F.args_str_gt_2 _ _) (gives_str_gt _ _ a b) (λe=>nomatch e) h
theorem Qk{n c:Nat}(h:c∈[n+1,n]):c<n+1+1:=by
 simp only[Tk,ci,or_false]at h;lk
theorem Fa{bt:Nat->Nat->Bool}{v:Cn}(h:(#[ eE x t,eE y u]:Array Cn)[argBest bt 1]?=P3 v):v=if bt 1 0=k_ then .str y u else .str x t:=by
 have e:argBest bt 1=if bt 1 0=k_ then 1 else 0:=rfl
 rw[e]at h;cases c:bt 1 0 with
 |true=>rw[c]at h; exact(XV h).symm
 |false=>rw[c]at h; exact(XV h).symm
theorem Po{Q:Cn->Go->Prop}(hh:A.handled=j_)(h:∀h' tk,(∀c o,s.heap.get? c=P3 o->h'.get? c=P3 o)->Q (if decide (y.cps.toList<x.cps.toList)=k_ then .str y u else .str x t) {s with heap:=h',toks:=tk}):
  wpAny (model prog w) A (call (.builtin "min") [.str x t,.str y u]) Q E s:=by
 have hT:(s.heap.push {cls:=.type "tuple",data:=.seq #[ .str x t,.str y u]}).IsTuple s.heap.objs.size #[ .str x t,.str y u]:=#[_,Re _ rfl,rfl,0,rfl];refine call_min_two^dh hT ?_;have z1:(s.heap.push {cls:=.type "tuple",data:=.seq #[ .str x t,.str y u]}).objs.size=s.heap.objs.size+1:=dS ..;refine#[_,[_,s.heap.objs.size],[_],_,_,_,_,rfl,jP (A:=A.in1) hh _ s.heap.objs.size (by rw[z1]; exact cb^fM _) #[ .str x t,.str y u],#[#[_,Re _ rfl,rfl,rfl],hT.push _],λc hc=>?_,by simp,J4,λv h' tk hP k=>?_]
 .rw[dS,z1]; rw[z1]at hc; exact Qk hc
 .rw[Fa hP]
  refine h h' tk λc o e=>k c o (λm=>?_)^Ev _^Ev _ e;have l:=TM e;rw[On.mp m,z1]at l;exact absurd l^f_.mpr^dO _
theorem Pq{Q:Cn->Go->Prop}(hh:A.handled=j_)(h:∀h' tk,(∀c o,s.heap.get? c=P3 o->h'.get? c=P3 o)->Q (if decide (x.cps.toList<y.cps.toList)=k_ then .str y u else .str x t) {s with heap:=h',toks:=tk}):
  wpAny (model prog w) A (call (.builtin "max") [.str x t,.str y u]) Q E s:=by
 have hT:(s.heap.push {cls:=.type "tuple",data:=.seq #[ .str x t,.str y u]}).IsTuple s.heap.objs.size #[ .str x t,.str y u]:=#[_,Re _ rfl,rfl,0,rfl];refine call_max_two^dh hT ?_;have z1:(s.heap.push {cls:=.type "tuple",data:=.seq #[ .str x t,.str y u]}).objs.size=s.heap.objs.size+1:=dS ..;refine#[_,[_,s.heap.objs.size],[_],_,_,_,_,rfl,jP (A:=A.in1) hh _ s.heap.objs.size (by rw[z1]; exact cb^fM _) #[ .str x t,.str y u],#[#[_,Re _ rfl,rfl,rfl],hT.push _],λc hc=>?_,by simp,J5,λv h' tk hP k=>?_]
 .rw[dS,z1]; rw[z1]at hc; exact Qk hc
 .rw[Fa hP]
  refine h h' tk λc o e=>k c o (λm=>?_)^Ev _^Ev _ e;have l:=TM e;rw[On.mp m,z1]at l;exact absurd l^f_.mpr^dO _
end
section
variable {X:Cx}
def U5:m_ V->Hp->VK->Prop:=λxs H Q=>∃x y:Str,xs=[.str x,.str y]/\Q (.str (if decide (y.cps.toList<x.cps.toList)=k_ then y else x)) H
def U8:m_ V->Hp->VK->Prop:=λxs H Q=>∃x y:Str,xs=[.str x,.str y]/\Q (.str (if decide (x.cps.toList<y.cps.toList)=k_ then y else x)) H
theorem J6(hc:X.calm=k_):B9 X (.builtin "min") U5:=by
 intro zG s σ H xs us Q I r h;let#[x,y,rfl,q]:=h;let#[u,w',rfl,#[t,rfl],#[t',rfl]]:=vals2 r;refine Po (I.ok.hd hc) λh' tk k=>#[_,H,I.kept k,?_,q];cases decide (y.cps.toList<x.cps.toList) <;>exact#[_,rfl]
theorem J7(hc:X.calm=k_):B9 X (.builtin "max") U8:=by
 intro zG s σ H xs us Q I r h;let#[x,y,rfl,q]:=h;let#[u,w',rfl,#[t,rfl],#[t',rfl]]:=vals2 r;refine Pq (I.ok.hd hc) λh' tk k=>#[_,H,I.kept k,?_,q];cases decide (x.cps.toList<y.cps.toList) <;>exact#[_,rfl]
end
end L2
namespace Dp
open L2
section
variable {K:Frag}
def VL(ds:m_ D)(P:D->Prop):Prop:=∃x y:Str,ds=[.str x,.str y]/\P^.str (if decide (y.cps.toList<x.cps.toList)=k_ then y else x)
def VN(ds:m_ D)(P:D->Prop):Prop:=∃x y:Str,ds=[.str x,.str y]/\P^.str (if decide (x.cps.toList<y.cps.toList)=k_ then y else x)
theorem Lf{U M:Ch->Prop}{H:Hp}{x y:Str}{vs:m_ V}(hp:Paired (λv d=>AtT K U M H d v) vs [.str x,.str y]):vs=[.str x,.str y]/\x.length<=sizeLine/\y.length<=sizeLine:=by
 cases hp with
 | cons r1 r2=>cases r2 with
  |cons r3 r4=>
   cases r4;let#[rfl,l1]:=r1.str;let#[rfl,l2]:=r3.str;exact#[rfl,l1,l2]
theorem Se:Cf K .sh U5 VL:=by
 intro U M H ds vs P Q dom vM hp w q;let#[x,y,rfl,w]:=w;let#[e,l1,l2]:=Lf hp;exact#[x,y,e,q _ H (.str _) .refl #[rfl,by split <;>assumption] w]
theorem Sf:Cf K .sh U8 VN:=by
 intro U M H ds vs P Q dom vM hp w q;let#[x,y,rfl,w]:=w;let#[e,l1,l2]:=Lf hp;exact#[x,y,e,q _ H (.str _) .refl #[rfl,by split <;>assumption] w]
end
end Dp
namespace L2
open PySem.W
end L2
namespace Dp
open L2
end Dp
namespace L2
open PySem.W
section
variable {X:Cx}
def U7(K:Frag):m_ V->Hp->VK->Prop:=λxs H Q=>∃(p:Ch) (x y:Str),xs=[.ref p]/\SqT K H p [.str x,.str y]/\Q (.str (if decide (y.cps.toList<x.cps.toList)=k_ then y else x)) H
theorem QJ(hc:X.calm=k_):B9 X (.builtin "min")^U7 X.K:=by
 intro zG s σ H xs us Q I r h;let#[p,x,y,rfl,hq,q]:=h;let#[u,rfl,rx]:=vals1 r;cases rx;let#[its,r',pl,hz]:=I.tuple hq;let#[u1,u2,rfl,#[t1,rfl],#[t2,rfl]]:=vals2 r';have hl:s.heap.IsTuple p #[ eE x t1,eE y t2]:=pl;have hlt:p<s.heap.objs.size:=by let#[_,e,_]:=id hl; exact TM e
 refine call_min_walkS^dh hl ?_
 refine#[s.heap.objs.size,_,_,_,_,_,_,_,rfl,(jP (A:=X.A.in1) (I.ok.hd hc) _ p (cb hlt) #[ eE x t1,eE y t2]).toS,
  #[#[_,Re _ rfl,rfl,rfl],hl.push _],λb hb=>?_,by simp,J4,λv s' hP hm=>?_]
 .rcases Tk.mp hb with rfl|hb
  .exact TM (Re _ rfl)
  .obtain rfl:=On.mp hb
   exact c6 hlt^by show s.heap.objs.size<=(s.heap.push _).objs.size; rw[iP]; exact dO _
 .let#[h',g',d',tk',os']:=s'
  have e1:g'=s.gens:=hm.gens;have e2:d'=s.drawn:=hm.drawn;have e3:os'=s.os:=hm.os;subst e1 e2 e3;rw[Fa hP];refine#[_,H,I.kept (t':=tk') λb x e=>hm.heap b x (λhb=>by rw[On.mp hb]at e; exact dZ _^TM e)^Ev _ e,?_,q];show RelV (V.str (if decide (y.cps.toList<x.cps.toList)=k_ then y else x)) (if decide (y.cps.toList<x.cps.toList)=k_ then _ else _);cases decide (y.cps.toList<x.cps.toList) <;>exact#[_,rfl]
def U9(K:Frag):m_ V->Hp->VK->Prop:=λxs H Q=>∃(p:Ch) (x y:Str),xs=[.ref p]/\SqT K H p [.str x,.str y]/\Q (.str (if decide (x.cps.toList<y.cps.toList)=k_ then y else x)) H
theorem QL(hc:X.calm=k_):B9 X (.builtin "max")^U9 X.K:=by
 intro zG s σ H xs us Q I r h;let#[p,x,y,rfl,hq,q]:=h;let#[u,rfl,rx]:=vals1 r;cases rx;let#[its,r',pl,hz]:=I.tuple hq;let#[u1,u2,rfl,#[t1,rfl],#[t2,rfl]]:=vals2 r';have hl:s.heap.IsTuple p #[ eE x t1,eE y t2]:=pl;have hlt:p<s.heap.objs.size:=by let#[_,e,_]:=id hl; exact TM e
 refine call_max_walkS^dh hl ?_
 refine#[s.heap.objs.size,_,_,_,_,_,_,_,rfl,(jP (A:=X.A.in1) (I.ok.hd hc) _ p (cb hlt) #[ eE x t1,eE y t2]).toS,
  #[#[_,Re _ rfl,rfl,rfl],hl.push _],λb hb=>?_,by simp,J5,λv s' hP hm=>?_]
 .rcases Tk.mp hb with rfl|hb
  .exact TM (Re _ rfl)
  .obtain rfl:=On.mp hb
   exact c6 hlt^by show s.heap.objs.size<=(s.heap.push _).objs.size; rw[iP]; exact dO _
 .let#[h',g',d',tk',os']:=s'
  have e1:g'=s.gens:=hm.gens;have e2:d'=s.drawn:=hm.drawn;have e3:os'=s.os:=hm.os;subst e1 e2 e3;rw[Fa hP];refine#[_,H,I.kept (t':=tk') λb x e=>hm.heap b x (λhb=>by rw[On.mp hb]at e; exact dZ _^TM e)^Ev _ e,?_,q];show RelV (V.str (if decide (x.cps.toList<y.cps.toList)=k_ then y else x)) (if decide (x.cps.toList<y.cps.toList)=k_ then _ else _);cases decide (x.cps.toList<y.cps.toList) <;>exact#[_,rfl]
end
end L2
namespace Dp
open L2
section
variable {K:Frag}
def ZU(ds:m_ D)(P:D->Prop):Prop:=∃x y:Str,ds=[.tup [.str x,.str y]]/\P^.str (if decide (y.cps.toList<x.cps.toList)=k_ then y else x)
theorem XY:Cf K .sh (U7 K) ZU:=by
 intro U M H ds vs P Q dom vM hp w q;let#[x,y,rfl,w]:=w;let#[v,rfl,hx]:=Dh hp;let#[ad,vs,rfl,hq,hs]:=AtT.tup hx;let#[v1,r1,rfl,h1,v2,r2,rfl,h2,rfl]:=hs;let#[rfl,l1]:=h1;let#[rfl,l2]:=h2;exact#[ad,x,y,rfl,hq.sq,q _ H (.str _) .refl #[rfl,by split <;>assumption] w]
def ZV(ds:m_ D)(P:D->Prop):Prop:=∃x y:Str,ds=[.tup [.str x,.str y]]/\P^.str (if decide (x.cps.toList<y.cps.toList)=k_ then y else x)
theorem Xa:Cf K .sh (U9 K) ZV:=by
 intro U M H ds vs P Q dom vM hp w q;let#[x,y,rfl,w]:=w;let#[v,rfl,hx]:=Dh hp;let#[ad,vs,rfl,hq,hs]:=AtT.tup hx;let#[v1,r1,rfl,h1,v2,r2,rfl,h2,rfl]:=hs;let#[rfl,l1]:=h1;let#[rfl,l2]:=h2;exact#[ad,x,y,rfl,hq.sq,q _ H (.str _) .refl #[rfl,by split <;>assumption] w]
def ZP(d:D)(lo hi:n_ Int)(P:D->Prop):Prop:=match d with
 |.lst xs=>P^.lst^cutD xs lo hi
 |_=>False
theorem Zn:bY K .fr (WA K) ZP:=by
 intro U M H d x lo hi P Q dom vM hx w q;unfold ZP at w
 split at w
 .let#[a,vs,rfl,_,ha,hs]:=hx
  exact#[a,vs,rfl,.inl ha,λp hp=>q _ _ (.lst _) (Ad hp) (C6 hp^LH lo hi hs) w]
 .exact w.elim
end
end Dp
namespace Nt
open L2 Dp
section
structure cT (xs:List Str) (ks:List^List Key) (ds:List D):Prop where
 len:ks.length=ds.length
 nd:ks.Nodup
 key:∀k∈ks,∃a b:Str,k=[.inr a,.inr b]/\a∈xs/\b∈xs/\cs a<cs b
 val:∀d∈ds,∃l:Int,d=.int l/\1<=l/\l<=1000000
end
end Nt
namespace Dp
open L2
def Qe:Aa:=λ_ _ _=>False
section
variable {X:Cx}{κ:Kd}{st:Stmt}
theorem Ic:DS X κ st Qe:=#[_,λ_ _ _ _ _ _ h=>h.elim,λ_ _ _ _ _ _ _ _ _ _ w=>w]
end
end Dp
namespace Nt
open Dp
end Nt
namespace L2
def G1:HO->Prop
 |.lst _=>True
 |.dT _=>True
 |.dK _=>True
 |_=>False
def View(H H':Hp):Prop:=∀b,H' b=H b\/∃u,G1 u/\(H b=P3^.vol u/\H' b=P3 u\/H b=P3 u/\H' b=P3^.vol u)
section
variable {P:Program}{w:World}{H H' H1:Hp}{h h':Heap}
theorem View.to(v:View H H'){b:Ch}{o:HO}(e:H b=P3 o)(k:¬G1 o)(n:∀u,o≠.vol u):H' b=P3 o:=by
 rcases v b with q|⟨u,c,⟨q,_⟩|⟨q,_⟩⟩
 .rw[q]; exact e
 .rw[e]at q; exact absurd (XV q)^n u
 .rw[e]at q; rw[XV q]at k; exact absurd c k
theorem View.none(v:View H H'){b:Ch}:H' b=j_↔H b=j_:=by
 rcases v b with q|⟨u,c,⟨q,r⟩|⟨q,r⟩⟩
 .rw[q]
 .rw[q,r]; exact#[(λz=>by cases z),λz=>by cases z]
 .rw[q,r]; exact#[(λz=>by cases z),λz=>by cases z]
theorem View.tup(v:View H H')(b:Ch)(xs:m_ V)(e:H b=P3^.tup xs):H' b=P3^.tup xs:=v.to e (λz=>z) λu z=>by cases z
theorem View.own(v:View H H')(b x:Ch)(e:H b=P3^.own x):H' b=P3^.own x:=v.to e (λz=>z) λu z=>by cases z
theorem View.hok(v:View H H')(x:HOk P w H h):HOk P w H' h:=λa o e=>by
 have st:∀o,ObjOk P w H h a o->ObjOk P w H' h a o:=λo z=>z.stay (λ_ _ _ q=>q) (λb q=>v.own b a q) λb xs q=>v.tup b xs q
 rcases v a with q|⟨u,c,⟨q,r⟩|⟨q,r⟩⟩
 .exact st o^x a o^by rw[←q]; exact e
 .have z:=XV^r.symm.trans e
  subst z;exact st u (show ObjOk P w H h a^.vol u from x a _ q)
 .have z:=XV^r.symm.trans e
  subst z;exact(show ObjOk P w H' h a u from st u^x a u q)
theorem View.unR{fs ex:m_ Ch}(v:View H H')(u:Un fs ex H1 H h h'):Un fs ex H1 H' h h' where
 keep:=u.keep
 slot:=u.slot
 free:=λb o q n hx=>v.none.mpr (u.free b o q n hx)
 there:=u.there
 tups:=λb xs q=>v.tup b xs (u.tups b xs q)
 frzs:=λb o x q=>v.to (u.frzs b o x q) (λz=>z) λu z=>by cases z
 tbls:=λb ps q=>let #[m,z]:=u.tbls b ps q; #[m,v.to z (λz=>z) λu z=>by cases z]
theorem View.unL{fs ex:m_ Ch}(v:View H H')(u:Un fs ex H' H1 h h'):Un fs ex H H1 h h' where
 keep:=λb o q n=>u.keep b o q (v.none.mpr n)
 slot:=λb o q n=>u.slot b o q (v.none.mpr n)
 free:=λb o q n hx=>u.free b o q (v.none.mpr n) hx
 there:=u.there
 tups:=λb xs q=>u.tups b xs (v.tup b xs q)
 frzs:=λb o x q=>u.frzs b o x (v.to q (λz=>z) λu z=>by cases z)
 tbls:=λb ps q=>u.tbls b ps^v.to q (λz=>z) λu z=>by cases z
theorem Inv.view{X:Cx}{zG:m_ (Ch×Obj)}{σ:St}{s:Go}(I:Inv X zG σ H s)(v:View H H'):Inv X zG σ H' s:=
 #[I.ok,I.os,I.bare,v.unR I.base,I.loc,I.cell,v.none.mpr I.free,λx c q=>v.none.mpr^I.freeC x c q,λp hp=>let #[a,b,c]:=I.pin p hp; #[a,v.none.mpr b,c],v.hok I.hok,I.len]
theorem EP.view{X:Cx}{zG:m_ (Ch×Obj)}{σ:St}{Q:VK}{u:Cn}{s:Go}(h:EP X zG σ (λv H=>∃H',View H H'/\Q v H') u s):EP X zG σ Q u s:=
 let #[v,_,I,r,H',w,q]:=h; #[v,H',I.view w,r,q]
def cD(sp:Sp):Sp:=λvs H Q E=>∃H1,View H H1/\sp vs H1 (λv H2=>∃H3,View H2 H3/\Q v H3) E
theorem PU{X:Cx}{e:cr}{t:TE}(h:PE X e t):PE X e (λσ H Q=>t σ H λv H1=>∃H2,View H1 H2/\Q v H2):=λzG s σ H Q I q=>A5 (h zG s σ H _ I q) λu s1 h=>h.view
theorem FnOk.view{K:Frag}{mg:Str->n_ Cn}{base:cf}{k:Nat}{f:Ch}{fd:dR}{ps:m_ Str}{sp:Sp}(F:FnOk P w K mg base E6 k f fd ps sp):FnOk P w K mg base E6 k f fd ps^cD sp:=by
 refine#[λvs H Q E #[H1,_,q]=>F.len _ _ _ _ q,λA outer s H args us vs Q E hr e hb hv zz=>?_];let#[H1,v,q]:=zz;have e1:Env0 P w K mg base A outer s H1:=#[e.frames,e.mod,λb o z=>#[(e.bs b o z).1,v.none.mpr (e.bs b o z).2],e.bsz,e.funs,λb z=>v.none.mpr^e.frf b z,v.hok e.hok,e.bare];refine fo (F.run A outer s H1 args us vs _ E hr e1 hb hv q) λr s' hq=>?_;cases r with
 |error x=>exact dQ hq
 | ok fl=>
  cases fl with
  |ret u=>
   let#[v',H',a1,a2,a3,a4,a5,H3,v3,a6]:=hq;exact#[v',H3,a1,a2,v3.unR^v.unL a3,v3.hok a4,a5,a6]
  |next=>exact dQ hq
  |brk=>exact dQ hq
  |cont=>exact dQ hq
end
end L2
namespace Dp
open L2
def Sg.put(s:Sg)(a:Ch)(c:Wc):Sg:=#[s.n,λb=>if b=a then P3 c else s.w b]
def Sg.drop(s:Sg)(L:m_ Ch):Sg:=#[s.n,λb=>if b∈L then j_ else s.w b]
def Sg.back(s2 s:Sg)(L:m_ Ch):Sg:=#[s2.n,λb=>if b∈L then s.w b else s2.w b]
theorem Sg.back_drop(s:Sg)(L:m_ Ch)(m:Nat):Sg.back #[m,(s.drop L).w] s L=#[m,s.w]:=by
 show(#[m,λb=>if b∈L then s.w b else if b∈L then j_ else s.w b]:Sg)=_
 congr 1
 funext b
 by_cases h:b∈L
 .rw[if_pos h]
 .rw[if_neg h,if_neg h]
def GJ(w:Ch->n_ Wc):D->D
 |.ob a=>match w a with
  |some (.pl d)=>d
  |_=>.ob a
 |d=>d
def Ls(w:Ch->n_ Wc):D->D
 |.dic ks xs=>.dic ks^xs.map^GJ w
 |.tup xs=>.tup^xs.map^GJ w
 |d=>GJ w d
def Fq(w:Ch->n_ Wc):D->m_ Ch
 |.ob a=>match w a with
  |some (.pl _)=>[a]
  |_=>[]
 |_=>[]
def Rb(w:Ch->n_ Wc):D->m_ Ch
 |.dic _ xs=>xs.flatMap^Fq w
 |.tup xs=>xs.flatMap^Fq w
 |d=>Fq w d
def Yh(w:Ch->n_ Wc):Slot->Slot
 |.sh d=>.sh^Ls w d
 |s=>s
def Wb(w:Ch->n_ Wc):Slot->m_ Ch
 |.sh d=>Rb w d
 |_=>[]
def LZ(H:Hp)(L:m_ Ch):Hp:=λb=>if b∈L then(match H b with|some (.vol u)=>P3 u|o=>o)else H b
def QZ(H:Hp)(L:m_ Ch):Hp:=λb=>if b∈L then(match H b with|some u=>P3^.vol u|none=>j_)else H b
section
variable {K:Frag}{M:Addr->Prop}{H:Hp}{L:m_ Addr}{w:Addr->n_ Wc}
theorem CellOk.pl{a:Ch}{d:D}(h:CellOk K M H a^.pl d):¬M a/\∃u,G1 u/\H a=P3^.vol u/\LZ H [a] a=P3 u:=by
 cases d with
 |lst ds=>let#[h0,vs,h1,_]:=h; refine#[h0,_,?_,h1,by unfold LZ; rw[if_pos Op,h1]]; exact trivial
 |dit ks ds=>let#[h0,vs,h1,_]:=h; refine#[h0,_,?_,h1,by unfold LZ; rw[if_pos Op,h1]]; exact trivial
 |_=>exact h.elim
theorem FQ{u:HO}(h:G1 u):¬QW u:=by rintro⟨x,rfl⟩; exact h
def Cells(M:Ch->Prop)(H:Hp)(L:m_ Ch):Prop:=∀b∈L,¬M b/\∃u,G1 u/\H b=P3^.vol u
theorem Cells.un(c:Cells M H L){b:Ch}(hb:b∈L){u:HO}(h:H b=P3^.vol u):LZ H L b=P3 u:=by unfold LZ; rw[if_pos hb,h]
theorem He{b:Ch}(hb:b∉L):LZ H L b=H b:=if_neg hb
theorem GD{b:Ch}(hb:b∉L):QZ H L b=H b:=if_neg hb
theorem Cells.out(c:Cells M H L){b:Ch}{o:HO}(h:H b=P3 o)(n:¬QW o):b∉L:=λhb=>by
 let#[_,u,_,e]:=c b hb;rw[h]at e;exact n #[u,XV e]
theorem Cells.keep(c:Cells M H L){b:Ch}{o:HO}(h:H b=P3 o)(n:¬QW o):LZ H L b=P3 o:=by rw[He^c.out h n]; exact h
theorem Cells.view(c:Cells M H L):View H^LZ H L:=λb=>by
 by_cases hb:b∈L
 .let#[_,u,k,e]:=c b hb
  exact .inr #[u,k,.inl #[e,c.un hb e]]
 .exact .inl^He hb
theorem Cells.ex(c:Cells M H L)(b:Ch)(o:HO)(h:H b=P3 o):∃o',LZ H L b=P3 o':=by
 by_cases hb:b∈L
 .let#[_,u,k,e]:=c b hb
  exact#[u,c.un hb e]
 .exact#[o,by rw[He hb]; exact h]
theorem Cells.pres(c:Cells M H L):Pres M H M^LZ H L:=#[λb o h _ n=>c.keep h n,λ_ z=>.inl z,λb vs h=>c.keep h (by rintro⟨_,z⟩; cases z),c.ex]
theorem Cells.ext{U:Ch->Prop}(c:Cells M H L):Ext U H^LZ H L:=λb o h=>by
 let#[o',e]:=c.ex b o h;refine#[o',e,λ_ n=>?_,λvs z=>?_]
 .rw[c.keep h n]at e; exact(XV e).symm
 .subst z; rw[c.keep h^by rintro⟨_,z⟩; cases z]at e; exact(XV e).symm
theorem Kc{a:Ch}{d:D}(q:w a=P3^.pl d):GJ w^.ob a=d:=by
 show(match w a with|some (.pl d)=>d|_=>D.ob a)=d;rw[q]
theorem Fp{a:Ch}{d:D}(q:w a=P3^.pl d):Fq w^.ob a=[a]:=by
 show(match w a with|some (.pl _)=>[a]|_=>[])=_;rw[q]
theorem N_{a:Ch}(q:∀d,w a≠P3^.pl d):GJ w^.ob a=.ob a/\Fq w^.ob a=[]:=by
 show(match w a with|some (.pl d)=>d|_=>D.ob a)=_/\(match w a with|some (.pl _)=>[a]|_=>[])=_;cases e:w a with
 |none=>exact#[rfl,rfl]
 |some x=>cases x with
  |ins C ks ds=>exact#[rfl,rfl]
  |pl d=>exact absurd e^q d
theorem OA(hw:∀a c,w a=P3 c->CellOk K M H a c)(c:Cells M H L){d:D}{v:V}(h:At K M H d v)(hL:∀a∈Fq w d,a∈L):At K M (LZ H L) (GJ w d) v:=by
 cases d with
 | ob a=>
  by_cases q:∃d,w a=P3^.pl d
  .let#[d,q]:=q
   rw[Kc q];rw[Fp q]at hL;have ha:a∈L:=hL a Op;have k:=hw a _ q;let#[rfl,_]:=h;cases d with
   |lst ds=>let#[h0,vs,h1,_,h3]:=k; exact#[a,vs,rfl,#[h0,c.un ha h1],h3.pres c.pres]
   |dit ks ds=>let#[h0,vs,h1,h2,_,h3]:=k; exact#[a,vs,rfl,#[h0,c.un ha h1],h2,h3.pres c.pres]
   |_=>exact k.elim
  .rw[(N_ λd z=>q #[d,z]).1]; exact h.pres c.pres
 |_=>exact At.pres c.pres h
theorem Hu(hw:∀a c,w a=P3 c->CellOk K M H a c)(c:Cells M H L):∀{ds:m_ D}{vs:m_ V},Ats K M H ds vs->(∀a∈ds.flatMap^Fq w,a∈L)->Ats K M (LZ H L) (ds.map^GJ w) vs
 |[],_,h,_=>h
 |d::ds,_,#[v,r,e,h1,h2],hL=>#[v,r,e,OA hw c h1 λa ha=>hL a (by simp[ha]),Hu hw c h2 λa ha=>hL a^by simp only[fI,cn]; exact .inr ha]
theorem TL(hw:∀a c,w a=P3 c->CellOk K M H a c)(c:Cells M H L){d:D}{v:V}(h:At K M H d v)(hL:∀a∈Rb w d,a∈L):At K M (LZ H L) (Ls w d) v:=by
 cases d with
 |dic ks xs=>let#[a,vs,e,n,l,hs]:=h; exact#[a,vs,e,n.pres c.pres,by rw[FM]; exact l,Hu hw c hs hL]
 |tup xs=>let#[a,vs,e,n,hs]:=h; exact#[a,vs,e,n.pres c.pres,Hu hw c hs hL]
 |ob a=>exact OA hw c h hL
 |_=>exact At.pres c.pres h
theorem Kx{d:D}{a:Ch}(h:a∈Fq w d):∃x,w a=P3^.pl x:=by
 cases d with
 | ob b=>
  by_cases q:∃d,w b=P3^.pl d
  .let#[d,q]:=q
   rw[Fp q]at h;rw[On.mp h]; exact#[d,q]
  .rw[(N_ λd z=>q #[d,z]).2]at h; cases h
 |_=>cases h
theorem To{d:D}{a:Ch}(h:a∈Rb w d):∃x,w a=P3^.pl x:=by
 cases d with
 |dic ks xs=>let#[x,_,hx]:=dk.mp h; exact Kx hx
 |tup xs=>let#[x,_,hx]:=dk.mp h; exact Kx hx
 |ob b=>exact Kx (d:=.ob b) h
 |_=>cases h
end
def KQ(W:W2)(was:LX):DW:=λn ρ P=>was n ρ λss n1=>∃L ss',ss.map^Yh n1.w=ss'/\ss.flatMap^Wb n1.w=L/\W ss' (n1.drop L) λd n2=>flat d=k_/\P d^n2.back n1 L
section
variable {X:Cx}{e:Expr}{es:m_ Expr}{pos p:Pos}{was:LX}
theorem MZ{K:Frag}{F:n_ (Ch×Ch)}{U V' M:Ch->Prop}{H:Hp}{L:m_ Ch}{w:Ch->n_ Wc}(hw:∀a c,w a=P3 c->CellOk K M H a c)(c:Cells M H L)(uV:∀a,U a->V' a):∀{vs:m_ V}{ss:m_ Slot},Paired (DF K F V' M H) vs ss->(∀a∈ss.flatMap^Wb w,a∈L)->Paired (DF K F V' M^LZ H L) vs^ss.map^Yh w
 |_,_,.nil,_=>.nil
 |_,s::ss,.cons #[h,o] t,hL=>by
  refine .cons ?_ (MZ hw c uV t λa ha=>hL a^by simp only[fI,cn]; exact .inr ha);cases s with
  |sh d=>let#[v,e1,h1]:=h; exact#[#[v,e1,TL hw c h1 λa ha=>hL a^by simp only[fI,cn]; exact .inl ha],rfl]
  |_=>exact#[h.pres c.pres (λ_ z=>z) (c.ext (U:=U)) uV,o]
theorem NP{K:Frag}{F:n_ (Ch×Ch)}{M:Ch->Prop}{H:Hp}{n:Sg}{α:Type}{g:α->m_ Ch}{ss:m_ α}(f:FeedC K F M H n)(hg:∀s b,b∈g s->∃d,n.w b=P3^.pl d):Cells M H^ss.flatMap g:=λb hb=>by
 let#[s,_,hs]:=dk.mp hb;let#[d,hd]:=hg s b hs;let#[h0,u,k,h1,_]:=(f.2 b _ hd).pl;exact#[h0,u,k,h1]
theorem Tl{w:Ch->n_ Wc}(s:Slot)(b:Ch)(h:b∈Wb w s):∃d,w b=P3^.pl d:=by
 cases s with
 |sh d=>exact To h
 |_=>cases h
theorem FeedC.lend{K:Frag}{F:n_ (Ch×Ch)}{M:Ch->Prop}{H:Hp}{n:Sg}{L:m_ Ch}(f:FeedC K F M H n)(c:Cells M H L):FeedC K F M (LZ H L)^n.drop L:=by
 refine#[λg hg=>(f.1 g hg).pres c.pres λo ho=>?_,λa x hx=>?_]
 .let#[_,_,_,z,_]:=f.1 g hg
  rw[z]at ho; cases ho
  exact c.keep z^by rintro⟨_,z⟩; cases z
 .have hx:(if a∈L then j_ else n.w a)=P3 x:=hx
  by_cases ha:a∈L
  .rw[if_pos ha]at hx; cases hx
  .rw[if_neg ha]at hx
   exact(f.2 a x hx).to (λ_ _ z=>z) c.pres.2.2.1 c.ex λu hu=>by rw[He ha]; exact hu
theorem Ni{K:Frag}{C:Fm}{M:Ch->Prop}{H1 H3:Hp}{n1 n2:Sg}{ρ:m_ Slot}{σ:L2.St}{L:m_ Ch}(R1:Rel K C M H1 n1 ρ σ)(c:Cells M H1 L)(e3:Ext C.U (LZ H1 L) H3)(f3:FeedC K C.F M H3 n2):
  View H3 (QZ H3 L)/\Ext C.U H1^QZ H3 L/\FeedC K C.F M (QZ H3 L)^n2.back n1 L/\∀b o,H3 b=P3 o->∃o',QZ H3 L b=P3 o':=by
 have f1:=R1.feed;have in3:∀b∈L,∀u,H1 b=P3^.vol u->G1 u->H3 b=P3 u:=λb hb u hu k=>e3.keep (c.un hb hu) (λz=>(c b hb).1 (R1.vM b^R1.uV b z))^FQ k;have wr:∀b∈L,∀u,H1 b=P3^.vol u->G1 u->QZ H3 L b=P3^.vol u:=λb hb u hu k=>by unfold QZ; rw[if_pos hb,in3 b hb u hu k]
 have v3:View H3^QZ H3 L:=λb=>by
  by_cases hb:b∈L
  .let#[_,u,k,hu]:=c b hb
   exact .inr #[u,k,.inr #[in3 b hb u hu k,wr b hb u hu k]]
  .exact .inl^GD hb
 have ex3:∀b o,H3 b=P3 o->∃o',QZ H3 L b=P3 o':=λb o h=>by
  by_cases hb:b∈L
  .let#[_,u,k,hu]:=c b hb
   exact#[_,wr b hb u hu k]
  .exact#[o,by rw[GD hb]; exact h]
 have e4:Ext C.U H1^QZ H3 L:=λb o h=>by
  by_cases hb:b∈L
  .let#[_,u,k,hu]:=c b hb
   rw[h]at hu; cases hu
   exact#[_,wr b hb u h k,λ_ n=>absurd #[u,rfl] n,λvs z=>by cases z]
  .let#[o',h',z1,z2]:=e3 b o^by rw[He hb]; exact h
   exact#[o',by rw[GD hb]; exact h',z1,z2]
 refine#[v3,e4,#[λf hf=>?_,λa x hx=>?_],ex3]
 .let#[x,r,cs,g1,g2,g3,g4]:=f3.1 f hf
  let#[_,_,_,o1,_,o3,_]:=f1.1 f hf;have n1:f.1∉L:=c.out o1 (by rintro⟨_,z⟩; cases z);have n2:f.2∉L:=c.out o3.2 (by rintro⟨_,z⟩; cases z);exact#[x,r,cs,by rw[GD n1]; exact g1,g2,#[g3.1,by rw[GD n2]; exact g3.2],g4]
 .have hx:(if a∈L then n1.w a else n2.w a)=P3 x:=hx
  by_cases ha:a∈L
  .rw[if_pos ha]at hx
   refine(f1.2 a x hx).to (λ_ _ z=>z) (λb vs h=>e4.tup h) (λb o h=>let #[o',h',_]:=e4 b o h; #[o',h']) λu hu=>?_;let#[_,u',k,hu']:=c a ha;rw[hu]at hu'; cases hu'
   exact wr a ha u hu k
  .rw[if_neg ha]at hx
   exact(f3.2 a x hx).to (λ_ _ z=>z) (λb vs h=>v3.tup b vs h) ex3 λu hu=>by rw[GD ha]; exact hu
theorem SQ{k:Nat}{ps:m_ Str}{W:W2}{x:Str}(G:Got X.prog X.w X.K X.mg X.base x k ps .sh W)(hr:Room k X.A)(hg:Gl X x)(ha:Mi X (e::es) was)
  (hdb:(x==("__debug__":Str))=l_:=by decide) (he:starEach (e::es) X.env=(l_,eval e X.env)::starEach es X.env:=by rfl) (hpl:(backTo pos^starEach es X.env).any (·.1)=l_:=by rfl):
  DE X (.Call (.Name x p) (e::es) [] pos) .sh (KQ W was):=by
 let#[f,fd,G,hm,hk,hb,hW]:=G;let#[t,h1,h2]:=ha;refine#[_,HE G.view hr hg hm hk hb .nil Gh h1 hdb he hpl,λC M H n ρ σ P Q R w q=>?_];refine h2 C M H n ρ σ _ _ R w λvs H1 ss n1 e1 f1 r1 zz=>?_;let#[L,ss',es,eL,p]:=zz;have R1:=R.step e1 f1;have c:Cells M H1 L:=eL▸NP f1 Tl;rw[c9];refine#[LZ H1 L,c.view,?_];refine#[(Paired.length r1).trans (by have:=hW _ _ _ p; rw[←es,FM]at this; exact this),C.F,C.U,C.V,M,n1.drop L,ss',_,#[λa z=>let #[o,h]:=R1.dom a z; c.ex a o h,R1.fU,R1.uV,R1.vM,f1.lend c,es▸MZ f1.2 c R1.uV r1 λa ha=>eL▸ha],p,λv H3 d n2 e3 f3 r3 zz=>?_];let#[fl,p3]:=zz;let#[v3,e4,f4,ex3]:=Ni R1 c e3 f3;exact#[QZ H3 L,v3,q v _ d _ (e1.trans e4) f4 (Oe (λb vs h=>v3.tup b vs h) ex3 d fl r3) p3]
def Zl:D->Prop
 |.lst ds=>CK ds=k_
 |.dit _ ds=>CK ds=k_
 |_=>False
end
end Dp
namespace L2
end L2
namespace Dp
open L2
section
variable {K:Frag}{F:n_ (Addr×Addr)}{M:Addr->Prop}{H:Hp}{n:Sg}{a:Addr}{u u':HO}{c:Wc}
theorem Oh{U:Ch->Prop}(h:H a=P3^.vol u):Ext U H^Ah H a^.vol u':=λb o e=>by
 by_cases z:b=a
 .subst z
  rw[h]at e; cases e
  exact#[_,AM,λ_ v=>absurd #[u,rfl] v,λvs z=>by cases z]
 .exact#[o,by rw[AI z]; exact e,λ_ _=>rfl,λ_ _=>rfl]
theorem FeedC.put(f:FeedC K F M H n)(h:H a=P3^.vol u)(hc:CellOk K M (Ah H a^.vol u') a c):FeedC K F M (Ah H a^.vol u')^n.put a c:=by
 have ne:∀{b o},H b=P3 o->¬QW o->b≠a:=λe v z=>v #[u,by rw[z,h]at e; exact(XV e).symm];have x:=Oh (U:=λ_=>False) (u':=u') h;refine#[λg hg=>?_,λb k hk=>?_]
 .let#[p,r,cs,h1,h2,h3,h4]:=f.1 g hg
  exact#[p,r,cs,by rw[AI^ne h1^by rintro⟨_,z⟩; cases z]; exact h1,h2,#[h3.1,by rw[AI^ne h3.2^by rintro⟨_,z⟩; cases z]; exact h3.2],h4]
 .have hk:(if b=a then P3 c else n.w b)=P3 k:=hk
  by_cases z:b=a
  .rw[if_pos z]at hk; cases hk; rw[z]; exact hc
  .rw[if_neg z]at hk
   exact(f.2 b k hk).to (λ_ _ z=>z) (λb vs e=>x.tup e) (λb o e=>let #[o',e',_]:=x b o e; #[o',e']) λv e=>by rw[AI z]; exact e
def putN(f:Str):m_ Str->m_ Str
 |[]=>[f]
 |g::r=>if g=f then g::r else g::putN f r
def putX{α:Type}(f:Str)(y:α):m_ Str->m_ α->m_ α
 |[],_=>[y]
 |_::_,[]=>[y]
 |g::r,x::xs=>if g=f then y::xs else x::putX f y r xs
theorem Lx(f:Str)(y:V):∀{ks:m_ Str}{vs:m_ V},ks.length=vs.length->Dw f y^ks.zip vs=(putN f ks).zip^putX f y ks vs
 |[],[],_=>rfl
 |k::ks,v::vs,h=>by
  have ih:=Lx f y (ks:=ks) (vs:=vs) (by simpa using h);show(if k=f then(k,y)::ks.zip vs else(k,v)::Dw f y^ks.zip vs)=(if k=f then k::ks else k::putN f ks).zip (if k=f then y::vs else v::putX f y ks vs)
  by_cases e:k=f
  .rw[if_pos e,if_pos e,if_pos e]; rfl
  .rw[if_neg e,if_neg e,if_neg e,ih]; rfl
theorem Lv{α:Type}(f:Str)(y:α):∀{ks:m_ Str}{vs:m_ α},ks.length=vs.length->(putN f ks).length=(putX f y ks vs).length
 |[],[],_=>rfl
 |k::ks,v::vs,h=>by
  have ih:=Lv f y (ks:=ks) (vs:=vs) (by simpa using h);show(if k=f then k::ks else k::putN f ks).length=(if k=f then y::vs else v::putX f y ks vs).length
  by_cases e:k=f
  .rw[if_pos e,if_pos e]; simpa using h
  .rw[if_neg e,if_neg e]; simpa using ih
theorem Lw(f:Str){d:D}{v:V}(hd:At K M H d v):∀{ks:m_ Str}{ds:m_ D}{vs:m_ V},ks.length=ds.length->Ats K M H ds vs->Ats K M H (putX f d ks ds)^putX f v ks vs
 |[],[],_,_,h=>by cases h; exact#[_,_,rfl,hd,rfl]
 |k::ks,d0::ds,_,l,#[v0,r,e,h1,h2]=>by
  subst e;show Ats K M H (if k=f then d::ds else d0::putX f d ks ds) (if k=f then v::r else v0::putX f v ks r)
  by_cases e:k=f
  .rw[if_pos e,if_pos e]; exact#[_,_,rfl,hd,h2]
  .rw[if_neg e,if_neg e]; exact#[_,_,rfl,h1,Lw f hd (by simpa using l) h2]
theorem Je(f:Str){d:D}(hd:flat d=k_):∀{ks:m_ Str}{ds:m_ D},ks.length=ds.length->CK ds=k_->CK^putX f d ks ds=k_
 |[],[],_,_=>by show(flat d&&k_)=k_; rw[hd]; rfl
 |k::ks,d0::ds,l,h=>by
  have h:(flat d0&&CK ds)=k_:=h;rw[dB]at h;show CK (if k=f then d::ds else d0::putX f d ks ds)=k_
  by_cases e:k=f
  .rw[if_pos e]; show(flat d&&CK ds)=k_; rw[hd,h.2]; rfl
  .rw[if_neg e]; show(flat d0&&CK^putX f d ks ds)=k_; rw[h.1,Je f hd (by simpa using l) h.2]; rfl
theorem L_{f:Str}{x:D}:∀{ks:m_ Str}{ds:m_ D}{vs:m_ V},Ats K M H ds vs->(ks.zip ds).lookup f=P3 x->∃v,(ks.zip vs).lookup f=P3 v/\At K M H x v
 |[],_,_,_,e=>by cases e
 |_::_,[],_,_,e=>by cases e
 | k::ks,d::ds,_,#[v,r,e1,h1,h2],e=>by
  subst e1
  by_cases z:f=k
  .subst z
   simp only[fS,gD,BEq.rfl]at e ⊢;cases e;exact#[v,rfl,h1]
  .have hb:(f==k)=l_:=beq_eq_false_iff_ne.mpr z
   simp only[fS,gD,hb]at e ⊢;exact L_ h2 e
theorem Cv{α:Type}{f:Str}:∀{ks:m_ Str}{vs:m_ α},f∉ks->(ks.zip vs).lookup f=j_
 |[],_,_=>rfl
 |_::_,[],_=>rfl
 |k::ks,v::vs,h=>by
  have hb:(f==k)=l_:=beq_eq_false_iff_ne.mpr λz=>h (by rw[z]; exact Op);simp only[fS,gD,hb];exact Cv λz=>h^TW _ z
end
def Vp(C:Ch)(f:Str)(w:DW):DW:=λn ρ P=>w n ρ λd n1=>∃a ks ds x,d=.ob a/\n1.w a=P3^.ins C ks ds/\(ks.zip ds).lookup f=P3 x/\P x n1
def YH(C:Ch)(f:Str)(wo wv:DW):Aa:=λD2 n ρ=>wv n ρ λy n1=>flat y=k_/\wo n1 ρ λd n2=>∃a ks ds,d=.ob a/\n2.w a=P3^.ins C ks ds/\ks.length<1000/\D2.nx (n2.put a^.ins C (putN f ks)^putX f y ks ds) ρ
section
variable {X:Cx}{C:Addr}{f m:Str}{o e value:Expr}{es:m_ Expr}{pos pos' apos p:Pos}{κ zK κv:Kd}{wo wv:DW}{was:LX}
theorem FH{K:Frag}{U M:Ch->Prop}{H:Hp}{a:Ch}{v:V}(h:AtT K U M H (.ob a) v):v=.ref a:=h.1
theorem Ba(c:Cls X.K C)(hn:NoAttr X.K C f)(h:DE X e κ wo)(hb:attributeBase e f X.env^eval e X.env=eval e X.env:=by rfl):DE X (.Attribute e f pos) .sh^Vp C f wo:=by
 let#[t,h1,h2]:=h;refine#[_,WT h1 hb,λC0 M H n ρ σ P Q R w q=>?_];refine h2 C0 M H n ρ σ _ _ R w λv H1 d n1 e1 f1 r1 zz=>?_;let#[a,ks,ds,x,ed,hw,hl,p]:=zz;subst ed;let#[dx,vs,g1,g2,g3,g4]:=f1.2 a _ hw;let#[u,hu,hx]:=L_ g4 hl;exact#[a,C,dx,_,u,FH^r1.tpOf R.dom R.vM,g1,c,hn,hu,q u H1 x n1 e1 f1 hx p]
theorem Ie(c:Cls X.K C)(hn:NoAttr X.K C f)(ho:DE X o zK wo)(hv:DE X value κv wv)(hk:κv≠.tp:=by intro z; cases z)(hs:swapsWith value (P3^.Attribute o f pos') pos.line X.env=pure l_:=by rfl):DS X κ (.Assign [.Attribute o f pos'] value pos)^YH C f wo wv:=by
 let#[to,o1,o2]:=ho;let#[tv,v1,v2]:=hv;refine#[_,WK o1 v1 hs,λC0 M H n ρ σ D2 E R L w=>?_];refine v2 C0 M H n ρ σ _ _ R w λy H1 d n1 e1 f1 r1 zz=>?_;let#[fl,w1]:=zz;have R1:=R.step e1 f1;refine o2 C0 M H1 n1 ρ σ _ _ R1 w1 λx H2 d2 n2 e2 f2 r2 zz=>?_;let#[a,ks,ds,ed,hw,hl,p]:=zz;subst ed;have R2:=R1.step e2 f2;let#[dx,vs,g1,g2,g3,g4]:=f2.2 a _ hw;have lv:ks.length=vs.length:=g2.trans g4.length.symm;have x3:=Oh (U:=C0.U) (u':=.ins C dx^Dw f y^ks.zip vs) g1;have hy:At X.K M H2 d y:=(r1.shOf R.dom hk).pres^R1.pres e2;refine#[a,C,dx,_,FH^r2.tpOf R1.dom R1.vM,g1,c,hn,by rw[iQ,lv,Nat.min_self,←lv]; exact hl,?_];refine L.nx M _ _ ρ σ (R2.step x3^f2.put (c:=.ins C (putN f ks)^putX f d ks ds) g1 #[dx,putX f y ks vs,?_,Lv f d g2,Je f fl g2 g3,?_]) p
 .rw[AM,Lx f y lv]
 .exact(Lw f hy g2 g4).pres^R2.pres x3
def Nq(P:cm)(w:cy)(K:Frag)(mg:Str->n_ Cn)(base:cf)(C:Ch)(m:Str)(k:Nat)(ps:m_ Str)(κ:Kd)(W:W2):Prop:=
 ∃f fd,FnOk P w K mg base E6 k f fd ps^QS K κ W ps.length/\QQ K C m f/\Binds K fd ps []/\∀ss n P,W ss n P->ss.length=ps.length
def D9(C:Ch)(m:Str)(W:W2)(wo:DW)(was:LX):DW:=λn ρ P=>wo n ρ λd n1=>∃a ks ds,d=.ob a/\n1.w a=P3^.ins C ks ds/\m∉ks/\was n1 ρ λss n2=>W (.sh^.ob a::ss) n2 P
theorem HS{k:Nat}{ps:m_ Str}{W:W2}{pl:Sem Bool}(c:Cls X.K C)(G:Nq X.prog X.w X.K X.mg X.base C m k ps κ W)(hr:Room k X.A)(ho:DE X o zK wo)(ha:Mi X (e::es) was)
  (hst:starEach (e::es) X.env=(l_,eval e X.env)::starEach es X.env:=by rfl) (hpl:(backTo pos^starEach es X.env).any (·.1)=l_:=by rfl)
  (ht:eval (.Call (.Attribute o m apos) (e::es) [] pos) X.env=(do
   let ov ←eval o X.env
   standAt apos.atName
   let (f,first) ←holding [ov] (getMethod ov m pl)
   callWith pos f first (backTo pos^starEach (e::es) X.env) (backToKw pos^keywordEach [] X.env)):=by rfl):DE X (.Call (.Attribute o m apos) (e::es) [] pos) κ^D9 C m W wo was:=by
 let#[f,fd,G,hm,hb,hW]:=G;let#[to,o1,o2]:=ho;let#[t,a1,a2]:=ha;refine#[_,Kk o1 c hm G hr hb .nil Gh a1 hst hpl ht,λC0 M H n ρ σ P Q R w q=>?_];refine o2 C0 M H n ρ σ _ _ R w λv H1 d n1 e1 f1 r1 zz=>?_;let#[a,ks,ds,ed,hw,hl,w1]:=zz;subst ed;have R1:=R.step e1 f1;let#[dx,vs,g1,g2,g3,g4]:=f1.2 a _ hw;have ev:=FH^r1.tpOf R.dom R.vM;subst ev;refine#[a,dx,_,rfl,g1,Cv hl,?_];refine a2 C0 M H1 n1 ρ σ _ _ R1 w1 λvs2 H2 ss n2 e2 f2 r2 p=>?_;have R2:=R1.step e2 f2;rw[c9];have hex:∃o,H2 a=P3 o:=let #[o',h,_]:=e2 a _ g1; #[o',h]
 have hself:DF X.K C0.F C0.V M H2 (.ref a)^.sh^.ob a:=#[#[_,rfl,rfl,hex],rfl];exact#[(Paired.length^Paired.cons hself r2).trans^hW _ _ _ p,_,_,_,M,n2,_,P,#[R2.dom,R2.fU,R2.uV,R2.vM,f2,Paired.cons hself r2],p,λv H3 d n3 e3 f3 r3 p3=>q v H3 d n3 ((e1.trans e2).trans e3) f3 (VR.back (e1.trans e2) r3) p3]
theorem F5{k:Nat}{ps:m_ Str}{W:W2}{pl:Sem Bool}(c:Cls X.K C)(G:Nq X.prog X.w X.K X.mg X.base C m k ps κ W)(hr:Room k X.A)(ho:DE X o zK wo)
  (ht:eval (.Call (.Attribute o m apos) [] [] pos) X.env=(do
   let ov ←eval o X.env
   standAt apos.atName
   let (f,first) ←holding [ov] (getMethod ov m pl)
   callWith pos f first (backTo pos^starEach [] X.env) (backToKw pos^keywordEach [] X.env)):=by rfl):DE X (.Call (.Attribute o m apos) [] [] pos) κ^D9 C m W wo Ac:=by
 let#[f,fd,G,hm,hb,hW]:=G;let#[to,o1,o2]:=ho;refine#[_,RN o1 c hm G hr hb .nil Gh ht,λC0 M H n ρ σ P Q R w q=>?_];refine o2 C0 M H n ρ σ _ _ R w λv H1 d n1 e1 f1 r1 zz=>?_;let#[a,ks,ds,ed,hw,hl,p]:=zz;subst ed;have R1:=R.step e1 f1;let#[dx,vs,g1,g2,g3,g4]:=f1.2 a _ hw;have ev:=FH^r1.tpOf R.dom R.vM;subst ev;refine#[a,dx,_,rfl,g1,Cv hl,?_];have hself:DF X.K C0.F C0.V M H1 (.ref a)^.sh^.ob a:=#[#[_,rfl,rfl,_,g1],rfl];exact#[hW _ _ _ p,_,_,_,M,n1,_,P,#[R1.dom,R1.fU,R1.uV,R1.vM,f1,Paired.cons hself .nil],p,λv H3 d n3 e3 f3 r3 p3=>q v H3 d n3 (e1.trans e3) f3 (VR.back e1 r3) p3]
def X0(P:cm)(w:cy)(K:Frag)(mg:Str->n_ Cn)(base:cf)(x:Str)(C:Ch)(k:Nat)(ps:m_ Str)(W:W2):Prop:=
 ∃f fd,FnOk P w K mg base E6 k f fd ps^QS K .sh W ps.length/\Mk K C f/\mg x=P3^.ref C/\Binds K fd ps []/\∀ss n P,W ss n P->ss.length=ps.length
def Uq(C:Ch)(W:W2)(was:LX):DW:=λn ρ P=>was n ρ λss n1=>∀x,n1.w x=j_->W (.sh^.ob x::ss) (n1.put x^.ins C [] []) λd n2=>d=.non/\P (.ob x) n2
theorem UO{k:Nat}{ps:m_ Str}{W:W2}{x:Str}(G:X0 X.prog X.w X.K X.mg X.base x C k ps W)(hr:Room (k+1) X.A)(hg:Gl X x)(ha:Mi X (e::es) was)
  (hdb:(x==("__debug__":Str))=l_:=by decide) (he:starEach (e::es) X.env=(l_,eval e X.env)::starEach es X.env:=by rfl) (hpl:(backTo pos^starEach es X.env).any (·.1)=l_:=by rfl):
  DE X (.Call (.Name x p) (e::es) [] pos) .sh (Uq C W was):=by
 let#[f,fd,G,hm,hx,hb,hW]:=G;let#[t,a1,a2]:=ha;refine#[_,Ta hm G hr hg hx hb .nil Gh a1 hdb he hpl,λC0 M H n ρ σ P Q R w q=>?_];refine a2 C0 M H n ρ σ _ _ R w λvs H1 ss n1 e1 f1 r1 p=>λa dx ha hdx ne=>?_;have R1:=R.step e1 f1;have g1:Grow H1^Ah H1 dx^.own a:=Ad hdx;have ha1:Ah H1 dx (.own a) a=j_:=by rw[AI^dH ne]; exact ha
 have g2:Grow (Ah H1 dx^.own a)^Ah (Ah H1 dx^.own a) a^.vol^.ins C dx []:=Ad ha1;have e2:Ext C0.U H1^Ah (Ah H1 dx^.own a) a^.vol^.ins C dx []:=g1.ext.trans g2.ext
 have nw:n1.w a=j_:=by
  cases z:n1.w a with
  |none=>rfl
  |some c=>
   have k:=f1.2 a c z;cases c with
   |ins C ks ds=>let#[_,_,h,_]:=k; rw[ha]at h; cases h
   |pl d=>let#[_,u,_,h,_]:=k.pl; rw[ha]at h; cases h
 have p:=p a nw
 have f2:FeedC X.K C0.F M (Ah (Ah H1 dx^.own a) a^.vol^.ins C dx [])^n1.put a^.ins C [] []:=by
  have f:=(f1.grow g1).grow g2;refine#[λg hg=>f.1 g hg,λb k hk=>?_];have hk:(if b=a then P3 _ else n1.w b)=P3 k:=hk
  by_cases z:b=a
  .rw[if_pos z]at hk; cases hk; rw[z]; exact#[dx,[],AM,rfl,rfl,rfl]
  .rw[if_neg z]at hk; exact f.2 b k hk
 have R2:=R1.step e2 f2;rw[c9];have r2:Paired (DF X.K C0.F C0.V M^Ah (Ah H1 dx^.own a) a^.vol^.ins C dx []) (V.ref a::vs) (.sh^.ob a::ss):=Paired.cons #[#[_,rfl,rfl,_,AM],rfl]^Paired.imp' (λv s h=>#[h.1.pres (R1.pres e2) (λ_ z=>z) e2 R.uV,h.2]) r1;refine#[(Paired.length r2).trans^hW _ _ _ p,_,_,_,M,_,_,_,#[R2.dom,R2.fU,R2.uV,R2.vM,f2,r2],p,λv H3 d n3 e3 f3 r3 zz=>?_];let#[ed,p3]:=zz;subst ed;refine#[r3,q (.ref a) H3 (.ob a) n3 ((e1.trans e2).trans e3) f3 #[rfl,?_] p3];let#[o',h,_]:=e3 a _ AM;exact#[o',h]
def YQ(w:DW):DW:=λn ρ P=>w n ρ λd n1=>Zl d/\∀a,n1.w a=j_->P (.ob a)^n1.put a^.pl d
theorem Oq(h:DE X e .fr wo):DE X e .sh^YQ wo:=by
 let#[t,h1,h2]:=h;refine#[_,PU h1,λC0 M H n ρ σ P Q R w q=>?_];refine h2 C0 M H n ρ σ _ _ R w λv H1 d n1 e1 f1 #[a,ev,ha,tp] #[hd,p]=>?_;subst ev;have R1:=R.step e1 f1;have nM:¬M a:=λz=>by let#[o,h]:=R.dom a z; rw[ha]at h; cases h
 obtain⟨u,ck,hu,cell⟩:∃u,G1 u/\H1 a=P3 u/\∀H2:Hp,H2 a=P3^.vol u->(∀b vs,H1 b=P3^.tup vs->H2 b=P3^.tup vs)->(∀b o,H1 b=P3 o->∃o',H2 b=P3 o')->CellOk X.K M H2 a^.pl d:=by
  cases d with
  |lst ds=>let#[vs,h1,h2]:=tp; exact#[.lst vs,trivial,h1,λH2 g t o=>#[nM,vs,g,hd,Bz t o ds hd h2]]
  |dit ks ds=>let#[vs,h1,h2,h3]:=tp; exact#[.dT^ks.zip vs,trivial,h1,λH2 g t o=>#[nM,vs,g,h2,hd,Bz t o ds hd h3]]
  |_=>exact(show False from hd).elim
 have vw:View H1^Ah H1 a^.vol u:=λb=>by
  by_cases z:b=a
  .rw[z]; exact .inr #[u,ck,.inr #[hu,AM]]
  .exact .inl^AI z
 have ex:∀b o,H1 b=P3 o->∃o',Ah H1 a (.vol u) b=P3 o':=λb o h=>(fR (b=a)).elim (λz=>by rw[z]; exact#[_,AM]) λz=>#[o,by rw[AI z]; exact h]
 have e2:Ext C0.U H^Ah H1 a^.vol u:=λb o h=>by
  let#[o',h',z]:=e1 b o h;exact#[o',by rw[AI^AU h ha]; exact h',z]
 have nv:∀b c,n1.w b=P3 c->b≠a:=λb c k z=>by
  subst z;have k:=f1.2 b c k;cases c with
  |ins C ks ds=>let#[_,_,h,_]:=k; rw[hu]at h; exact FQ ck #[_,XV h]
  |pl d=>let#[_,_,_,h,_]:=k.pl; rw[hu]at h; exact FQ ck #[_,XV h]
 have nw:n1.w a=j_:=by
  cases z:n1.w a with
  |none=>rfl
  |some c=>exact absurd rfl (nv a c z)
 refine#[_,vw,q (.ref a) _ (.ob a) _ e2 #[λg hg=>?_,λb k hk=>?_] #[rfl,_,AM]^p a nw]
 .let#[x,r,cs,g1,g2,g3,g4]:=f1.1 g hg
  let#[_,_,_,o1,_,o3,_]:=R.feed.1 g hg;exact#[x,r,cs,by rw[AI^AU o1 ha]; exact g1,g2,#[g3.1,by rw[AI^AU o3.2 ha]; exact g3.2],g4]
 .have hk:(if b=a then P3^Wc.pl d else n1.w b)=P3 k:=hk
  by_cases z:b=a
  .rw[if_pos z]at hk; cases hk; rw[z]; exact cell _ AM (λb vs h=>vw.tup b vs h) ex
  .rw[if_neg z]at hk
   exact(f1.2 b k hk).to (λ_ _ z=>z) (λb vs h=>vw.tup b vs h) ex λu h=>by rw[AI z]; exact h
end
end Dp
namespace L2
end L2
namespace Dp
open L2
end Dp
namespace L2
end L2
namespace Dp
open L2
end Dp
namespace L2
section
variable {X:Cx}{zG:m_ (Addr×Obj)}{σ:St}{H:Hp}{s:Shared}
theorem Mu{A':c_}{E':Cn->Go->Prop}{ss:m_ Str}{us:m_ Cn}{Q:VK}(I:Inv X zG σ H s)(hS:StrsAre us ss)(h64:us.length<64)
  (q:∀(ss':m_ Str) (l:Ch),ss'.Perm ss->sortedS ss'=k_->H l=j_->Q (.ref l)^Ah H l^.lst^ss'.map V.str):
  wpAny (model X.prog X.w) A' (f8.«list.sort» #[[.ref s.heap.objs.size],[]]) (λfin s'=>fin=.done^.ret .none/\EP X zG σ Q (.ref s.heap.objs.size) s') E' {s with heap:=s.heap.push^seqObj "list" us.toArray 0}:=by
 have ho:(s.heap.push^seqObj "list" us.toArray 0).get? s.heap.objs.size=P3^seqObj "list" us.toArray 0:=Re _ rfl;refine list_sort_treeK strKind_oneLt ho hS.keysOf (λv₁ v₂ rest e=>keyKind_strs^by rw[←e]; exact hS) h64 λst' hp hs=>#[rfl,?_];let#[ss',h1,h2,h3]:=sorted_out_str hS hp hs;let#[e,he]:=sortedHeap_at (out:=(arrOf st').map (·.2)) ho;have hf:H s.heap.objs.size=j_:=I.fresh;have l1:=(CC h1).length;have l2:=(CC hS).length;have l3:=h2.length_eq;rw[FM]at l1 l2;refine#[.ref s.heap.objs.size,Ah H s.heap.objs.size^.lst^ss'.map V.str,I.laid (t':=s.toks) (λb o z=>?_) (Rs _) #[by rw[FM,dg]; omega,_,e,CC h1,he],rfl,q ss' _ h2 h3 hf];rw[sortedHeap_old (cb^TM z)^by rw[iP]; exact eF^TM z];exact Ev _ z
end
end L2
namespace Dp
open L2
end Dp
namespace L2
section
variable {X:Cx}
def Q4(K:Frag):m_ V->Hp->VK->Prop:=λxs H Q=>∃(p:Ch) (ss:m_ Str),xs=[.ref p]/\SqT K H p^ss.map V.str/\ss.length<64/\∀(ss':m_ Str) (l:Ch),ss'.Perm ss->sortedS ss'=k_->H l=j_->Q (.ref l)^Ah H l^.lst^ss'.map V.str
theorem Io:B9 X (.builtin "sorted")^Q4 X.K:=by
 intro zG s σ H xs us Q I r h;let#[p,ss,rfl,hq,h64,q]:=h;let#[u,rfl,rx]:=vals1 r;cases rx;exact Dt (args_sorted1 _) (λx=>args_list_sort _)^Ij (κ:=l_) I hq λus s1 r1 hz I1=>#[by rw[←r1.length]; exact hz,Mu I1 (E9 r1) (by have:=r1.length; rw[FM]at this; omega) q]
end
end L2
namespace Dp
open L2
def Wy(ds:m_ D)(P:D->Prop):Prop:=∃ss:m_ Str,ds=[.tup^ss.map .str]/\ss.length<64/\∀ss':m_ Str,ss'.Perm ss->sortedS ss'=k_->P^.lst^ss'.map .str
theorem O0{K:Frag}:Cf K .fr (Q4 K) Wy:=by
 intro U M H ds vs P Q dom vM hp w q;let#[ss,rfl,h64,w]:=w;let#[v,rfl,hx]:=Dh hp;let#[a,us,rfl,ha,hs]:=hx.tup
 have h2:∀{ss:m_ Str}{us:m_ V},Ats K M H (ss.map D.str) us->us=ss.map V.str:=by
  intro ss
  induction ss with
  |nil=>intro us h; exact h
  |cons x ss ih=>
   rintro us ⟨v,r,e,h1,h2⟩;rw[e,h1.1,ih h2]; rfl
 have e:=h2 hs;subst e;exact#[a,ss,rfl,ha.sq,h64,λss' l h1 h2 hl=>q _ _ _ (Ad hl) (C6 hl^Ats.strs λx hx=>hs.strs_le x^h1.mem_iff.mp hx)^w _ h1 h2]
end Dp
namespace Nt
open L2 Dp
def tD(t b:Int):D:=.tup [.int t,.int b]
def I_(t b:Int):Prop:=1<=b/\b<=1000000/\1<=t/\t<=1000000
def kc(C:Ch)(t b:Int)(N M:Net):Wc:=.ins C ["times","whole","kept"] [tD t b,enc N,enc M]
def IsT(N:Net)(t b:Int)(M:Net):Prop:=∃ord:m_ Ak,ord.Perm N.ts/\Bv ord/\M=sub N^AW N t b [] ord
def Iy(A B l:m_ Ak):Prop:=l.Perm (A.filter λt=>decide (t∉B))/\Bv l
def XN(n:Sg)(l1 l2:Ch)(x y:m_ Ak):Sg:=(n.put l1^.pl^.lst^x.map AN).put l2^.pl^.lst^y.map AN
def Va(C:Ch)(n:Sg)(a:Ch)(t b:Int)(M N:Net)(P:D->Sg->Prop):Prop:=∀(T:Net) (came went:m_ Ak) (l1 l2:Ch),IsT N t b T->Iy T.ts M.ts came->Iy M.ts T.ts went->n.w l1=j_->n.w l2=j_->l1≠l2->P (.tup [.ob l1,.ob l2])^XN (n.put a^kc C t b N T) l1 l2 came went
def SY(x y:Str)(u:Ak):Prop:=(u.a=x/\u.b=y)\/(u.a=y/\u.b=x)
noncomputable def Ao(x y:Str)(u:Ak):Bool:=@decide (SY x y u)^fL _
noncomputable def XR(x:Str)(u:Ak):Bool:=@decide (u.a=x\/u.b=x)^fL _
def Ue:W2:=λss n P=>∃N M:Net,ss=[.sh^enc N,.sh^enc M]/\okN N/\okN M/\∀l,Iy N.ts M.ts l->P (.lst^l.map AN) n
def O3:W2:=λss n P=>∃(N:Net) (us:m_ Ak),ss=[.sh^enc N,.br^.lst^us.map AN]/\okN N/\(∀u∈us,u∈N.ts)/\P (enc #[N.ps,N.ts.filter λt=>decide (t∉us)]) n
def O5(C:Ch):W2:=λss n P=>∃(a:Ch) (t b:Int),ss=[.sh^.ob a,.sh^tD t b]/\n.w a=P3^.ins C [] []/\P .non^n.put a^kc C t b #[[],[]] #[[],[]]
def O4(C:Ch):W2:=λss n P=>∃(a:Ch) (t b:Int) (N0 M N:Net),ss=[.sh^.ob a,.sh^enc N]/\n.w a=P3^kc C t b N0 M/\okN N/\okN M/\I_ t b/\Va C n a t b M N P
def Vb(C:Ch)(n:Sg)(a:Ch)(t b:Int)(N M:Net):Prop:=n.w a=P3^kc C t b N M/\okN N/\okN M/\I_ t b
inductive Dd where
 |come (x:Str)|go (x:Str)|lay (x y:Str) (l:Int)|take (x y:Str)
def DR:Dd->D
 |.come x=>.tup [.str "come",.str x]
 |.go x=>.tup [.str "go",.str x]
 |.lay x y l=>.tup [.str "lay",.str x,.str y,.int l]
 |.take x y=>.tup [.str "take",.str x,.str y]
def lo(x y:Str):Str:=if cs x<cs y then x else y
def hi(x y:Str):Str:=if cs x<cs y then y else x
def JQ(N:Net):Dd->Net->Prop
 |.come x,N'=>Ds x/\x∉N.ps/\N'.ps.Perm (x::N.ps)/\N'.ts=N.ts
 |.go x,N'=>x∈N.ps/\N'=#[N.ps.filter λy=>decide (y≠x),N.ts.filter λu=>!XR x u]
 |.lay x y l,N'=>x∈N.ps/\y∈N.ps/\x≠y/\1<=l/\l<=1000000/\N'.ps=N.ps/\N'.ts.Perm (#[lo x y,hi x y,l]::N.ts.filter λu=>!Ao x y u)
 |.take x y,N'=>(∃u,N.ts.filter^Ao x y=[u])/\x∈N.ps/\y∈N.ps/\x≠y/\N'=#[N.ps,N.ts.filter λu=>!Ao x y u]
def Xl(C:Ch):W2:=λss n P=>∃(a:Ch) (t b:Int) (N M:Net),ss=[.sh^.ob a]/\n.w a=P3^kc C t b N M/\P (enc N) n
def FS(C:Ch):W2:=λss n P=>∃(a:Ch) (t b:Int) (N M:Net),ss=[.sh^.ob a]/\n.w a=P3^kc C t b N M/\P (enc M) n
def tk(u:Ak):m_ Key:=[.inr u.a,.inr u.b]
def bx(ps:m_ Str):D:=.lst^ps.map .str
def bp(us:m_ Ak):D:=.dit (us.map tk)^us.map λu=>.int u.len
def Z2(N:Net)(ps:m_ Str)(us:m_ Ak):Prop:=N.ps.Perm ps/\N.ts.Perm us/\okN N
theorem Ke(n:Sg)(a:Ch)(c d:Wc):(n.put a c).put a d=n.put a d:=by
 unfold Sg.put
 congr 1
 funext b
 by_cases h:b=a
 .simp only[h,if_pos]
 .simp only[if_neg h]
theorem Du(n:Sg)(a:Ch)(c:Wc):(n.put a c).w a=P3 c:=if_pos rfl
theorem Kf{n:Sg}{a b:Ch}{c:Wc}(h:b≠a):(n.put a c).w b=n.w b:=if_neg h
theorem Qm(xs:m_ Str):flat^.tup^xs.map .str=k_:=by
 show CK _=k_
 induction xs with
 |nil=>rfl
 |cons x xs ih=>show(k_&&CK^xs.map D.str)=k_; rw[ih]; rfl
theorem FO(us:m_ Ak):CK^us.map AN=k_:=by
 induction us with
 |nil=>rfl
 |cons u us ih=>show(flat^AN u&&CK^us.map AN)=k_; rw[ih]; rfl
theorem MM(N:Net):flat^enc N=k_:=by
 show(flat^.tup^N.ps.map .str&&(flat^.tup^N.ts.map AN&&k_))=k_;rw[Qm,show flat^.tup^N.ts.map AN=k_ from FO N.ts]; rfl
theorem IsT.okN{N T:Net}{t b:Int}(h:IsT N t b T)(ok:okN N):okN T:=by
 let#[ord,_,_,rfl]:=h;exact CD ok _
theorem IsT.ps{N T:Net}{t b:Int}(h:IsT N t b T):T.ps=N.ps:=by
 let#[ord,_,_,rfl]:=h;rfl
section
theorem MI(A B:m_ Ak):(A.map AN).filter (λd=>!((B.map AN).any λy=>De y d))=(A.filter λt=>decide (t∉B)).map AN:=by
 rw[e7]
 congr 1
 refine gL λt _=>?_;show(!((B.map AN).any λy=>De y^AN t))=decide (t∉B);rw[Et,decide_not]
theorem Tu{N:Net}(ok:N.Ok):CS^.tup^N.ts.map AN:=(Cd ok λ_ h=>h).1
theorem Cb{N:Net}(ok:N.Ok):CS^.tup^N.ps.map .str:=CQ ok.names
theorem Jw(x y:Str):De (.str x)^.str y=(x==y):=rfl
theorem HU{xs:m_ Str}{x:Str}:((xs.map D.str).any λy=>De y^.str x)=decide (x∈xs):=by
 rw[dC,h_,decide_eq_true_eq];constructor
 .rintro⟨d,hd,e⟩
  let#[y,hy,rfl]:=Sc.mp hd;rw[Jw,beq_iff_eq]at e;rw[←e]; exact hy
 .exact λh=>#[.str x,Sc.mpr #[x,h,rfl],by rw[Jw,beq_self_eq_true]]
end
theorem X6:1<=sizeLine:=by cbv
theorem Fc{xs:m_ Str}(h:rising xs):xs.Nodup:=h.imp λ{a b} z e=>by rw[e]at z; exact Br _ z
theorem JY(x y:Str):cs x<cs y\/x=y\/cs y<cs x:=by
 by_cases h1:cs x<cs y
 .exact .inl h1
 .by_cases h2:cs y<cs x
  .exact .inr^.inr h2
  .refine .inr^.inl ?_
   have:=Ji (.inr x) (.inr y) (decide_eq_false h1)^decide_eq_false h2
   exact gZ this
theorem Ee{x y:Str}(h:cs x<cs y):¬cs y<cs x:=λg=>Br _^gX h g
theorem Y_{x y:Str}(h:x≠y):(if decide (cs y<cs x)=k_ then y else x)=lo x y:=by
 unfold lo
 rcases JY x y with g|g|g
 .rw[if_pos g,if_neg^by rw[decide_eq_true_eq]; exact Ee g]
 .exact absurd g h
 .rw[if_neg^Ee g,if_pos^decide_eq_true g]
theorem ZA{x y:Str}(h:x≠y):(if decide (cs x<cs y)=k_ then y else x)=hi x y:=by
 unfold hi
 rcases JY x y with g|g|g
 .rw[if_pos g,if_pos^decide_eq_true g]
 .exact absurd g h
 .rw[if_neg^Ee g,if_neg^by rw[decide_eq_true_eq]; exact Ee g]
theorem VH{x y:Str}(h:x≠y):cs^lo x y<cs^hi x y/\(lo x y=x/\hi x y=y\/lo x y=y/\hi x y=x):=by
 unfold lo hi
 rcases JY x y with g|g|g
 .rw[if_pos g,if_pos g]; exact#[g,.inl #[rfl,rfl]]
 .exact absurd g h
 .rw[if_neg^Ee g,if_neg^Ee g]; exact#[g,.inr #[rfl,rfl]]
theorem MX{x y:Str}(h:x≠y){u:Ak}(hu:cs u.a<cs u.b):SY x y u↔u.a=lo x y/\u.b=hi x y:=by
 let#[l,c]:=VH h;unfold SY;constructor
 .rintro(⟨e1,e2⟩|⟨e1,e2⟩)
  .rcases c with⟨c1,c2⟩|⟨c1,c2⟩
   .rw[c1,c2]; exact#[e1,e2]
   .rw[c1,c2]at l; rw[e1,e2]at hu; exact absurd l^Ee hu
  .rcases c with⟨c1,c2⟩|⟨c1,c2⟩
   .rw[c1,c2]at l; rw[e1,e2]at hu; exact absurd l^Ee hu
   .rw[c1,c2]; exact#[e1,e2]
 .rintro⟨e1,e2⟩
  rcases c with⟨c1,c2⟩|⟨c1,c2⟩
  .exact .inl #[e1.trans c1,e2.trans c2]
  .exact .inr #[e1.trans c1,e2.trans c2]
theorem betwB_iff{x y:Str}{u:Ak}:Ao x y u=k_↔SY x y u:=by
 unfold Ao;exact @decide_eq_true_iff _^fL _
theorem atB_iff{x:Str}{u:Ak}:XR x u=k_↔u.a=x\/u.b=x:=by
 unfold XR;exact @decide_eq_true_iff _^fL _
theorem Oi(a b c d:Str):De (.tup [.str a,.str b])^.tup [.str c,.str d]=k_↔a=c/\b=d:=by
 show((a==c)&&((b==d)&&k_))=k_↔_;simp
theorem Cw{x y:Str}(hx:Ds x)(hy:Ds y):CS^.tup [.str x,.str y]:=CQ (ps:=[x,y]) λp hp=>by
 rcases Tk.mp hp with rfl|hp
 .exact hx
 .rw[On.mp hp]; exact hy
theorem Jk{x y:Str}(hx:Ds x)(hy:Ds y):Ds^lo x y/\Ds^hi x y:=by
 unfold lo hi
 split <;>exact#[by assumption,by assumption]
theorem Nz{a b x:Str}:([D.str a,D.str b].any λy=>De y^.str x)=(decide (a=x)||decide (b=x)):=by
 show((a==x)||((b==x)||false))=_;rw[Bool.or_false,iE,iE]
theorem Jh{xs:m_ Str}{r:Int}(h0:0<=r)(h1:r<xs.length):∃x∈xs,atI (xs.map D.str) r=P3^.str x/\xs[r.toNat]?=P3 x:=by
 have h:r.toNat<xs.length:=by lk
 refine#[xs[r.toNat],dY _,?_,No h]
 have:=AA (xs:=xs.map D.str) (j:=r.toNat) (v:=.str xs[r.toNat])^by rw[cX,No h]; rfl
 rwa[show((r.toNat:Nat):Int)=r by lk]at this
section
theorem UB{xs:m_ Str}:De (.tup^xs.map .str)^.tup []=decide (xs=[]):=by
 cases xs <;>rfl
end
theorem NT{α:Type}{r:α->α->Prop}(tr:∀a b c,r a b->r b c->r a c)(x:α):∀{xs:m_ α},xs.Pairwise r->(∀y∈xs,r x y\/r y x)->∃l:m_ α,l.Perm (x::xs)/\l.Pairwise r
 |[],_,_=>#[[x],.refl _,jH _ _]
 | y::xs,h,t=>by
  let#[h1,h2]:=dE.mp h
  rcases t y Op with z|z
  .refine#[x::y::xs,.refl _,dE.mpr #[λw hw=>?_,h]]
   rcases Tk.mp hw with rfl|hw
   .exact z
   .exact tr _ _ _ z^h1 w hw
  .let#[l,p,q]:=NT tr x h2 λw hw=>t w^TW _ hw
   refine#[y::l,(p.cons y).trans^List.Perm.swap x y xs,dE.mpr #[λw hw=>?_,q]]
   rcases Tk.mp^p.mem_iff.mp hw with rfl|hw
   .exact z
   .exact h1 w hw
theorem UC{a b c:Ak}(h:Be a b)(g:Be b c):Be a c:=by
 rcases h with h|⟨h,h'⟩ <;>rcases g with g|⟨g,g'⟩
 .exact .inl^gX h g
 .exact .inl (g▸h)
 .exact .inl (h▸g)
 .exact .inr #[h.trans g,gX h' g']
theorem QM(s:Sg)(L:m_ Ch):Sg.back (s.drop L) s L=s:=Sg.back_drop s L s.n
theorem V_{w:Ch->n_ Wc}{l t:Ch}{x y:D}(h1:w l=P3^.pl x)(h2:w t=P3^.pl y):Dp.Ls w^.tup [.ob l,.ob t]=.tup [x,y]:=by
 show D.tup [GJ w^.ob l,GJ w^.ob t]=_;rw[Kc h1,Kc h2]
theorem Dv(s:Sg)(a:Ch)(c:Wc):(s.put a c).w a=P3 c:=if_pos rfl
theorem DN{s:Sg}{a b:Ch}{c:Wc}(h:b≠a):(s.put a c).w b=s.w b:=if_neg h
theorem Ko{A B l:m_ Ak}(h:Iy A B l):∀u∈l,u∈A:=λu hu=>(cv.mp^h.1.mem_iff.mp hu).1
theorem ON{A B l:m_ Ak}(h:Iy A B l):l.length<=A.length:=by rw[h.1.length_eq]; exact cj _ _
theorem Mv{xs ys:m_ D}(hx:∀d∈xs,item d)(hy:∀d∈ys,item d)(lx:xs.length<=60)(ly:ys.length<=60):Ja^.tup [.lst xs,.lst ys]:=by
 have s1:=Hj λd hd=>ft (hx d hd).2.1;have s2:=Hj λd hd=>ft (hy d hd).2.1;have d1:=dps_le.mpr λd hd=>(hx d hd).2.2;have d2:=dps_le.mpr λd hd=>(hy d hd).2.2;refine HC (B:=1000001) (by cbv) #[fines_iff.mpr λd hd=>(hx d hd).1,fines_iff.mpr λd hd=>(hy d hd).1,trivial] ?_ ?_
 .show max (Jz xs+1)^max (Jz ys+1) 0+1<=100
  lk
 .show Ll xs+1+(Ll ys+1+0)<=200000
  lk
theorem Mw{N:Net}(ok:okN N):Ja^enc N:=by
 let#[h1,h2,h3]:=V5 ok;exact HC (by cbv) h1 (by lk)^by lk
theorem Jb{x:Str}{t e:Prop}(h:e):if(if k_=k_ then !(x==x)else x==x)=k_ then t else e:=by
 rw[if_pos rfl,beq_self_eq_true]; exact h
structure cR (C:Ch) (t b:Int) (pool:List Str) (k:Nat) (n:Sg) (a l tt:Ch) (N M:Net) (ps:List Str) (us:List Ak):Prop where
 nn:7*k<=n.n
 wa:n.w a=P3 (kc C t b N M)
 wl:n.w l=P3 (.pl^bx ps)
 wt:n.w tt=P3 (.pl^bp us)
 al:a≠l
 at':a≠tt
 lt:l≠tt
 st:Z2 N ps us
 ok:okN M
 inp:∀x∈ps,x∈pool
 l1:N.ps.length+k<=18
 l2:N.ts.length+k<=18
end Nt
namespace L2
end L2
namespace Dp
open L2
end Dp
namespace Nt
open L2 Dp
theorem GZ(x y:Str):cs (x++y)=cs x++cs y:=PySem.W.KT.app_list x y
theorem CY(x:Str):(cs x).length=x.length:=eU
theorem len_app(x y:Str):(x++y).length=x.length+y.length:=by rw[←CY,GZ,cZ,CY,CY]
structure cS (C:Ch) (t b:Int) (pool:List Str) (k:Nat) (n:Sg) (a l tt:Ch) (N M:Net) (ps:List Str) (us:List Ak):Prop where
 kp:Vb C n a t b N M
 tn:IsT N t b M
 wl:n.w l=P3 (.pl^bx ps)
 wt:n.w tt=P3 (.pl^bp us)
 al:a≠l
 at':a≠tt
 lt:l≠tt
 st:Z2 N ps us
 inp:∀x∈ps,x∈pool
 l1:N.ps.length+k<=18
 l2:N.ts.length+k<=18
theorem Wd{n:Sg}{x y:Ch}{c:Wc}(h:n.w x=P3 c)(g:n.w y=j_):x≠y:=λz=>by rw[z,g]at h; cases h
theorem IV{α:Type}{l:m_ α}{p:α->Bool}{P:D->Prop}(h:P^.bl^l.all p):Za [.lst^l.map λa=>.bl^p a] P:=
 #[_,_,rfl,Ef p l,by simp_all]
theorem Dl{b:BW}{body:Aa}{D2:E2}{all:m_ D}(I:m_ D->Sg->m_ Slot->Prop)(hend:∀n ρ,I all n ρ->D2.nx n ρ)
  (hstep:∀(pre:m_ D) (d:D) (post:m_ D) (n:Sg) (ρ:m_ Slot) (nx:Sg->m_ Slot->Prop),all=pre++d::post->I pre n ρ->(∀n' zY,I (pre++[d]) n' zY->nx n' zY)->b d ρ λzS=>body {D2 with nx:=nx,ct:=nx,bk:=D2.nx} n zS):
  ∀(ds pre:m_ D) (n:Sg) (ρ:m_ Slot),all=pre++ds->I pre n ρ->Bn b body D2 ds n ρ
 |[],pre,n,ρ,e,h=>by
  rw[c9]at e;subst e;exact hend n ρ h
 |d::ds,pre,n,ρ,e,h=>hstep _ d ds n ρ _ e h λn' zY h'=>Dl I hend hstep ds _ n' _ (by grind) h'
theorem N9{lo:Int}{n:Nat}{pre post:m_ D}{d:D}(h:EI lo n=pre++d::post):d=.int (lo+(pre.length:Int))/\pre.length<n:=by
 have hl:=congrArg gY h;rw[C1]at hl;have e:(EI lo n)[pre.length]?=P3 d:=by grind
 unfold EI at e
 simp_all
end Nt
namespace L2
end L2
namespace Dp
open L2
end Dp
namespace L2
end L2
namespace Dp
open L2
end Dp
namespace Nt
open L2 Dp
theorem HA{A B:Net}(h:∀u,u∈A.ts↔u∈B.ts){s x:Str}{d:Int}(w:Wk A s x d):Wk B s x d:=by
 induction w with
 |nil=>exact .nil
 |snoc _ e ih=>
  refine .snoc ih ?_;let#[t,ht,e]:=dk.mp e;exact dk.mpr #[t,(h t).mp ht,e]
theorem Pk{A B:Net}(h:∀u,u∈A.ts↔u∈B.ts)(t b:Int)(u:Ak):Bt A t b u=Bt B t b u:=by
 have h':∀u,u∈B.ts↔u∈A.ts:=λu=>(h u).symm;rw[dC,nearB_iff,nearB_iff];constructor <;>rintro⟨d,⟨l1,l2⟩,l3⟩
 .exact#[d,#[HA h l1,λd' w=>l2 d'^HA h' w],l3]
 .exact#[d,#[HA h' l1,λd' w=>l2 d'^HA h w],l3]
theorem Ep{A B:Net}{t b:Int}:∀{ord kept:m_ Ak},(∀u∈kept,u∈A.ts/\u∈B.ts)->(∀u∈ord,u∈A.ts/\u∈B.ts)->AW A t b kept ord=AW B t b kept ord
 |[],_,_,_=>rfl
 |u::r,kept,h1,h2=>by
  have e:Bt (sub A kept) t b u=Bt (sub B kept) t b u:=Pk (λv=>by rw[sub_mem,sub_mem]; exact#[λz=>#[(h1 v z.2).2,z.2],λz=>#[(h1 v z.2).1,z.2]]) t b u;have h3:∀v∈r,v∈A.ts/\v∈B.ts:=λv hv=>h2 v^TW _ hv;rw[BY,BY,e,Ep h1 h3,Ep (kept:=kept++[u]) (λv hv=>(cn.mp hv).elim (h1 v) λz=>by rw[On.mp z]; exact h2 u Op) h3]
theorem BS{A:Net}{t b:Int}:∀{p q kept:m_ Ak},AW A t b kept (p++q)=AW A t b (AW A t b kept p) q
 |[],_,_=>rfl
 |u::p,q,kept=>by
  show AW A t b kept (u::(p++q))=_;rw[BY,BY]
  split <;>exact BS
theorem BR{A:Net}{t b:Int}{v:Ak}:∀{q kept:m_ Ak},v∈AW A t b kept q->v∈kept\/v∈q
 |[],_,h=>.inl h
 | u::q,kept,h=>by
  rw[BY]at h
  split at h
  .exact(BR h).imp id^TW _
  .rcases BR h with z|z
   .rcases cn.mp z with z|z
    .exact .inl z
    .exact .inr^by rw[On.mp z]; exact Op
   .exact .inr^TW _ z
theorem Bp{A:Net}{t b:Int}{v:Ak}:∀{q kept:m_ Ak},v∈kept->v∈AW A t b kept q
 |[],_,h=>h
 |u::q,kept,h=>by
  rw[BY]
  split
  .exact Bp h
  .exact Bp^df _ h
theorem Hv{k:m_ Key}:∀{l:m_ Ak},Bv l->l=(l.filter λv=>Ag (Ab v) k)++l.filter λv=>!Ag (Ab v) k
 |[],_=>rfl
 | u::l,h=>by
  let#[h1,h2]:=dE.mp h;have ih:=Hv (k:=k) h2;cases c:Ag (Ab u) k with
  |true=>rw[f6 (by exact c),f7 (by simp[c]),List.cons_append,←ih]
  | false=>
   have no:∀v∈l,Ag (Ab v) k=l_:=λv hv=>by
    cases d:Ag (Ab v) k with
    |false=>rfl
    | true=>
     exfalso
     have g:=h1 v hv
     rcases fR (Ab u=Ab v)with e|e
     .rw[e,d]at c; cases c
     .have l2:Ag (Ab u)^Ab v=k_:=by
       cases z:Ag (Ab u)^Ab v with
       |true=>rfl
       |false=>exact absurd (BX _ _ z g) e
      rw[Bo _ _ _ l2 d]at c; cases c
   rw[f7 (by simp[c]),f6 (by simp[c]),gH.mpr (λv hv=>by simp[no v hv]),gf.mpr λv hv=>by simp[no v hv]];rfl
theorem HG{N T:Net}{t b:Int}{ord:m_ Ak}(o1:ord.Perm N.ts)(o2:Bv ord)(h:IsT N t b T){u:Ak}:u∈T.ts↔u∈AW N t b [] ord:=by
 let#[ord',p1,p2,rfl]:=h;rw[BQ (p1.trans o1.symm) p2 o2,sub_mem];exact#[λz=>z.2,λz=>#[o1.mem_iff.mp ((BR z).resolve_left^by intro z; cases z),z]]
theorem N7{N N' M T:Net}{t b:Int}(okn:okN N)(okn':okN N')(hM:IsT N t b M)(hT:IsT N' t b T){k:m_ Key}(h1:∀u∈N.ts,Ag (Ab u) k=k_->u∈N'.ts)(h2:∀u∈N'.ts,Ag (Ab u) k=k_->u∈N.ts){u:Ak}(hu:Ag (Ab u) k=k_)(hm:u∈M.ts):u∈T.ts:=by
 let#[ord,o1,o2,_]:=id hM;let#[ord',p1,p2,_]:=id hT;rw[HG o1 o2 hM,Hv (k:=k) o2,BS]at hm;rw[HG p1 p2 hT,Hv (k:=k) p2,BS];refine Bp ?_
 rcases BR hm with z|z
 .have nd:ord.Nodup:=o1.nodup_iff.mpr^BG okn.1.trise
  have nd':ord'.Nodup:=p1.nodup_iff.mpr^BG okn'.1.trise
  have e:(ord.filter λv=>Ag (Ab v) k)=ord'.filter λv=>Ag (Ab v) k:=by
   refine BQ ((fe (nd.filter _)^nd'.filter _).mpr λv=>?_) (jT List.filter_sublist o2)^jT List.filter_sublist p2;rw[cv,cv,o1.mem_iff,p1.mem_iff];exact#[λz=>#[h1 v z.1 z.2,z.2],λz=>#[h2 v z.1 z.2,z.2]]
  rw[e]at z;rw[←Ep (A:=N) (λv hv=>by cases hv) λv hv=>?_]
  .exact z
  .let#[g1,g2]:=cv.mp hv
   have g1:=p1.mem_iff.mp g1;exact#[h2 v g1 g2,g1]
 .have:=(cv.mp z).2
  rw[hu]at this; cases this
theorem UY{N N' M T:Net}{t b:Int}(okn:okN N)(okn':okN N')(hM:IsT N t b M)(hT:IsT N' t b T)(h:∀u,u∈N.ts↔u∈N'.ts)(u:Ak):u∈M.ts↔u∈T.ts:=by
 let#[ord,o1,o2,_]:=id hM;let#[ord',p1,p2,_]:=id hT;have e:ord=ord':=BQ ((fe (o1.nodup_iff.mpr^BG okn.1.trise)^p1.nodup_iff.mpr^BG okn'.1.trise).mpr λv=>by rw[o1.mem_iff,p1.mem_iff]; exact h v) o2 p2;subst e;rw[HG o1 o2 hM,HG p1 p2 hT,Ep (B:=N') (λv hv=>by cases hv) λv hv=>#[o1.mem_iff.mp hv,p1.mem_iff.mp hv]]
end Nt
namespace Dp
open L2
theorem fnX{P:cm}{w:cy}{K:Frag}{mg:Str->n_ Cn}{base:cf}{x qual:Str}{st:d6}{f:Ch}{fd:dR}{N ps:m_ Str}{k:Nat}{κ:Kd}{W:WX}{wb:PX->Aa}(F:Fun K x qual st f fd)(S:BF N ps^AK st)(hNp:ps.length<=N.length)
  (hb:∀(cdv:Cn) (A:c_) (outer:m_ Env) (s:Go) (H:Hp) (E:XK) (Pr:PX) (F0:n_ (Ch×Ch)) (U M:Ch->Prop),LiftX K F0 U M H Pr E->Room k^A.deeper^envOfC qual (AK st) s.heap.objs.size f cdv->
   LY (λC=>C.F=F0/\C.U=U/\C.M0=M/\C.H0=H) (D7 (Mj P w) P w K mg base N qual (AK st) f cdv A outer s H E) κ (An st) (wb Pr))
  (hW:∀ss n Pd Pr,ss.length=ps.length->W ss n Pd Pr->wb Pr {nx:=λn _=>κ=.sh/\Pd .non n,rt:=Pd} n (ss++dX (N.length - ps.length) .no)):
  FnOk P w K mg base (Mj P w) (k+1) f fd ps (aG K κ W ps.length):=by
 let#[oc,od,kV,doc,pm,an,cdv,ct,osl,rfl,lk,hcd]:=F.ex;refine VI lk hcd S (λvs H Q E h=>h.1) λA outer s H vs Q E hr h=>?_;let#[hl,F0,U,V',M,n,ss,Pd,Pr,ra,hw,q,l]:=h;let#[t,t1,t2]:=hb cdv A _ s H E Pr F0 U M l hr;refine#[t,t1,?_];have el:=Paired.length ra.2.2.2.2.2;have R:=Jd (N:=N) ra (by lk);refine t2 _ M H n _ _ {nx:=λn _=>κ=.sh/\Pd .non n,rt:=Pd} _ #[rfl,rfl,rfl,rfl] R #[λM1 H1 n1 zS zJ R1 p=>?_,λv H1 d n1 e1 f1 r1 p=>q v H1 d n1 e1 f1 r1 p,λ_ _ _ _ _ _ z=>z.elim,λ_ _ _ _ _ _ z=>z.elim] ?_
 .let#[hk,p]:=p
  subst hk;exact q .non H1 .non n1 R1.ext (R1.feed.pres (Pres.less R1.sub) (λ_ _ _ z=>z) λ_ _ z=>z) rfl p
 grind
def Vc(K:Frag)(mg:Str->n_ Cn)(nm:Str):Prop:=∃C U,XC K nm C U/\mg nm=P3^.ref C/\PySem.W.findIn K (.ref C) "__init__"=P3^P3^.builtin "ValueError.__init__"
def Sx(Φ:Fm->Prop)(X:Cx)(e:cr)(κ:Kd)(w:DW):Prop:=∃t,PE X e t/\∀(C:Fm) (M:Ch->Prop) (H:Hp) (n:Sg) (ρ:m_ Slot) (σ:L2.St) (P:D->Sg->Prop) (Q:VK),Φ C->Rel X.K C M H n ρ σ->w n ρ P->(∀v H' d n',Ext C.U H H'->FeedC X.K C.F M H' n'->VR X.K C.V M H H' κ v d->P d n'->Q v H')->t σ H Q
def Nu(Φ:Fm->Prop)(X:Cx)(es:m_ cr)(w:LX):Prop:=∃t,PA X es t/\∀(C:Fm) (M:Ch->Prop) (H:Hp) (n:Sg) (ρ:m_ Slot) (σ:L2.St) (P:m_ Slot->Sg->Prop) (Q:m_ V->Hp->Prop),Φ C->Rel X.K C M H n ρ σ->w n ρ P->
 (∀vs H' ss n',Ext C.U H H'->FeedC X.K C.F M H' n'->Paired (DF X.K C.F C.V M H') vs ss->P ss n'->Q vs H')->t σ H Q
def Pss(Φ:Fm->Prop)(X:Cx)(Pr:PX):Prop:=∃R:XK,DD (Mj X.prog X.w) X R/\∀(C:Fm) (M:Ch->Prop) (H:Hp) (n:Sg) (ρ:m_ Slot) (σ:L2.St),Φ C->Rel X.K C M H n ρ σ->LiftX X.K C.F C.U M H Pr R
theorem Pss.mk{X:Cx}{R:XK}{Φ:Fm->Prop}{Pr:PX}{F0:n_ (Ch×Ch)}{U0 M0:Ch->Prop}{H0:Hp}(hx:DD (Mj X.prog X.w) X R)(hL:LiftX X.K F0 U0 M0 H0 Pr R)(hΦ:∀C,Φ C->C.F=F0/\C.U=U0/\C.M0=M0/\C.H0=H0):Pss Φ X Pr:=by
 refine#[R,hx,λC M H n ρ σ hC r=>?_];let#[rfl,rfl,rfl,rfl]:=hΦ C hC;intro nm Cc Uc ks ds vs dx H' n' e f xc xd hl hs p;have less:Pres M H' _ H':=Pres.less r.sub;refine hL nm Cc Uc ks ds vs dx H' n' (r.ext.trans e) (f.pres less (λ_ _ _ z=>z) λ_ _ z=>z) xc ?_ hl (hs.pres less) p
 rcases xd with z|⟨d,e1,n1,h1⟩
 .exact .inl z
 .exact .inr #[d,e1,λz=>n1^r.sub d z,h1]
def KO(P:cm)(w:cy)(K:Frag)(mg:Str->n_ Cn)(base:cf)(C:Ch)(m:Str)(k:Nat)(ps:m_ Str)(κ:Kd)(W:WX):Prop:=
 ∃f fd,FnOk P w K mg base (Mj P w) k f fd ps^aG K κ W ps.length/\QQ K C m f/\Binds K fd ps []/\∀ss n P Pr,W ss n P Pr->ss.length=ps.length
def S6(nm:Str)(Pr:PX)(was:Dr):Aa:=λ_ n ρ=>was n ρ λds n1=>ds.length<=100/\Pr nm [] [] n1
section
variable {Φ:Fm->Prop}{X:Cx}{Pr:PX}{κ zU zK:Kd}{wa wo:DW}{was:LX}{w1:Sg->m_ Slot->(Slot->Sg->Prop)->Prop}{C:Addr}{x m nm:Str}{o e:Expr}{es:m_ Expr}{pos pos' cpos apos p:Pos}{k:Nat}{ps:m_ Str}
theorem XA(h:DE X e κ wa):Sx Φ X e κ wa:=let #[t,a,b]:=h; #[t,a,λC M H n ρ σ P Q _=>b C M H n ρ σ P Q]
theorem Ov(h:Mi X es was):Nu Φ X es was:=let #[t,a,b]:=h; #[t,a,λC M H n ρ σ P Q _=>b C M H n ρ σ P Q]
theorem Ou(h:Sx Φ X e κ wa)(hr:Nu Φ X es was)(hk:κ≠.tp:=by intro z; cases z)(hs:starEach (e::es) X.env=(l_,eval e X.env)::starEach es X.env:=by rfl):Nu Φ X (e::es)^AH (AR wa) was:=by
 let#[t,h1,h2]:=h;let#[u,g1,g2]:=hr;refine#[_,BK h1 g1 hs,λC M H n ρ σ P Q hC R w q=>?_];refine h2 C M H n ρ σ _ _ hC R w λv H1 d n1 e1 f1 r1 p=>?_;have R1:=R.step e1 f1;exact g2 C M H1 n1 ρ σ _ _ hC R1 p λvs H2 ds n2 e2 f2 r2 p2=>q _ H2 (.sh d::ds) n2 (e1.trans e2) f2 (.cons #[#[v,rfl,(r1.shOf R.dom hk).pres^R1.pres e2],rfl] r2) p2
theorem UT(h:Sx Φ X e κ wa)(hr:Nu Φ X es was)(hs:starEach (e::es) X.env=(l_,eval e X.env)::starEach es X.env:=by rfl):Nu Φ X (e::es)^AH (E8 wa) was:=by
 let#[t,h1,h2]:=h;let#[u,g1,g2]:=hr;refine#[_,BK h1 g1 hs,λC M H n ρ σ P Q hC R w q=>?_];refine h2 C M H n ρ σ _ _ hC R w λv H1 d n1 e1 f1 r1 p=>?_;have R1:=R.step e1 f1;exact g2 C M H1 n1 ρ σ _ _ hC R1 p λvs H2 ds n2 e2 f2 r2 p2=>q _ H2 (.br d::ds) n2 (e1.trans e2) f2 (.cons #[#[v,rfl,(r1.tpOf R.dom R.vM).pres (R1.pres e2) e2 R.uV],rfl] r2) p2
theorem SI(h:Sx Φ X e κ wa)(hk:κ≠.tp:=by intro z; cases z)(hs:starEach [e] X.env=[(l_,eval e X.env)]:=by rfl):Sx Φ X (.List [e] pos) .fr^Mn^AZ wa A7:=by
 let#[t,h1,h2]:=h;refine#[_,Kl^BK h1 Cj hs,λC M H n ρ σ P Q hC R w q=>?_];refine h2 C M H n ρ σ _ _ hC R w λv H1 d n1 e1 f1 r1 p=>?_;have r1:Ats X.K M H1 [d] [v]:=#[v,[],rfl,r1.shOf R.dom hk,rfl];refine#[by rw[r1.length]; exact p.1,λa ha=>?_];have g:Grow H1^Ah H1 a^.lst [v]:=Ad ha;exact q _ _ (.lst [d]) n1 (e1.trans g.ext) (f1.grow g) (VR.back e1 #[a,rfl,ha,[v],AM,r1.pres^D5 ha]) p.2
theorem SJ{W:W2}(G:Got X.prog X.w X.K X.mg X.base x k ps κ W)(hr:Room k X.A)(hg:Gl X x)(ha:Nu Φ X (e::es) was)
  (hdb:(x==("__debug__":Str))=l_:=by decide) (he:starEach (e::es) X.env=(l_,eval e X.env)::starEach es X.env:=by rfl) (hpl:(backTo pos^starEach es X.env).any (·.1)=l_:=by rfl):
  Sx Φ X (.Call (.Name x p) (e::es) [] pos) κ (Ap W was):=by
 let#[f,fd,G,hm,hk,hb,hW]:=G;let#[t,h1,h2]:=ha;refine#[_,HE G hr hg hm hk hb .nil Gh h1 hdb he hpl,λC M H n ρ σ P Q hC R w q=>?_];refine h2 C M H n ρ σ _ _ hC R w λvs H1 ss n1 e1 f1 r1 p=>?_;have R1:=R.step e1 f1;rw[c9];exact#[(Paired.length r1).trans^hW _ _ _ p,_,_,_,M,n1,ss,P,#[R1.dom,R1.fU,R1.uV,R1.vM,f1,r1],p,λv H2 d n2 e2 f2 r2 p2=>q v H2 d n2 (e1.trans e2) f2 (VR.back e1 r2) p2]
theorem SH{W:W2}{pl:Sem Bool}(c:Cls X.K C)(G:Nq X.prog X.w X.K X.mg X.base C m k ps κ W)(hr:Room k X.A)(ho:DE X o zK wo)(ha:Nu Φ X (e::es) was)
  (hst:starEach (e::es) X.env=(l_,eval e X.env)::starEach es X.env:=by rfl) (hpl:(backTo pos^starEach es X.env).any (·.1)=l_:=by rfl)
  (ht:eval (.Call (.Attribute o m apos) (e::es) [] pos) X.env=(do
   let ov ←eval o X.env
   standAt apos.atName
   let (f,first) ←holding [ov] (getMethod ov m pl)
   callWith pos f first (backTo pos^starEach (e::es) X.env) (backToKw pos^keywordEach [] X.env)):=by rfl):Sx Φ X (.Call (.Attribute o m apos) (e::es) [] pos) κ^D9 C m W wo was:=by
 let#[f,fd,G,hm,hb,hW]:=G;let#[to,o1,o2]:=ho;let#[t,a1,a2]:=ha;refine#[_,Kk o1 c hm G hr hb .nil Gh a1 hst hpl ht,λC0 M H n ρ σ P Q hC R w q=>?_];refine o2 C0 M H n ρ σ _ _ R w λv H1 d n1 e1 f1 r1 zz=>?_;let#[a,ks,ds,ed,hw,hl,w1]:=zz;subst ed;have R1:=R.step e1 f1;let#[dx,vs,g1,g2,g3,g4]:=f1.2 a _ hw;have ev:=FH^r1.tpOf R.dom R.vM;subst ev;refine#[a,dx,_,rfl,g1,Cv hl,?_];refine a2 C0 M H1 n1 ρ σ _ _ hC R1 w1 λvs2 H2 ss n2 e2 f2 r2 p=>?_;have R2:=R1.step e2 f2;rw[c9];have hex:∃o,H2 a=P3 o:=let #[o',h,_]:=e2 a _ g1; #[o',h]
 have hself:DF X.K C0.F C0.V M H2 (.ref a)^.sh^.ob a:=#[#[_,rfl,rfl,hex],rfl];exact#[(Paired.length^Paired.cons hself r2).trans^hW _ _ _ p,_,_,_,M,n2,_,P,#[R2.dom,R2.fU,R2.uV,R2.vM,f2,Paired.cons hself r2],p,λv H3 d n3 e3 f3 r3 p3=>q v H3 d n3 ((e1.trans e2).trans e3) f3 (VR.back (e1.trans e2) r3) p3]
theorem B8{W:WX}{pl:Sem Bool}(hp:Pss Φ X Pr)(c:Cls X.K C)(G:KO X.prog X.w X.K X.mg X.base C m k ps κ W)(hr:Room k X.A)(ho:DE X o zK wo)(ha:Mi X (e::es) was)
  (hst:starEach (e::es) X.env=(l_,eval e X.env)::starEach es X.env:=by rfl) (hpl:(backTo pos^starEach es X.env).any (·.1)=l_:=by rfl)
  (ht:eval (.Call (.Attribute o m apos) (e::es) [] pos) X.env=(do
   let ov ←eval o X.env
   standAt apos.atName
   let (f,first) ←holding [ov] (getMethod ov m pl)
   callWith pos f first (backTo pos^starEach (e::es) X.env) (backToKw pos^keywordEach [] X.env)):=by rfl):Sx Φ X (.Call (.Attribute o m apos) (e::es) [] pos) κ^D9 C m (λss n P=>W ss n P Pr) wo was:=by
 let#[E,hx,hL]:=hp;let#[f,fd,G,hm,hb,hW]:=G;let#[to,o1,o2]:=ho;let#[t,a1,a2]:=ha;refine#[_,Kk o1 c hm G hr hb .nil hx a1 hst hpl ht,λC0 M H n ρ σ P Q hC R w q=>?_];refine o2 C0 M H n ρ σ _ _ R w λv H1 d n1 e1 f1 r1 zz=>?_;let#[a,ks,ds,ed,hw,hl,w1]:=zz;subst ed;have R1:=R.step e1 f1;let#[dx,vs,g1,g2,g3,g4]:=f1.2 a _ hw;have ev:=FH^r1.tpOf R.dom R.vM;subst ev;refine#[a,dx,_,rfl,g1,Cv hl,?_];refine a2 C0 M H1 n1 ρ σ _ _ R1 w1 λvs2 H2 ss n2 e2 f2 r2 p=>?_;have R2:=R1.step e2 f2;rw[c9];have hex:∃o,H2 a=P3 o:=let #[o',h,_]:=e2 a _ g1; #[o',h]
 have hself:DF X.K C0.F C0.V M H2 (.ref a)^.sh^.ob a:=#[#[_,rfl,rfl,hex],rfl];exact#[(Paired.length^Paired.cons hself r2).trans^hW _ _ _ _ p,_,_,_,M,n2,_,P,Pr,#[R2.dom,R2.fU,R2.uV,R2.vM,f2,Paired.cons hself r2],p,λv H3 d n3 e3 f3 r3 p3=>q v H3 d n3 ((e1.trans e2).trans e3) f3 (VR.back (e1.trans e2) r3) p3,hL C0 M H2 n2 ρ σ hC R2]
theorem EY(h:Sx Φ X e zU wa)(hs:swapsWith e j_ pos.line X.env=pure l_:=by rfl):X4 Φ X κ (.Expr e pos)^YO wa:=by
 let#[t,a1,a2]:=h;exact#[_,OH a1 hs,λC M H n ρ σ D2 E hC R L w=>a2 C M H n ρ σ _ _ hC R w λv H' d n' e1 f1 r1 p=>L.nx M H' n' ρ σ (R.step e1 f1) p]
theorem UE(h:Sx Φ X e κ wa)(hk:κ≠.tp:=by intro z; cases z):X4 Φ X κ (.Return (P3 e) pos)^DJ wa:=by
 let#[t,a1,a2]:=h;exact#[_,EQ a1,λC M H n ρ σ D2 E hC R L w=>a2 C M H n ρ σ _ _ hC R w λv H' d n' e1 f1 r1 p=>Qz R L e1 f1 r1 hk p]
theorem Oj{i:Nat}(hN:X.N.Nodup)(hi:X.N[i]?=P3 x)(hx:Loc X.env.scope x)(he:Sx Φ X e zU wa)(hk:zU≠.tp:=by intro z; cases z)(hs:swapsWith e (P3^.Name x pos') pos.line X.env=pure l_:=by rfl)
  (hf:X.fn x=k_\/X.env.scope.names.lookup x=P3 .local:=by first|exact .inl rfl|exact .inr rfl|assumption):X4 Φ X κ (.Assign [.Name x pos'] e pos)^BB i wa:=by
 let#[t,a1,a2]:=he;exact#[_,Dx hN hi hx a1 hs hf,λC M H n ρ σ D2 E hC R L w=>a2 C M H n ρ σ _ _ hC R w λv H' d n' e1 f1 r1 p=>L.nx M H' n' _ _ ((R.step e1 f1).set^r1.shOf R.dom hk) p]
theorem CV{ws:Dr}(hp:Pss Φ X Pr)(G:Vc X.K X.mg nm)(hr:Room (k+1) X.A)(hg:Gl X nm)(ha:Um X (e::es) ws)(hdb:(nm==("__debug__":Str))=l_:=by decide)(he:starEach (e::es) X.env=(l_,eval e X.env)::starEach es X.env:=by rfl)(hpl:(backTo cpos^starEach es X.env).any (·.1)=l_:=by rfl):X4 Φ X κ (.Raise (P3^.Call (.Name nm p) (e::es) [] cpos) j_ pos)^S6 nm Pr ws:=by
 let#[E,hx,hL]:=hp;let#[C,U,xc,hm,hi]:=G;let#[t,a1,a2]:=ha;refine#[_,PN hx^NA xc hi hr.hd hg hm a1 hdb he hpl,λC0 M H n ρ σ D2 E' hC r L w=>?_];refine a2 C0 M H n ρ σ _ _ r w λvs H1 ds n1 e1 f1 r1 zz=>?_;let#[hz,p]:=zz;exact#[by rw[r1.length,PySem.sizeLine_eq]; omega,hL C0 M H1 n1 ρ σ hC (r.step e1 f1) nm C U [] [] [] j_ H1 n1 (Ext.refl _ _) f1 xc (.inl #[rfl,rfl,rfl]) rfl rfl p]
theorem bN{P:cm}{w:cy}{K:Frag}{mg:Str->n_ Cn}{base:cf}{x q:Str}{st:d6}{f:Ch}{fd:dR}{N ps:m_ Str}{k:Nat}{κ:Kd}{W:WX}{wb:PX->Aa}(F:Fun K x q st f fd)(S:BF N ps^AK st)
  (hb:∀{cdv:Cn}{A:c_}{outer:m_ Env}{s:Go}{H:Hp}{E:XK}{Pr:PX}{Φ:Fm->Prop},Room k^A.deeper^envOfC q (AK st) s.heap.objs.size f cdv->Pss Φ (D7 (Mj P w) P w K mg base N q (AK st) f cdv A outer s H E) Pr->LY Φ (D7 (Mj P w) P w K mg base N q (AK st) f cdv A outer s H E) κ (An st)^wb Pr)
  (hW:∀{ss n Pd Pr},W ss n Pd Pr->wb Pr {nx:=λn _=>κ=.sh/\Pd .non n,rt:=Pd} n (ss++dX (N.length - ps.length) .no)) (hNp:ps.length<=N.length:=by decide):
  FnOk P w K mg base (Mj P w) (k+1) f fd ps (aG K κ W ps.length):=fnX F S hNp (λcdv A outer s H E Pr F0 U M l hr=>hb hr^Pss.mk RR l λC h=>h) λ_ _ _ _ _ h=>hW h
end
end Dp
namespace L2
open PySem.AutoSeq1 (wpAny_loadPart')
theorem S9{prog:cm}{w:cy}{A:c_}{R:Result->Go->Prop}{s:Go}(t:Ch)(items:Array Cn)(n:Nat)(x:Cn)(e:Cn->Bool)(j:Nat)(hj:j<items.size)(hit:e items[j]=k_)(hno:∀m (hm:m<items.size),m<j->e items[m]=l_)
  (hl:s.heap.get? t=P3 {cls:=.type "tuple",dict:=j_,data:=.seq items n,slots:=#[]}) (he:∀y,y∈items->PySem.SeqAt.EqAt A.in1 s y x^e y)
  (h:R (.ok^.ret^.int (j:Int) s.toks) {s with toks:=s.toks+1}):
  wpAny (model prog w) A.in1 (f8.«tuple.index» #[[.ref t,x],[]]) (λfin s'=>match fin with|.done f=>R (.ok f) s'|.again c'=>c'.quiet=k_/\codeAny (model prog w) A c' R s') (λe s'=>R (.error e) s') s:=by
 let#[hp,g,d,tk,os]:=s
 wp_walk using d9 hl
 have go:∀(Q:n_ _×Unit->Go->Prop) (E:Cn->Go->Prop),(∀r,Q (P3 r,()) #[hp,g,d,tk+1,os]\/True)->∀(k i:Nat),i<=j->i+k=items.size->
   (∀r:Fin,r=.done^.ret^.int (j:Int) tk->Q (P3 r,()) #[hp,g,d,tk+1,os])->
   wpAny (model prog w) A.in1 (forIn (List.range' i k 1) ((j_:n_ Fin),()) (fun(i:Nat) __s=>match items[i]? with
      | some y=>do
       let __do_lift ←eqBool y x
       if __do_lift=k_ then do
         let __do_lift ←retInt (i:Int)
         pure (ForInStep.done (P3 __do_lift,()))
        else pure^fF (j_,())
      |x=>pure^fF (j_,()))) Q E #[hp,g,d,tk,os]:=by
  intro Q E _ k
  induction k with
  |zero=>intro i h1 h2; omega
  | succ k ih=>
   intro i h1 h2 hQ;have hlt:i<items.size:=by lk
   rw[List.range'_succ,gh];have hi:items[i]?=P3 items[i]:=fj hlt;simp only[hi];refine Db^Db^he _ (iy hlt) prog w _ _ ?_
   by_cases c:i=j
   .subst c
    rw[hit]
    wp_walk
    exact hQ _ rfl
   .rw[hno i hlt^by lk]
    wp_walk
    exact ih (i+1) (by lk) (by lk) hQ
 show wpAny (model prog w) A.in1 (forIn [:min items.size items.size] ((j_:n_ Fin),()) _) _ _ _;rw[Std.Legacy.Range.forIn_eq_forIn_range']
 have er:List.range' (Std.Legacy.Range.start [:min items.size items.size]) (jU [:min items.size items.size])^Std.Legacy.Range.step [:min items.size items.size]=List.range' 0 items.size 1:=by
  simp[jU]
 rw[er];refine go _ _ (λ_=>.inr trivial) items.size 0 (cq _) (Nat.zero_add _) λr er=>?_;subst er;exact UF h
section
variable {X:Cx}
def Yi:V->m_ V->Hp->VK->Prop:=λx vs H Q=>∃(a:Ch) (xs:m_ V) (y:V) (ds:m_ gA) (d:gA) (j:Nat),x=.ref a/\vs=[y]/\H a=P3^.tup xs/\RVs H ds xs/\RV H d y/\fH ds=k_/\d.canLay0=k_/\d.depth<=100 /\
 (∃dj,ds[j]?=P3 dj/\fP dj d=k_)/\(∀m dm,m<j->ds[m]?=P3 dm->fP dm d=l_)/\Q (.int (j:Int)) H
theorem We{k:Nat}(hr:Room k X.A):Xx X "tuple.index" Yi:=by
 intro zG s σ H x vs v us Q I rx rv h;let#[l,xs,y,ds,d,j,rfl,rfl,hH,hds,hd,c1,c2,dd,#[dj,hj,hit],hno,q]:=h;cases rx;let#[u,rfl,ru]:=rv.one;let#[z,its,r,#[#[cls,dt,data,sl],e,e2,n,e3,e4,e5]]:=(show ObjOk X.prog X.w H s.heap l^.tup xs from I.hok l _ hH);simp only at e2 e3 e4 e5;subst e2 e3 e4 e5;let#[as,ra]:=RVs.reads I hds r;let#[bs,rb]:=RV.reads I hd ru;have hm:=PySem.SeqAt.readsAll_map ds its as c1 ra;have hlen:ds.length=its.length:=by rw[←hm,FM]
 have hu:=hr.un;have hmin:min (eW ds) d.depth<=d.depth:=h8 _ _
 have at_:∀m dm,ds[m]?=P3 dm->∀(h:m<its.toArray.size),PySem.SeqAt.readOf s.heap its.toArray[m]=dm:=λm dm e h=>by
  rw[←hm,cX]at e;have h':m<its.length:=by simpa using h
  simp_all
 have hjl:j<its.length:=by grind
 have key:=S9 (prog:=X.prog) (w:=X.w) (A:=X.A) (R:=wants (EP X zG σ Q) X.xe) l its.toArray n u (λy=>fP (PySem.SeqAt.readOf s.heap y) d) j (by lk) (by simp_all) (λm hm' hlt=>by
  have hml:m<ds.length:=by simp_all
  rw[at_ m ds[m] (No hml) hm'];exact hno m ds[m] hlt (No hml)) e (PySem.SeqAt.items_eqAt (vs:=its.toArray) (by lk) rb c1 c2^by lk) #[.int j,H,I.tok _,#[_,rfl],q]
 exact gO^iJ PySem.F.slot_tuple_index.plain PySem.F.entry_tuple_index^PySem.F.slot_tuple_index.check _ _ _ _ _ _ _ _ #[_,e,rfl] (PySem.F.args_tuple_index_2 _ _) key
def am(r:V->m_ V->Hp->VK->Prop)(to:TE)(t:TA):TE:=λσ H Q=>to σ H λx H1=>(∃a xs,x=.ref a/\H1 a=P3^.tup xs)/\t σ H1 λxs H2=>r x xs H2 Q
theorem WP{o e:cr}{es:m_ cr}{to:TE}{t:TA}{name:Str}{apos cpos:Pos}{id:String}{r:V->m_ V->Hp->VK->Prop}(slot:Slot "tuple" name id)(hty:typeOf^.builtin id=pure^.type "method_descriptor")(hm:Xx X id r)(ho:PE X o to)(ha:PA X (e::es) t)
  (hbase:attributeBase o name X.env^eval o X.env=eval o X.env:=by rfl)
  (hfew:((backTo cpos^starEach (e::es) X.env).all (λx=>!x.1)&&(backToKw cpos^keywordEach [] X.env).all (λx=>x.1.isSome)
   && decide ((e::es).length+([]:m_ fk).length+(if([]:m_ fk).isEmpty then 0 else 1)<30))=k_:=by rfl)
  (hline:(apos.endLine==cpos.line)=k_:=by rfl) (hs:starEach (e::es) X.env=(l_,eval e X.env)::starEach es X.env:=by rfl) (hplain:(backTo cpos^starEach es X.env).any (·.1)=l_:=by rfl):
  PE X (.Call (.Attribute o name apos) (e::es) [] cpos) (am r to t):=by
 intro zG s σ H Q I h;refine wpAny_Call_method_late hbase hfew hline rfl (A5 (ho zG s σ H _ I h) λv s1 zz=>?_);let#[x,H1,I1,r1,#[a,xs,ex,hx],q1]:=zz;subst ex;have ev:v=cV a:=r1;subst ev;let#[z,its,_,o,e1,e2,n,e3,e4,e5]:=(I1.hok a _ hx);refine#["tuple",id,PySem.F.plainAttrs_tuple,slot,hty,#[o,e1,e2],λb eb=>by simp_all,?_];have hA:=ha cpos zG s1 σ H1 _ I1 q1;rw[hs]at hA ⊢;refine fO (by grind)^gQ ?_;refine A5 hA λus s2 zz=>?_;let#[vs,H2,I2,r2,q2]:=zz;exact hm zG s2 σ H2 (.ref a) vs (.ref a) us Q I2 r1 r2 q2
end
end L2
namespace Dp
open L2
section
variable {X:Cx}{zT:Kd}{a e:Expr}{es:m_ Expr}{wa:DW}{ws:Dr}
def ZO(d:D)(ds:m_ D)(P:D->Prop):Prop:=∃(xs:m_ D) (y:D) (j:Nat),d=.tup xs/\ds=[y]/\CS^.tup xs/\CS y/\(∃x,xs[j]?=P3 x/\De x y=k_)/\(∀m x,m<j->xs[m]?=P3 x->De x y=l_)/\P^.int (j:Int)
def aU(wo:DW)(ws:Dr):DW:=λn ρ P=>wo n ρ λd n1=>(∃xs,d=.tup xs)/\ws n1 ρ λds n2=>ZO d ds λz=>P z n2
theorem Zm{K:Frag}:ba K .sh "tuple" Yi ZO:=by
 intro U M H d ds x vs P Q dom vM hx hp w q;let#[xs,y,j,rfl,rfl,#[n1,l1,_],#[n2,l2,d2],#[x0,hx0,hit],hno,w]:=w;let#[v,rfl,hy]:=Dh hp;let#[a,us,rfl,hn,hs]:=hx.tup
 have get:∀(m:Nat) (p:gA),(Bg xs)[m]?=P3 p->∃x,xs[m]?=P3 x/\p=toPy x:=λm p e=>by
  rw[Cu,cX]at e;let#[x,e1,rfl]:=dJ.mp e
  grind
 refine#[a,us,v,_,_,j,rfl,rfl,hn,hs.rv n1,hy.rv n2,l1,l2,d2,#[_,by rw[Cu,cX,hx0]; rfl,hit],λm p hm e=>?_,q _ H (.int j) .refl rfl w];let#[x',e1,rfl]:=get m p e;exact hno m x' hm e1
theorem SK{k:Nat}{apos cpos:Pos}(hr:Room k X.A)(ho:DE X a zT wa)(ha:Uo X (e::es) ws)
  (hbase:attributeBase a "index" X.env^eval a X.env=eval a X.env:=by rfl)
  (hfew:((backTo cpos^starEach (e::es) X.env).all (λx=>!x.1)&&(backToKw cpos^keywordEach [] X.env).all (λx=>x.1.isSome)
   && decide ((e::es).length+([]:m_ fk).length+(if([]:m_ fk).isEmpty then 0 else 1)<30))=k_:=by rfl)
  (hline:(apos.endLine==cpos.line)=k_:=by rfl) (hs:starEach (e::es) X.env=(l_,eval e X.env)::starEach es X.env:=by rfl) (hplain:(backTo cpos^starEach es X.env).any (·.1)=l_:=by rfl):
  DE X (.Call (.Attribute a "index" apos) (e::es) [] cpos) .sh (aU wa ws):=by
 let#[t,h1,h2]:=ho;let#[u,g1,g2]:=ha;refine#[_,WP PySem.F.slot_tuple_index PySem.F.type_tuple_index (We hr) h1 g1 hbase hfew hline hs hplain,λC M H n ρ σ P Q R w q=>?_];refine h2 C M H n ρ σ _ _ R w λx H1 d n1 e1 f1 r1 p=>?_;have R1:=R.step e1 f1;have tx:=r1.tpOf R.dom R.vM;let#[#[xs,rfl],p]:=p;refine#[by let#[a,us,rfl,hn,hs]:=tx.tup; exact#[a,us,rfl,hn],?_];refine g2 C M H1 n1 ρ σ _ _ R1 p λvs H2 ds n2 e2 f2 r2 p2=>?_;have R2':=R1.step e2 f2;refine Zm C.V M H2 (.tup xs) ds x vs _ _ R2'.dom R2'.vM (tx.pres (R1.pres e2) e2 R.uV) r2 p2 λv H3 z g vr pz=>?_;exact q v H3 z n2 ((e1.trans e2).trans g.ext) (f2.grow g) (VR.back (e1.trans e2) vr) pz
end
end Dp
namespace L2
end L2
namespace Dp
open L2
end Dp
namespace L2
end L2
namespace Dp
open L2
end Dp
set_option maxHeartbeats 400000
namespace Dp
open L2
def aV(i j:Nat)(ws:Dr):Aa:=λD2 n ρ=>ws n ρ λds n1=>∃d e,ds=[d,e]/\D2.nx n1^(ρ.set i^.sh d).set j^.sh e
theorem W6{X:Cx}{κ:Kd}{pos:Pos}{i j:Nat}{x y:Str}{a b:cr}{ws:Dr}{px py pt:Pos}{kt k2 pt2}(hc:X.calm=k_)(hN:X.N.Nodup)(hi:X.N[i]?=P3 x)(hj:X.N[j]?=P3 y)(hij:i≠j)
  (hx:X.env.scope.names.lookup x=P3 .local) (hy:X.env.scope.names.lookup y=P3 .local) (ha:Um X [a,b] ws)
  (hw:swappedStores [.Tuple [.Name x px,.Name y py] kt pt] (.Tuple [a,b] k2 pt2) X.env=pure^P3 [x,y])
  (hs:swapsWithSole [.Tuple [.Name x px,.Name y py] kt pt] (.Tuple [a,b] k2 pt2) pos.line X.env=pure l_:=by rfl):DS X κ (.Assign [.Tuple [.Name x px,.Name y py] kt pt] (.Tuple [a,b] k2 pt2) pos)^aV i j ws:=by
 let#[t,a1,a2]:=ha;refine#[_,WJ hc hN hi hj hij hx hy a1 hw hs,λC M H n ρ σ D2 E R L w=>?_];refine a2 C M H n ρ σ _ _ R w λvs H1 ds n1 e1 f1 r1 p=>?_;let#[d,e,rfl,p]:=p;let#[u,r,rfl,h1,v,r',rfl,h2,h3]:=r1;cases(show r'=[]from h3);exact#[u,v,rfl,L.nx M H1 n1 _ _ (((R.step e1 f1).set h1).set h2) p]
end Dp
set_option maxHeartbeats 4000000
namespace Nt
open L2 Dp
inductive aS where
 |dd (d:Dd)|far (x y:Str)
def Gc:aS->Prop
 |.dd (.come x)=>Ds x
 |.dd (.go x)=>Ds x
 |.dd (.lay x y l)=>(Ds x/\Ds y)/\1<=l/\l<=1000000
 |.dd (.take x y)=>Ds x/\Ds y
 |.far x y=>Ds x/\Ds y
noncomputable def BI(N:Net):aS->n_ Str
 |.dd (.come x)=>if x∈N.ps then P3 "Twice" else if N.ps.length=24 then P3 "TooMany" else j_
 |.dd (.go x)=>if x∈N.ps then j_ else P3 "NoPlace"
 |.dd (.lay x y _)=>if x∈N.ps/\y∈N.ps then if x=y then P3 "NoTie" else if N.ts.filter (Ao x y)=[]/\N.ts.length=60 then P3 "TooMany" else j_ else P3 "NoPlace"
 |.dd (.take x y)=>if x∈N.ps/\y∈N.ps then if N.ts.filter (Ao x y)=[]then P3 "NoTie" else j_ else P3 "NoPlace"
 |.far x y=>if x∈N.ps/\y∈N.ps then j_ else P3 "NoPlace"
def BP(C:Ch)(n:Sg)(a:Ch)(t b:Int)(N M:Net)(d:aS)(P:D->Sg->Prop)(Pr:PX):Prop:=match BI N d with
 |some c=>Pr c [] [] n
 |none=>match d with
  |.dd d=>∀N',JQ N d N'->okN N'->N'.ps.length<=24->Va C n a t b M N' P
  |.far x y=>∀o,Far M x y o->P (PY o) n
def Iz(C:Ch)(n:Sg)(a:Ch)(t b:Int)(N M:Net):Prop:=Vb C n a t b N M/\N.ps.length<=24/\N.ps=M.ps
def Mf(C:Ch):WX:=λss n P Pr=>∃(a:Ch) (t b:Int) (N M:Net) (x:Str),ss=[.sh^.ob a,.sh^.str x]/\Vb C n a t b N M/\Ds x/\(x∈N.ps->P .non n)/\(x∉N.ps->Pr "NoPlace" [] [] n)
def Iv(C:Ch):WX:=λss n P Pr=>∃(a:Ch) (t b:Int) (N M:Net) (x y:Str),ss=[.sh^.ob a,.sh^.str x,.sh^.str y]/\Vb C n a t b N M/\Ds x/\Ds y/\(x∈N.ps/\y∈N.ps->P (.lst^(N.ts.filter^Ao x y).map AN) n)/\(¬(x∈N.ps/\y∈N.ps)->Pr "NoPlace" [] [] n)
def JP(C:Ch):WX:=λss n P Pr=>∃(a:Ch) (t b:Int) (N M:Net) (x y:Str),ss=[.sh^.ob a,.sh^.str x,.sh^.str y]/\Vb C n a t b N M/\Ds x/\Ds y/\(x∈N.ps/\y∈N.ps->(∀u,N.ts.filter^Ao x y=[u]->P (AN u) n)/\(N.ts.filter^Ao x y=[]->Pr "NoTie" [] [] n))/\(¬(x∈N.ps/\y∈N.ps)->Pr "NoPlace" [] [] n)
def Uj(C:Ch):WX:=λss n P Pr=>∃(a:Ch) (t b:Int) (N M:Net) (x:Str),ss=[.sh^.ob a,.sh^.str x]/\Iz C n a t b N M/\Gc^.dd^.come x/\BP C n a t b N M (.dd^.come x) P Pr
def Z0(C:Ch):WX:=λss n P Pr=>∃(a:Ch) (t b:Int) (N M:Net) (x:Str),ss=[.sh^.ob a,.sh^.str x]/\Iz C n a t b N M/\Gc^.dd^.go x/\BP C n a t b N M (.dd^.go x) P Pr
def Xn(C:Ch):WX:=λss n P Pr=>∃(a:Ch) (t b:Int) (N M:Net) (x y:Str) (l:Int),ss=[.sh^.ob a,.sh^.str x,.sh^.str y,.sh^.int l]/\Iz C n a t b N M/\Gc^.dd^.lay x y l/\BP C n a t b N M (.dd^.lay x y l) P Pr
def Ub(C:Ch):WX:=λss n P Pr=>∃(a:Ch) (t b:Int) (N M:Net) (x y:Str),ss=[.sh^.ob a,.sh^.str x,.sh^.str y]/\Iz C n a t b N M/\Gc^.dd^.take x y/\BP C n a t b N M (.dd^.take x y) P Pr
def Ss(C:Ch):WX:=λss n P Pr=>∃(a:Ch) (t b:Int) (N M:Net) (x y:Str),ss=[.sh^.ob a,.sh^.str x,.sh^.str y]/\Iz C n a t b N M/\Gc^.far x y/\BP C n a t b N M (.far x y) P Pr
theorem OS(x y:Str):(if decide (cs y<cs x)=k_ then y else x)=lo x y:=by
 rcases fR (x=y)with rfl|h
 .unfold lo; split <;>split <;>rfl
 .exact Y_ h
theorem OT(x y:Str):(if decide (cs x<cs y)=k_ then y else x)=hi x y:=by
 rcases fR (x=y)with rfl|h
 .unfold hi; split <;>split <;>rfl
 .exact ZA h
theorem D8{x y:Str}{u:Ak}(hu:cs u.a<cs u.b):SY x y u↔u.a=lo x y/\u.b=hi x y:=by
 rcases fR (x=y)with rfl|h
 .have e1:lo x x=x:=by unfold lo; split <;>rfl
  have e2:hi x x=x:=by unfold hi; split <;>rfl
  rw[e1,e2];constructor
  .rintro(⟨a,b⟩|⟨a,b⟩) <;>exact#[a,b]
  .exact λz=>.inl z
 .exact MX h hu
def bA(x:Str):D->Bool
 |.str y=>!(y==x)
 |_=>l_
theorem MH(x:Str)(xs:m_ Str):(xs.map D.str).filter^bA x=(xs.filter λy=>decide (y≠x)).map .str:=by
 rw[e7]
 congr 1
 refine gL λy _=>?_;show(!(y==x))=decide (y≠x);rw[decide_not,iE]
theorem Wh{N:Net}{x y:Str}(hx:x∈N.ps)(hy:y∈N.ps):lo x y∈N.ps/\hi x y∈N.ps:=by
 unfold lo hi
 split <;>exact#[by assumption,by assumption]
theorem VF{N:Net}(ok:N.Ok)(x y:Str):N.ts.filter^Ao x y=[]\/∃u,N.ts.filter^Ao x y=[u]:=by
 have pw:=ok.trise.filter^Ao x y
 have eqs:∀v∈N.ts.filter^Ao x y,v.a=lo x y/\v.b=hi x y:=λv hv=>by
  let#[g1,g2]:=cv.mp hv;exact(D8 (ok.tin v g1).2.2.1).mp^betwB_iff.mp g2
 cases e:N.ts.filter^Ao x y with
 |nil=>exact .inl rfl
 | cons v r=>
  refine .inr #[v,?_];cases r with
  |nil=>rfl
  |cons w r=>
   rw[e]at pw eqs;let#[e1,e2]:=eqs v Op;let#[f1,f2]:=eqs w^TW _ Op
   rcases(dE.mp pw).1 w Op with h|⟨_,h⟩
   .rw[e1,f1]at h; exact absurd h^Br _
   .rw[e2,f2]at h; exact absurd h^Br _
theorem OW{α:Type}(p:α->Bool):∀l:m_ α,(l.filter p).length+(l.filter λx=>!p x).length=l.length
 |[]=>rfl
 |x::l=>by
  have:=OW p l
  cases e:p x with
  |true=>rw[f6 e,f7 (by simp[e]),ce,ce]; omega
  |false=>rw[f7 (by simp[e]),f6 (by simp[e]),ce,ce]; omega
theorem C_{N:Net}(okn:okN N)(l24:N.ps.length<=24){d:Dd}(hv:Gc^.dd d)(hr:BI N^.dd d=j_):∃N':Net,JQ N d N'/\okN N'/\N'.ps.length<=24:=by
 have ok:=okn.1;have lf:∀p:Ak->Bool,(N.ts.filter p).length<=N.ts.length:=λp=>cj _ _;cases d with
 | come x=>
  have hr:(if x∈N.ps then P3 "Twice" else if N.ps.length=24 then P3 "TooMany" else j_:n_ Str)=j_:=hr
  split at hr
  .cases hr
  rename_i hx
  split at hr
  .cases hr
  rename_i h24
  let#[qs,h1,h2]:=NT (r:=λx y=>cs x<cs y) (λa b c h g=>gX h g) x ok.rise λy hy=>(JY x y).elim .inl λz=>z.elim (λe=>absurd (e▸hy) hx) .inr;have lq:qs.length=N.ps.length+1:=h1.length_eq;refine#[#[qs,N.ts],#[hv,hx,h1,rfl],#[#[λy hy=>?_,h2,λt ht=>?_,ok.trise],by show qs.length<=25; omega,okn.2.2],by show qs.length<=24; omega]
  .rcases Tk.mp^h1.mem_iff.mp hy with rfl|z
   .exact hv
   .exact ok.names y z
  .let#[a1,a2,a3]:=ok.tin t ht
   exact#[h1.mem_iff.mpr^TW _ a1,h1.mem_iff.mpr^TW _ a2,a3]
 | go x=>
  have hr:(if x∈N.ps then j_ else P3 "NoPlace":n_ Str)=j_:=hr
  split at hr
  .rename_i hx
   refine#[_,#[hx,rfl],#[#[λy hy=>ok.names y (cv.mp hy).1,ok.rise.filter _,λt ht=>?_,ok.trise.filter _],c5 (cj _ _) okn.2.1,c5 (lf _) okn.2.2],c5 (cj _ _) l24];let#[h1,h2]:=cv.mp ht;let#[a1,a2,a3]:=ok.tin t h1;have h3:¬(t.a=x\/t.b=x):=λz=>by rw[atB_iff.mpr z]at h2; cases h2
   exact#[cv.mpr #[a1,decide_eq_true λz=>h3^.inl z],cv.mpr #[a2,decide_eq_true λz=>h3^.inr z],a3]
  .cases hr
 | lay x y l=>
  have hr:(if x∈N.ps/\y∈N.ps then if x=y then P3 "NoTie" else if N.ts.filter (Ao x y)=[]/\N.ts.length=60 then P3 "TooMany" else j_ else P3 "NoPlace":n_ Str)=j_:=hr;let#[_,h1,h2]:=hv
  split at hr
  .rename_i hxy
   let#[hx,hy]:=hxy
   split at hr
   .cases hr
   rename_i hne
   split at hr
   .cases hr
   rename_i h60
   let#[lh,lc]:=VH hne
   have hin:∀t∈N.ts.filter λu=>!Ao x y u,t∈N.ts/\¬(t.a=lo x y/\t.b=hi x y):=λt ht=>by
    let#[g1,g2]:=cv.mp ht;refine#[g1,λz=>?_];rw[betwB_iff.mpr^(MX hne (ok.tin t g1).2.2.1).mpr z]at g2;cases g2
   let#[ts,g1,g2]:=NT (r:=Be) (λ_ _ _=>UC) (#[lo x y,hi x y,l]:Ak) (ok.trise.filter λu=>!Ao x y u) λt ht=>by
    let#[_,k]:=hin t ht
    rcases JY (lo x y) t.a with z|z|z
    .exact .inl^.inl z
    .rcases JY (hi x y) t.b with w|w|w
     .exact .inl^.inr #[z,w]
     .exact absurd #[z.symm,w.symm] k
     .exact .inr^.inr #[z.symm,w]
    .exact .inr^.inl z
   have lt:ts.length<=60:=by
    have a1:=g1.length_eq;have a2:=OW (Ao x y) N.ts;have a3:=okn.2.2;rw[ce]at a1
    rcases fR (N.ts.filter^Ao x y=[])with z|z
    .have:N.ts.length≠60:=λq=>h60 #[z,q]
     have:=lf λu=>!Ao x y u
     lk
    .have:=iT.mpr z
     lk
   refine#[#[N.ps,ts],#[hx,hy,hne,h1,h2,rfl,g1],#[#[ok.names,ok.rise,λt ht=>?_,g2],okn.2.1,lt],l24]
   rcases Tk.mp^g1.mem_iff.mp ht with rfl|z
   .have:=Wh hx hy
    exact#[this.1,this.2,lh,h1,h2]
   .exact ok.tin t (hin t z).1
  .cases hr
 | take x y=>
  have hr:(if x∈N.ps/\y∈N.ps then if N.ts.filter (Ao x y)=[]then P3 "NoTie" else j_ else P3 "NoPlace":n_ Str)=j_:=hr
  split at hr
  .rename_i hxy
   split at hr
   .cases hr
   rename_i hf
   let#[u,hu]:=(VF ok x y).resolve_left hf;have mu:=cv.mp (show u∈N.ts.filter (Ao x y) by rw[hu]; exact On.mpr rfl);have lt:=(ok.tin u mu.1).2.2.1
   have hne:x≠y:=by
    rintro rfl
    rcases betwB_iff.mp mu.2 with⟨e1,e2⟩|⟨e1,e2⟩ <;>rw[e1,e2]at lt <;>exact Br _ lt
   exact#[_,#[#[u,hu],hxy.1,hxy.2,hne,rfl],#[#[ok.names,ok.rise,λt ht=>ok.tin t (cv.mp ht).1,ok.trise.filter _],okn.2.1,c5 (lf _) okn.2.2],l24]
  .cases hr
theorem Li{C:Ch}{n:Sg}{a:Ch}{t b:Int}{N M:Net}{d:aS}{P P':D->Sg->Prop}{Pr Pr':PX}(h:BP C n a t b N M d P Pr)(h1:BI N d=j_->∀x m,P x m->P' x m)(h2:∀c,BI N d=P3 c->∀m,Pr c [] [] m->Pr' c [] [] m):BP C n a t b N M d P' Pr':=by
 unfold BP at h ⊢;cases e:BI N d with
 |some c=>rw[e]at h; exact h2 c e n h
 |none=>
  rw[e]at h;cases d with
  |dd d=>exact λN' g1 g2 g3 T came went l1 l2 a1 a2 a3 a4 a5 a6=>h1 e _ _^h N' g1 g2 g3 T came went l1 l2 a1 a2 a3 a4 a5 a6
  |far x y=>exact λo ho=>h1 e _ _^h o ho
end Nt
namespace L2
end L2
namespace Dp
open L2
end Dp
namespace L2
section
variable {X:Cx}{a:Expr}{tb:TE}{pos np apos:Pos}{x nm m:Str}{b₀:Stmt}{suite:m_ Stmt}{rest:m_ ExceptHandler}{Dc U C f:Addr}{th:TH}{ts:Addr->TS}{o e:Expr}{es:m_ Expr}{ta:TE}{t:TA}{sp:Sp}{k:Nat}{fd:FuncData}{ps:m_ Str}
def V0(K:Frag)(Dc:Ch)(ts:Ch->TS)(th:TH):TH:=λD C dx σ H=>∃nm U,XC K nm C U/\((C=Dc\/U=Dc)/\(∀a,ts a D σ H)\/C≠Dc/\U≠Dc/\th D C dx σ H)
theorem RJ(hg:Gl X x)(hm:X.mg x=P3^.ref Dc)(hD:YD X.K Dc)(hst:X.stack=X.env::X.outer)(hfr:X.env.frame=P3 X.env.locals)
  (hs:∀a,PSs (X.hush^X.A.mark^P3^.ref a) (b₀::suite)^ts a) (hrest:PH X rest th) (hd:(x==("__debug__":Str))=l_:=by decide):
  PH X (.ExceptHandler (P3^.Name x np) j_ (b₀::suite) pos::rest) (V0 X.K Dc ts th):=by
 intro zG σ D a C dx B H0 s0 H s I c h;let#[nm,U,xc,h]:=h;have J:=c.inv I;have hfm:(X.A.mark^P3^.ref a).frames=P3 X.stack:=I.ok.frames;have J':=J.hush hfm;refine wpAny_handleBy_cons (codeAny_handlers_test ?_) (by intro q; cases q);refine Em (X:=X.hush^X.A.mark^P3^.ref a) J' hg hm ?_ hd;let#[nm',q',N',bs',bmD,hd',sn',sub',ab',col',dd',l0,l1,l2,l3,l5,eD,hB]:=hD;let#[q,N,bs,sn,sub,ab,col,dd,k0,k1,k2,k3,k5,eC]:=xc.obj;let#[vs,sl,tb,hx,h2,h1,hT]:=c.fly.obj;let#[hh,g,dr,tk,os]:=s;refine QB (J.kIn _ _ eC) (J.kIn _ _ eD) hB hx rfl ?_;rw[MS]
 rcases h with⟨hCD,h⟩|⟨n1,n2,h⟩
 .have e:(decide (C=Dc)||decide (U=Dc))=k_:=by rcases hCD with z|z <;>simp[z]
  rw[e];refine codeAny_handlers_suite ?_;refine FL (s:=#[hh,g,dr,tk,os]) c.fly λh' f' u'=>?_;have c2:=c.step f' u';have J2:=c2.inv I;have hsu:=hs a zG _ σ H _ (J2.hush hfm)^h a;refine dI hsu (λf s5 q5=>?_) λe s5 z=>z.elim;cases f with
  |next=>
   let#[zZ,H',K5,q]:=q5;exact#[zZ,H',K5.unhush I.ok,q]
  |brk=>
   let#[zZ,H',K5,q]:=q5;exact#[zZ,H',K5.unhush I.ok,q]
  |cont=>
   let#[zZ,H',K5,q]:=q5;exact#[zZ,H',K5.unhush I.ok,q]
  |ret u=>
   let#[v,zZ,H',K5,rv,q]:=q5;exact#[v,zZ,H',K5.unhush I.ok,rv,q]
 .have e:(decide (C=Dc)||decide (U=Dc))=l_:=by simp[n1,n2]
  rw[e];exact hrest zG σ D a C dx B H0 s0 H _ I c h
def Vz(C:Ch)(m:Str)(sp:Sp)(ta:TE)(t:TA):X_:=λR σ H Q=>ta σ H λx H1=>∃a dx fs,x=.ref a/\H1 a=P3^.vol^.ins C dx fs/\fs.lookup m=j_/\t σ H1 λvs H2=>sp (.ref a::vs) H2 Q R
theorem RL{pl:Sem Bool}(he:PE X o ta)(c:Cls X.K C)(hm:QQ X.K C m f)(F:FnOk X.prog X.w X.K X.mg X.base (Mj X.prog X.w) k f fd ps sp)(hr:Room k X.A)(hb:Binds X.K fd ps [])(ha:PA X (e::es) t)
  (hst:starEach (e::es) X.env=(l_,eval e X.env)::starEach es X.env:=by rfl) (hpl:(backTo pos^starEach es X.env).any (·.1)=l_:=by rfl)
  (ht:eval (.Call (.Attribute o m apos) (e::es) [] pos) X.env=(do
   let ov ←eval o X.env
   standAt apos.atName
   let (f,first) ←holding [ov] (getMethod ov m pl)
   callWith pos f first (backTo pos^starEach (e::es) X.env) (backToKw pos^keywordEach [] X.env)):=by rfl):
  bZ X (.Call (.Attribute o m apos) (e::es) [] pos) (Vz C m sp ta t):=by
 intro zG s σ H Q R I h;refine PySem.W.methodCall_KW (A5 (aE^he _ s σ H _ I h) λu s1 zz=>?_) ht;let#[x,H1,I1,rx,a,dx,fs,ex,ea,l,q]:=zz;subst ex;obtain rfl:u=cV a:=rx;refine FK I1 ea c hm l^PySem.W.callWith_K I.ok.mod.kin hm.kp (A5 (aE^ha _ _ s1 σ H1 _ I1 q) λus s2 zz=>?_) hst hpl;let#[vs,H2,I2,r,q2]:=zz;refine #[I2.kIn,?_];have r2:Vals (V.ref a::vs) ((cV a::us)++[]):=by rw[c9]; exact .cons rfl r
 have hl:((cV a::us)++[]).length=ps.length:=by rw[←r2.length]; exact F.len _ _ _ _ q2
 refine gO^fo (F.run X.A X.stack s2 H2 #[cV a::us,[]] ((cV a::us)++[]) (.ref a::vs) Q R hr I2.env0 (hb s2 (cV a::us) I2.kIn hl) r2 q2) λr s' hq=>?_;cases r with
 |error e=>exact .inr #[H2,s2,I2,hq]
 |ok fl=>
  cases fl with
  |ret u=>exact I2.after hq
  |next=>exact dQ hq
  |brk=>exact dQ hq
  |cont=>exact dQ hq
end
end L2
namespace Dp
open L2
section
variable {X:Cx}{κ zK:Kd}{e o:Expr}{es:m_ Expr}{pos p apos np:Pos}{i k:Nat}{x m:Str}{C:Addr}{ps:m_ Str}{wo:DW}{was:LX}
def Mo(dn:Str)(ws:Ch->Aa)(wh:X3):X3:=λD2 nm ks ds n ρ=>if nm=dn\/dn="ThinError" then ∀a,ws a D2 n ρ else wh D2 nm ks ds n ρ
theorem SG{dn:Str}{b₀:d6}{suite:m_ d6}{hs:m_ gW}{Dc:Ch}{ws:Ch->Aa}{wh:X3}(hg:Gl X dn)(hm:X.mg dn=P3^.ref Dc)(hK:nsIn X.K mainGlobals dn=P3^P3^.ref Dc)
  (hD:dn="ThinError"/\YD X.K Dc\/dn ≠ "ThinError"/\∃U,XC X.K dn Dc U) (hst:X.stack=X.env::X.outer) (hfr:X.env.frame=P3 X.env.locals)
  (hsu:∀a,Mh (X.hush^X.A.mark^P3^.ref a) κ (b₀::suite)^ws a) (hr:DH X κ hs wh) (hd:(dn==("__debug__":Str))=l_:=by decide):
  DH X κ (.ExceptHandler (P3^.Name dn np) j_ (b₀::suite) pos::hs) (Mo dn ws wh):=by
 let#[th,b1,b2]:=hr;have ch:∀a,∃t,PSs (X.hush^X.A.mark^P3^.ref a) (b₀::suite) t/\∀(C:Fm) (M:Ch->Prop) (H:Hp) (n:Sg) (ρ:m_ Slot) (σ:L2.St) (D2:E2) (E:Ends),Rel X.K C M H n ρ σ->F_ X.K C κ D2 E->ws a D2 n ρ->t E σ H:=hsu;refine#[_,RJ (ts:=λa=>(ch a).choose) hg hm (hD.elim (λz=>z.2) fun#[_,U,c]=>c.isX) hst hfr (λa=>(ch a).choose_spec.1) b1 hd,λC M H n ρ σ D2 E nm Cc Uc ks ds vs dx r L xc xd hl' hs w=>#[nm,Uc,xc,?_]];unfold Mo at w
 by_cases e:nm=dn\/dn="ThinError"
 .rw[if_pos e]at w
  refine .inl #[?_,λa=>(ch a).choose_spec.2 C M H n ρ σ D2 E r L^w a]
  rcases hD with⟨z,_⟩|⟨z,U,c⟩
  .subst z
   have q:=xc.atU.symm.trans hK;cases q;exact .inr rfl
  .rcases e with e|e
   .subst e
    have q:=xc.at_.symm.trans hK;cases q;exact .inl rfl
   .exact absurd e z
 .rw[if_neg e]at w
  have e1:nm≠dn:=λz=>e^.inl z;have e2:dn ≠ "ThinError":=λz=>e^.inr z
  rcases hD with⟨z,_⟩|⟨_,U,c⟩
  .exact absurd z e2
  .refine .inr #[λz=>?_,λz=>?_,b2 C M H n ρ σ D2 E nm Cc Uc ks ds vs dx r L xc xd hl' hs w]
   .subst z
    exact e1^xc.name c
   .subst z
    exact e2^xc.nameU c
def Vo(C:Ch)(m:Str)(W:WX)(wo:DW)(was:LX):Sg->m_ Slot->(D->Sg->Prop)->PX->Prop:=λn ρ P Pr=>D9 C m (λss n P=>W ss n P Pr) wo was n ρ P
theorem F3{zU:Kd}{W:WX}{pl:Sem Bool}(c:Cls X.K C)(G:KO X.prog X.w X.K X.mg X.base C m k ps zU W)(hr:Room k X.A)(ho:DE X o zK wo)(ha:Mi X (e::es) was)
  (hst:starEach (e::es) X.env=(l_,eval e X.env)::starEach es X.env:=by rfl) (hpl:(backTo pos^starEach es X.env).any (·.1)=l_:=by rfl)
  (ht:eval (.Call (.Attribute o m apos) (e::es) [] pos) X.env=(do
   let ov ←eval o X.env
   standAt apos.atName
   let (f,first) ←holding [ov] (getMethod ov m pl)
   callWith pos f first (backTo pos^starEach (e::es) X.env) (backToKw pos^keywordEach [] X.env)):=by rfl):cC X (.Call (.Attribute o m apos) (e::es) [] pos) zU^Vo C m W wo was:=by
 let#[f,fd,G,hm,hb,hW]:=G;let#[to,o1,o2]:=ho;let#[t,a1,a2]:=ha;refine#[_,RL o1 c hm G hr hb a1 hst hpl ht,λC0 M H n ρ σ P Q R Pr r l w q=>?_];refine o2 C0 M H n ρ σ _ _ r w λv H1 d n1 e1 f1 r1 #[a,ks,ds,ed,hw,hl,w1]=>?_;subst ed;have R1:=r.step e1 f1;let#[dx,vs,g1,g2,g3,g4]:=f1.2 a _ hw;have ev:=FH^r1.tpOf r.dom r.vM;subst ev;refine#[a,dx,_,rfl,g1,Cv hl,?_];refine a2 C0 M H1 n1 ρ σ _ _ R1 w1 λvs2 H2 ss n2 e2 f2 r2 p=>?_;have R2:=R1.step e2 f2;have hex:∃o,H2 a=P3 o:=let #[o',h,_]:=e2 a _ g1; #[o',h]
 have hself:DF X.K C0.F C0.V M H2 (.ref a)^.sh^.ob a:=#[#[_,rfl,rfl,hex],rfl];exact#[(Paired.length^Paired.cons hself r2).trans^hW _ _ _ _ p,_,_,_,M,n2,_,P,Pr,#[R2.dom,R2.fU,R2.uV,R2.vM,f2,Paired.cons hself r2],p,λv H3 d n3 e3 f3 r3 p3=>q v H3 d n3 ((e1.trans e2).trans e3) f3 (VR.back (e1.trans e2) r3) p3,l.step^e1.trans e2]
def YG(i:Nat)(w:Sg->m_ Slot->(D->Sg->Prop)->PX->Prop):Vd:=λD2 Pr n ρ=>w n ρ (λd n1=>D2.nx n1^ρ.set i^.sh d) Pr
theorem HM{zU:Kd}{w:Sg->m_ Slot->(D->Sg->Prop)->PX->Prop}{pos':Pos}(hN:X.N.Nodup)(hi:X.N[i]?=P3 x)(hx:Loc X.env.scope x)(h:cC X e zU w)(hk:zU≠.tp:=by intro z; cases z)(hs:swapsWith e (P3^.Name x pos') pos.line X.env=pure l_:=by rfl)
  (hf:X.fn x=k_\/X.env.scope.names.lookup x=P3 .local:=by first|exact .inl rfl|exact .inr rfl|assumption):bn X κ (.Assign [.Name x pos'] e pos)^YG i w:=by
 let#[t,a1,a2]:=h;refine#[_,TN hN hi hx a1 hs hf,λC M H n ρ σ D2 E R Pr r L l w=>?_];exact a2 C M H n ρ σ _ _ R Pr r l w λv H' d n' e1 f1 r1 p=>L.nx M H' n' _ _ ((r.step e1 f1).set^r1.shOf r.dom hk) p
end
theorem P9{P:cm}{w:cy}{K:Frag}{mg:Str->n_ Cn}{base:cf}{C:Ch}{x:Str}{k:Nat}{ps:m_ Str}{κ:Kd}{W:WX}{W':W2}(h:∀ss n P,W' ss n P->W ss n P λ_ _ _ _=>False)(G:KO P w K mg base C x k ps κ W):Nq P w K mg base C x k ps κ W':=by
 let#[f,fd,F,a,b,d]:=G;refine#[f,fd,#[λvs H Q E z=>z.1,λA outer s H args us vs Q E hr e0 hb hv sp=>?_],a,b,λss n P g=>d ss n P _^h ss n P g];let#[l,F0,U,V',M,n,ss,Pd,ra,hw,q]:=sp;refine fo (F.run A outer s H args us vs Q (λ_ _ _=>False) hr e0 hb hv #[l,F0,U,V',M,n,ss,Pd,_,ra,h _ _ _ hw,q,λ_ _ _ _ _ _ _ _ _ _ _ _ _ _ _ z=>z]) λr s' hq=>?_;cases r with
 |ok fl=>cases fl <;>exact hq
 |error e=>
  let#[_,_,_,_,_,_,_,z]:=hq;exact z.elim
end Dp
namespace Nt
open L2 Dp
def LP(i:Int):Int:=if i<0 then -i else i
def ED(m:Int):n_ Int->Int
 |some d=>if d<m then d else m
 |none=>m
def VB(M:Net)(g:Str->Int):D:=.tup^M.ps.map λx=>.int^g x
def X1(M:Net)(g:Str->Int):Prop:=(∀x∈M.ps,0<=g x)/\∀v∈M.ts,LP (g v.a - g v.b)<=v.len
def Mm(M:Net)(a b:Str)(w:m_ Str)(d:Int):Prop:=(∃r,w=a::r)/\w.getLast?=P3 b/\walk M w d/\w.length<=30/\∀x∈w,x∈M.ps
def N8(A:Net)(t b:Int)(u:Ak)(row:D):Prop:=
 (Bt A t b u=l_/\∃g:Str->Int,row=.tup [.str "in",VB A g]/\X1 A g/\u.len*t<LP (g u.a - g u.b)*b) \/
 (Bt A t b u=k_/\∃(w:m_ Str) (d:Int),row=.tup [.str "out",.tup^w.map .str]/\Mm A u.a u.b w d/\d*b<=u.len*t)
def Pap92(N:Net)(t b:Int):m_ Ak->m_ Ak->m_ D->Prop
 |_,[],[]=>True
 |kept,u::r,row::rs=>N8 (sub N kept) t b u row/\Pap92 N t b (AW N t b kept [u]) r rs
 |_,_,_=>False
def Zv:W2:=λss n P=>∃l:Int,ss=[.sh^.int l]/\P (.bl k_) n
def Xf:W2:=λss n P=>∃(i:Int) (xs:m_ D),ss=[.sh^.int i,.sh^.tup xs]/\(xs.length:Int)=i/\P (.bl k_) n
def Xh:W2:=λss n P=>∃us:m_ Ak,ss=[.sh^.tup^us.map AN]/\us.Pairwise Be/\us.length<=60/\P (.bl k_) n
def Xg:W2:=λss n P=>∃(N:Net) (u:Ak),ss=[.sh^enc N,.sh^AN u]/\okN N/\u∈N.ts/\P (.bl k_) n
def Ua:W2:=λss n P=>∃N M:Net,ss=[.sh^enc N,.sh^enc M]/\okN N/\okN M/\M.ps=N.ps/\(∀u∈M.ts,u∈N.ts)/\P (.bl k_) n
def Mg:W2:=λss n P=>∃(M:Net) (u:Ak),ss=[.sh^enc M,.sh^AN u]/\okN M/\P (enc #[M.ps,M.ts.filter λv=>Ag (Ab v)^Ab u]) n
def Ug:W2:=λss n P=>∃(M:Net) (a b:Str) (w:m_ Str) (d:Int),ss=[.sh^enc M,.sh^.str a,.sh^.str b,.sh^.tup^w.map .str]/\okN M/\Mm M a b w d/\P (.int d) n
def Xi:W2:=λss n P=>∃(M:Net) (g:Str->Int),ss=[.sh^enc M,.sh^VB M g]/\okN M/\(∀x∈M.ps,0<=g x)/\P (.bl k_) n
def Xp:W2:=λss n P=>∃(M:Net) (g:Str->Int) (a b:Str),ss=[.sh^enc M,.sh^VB M g,.sh^.str a,.sh^.str b]/\okN M/\a∈M.ps/\b∈M.ps/\P (.int^LP (g a - g b)) n
def Ui:W2:=λss n P=>∃(M:Net) (g:Str->Int),ss=[.sh^enc M,.sh^VB M g]/\okN M/\X1 M g/\P (.bl k_) n
def Me:W2:=λss n P=>∃(N:Net) (s:Str) (m:Int),ss=[.sh^enc N,.sh^.str s,.sh^.int m]/\okN N/\s∈N.ps/\∀F:La,Told N s F->P (VB N λx=>ED m ((F x).map (·.1))) n
def Su:W2:=λss n P=>∃t b l:Int,ss=[.sh^tD t b,.sh^.int l]/\I_ t b/\P (.int (l*t / b+1)) n
def Uh:W2:=λss n P=>∃(N:Net) (t b:Int),ss=[.sh^enc N,.sh^tD t b]/\okN N/\I_ t b/\∀(ord:m_ Ak) (rs:m_ D),ord.Perm N.ts->Bv ord->Pap92 N t b [] ord rs->P (.tup rs) n
def Xe:W2:=λss n P=>∃(M:Net) (t b:Int) (u:Ak) (w:m_ Str) (d:Int),ss=[.sh^enc M,.sh^tD t b,.sh^AN u,.sh^.tup^w.map .str]/\okN M/\I_ t b/\Mm M u.a u.b w d/\d*b<=u.len*t/\P .non n
def Xj:W2:=λss n P=>∃(M:Net) (t b:Int) (u:Ak) (g:Str->Int),ss=[.sh^enc M,.sh^tD t b,.sh^AN u,.sh^VB M g]/\okN M/\I_ t b/\u.a∈M.ps/\u.b∈M.ps/\X1 M g/\u.len*t<LP (g u.a - g u.b)*b/\P .non n
def Sr:W2:=λss n P=>∃(N:Net) (t b:Int) (pre post:m_ Ak) (u:Ak) (row:D),ss=[.sh^tD t b,.sh^enc^sub N^AW N t b [] (pre++u::post),.sh^AN u,.sh row]/\okN N/\I_ t b/\(pre++u::post).Perm N.ts/\Bv (pre++u::post)/\N8 (sub N^AW N t b [] pre) t b u row/\P .non n
def Xo:W2:=λss n P=>∃(s:Str) (y:D),ss=[.sh^.tup [.str s,y]]/\(s="in"\/s="out")/\P (.bl k_) n
def Ud:W2:=λss n P=>∃(N T:Net) (t b:Int) (ord:m_ Ak) (rs:m_ D),ss=[.sh^enc N,.sh^tD t b,.sh^enc T,.sh^.tup rs]/\okN N/\I_ t b/\IsT N t b T/\ord.Perm N.ts/\Bv ord/\Pap92 N t b [] ord rs/\P (.bl k_) n
def Sl:W2:=λss n P=>∃m:Nat,ss=[.fd,.sh^.int m]/\1<=m/\m<=26/\11<=n.n/\∀(xs:m_ Str) (k:Nat),xs.length=m->(∀x∈xs,Ds x)->rising xs->n.n<=k+11->P (.lst^xs.map .str) #[k,n.w]
def Nm:W2:=λss n P=>ss=[.fd]/\2<=n.n/\∀t b:Int,I_ t b->b<=t->P (tD t b) #[n.n - 2,n.w]
def Sm:W2:=λss n P=>∃us:m_ Ak,ss=[.br^.lst^us.map AN]/\us.length<64/\∀l:m_ Ak,l.Perm us->Bv l->P (.lst^l.map AN) n
def Xd:W2:=λss n P=>∃(N T:Net) (t b:Int),ss=[.sh^enc N,.sh^tD t b,.sh^enc T]/\okN N/\I_ t b/\b<=t/\IsT N t b T/\P (.bl k_) n
def O6:W2:=λss n P=>∃ps:m_ Str,ss=[.fd,.sh^.lst^ps.map .str]/\ps.length=7/\(∀x∈ps,Ds x)/\5<=n.n/\∀(d:Dd) (m:Nat),Gc^.dd d->(∀x,d=.come x->x∈ps)->n.n<=m+5->P (DR d) #[m,n.w]
def HV(C:Ch):W2:=λss n P=>∃(a:Ch) (t b:Int) (N M:Net) (d:Dd),ss=[.sh^.ob a,.sh^DR d]/\Iz C n a t b N M/\Gc^.dd d/\BP C n a t b N M (.dd d) P λ_ _ _ n'=>P .non n'
def Np:W2:=λss n P=>∃(N:Net) (d:Dd),ss=[.sh^enc N,.sh^DR d]/\okN N/\N.ps.length<24/\N.ts.length<60/\Gc^.dd d/\(∀N',BI N^.dd d=j_->JQ N d N'->okN N'->P (enc N') n)/\(∀c,BI N^.dd d=P3 c->P .non n)
def D_(N N':Net):m_ Ak:=(N.ts.filter λu=>decide (u∉N'.ts))++N'.ts.filter λu=>decide (u∉N.ts)
def Ze:n_ Net->D
 |some N'=>enc N'
 |none=>.non
def YU(N:Net):n_ Net->m_ Ak
 |some N'=>D_ N N'
 |none=>[]
def Nn:W2:=λss n P=>∃(N:Net) (o:n_ Net),ss=[.sh^enc N,.sh^Ze o]/\okN N/\(∀N',o=P3 N'->okN N')/\P (.lst^(YU N o).map AN) n
def LU:W2:=λss n P=>∃(M T:Net) (tc came went:m_ Ak),ss=[.sh^.tup^M.ts.map AN,.sh^.tup^T.ts.map AN,.sh^.tup [.lst^came.map AN,.lst^went.map AN],.sh^.lst^tc.map AN]/\okN M/\okN T/\tc.length<64/\(∀u∈tc,CS^AN u)/\M.ts.length+T.ts.length<63/\Iy T.ts M.ts came/\Iy M.ts T.ts went/\(∀u∈came++went,∃v∈tc,Ag (Ab u)^Ab v=l_)/\P (.bl k_) n
def Iw(C:Ch):W2:=λss n P=>∃(a:Ch) (t b:Int) (N T:Net),ss=[.sh^.ob a,.sh^tD t b,.sh^enc N,.fd]/\Iz C n a t b N T/\b<=t/\IsT N t b T/\2<=n.n/\∀m:Nat,n.n<=m+2->P (.bl k_) #[m,n.w]
def Zz(C:Ch):W2:=λss n P=>∃(a:Ch) (t b:Int) (N M:Net) (x y:Str),ss=[.sh^.ob a,.sh^.str x,.sh^.str y]/\Iz C n a t b N M/\x∈N.ps/\y∈N.ps/\∀o,Far M x y o->P (PY o) n
theorem P0{C:Ch}:∀ss n P,Zz C ss n P->Ss C ss n P (λ_ _ _ _=>False):=by
 rintro ss n P ⟨a,t,b,N,M,x,y,rfl,k,hx,hy,p⟩;have nm:=k.1.2.1.1.names;refine#[a,t,b,N,M,x,y,rfl,k,#[nm x hx,nm y hy],?_];unfold BP;rw[show BI N^.far x y=j_ from if_pos #[hx,hy]];exact p
def Ox(C_Keeper:Ch):Aa:=(Ay (BB 2^Ap Sl^AH (Bl 1)^AH (AR^wC^D.int 7) Ac)
 (Ay (BB 3^Mn^AZ (Ap Nm^AH (Bl 1) Ac)^AZ (Ap Nm^AH (Bl 1) Ac) A7)
 (Ay (BB 4^FY [j_] (Hb^AG 3) (A6 0) HZ^Uq C_Keeper (O5 C_Keeper)^AH (AR^AG 0) Ac)
 (Ay (BB 5^DU^AZ (DU A7)^AZ (DU A7) A7)
 (Ay (BB 6^As MK (wC^D.int 7)^Ap DC^AH (Bl 1)^AH (AR^wC^D.int 2) Ac)
 (Ay (Mq (FV^AZ (As B0 (As B0 (AG 6)^wC^D.int 6)^Ap DC^AH (Bl 1)^AH (AR^wC^D.int 13) Ac) A7) (A6 7) (Ay (BB 8^Sy (Ae^As NW (AG 7)^AG 6) (DU^AZ (wC^D.str "come")^AZ (As C7 (AG 2)^As R7 (wC^D.int 6)^AG 7) A7)^Ap O6^AH (Bl 1)^AH (AR^AG 2) Ac)
 (Ay (BB 9^Ap Np^AH (AR^AG 5)^AH (AR^AG 8) Ac)
 (Ay (BB 10^Ap Nn^AH (AR^AG 5)^AH (AR^AG 9) Ac)
 (Ay (Mq (FV^AZ (wC^D.int 2) A7) (A6 11) (Ay (BB 12^aC (As (QU l_) (AG 11)^wC^D.int 0)^As (QU l_) (Ap DC^AH (Bl 1)^AH (AR^wC^D.int 2) Ac)^wC^D.int 0)
 (Ay (BB 13^Sy (Ae^AG 12) (As C7 (D9 C_Keeper "thin" (FS C_Keeper) (As C7 (AG 4)^AG 11) Ac)^wC^D.int 1)^DU A7)
 (Ay (BB 14^Ap (HV C_Keeper)^AH (AR^As C7 (AG 4)^AG 11)^AH (AR^AG 8) Ac)
 (Ay (Ci (Ae^As (QU k_) (As (Ex l_) (AG 14)^wC D.non)^As (Ex l_) (AG 9)^wC D.non) (DJ^wC^D.bl l_) Bs)
 (Ay (BB 15^Sy (Ae^AG 12) (As C7 (D9 C_Keeper "thin" (FS C_Keeper) (As C7 (AG 4)^AG 11) Ac)^wC^D.int 1)^DU A7)
 (Ci (Ge (Ae^AG 12)^Ge (Ae^As (Ex k_) (AG 14)^wC D.non)^Hc^Ae^KQ LU^AH (AR^AG 13)^AH (AR^AG 15)^AH (AR^AG 14)^AH (AR^AG 10) Ac) (DJ^wC^D.bl l_) Bs)))))))
 (Ay (BB 5^Sy (Ae^As (Ex l_) (AG 9)^wC D.non) (AG 5)^AG 9)
 (Ci (Ae^As (f2 λi j=>D.bl (decide (j<i))) (Ap DC^AH (Bl 1)^AH (AR^wC^D.int 3) Ac)^wC^D.int 0) (Ci (Hc^Ae^Ap (Iw C_Keeper)^AH (AR^As C7 (AG 4)^wC^D.int 0)^AH (AR^As C7 (AG 3)^wC^D.int 0)^AH (AR^AG 5)^AH (Bl 1) Ac) (DJ^wC^D.bl l_) Bs) Bs)))))))
 (DJ^As (NX k_) (wC^D.bl l_)^FY [P3 5,P3 1,P3 4,P3 3,j_] (FV^AZ (wC^D.int 2) A7) (A6 4) HZ^Ap (Iw C_Keeper)^AH (AR^As C7 (AG 2)^AG 4)^AH (AR^As C7 (AG 3)^AG 4)^AH (AR^AG 0)^AH (Bl 1) Ac)))))))
theorem Py(s t:Ak):Fv (Ab s)^Ab t=Ag (Ab s)^Ab t:=Ft _ _ rfl
section
variable {N:Net}{t b:Int}{pre post:m_ Ak}{u:Ak}
theorem Rn(nd:(pre++u::post).Nodup):u∈AW N t b [] (pre++u::post)↔Bt (sub N^AW N t b [] pre) t b u=l_:=by
 let#[_,n2,n3]:=eG.mp nd;have hu:u∉AW N t b [] pre:=λz=>(BR z).elim (λz=>absurd z ci) λz=>n3 u z u Op rfl;rw[BS,BY];cases e:Bt (sub N^AW N t b [] pre) t b u with
 |true=>
  rw[if_pos rfl];refine#[λz=>?_,λz=>by cases z]
  rcases BR z with z|z
  .exact absurd z hu
  .exact absurd z (cz.mp n2).1
 |false=>
  rw[if_neg^by cbv];exact#[λ_=>rfl,λ_=>Bp^cW _ (On.mpr rfl)]
theorem LO(nd:(pre++u::post).Nodup)(hr:Bv (pre++u::post)):(#[(sub N^AW N t b [] (pre++u::post)).ps,(sub N^AW N t b [] (pre++u::post)).ts.filter λv=>Ag (Ab v)^Ab u]:Net)=sub N^AW N t b [] pre:=by
 let#[_,n2,n3]:=eG.mp nd;let#[_,r2,r3]:=List.pairwise_append.mp hr;unfold sub
 congr 1
 rw[List.filter_filter];refine gL λv _=>?_;rw[dC,dB,decide_eq_true_eq,decide_eq_true_eq];constructor
 .rintro⟨hlt,hv⟩
  rw[BS]at hv
  rcases BR hv with z|z
  .exact z
  .rcases Tk.mp z with rfl|z
   .rw[A3]at hlt; cases hlt
   .rw[(dE.mp r2).1 v z]at hlt; cases hlt
 .intro hv
  have hp:v∈pre:=(BR hv).elim (λz=>absurd z ci) id;refine#[?_,by rw[BS]; exact Bp hv];cases e:Ag (Ab v)^Ab u with
  |true=>rfl
  |false=>exact absurd (Hs^BX _ _ e^r3 v hp u Op)^n3 v hp u Op
end
theorem Pz{w:m_ Str}{b:Str}(h:w.getLast?=P3 b):atI (w.map D.str) (-1)=P3^.str b:=by
 have hl:1<=w.length:=iT.mpr λz=>by rw[z]at h; cases h
 rw[List.getLast?_eq_getElem?]at h;unfold atI Tx;rw[if_neg^by cbv,if_pos (by rw[FM]; omega),Option.bind_some,cX,FM,show(-1+(w.length:Int)).toNat=w.length - 1 by lk,h];rfl
theorem IX:∀xs:m_ Str,De (.tup^xs.map .str)^.tup^xs.map .str=k_
 |[]=>rfl
 |x::xs=>by
  show(x==x&&_)=k_;rw[beq_self_eq_true,Bool.true_and];exact IX xs
theorem ZD{M:Net}(okm:okN M)(g:Str->Int){a:Str}(ha:a∈M.ps):∃j:Nat,(M.ps.map λx=>D.int^g x)[j]?=P3^.int^g a/\CS^.tup^M.ps.map .str/\CS^.str a/\(∃x,(M.ps.map D.str)[j]?=P3 x/\De x^.str a=k_)/\∀m x,m<j->(M.ps.map D.str)[m]?=P3 x->De x^.str a=l_:=by
 have nd:=Fc okm.1.rise;let#[j,hj]:=fY.mp ha;refine#[j,by rw[cX,hj]; rfl,CQ okm.1.names,By^okm.1.names a ha,#[.str a,by rw[cX,hj]; rfl,beq_self_eq_true a],λm x hm hx=>?_];rw[cX]at hx;let#[y,hy,rfl]:=dJ.mp hx;show(y==a)=l_;rw[beq_eq_false_iff_ne];rintro rfl;let#[h1,e1]:=Uf.mp hy;let#[h2,e2]:=Uf.mp hj
 have:=(List.getElem_inj nd).mp^e1.trans e2.symm
 lk
theorem Ju{M:Net}(ok:M.Ok){s x:Str}{o:n_ Int}(h:Far M s x o){m:Int}(hm:0<=m):0<=ED m o:=by
 cases o with
 |none=>exact hm
 |some d=>
  have:=(show Least M s x d from h).1.pos ok
  show 0<=if d<m then d else m
  split <;>lk
theorem Nd{M:Net}(ok:M.Ok){s:Str}{G:Str->n_ Int}(hG:∀x,Far M s x^G x){m:Int}{t:Ak}(ht:t∈M.ts):LP (ED m^G t.a - ED m^G t.b)<=t.len:=by
 let#[_,_,_,l1,_]:=ok.tin t ht;let#[d1,d2]:=HL ht
 have up:∀{y z:Str}{l:Int},Ed M y z l->∀d,G y=P3 d->∃d',G z=P3 d'/\d'<=d+l:=λ{y z l} he d e=>by
  have hy:=hG y;rw[e]at hy;have hw:Wk M s z (d+l):=Wk.snoc (show Least M s y d from hy).1 he;have hz:=hG z;cases ez:G z with
  |none=>rw[ez]at hz; exact absurd hw^hz _
  |some d'=>rw[ez]at hz; exact#[d',rfl,(show Least M s z d' from hz).2 _ hw]
 have u1:=up d1;have u2:=up d2;unfold LP ED;cases ea:G t.a with
 |none=>
  cases eb:G t.b with
  |none=>split <;>lk
  |some b=>let#[d',z,_]:=u2 b eb; rw[ea]at z; cases z
 | some a=>
  cases eb:G t.b with
  |none=>let#[d',z,_]:=u1 a ea; rw[eb]at z; cases z
  |some b=>
   let#[b',z1,h1]:=u1 a ea;rw[eb]at z1; cases z1
   let#[a',z2,h2]:=u2 b eb;rw[ea]at z2; cases z2
   dsimp only
   split <;>split <;>split <;>lk
theorem bG{A:Net}(okn:okN A){t b:Int}{u:Ak}(hn:Bt A t b u=l_){G:Str->n_ Int}(hG:∀x,Far A u.a x^G x){m:Int}(hm0:0<=m)(hm:u.len*t<m*b):N8 A t b u^.tup [.str "in",VB A λx=>ED m^G x]:=by
 have ok:=okn.1;refine .inl #[hn,_,rfl,#[λx _=>Ju ok (hG x) hm0,λv hv=>Nd ok hG hv],?_]
 have start:ED m^G u.a=0:=by
  have h:=hG u.a;cases e:G u.a with
  |none=>rw[e]at h; exact absurd .nil^h 0
  |some d=>
   rw[e]at h;have h:Least A u.a u.a d:=h;have e0:d=0:=Int.le_antisymm (h.2 0 .nil)^h.1.pos ok;subst e0;show(if(0:Int)<m then 0 else m)=0
   split <;>lk
 have far:u.len*t<ED m^G u.b*b:=by
  have h:=hG u.b;cases e:G u.b with
  |none=>exact hm
  | some d=>
   rw[e]at h;show _<(if d<m then d else m)*b
   split
   .refine fE λc=>?_
    have:Bt A t b u=k_:=nearB_iff.mpr #[d,h,by lk]
    rw[hn]at this; cases this
   .exact hm
 have pos:=Ju ok (hG u.b) hm0;rw[start,show LP (0 - ED m^G u.b)=ED m (G u.b) by unfold LP; split <;>lk];exact far
theorem Pap92.len{N:Net}{t b:Int}:∀{kept us:m_ Ak}{rs:m_ D},Pap92 N t b kept us rs->rs.length=us.length
 |_,[],[],_=>rfl
 |_,u::us,r::rs,h=>by rw[ce,ce,Pap92.len h.2]
 |_,[],_::_,h=>h.elim
 |_,_::_,[],h=>h.elim
theorem Pap92.snoc{N:Net}{t b:Int}{u:Ak}{row:D}:∀{pre kept:m_ Ak}{rs:m_ D},Pap92 N t b kept pre rs->N8 (sub N^AW N t b kept pre) t b u row->Pap92 N t b kept (pre++[u]) (rs++[row])
 |[],kept,[],_,h=>#[h,trivial]
 |v::pre,kept,r::rs,h,h2=>#[h.1,Pap92.snoc h.2^by rw[←BS (p:=[v])]; exact h2]
 |[],_,_::_,h,_=>h.elim
 |_::_,_,[],h,_=>h.elim
theorem Pap92.shape{N:Net}{t b:Int}:∀{kept us:m_ Ak}{rs:m_ D},Pap92 N t b kept us rs->∀r∈rs,∃(s:Str) (y:D),r=.tup [.str s,y]/\(s="in"\/s="out")
 |_,[],[],_=>λr hr=>absurd hr ci
 | _,u::us,r::rs,h=>λx hx=>(Tk.mp hx).elim (λe=>by
   rw[e]
   rcases h.1 with⟨_,g,z,_⟩|⟨_,w,d,z,_⟩
   .exact#[_,_,z,.inl rfl]
   .exact#[_,_,z,.inr rfl])^Pap92.shape h.2 x
 |_,[],_::_,h=>h.elim
 |_,_::_,[],h=>h.elim
theorem VT{x:Str}{j:Int}(h0:0<=j)(h1:j<=(x.length:Int)):cs^Txt.slice x j_^P3 j=(cs x).take j.toNat:=by
 have e:x.cps.toList.length=x.length:=by rw[show x.cps.toList.length=x.length from CY x]
 rw[eq_of_beq^slice_closes_to #[h0,by lk]];show((x.cps.toList.drop _).take _)=(x.cps.toList).take _
 grind
theorem XJ{x:Str}{i j:Int}(h0:0<=i)(h1:i<=j)(h2:j<=(x.length:Int)):cs^Txt.slice x (P3 i)^P3 j=((cs x).drop i.toNat).take (j - i).toNat:=by
 have e:x.cps.toList.length=x.length:=by rw[show x.cps.toList.length=x.length from CY x]
 rw[eq_of_beq^slice_closes #[h0,h1,by lk]];rfl
theorem N4:∀(l:m_ Nat) (i j:Nat),i<j->i<l.length->l.take i<l.take j
 |[],_,_,_,h=>absurd h^Nat.not_lt_zero _
 |c::r,0,j+1,_,_=>List.nil_lt_cons _ _
 |c::r,i+1,j+1,h1,h2=>List.cons_lt_cons_iff.mpr^.inr #[rfl,N4 r i j (by lk)^by simp_all]
theorem Jj{b:BW}{te:DW}{P:m_ D->Sg->Prop}(I:Nat->Sg->m_ D->m_ Slot->Prop)(hend:∀n acc ρ,I 0 n acc ρ->P acc n)
  (hstep:∀(k:Nat) (d:D) (n:Sg) (acc:m_ D) (ρ:m_ Slot) (nx:m_ D->Sg->m_ Slot->Prop),I (k+1) n acc ρ->(∀acc' n' zY,I k n' acc' zY->nx acc' n' zY)->b d ρ λzS=>te n zS λy n2=>nx (acc++[y]) n2 zS):
  ∀(ds acc:m_ D) (n:Sg) (ρ:m_ Slot),I ds.length n acc ρ->Co b HZ te P ds acc n ρ
 |[],acc,n,ρ,h=>hend n _ ρ h
 |d::ds,acc,n,ρ,h=>hstep _ d n _ ρ _ h λacc' n' zY h'=>Jj I hend hstep ds _ n' _ h'
def words:m_ Str:=["a","aa","ab","b","far","in","near","out","place","tie","ties","way"]
def wordAt(i:Nat):Str:=words.getD i "a"
theorem Ml:∀i,i<12->Ds^wordAt i:=by
 have h:∀i∈dA 12,1<=(wordAt i).length/\(wordAt i).length<=8/\∀c∈cs^wordAt i,97<=c/\c<=122:=by decide +kernel
 exact λi hi=>h i^d8.mpr hi
theorem O8:∀i j,i<12->j<12->wordAt i=wordAt j->i=j:=by
 have h:∀i∈dA 12,∀j∈dA 12,cs^wordAt i=cs^wordAt j->i=j:=by decide +kernel
 exact λi j hi hj e=>h i (d8.mpr hi) j (d8.mpr hj)^congrArg cs e
def El:Str:="abcdefghijklmnopqrstuvwxyz"
theorem IJ(i:Nat)(h:i<26):(cs El)[i]?=P3 (97+i):=by
 have h2:∀i∈dA 26,(cs El)[i]?=P3 (97+i):=by decide +kernel
 simp_all
theorem Tr{f m j k:Nat}{M:Nat}(hM:m<=M)(hj:j<m)(hk:k<m)(e:(f+j) % M=(f+k) % M):j=k:=by
 have h:∀a b,a<=b->b<m->(f+a) % M=(f+b) % M->a=b:=λa b h1 h2 e=>by
  have:=Nat.sub_mod_eq_zero_of_mod_eq e.symm
  rw[Nat.mod_eq_of_lt^by lk]at this;lk
 rcases Nat.le_total j k with h1|h1
 .grind
 grind
theorem Tw:∀(zs:m_ Str),cs^Txt.join (eJ "") zs=zs.flatMap cs:=by
 intro zs;show cs^Builtin.Str.glued _ zs=_;rw[StrLaws.glued_eq_join]
 induction zs with
 |nil=>rfl
 | cons x r ih=>
  cases r with
  |nil=>rw[fI,List.flatMap_nil,c9]; rfl
  |cons y r=>
   show cs (x++eJ ""++Str.join _ _)=_;rw[GZ,GZ,ih];show cs x++[]++_=_
   grind
theorem RZ{zs:m_ Str}(h:∀z∈zs,z.length=1):(zs.flatMap cs).length=zs.length:=by
 induction zs with
 |nil=>rfl
 |cons x r ih=>
  rw[fI,cZ,ih λz hz=>h z^TW _ hz,CY,h x Op,ce];lk
theorem Lm:∀(ys:m_ Str),(∀y∈ys,y.length=1)->(ys.map (·.length)).sum=ys.length
 |[],_=>rfl
 |y::r,h=>by
  rw[dL,jW,Lm r λz hz=>h z^TW _ hz,h y Op,ce];lk
theorem drawn{P:m_ D->Sg->Prop}{m n:Nat}{w:Ch->n_ Wc}{s:Slot}(hn:m<=n)(h:∀zs:m_ Str,zs.length=m->(∀z∈zs,z.length=1/\∀c∈cs z,97<=c/\c<=122)->P (zs.map .str) #[n - m,w]):
  Co (A6 2) HZ (As C7 (AG 0)^Ap DC^AH (Bl 1)^AH (AR^wC^D.int 26) Ac) P (EI 0 m) [] #[n,w] [.sh^.str El,.fd,s]:=by
 refine Jj (λk n' acc ρ=>k<=m/\n'=#[n - (m - k),w]/\(∃zs:m_ Str,acc=zs.map .str/\zs.length=m - k/\∀z∈zs,z.length=1/\∀c∈cs z,97<=c/\c<=122)/\∃s,ρ=[.sh^.str El,.fd,s]) ?_ ?_ _ _ _ _ ?_
 .grind
 .rintro k d n' acc ρ nx ⟨hk,rfl,⟨zs,rfl,hl,hz⟩,s,rfl⟩ hnx
  refine#[26,rfl,by cbv,by cbv,by show 1<=n - (m - (k+1)); omega,λr h0 h1=>?_];obtain⟨q,rfl⟩:∃q:Nat,r=(q:Int):=#[r.toNat,by lk];have hq:q<26:=by lk
  refine#[97+q,AA^IJ q hq,hnx _ _ _ #[by lk,(by show(#[n - (m - (k+1)) - 1,w]:Sg)=#[n - (m - k),w]; congr 1; clear hl h0 h1 hq; omega),#[zs++[#[#[ 97+q]]],by rw[dD]; rfl,by grind,λz hz'=>?_],_,rfl]]
  rcases cn.mp hz' with hz'|hz'
  .exact hz z hz'
  .rw[On.mp hz']
   refine#[rfl,λc hc=>?_]
   have:c=97+q:=by simpa [cs]using hc
   lk
 .rw[C1]
  simp_all
theorem Qa(i:Nat)(h:i<12):words[i]?=P3^wordAt i:=by
 have hl:i<words.length:=h;unfold wordAt
 simp_all
theorem Y8{r:Int}(h:r=0\/r=1):MulOk "z" r/\(Txt.mul "z" r).length<=1/\∀c∈cs^Txt.mul "z" r,97<=c/\c<=122:=by
 rcases h with rfl|rfl
 .exact#[#[rfl,#[λh=>absurd (by cbv) h,λh=>absurd (by cbv) h]],by cbv,by cbv]
 .exact#[#[rfl,#[λ_ h=>absurd h^by cbv,λ_ h=>absurd h^by cbv]],by cbv,by cbv]
def nameAt(x:Str)(a f k:Nat):Str:=Txt.slice x j_^P3 (a:Int)++#[#[ 97+(f+k) % 26]]++Txt.slice x (P3 ((a:Int)+1))^P3 7++Txt.mul "z" ((k:Int) % 2)
theorem GP{x:Str}{a f k:Nat}(hx:x.length=8)(ha:a<7):cs^nameAt x a f k=(cs x).take a++(97+(f+k) % 26)::(((cs x).drop (a+1)).take (6 - a)++cs^Txt.mul "z" ((k:Int) % 2)):=by
 unfold nameAt;rw[GZ,GZ,GZ,VT (by lk)^by lk,XJ (by lk) (by lk)^by lk];have e3:(7 - ((a:Int)+1)).toNat=6 - a:=by lk
 rw[e3,e6,e6];rfl
theorem L5{x:Str}{a f k:Nat}(hx:x.length=8)(hc:∀c∈cs x,97<=c/\c<=122)(ha:a<7):Ds^nameAt x a f k:=by
 have e:=GP (f:=f) (k:=k) hx ha;let#[_,hz1,hz2]:=Y8 (r:=k % 2)^by lk
 have hl:(nameAt x a f k).length=7+(Txt.mul "z" (k % 2)).length:=by
  rw[←CY,e,cZ,ce,cZ,fA,fA,List.length_drop,CY,CY,iN^by lk,iN^by lk];lk
 refine#[by lk,by lk,λc h=>?_]
 grind
theorem NJ{x:Str}{a f m j k:Nat}(hx:x.length=8)(ha:a<7)(hm:m<=26)(hj:j<m)(hk:k<m)(e:nameAt x a f j=nameAt x a f k):j=k:=by
 have e1:=congrArg cs e;rw[GP hx ha,GP hx ha]at e1;have hl:((cs x).take a).length=a:=by rw[fA,CY]; omega
 have e2:=congrArg (λl=>l[a]?) e1;rw[eP^by lk,eP^by lk,hl]at e2
 grind
theorem Qb{A B:Net}(h:∀u∈A.ts,u∈B.ts){s x:Str}{d:Int}(w:Wk A s x d):Wk B s x d:=by
 induction w with
 |nil=>exact .nil
 |snoc _ e ih=>
  refine .snoc ih ?_;let#[t,ht,e]:=dk.mp e;exact dk.mpr #[t,h t ht,e]
theorem HY{N:Net}{x y z:Str}{d e:Int}(h:Wk N x y d)(g:Wk N y z e):Wk N x z (d+e):=by
 induction g with
 |nil=>rw[Int.add_zero]; exact h
 |snoc _ f ih=>rw[←Int.add_assoc]; exact .snoc ih f
theorem O9{M:Net}(ok:M.Ok){x y:Str}{d:Int}(h:Wk M x y d):Wk M y x d:=by
 induction h with
 |nil=>exact .nil
 |snoc _ he ih=>
  let#[t,ht,rfl,hx]:=he.tie ok;let#[d1,d2]:=HL ht;rw[Int.add_comm];refine HY ?_ ih;have s1:=Wk.snoc .nil d1;have s2:=Wk.snoc .nil d2;rw[Int.zero_add]at s1 s2
  rcases hx with⟨rfl,rfl⟩|⟨rfl,rfl⟩
  .exact s2
  .exact s1
theorem M6{N:Net}{t b:Int}{u:Ak}:∀{ord kept:m_ Ak},u∈ord->u∈AW N t b kept ord\/∃k',(∀v∈k',v∈AW N t b kept ord)/\Bt (sub N k') t b u=k_
 |[],_,h=>absurd h ci
 | v::r,kept,h=>by
  rw[BY];cases e:Bt (sub N kept) t b v with
  |true=>
   rw[if_pos rfl]
   rcases Tk.mp h with rfl|h
   .exact .inr #[kept,λv hv=>Bp hv,e]
   .exact M6 h
  |false=>
   rw[if_neg^by cbv]
   rcases Tk.mp h with rfl|h
   .exact .inl^Bp^cW _ (On.mpr rfl)
   .exact M6 h
theorem Y9{x y z:Int}(h:x<=y)(hz:0<=z):x*z<=y*z:=Int.mul_le_mul_of_nonneg_right h hz
theorem Vk{N T:Net}(okn:okN N){t b:Int}(b1:1<=b)(bt:b<=t)(h:IsT N t b T){x y:Str}{d:Int}(hw:Wk N x y d):∃d',Wk T x y d'/\d'*b<=d*t:=by
 let#[ord,o1,o2,rfl]:=h;have okT:=CD okn^AW N t b [] ord
 have one:∀u∈N.ts,∃d,Wk (sub N^AW N t b [] ord) u.a u.b d/\d*b<=u.len*t:=λu hu=>by
  rcases M6 (N:=N) (t:=t) (b:=b) (kept:=[])^o1.mem_iff.mpr hu with z|⟨k',z1,z2⟩
  .have s1:=Wk.snoc .nil (HL (N:=sub N^AW N t b [] ord)^sub_mem.mpr #[hu,z]).1
   rw[Int.zero_add]at s1;have l1:=(okn.1.tin u hu).2.2.2.1;exact#[u.len,s1,gI bt^by lk]
  .let#[d,hd,hle]:=nearB_iff.mp z2
   exact#[d,Qb (λv hv=>by let#[a1,a2]:=sub_mem.mp hv; exact sub_mem.mpr #[a1,z1 v a2]) hd.1,hle]
 induction hw with
 |nil=>exact#[0,.nil,by lk]
 |snoc hw e ih=>
  let#[d1,w1,h1]:=ih;let#[u,hu,rfl,hj]:=e.tie okn.1;let#[d2,w2,h2]:=one u hu;refine#[d1+d2,HY w1 ?_,by rw[Int.add_mul,Int.add_mul]; omega]
  rcases hj with⟨rfl,rfl⟩|⟨rfl,rfl⟩
  .exact w2
  .exact O9 okT.1 w2
theorem JT:∀{ks:m_ Key}{ds:m_ D},ks.length=ds.length->ks.Nodup->(∀k∈ks,∀z,BA ks ds k=P3 z->EB z=k_)->CJ ds=k_
 |[],[],_,_,_=>rfl
 |k::ks,d::ds,hl,nd,h=>by
  rw[cz]at nd;show(EB d&&CJ ds)=k_;rw[h k Op d (if_pos rfl),JT (Nat.succ.inj hl) nd.2 λj hj z hz=>h j (TW _ hj) z^(if_neg λe=>nd.1^by grind).trans hz];rfl
 |[],_::_,hl,_,_=>by cases hl
 |_::_,[],hl,_,_=>by cases hl
theorem Jr{ks:m_ Key}{ds:m_ D}{K:Kn}(M:Dmap ks ds D.int K):CJ ds=k_:=JT M.len M.nd λk hk z hz=>by
 let#[x,rfl]:=M.dom k hk;rw[M.at_]at hz;let#[a,_,rfl]:=dJ.mp hz;rfl
theorem Wl(bs:m_ Bool):CS^.lst^bs.map .bl:=by
 refine IK (B:=1000001) (by cbv) (fines_iff.mpr λd hd=>?_) ?_
 .let#[b,_,rfl]:=Sc.mp hd
  exact trivial
 .have:Jz^bs.map D.bl<=0:=dps_le.mpr λd hd=>by
   let#[b,_,rfl]:=Sc.mp hd;exact Rs _
  show Jz^bs.map D.bl+1<=100;lk
theorem XU(bs:m_ Bool):((bs.map D.bl).any λy=>De y^.bl l_)=!(bs.all id):=by
 induction bs with
 |nil=>rfl
 |cons b bs ih=>rw[dL,List.any_cons,jV,ih]; cases b <;>rfl
theorem Oc{bs:m_ Bool}{neg:Bool}{P:D->Prop}(h:P^.bl (if neg then bs.all id else !(bs.all id))):NX neg (.bl l_) (.lst^bs.map .bl) P:=by
 refine#[IK (B:=1000001) (by cbv) trivial (by cbv),Wl bs,_,rfl,?_];rw[XU,Bool.not_not];exact h
theorem IW:∀A B:m_ Ak,De (.tup^A.map AN)^.tup^B.map AN=decide (A=B)
 |[],[]=>rfl
 |[],_::_=>rfl
 |_::_,[]=>rfl
 |s::A,t::B=>by
  show(De (AN s)^AN t&&De (.tup^A.map AN)^.tup^B.map AN)=_;rw[IW A B,dC,dB,HK,decide_eq_true_eq,decide_eq_true_eq,List.cons.injEq]
theorem lohi92{x y:Str}:(lo x y==hi x y)=decide (x=y):=by
 rw[dC,beq_iff_eq,decide_eq_true_eq];unfold lo hi
 split <;>exact#[λh=>by simp_all,λh=>by simp_all]
theorem Oa{N:Net}(ok:N.Ok){ts:m_ Ak}(h:∀t∈ts,t∈N.ts):∀d∈ts.map AN,item d:=λd hd=>by
 let#[t,ht,rfl]:=Sc.mp hd;let#[m1,m2,_,l1,l2]:=ok.tin t^h t ht;have n1:=ok.names _ m1;have n2:=ok.names _ m2;exact MC (Cy n1) (Cy n2) n1.2.1 n2.2.1^by lk
theorem Wf:CS^.lst []:=En λd hd=>by cases hd
theorem XI{α:Type}(x:α)(xs:m_ α):Dp.cutD (x::xs) j_^P3 1=[x]:=by
 unfold Dp.cutD;rw[HT.sIx_none,show 1=((1:Nat):Int)from rfl,HT.sIx_nat];rw[ce,iN^by lk];rfl
theorem Us{N:Net}(ok:N.Ok){s:Str}(hs:s∈N.ps):∀(k:Nat) (r:m_ Str) (x:Str) (d:Int),Least N s x d->r.Nodup->(∀y∈r,y∈N.ps/\∃e,Least N s y e/\d<e)->N.ps.length<=r.length+k->d<=1000000*(k:Int)
 | k,r,x,d,hx,nd,hr,hl=>by
  have hxr:x∉r:=λh=>by
   let#[_,e,he,hlt]:=hr x h;rw[he.unique hx]at hlt;lk
  have hxp:x∈N.ps:=by
   rcases hx.1 with _|⟨_,ed⟩
   .exact hs
   .exact ed.ins ok
  have nd':=cz.mpr #[hxr,nd]
  have:=GC nd' λy hy=>(Tk.mp hy).elim (λe=>e▸hxp) λh=>(hr y h).1
  rw[ce]at this
  match k,hl with
  |0,hl=>lk
  | k+1,hl=>
   let#[w,hm]:=hx;cases w with
   |nil=>lk
   | snoc w ed=>
    rename_i y dy l
    have el:=ed.pos ok
    have:=Us ok hs k (x::r) y dy #[w,λd' h'=>by have:=hm _^.snoc h' ed; omega] nd' (λz hz=>by
     rcases Tk.mp hz with rfl|hz
     .exact#[hxp,_,#[.snoc w ed,hm],by lk]
     .let#[h1,e,h2,h3]:=hr z hz
      exact#[h1,e,h2,by lk])^by rw[ce]; omega
    lk
theorem Wx{l:m_ Ak}{f:Ak}(hr:Bv l)(hm:f∈l)(hf:∀u∈l,Ag (Ab u)^Ab f=l_):∃r,l=f::r:=by
 cases l with
 |nil=>exact absurd hm ci
 | cons h r=>
  have e:Ag (Ab f)^Ab h=l_:=by
   rcases Tk.mp hm with rfl|z
   .exact A3 _
   .exact(dE.mp hr).1 f z
  exact#[r,by rw[Hs^BX _ _ e^hf h Op]]
theorem MP{N N1 N2:Net}{d:Dd}(h1:JQ N d N1)(h2:JQ N d N2)(o1:okN N1)(o2:okN N2):N1=N2:=by
 let#[p1,t1]:=N1;let#[p2,t2]:=N2;cases d with
 |come x=>
  let#[_,_,a1,a2]:=h1;let#[_,_,b1,b2]:=h2;have e:p1=p2:=Ej (λa b x y=>absurd y^Ee x) (a1.trans b1.symm) o1.1.rise o2.1.rise;rw[e,show t1=t2 from(show t1=N.ts from a2).trans (show t2=N.ts from b2).symm]
 |go x=>exact h1.2.trans h2.2.symm
 |lay x y l=>
  let#[_,_,_,_,_,a1,a2]:=h1;let#[_,_,_,_,_,b1,b2]:=h2;rw[show p1=p2 from(show p1=N.ps from a1).trans (show p2=N.ps from b1).symm,show t1=t2 from CN (a2.trans b2.symm) (B6 o1.1.trise)^B6 o2.1.trise]
 |take x y=>exact h1.2.2.2.2.trans h2.2.2.2.2.symm
theorem Jq{N T:Net}{t b:Int}(h:IsT N t b T):T.ts.length<=N.ts.length:=by
 let#[ord,_,_,rfl]:=h;exact cj _ _
theorem OX:∀l:m_ Ak,l≠[]->∃f∈l,∀v∈l,Ag (Ab v)^Ab f=l_
 |[],h=>absurd rfl h
 |[u],_=>#[u,Op,λv hv=>by rw[On.mp hv]; exact A3 _]
 | u::w::l,_=>by
  let#[f,hf,hm]:=OX (w::l)^eO _ _;cases e:Ag (Ab u)^Ab f with
  |false=>exact#[f,TW _ hf,λv hv=>(Tk.mp hv).elim (λz=>by rw[z]; exact e)^hm v]
  |true=>
   refine#[u,Op,λv hv=>(Tk.mp hv).elim (λz=>by rw[z]; exact A3 _) λz=>?_];cases e2:Ag (Ab v)^Ab u with
   |false=>rfl
   |true=>have:=Bo _ _ _ e2 e; rw[hm v z]at this; cases this
theorem Vu{N N' M T:Net}{t b:Int}(okn:okN N)(okn':okN N')(hM:IsT N t b M)(hT:IsT N' t b T){came went:m_ Ak}(hc:Iy T.ts M.ts came)(hw:Iy M.ts T.ts went):∀u∈came++went,∃v∈D_ N N',Ag (Ab u)^Ab v=l_:=by
 intro u hu;refine fE λc=>?_
 have c:∀v∈D_ N N',Ag (Ab u)^Ab v=k_:=λv hv=>by
  cases e:Ag (Ab u)^Ab v with
  |true=>rfl
  |false=>exact absurd #[v,hv,e] c
 have in1:∀v∈N.ts,v∉D_ N N'->v∈N'.ts:=λv hv h=>fE λz=>h^df _^cv.mpr #[hv,decide_eq_true z];have in2:∀v∈N'.ts,v∉D_ N N'->v∈N.ts:=λv hv h=>fE λz=>h^cW _^cv.mpr #[hv,decide_eq_true z]
 have same:u∈M.ts↔u∈T.ts:=by
  by_cases e:D_ N N'=[]
  .exact UY okn okn' hM hT (λv=>#[λh=>in1 v h (by rw[e]; exact ci),λh=>in2 v h^by rw[e]; exact ci]) u
  .let#[f,hf,hm]:=OX _ e
   have k1:∀v∈N.ts,Ag (Ab v)^Ab f=k_->v∈N'.ts:=λv hv hl=>in1 v hv λz=>by rw[hm v z]at hl; cases hl
   have k2:∀v∈N'.ts,Ag (Ab v)^Ab f=k_->v∈N.ts:=λv hv hl=>in2 v hv λz=>by rw[hm v z]at hl; cases hl
   exact#[N7 okn okn' hM hT k1 k2^c f hf,N7 okn' okn hT hM k2 k1^c f hf]
 rcases cn.mp hu with z|z
 .let#[g1,g2]:=cv.mp^hc.1.mem_iff.mp z
  exact of_decide_eq_true g2^same.mpr g1
 .let#[g1,g2]:=cv.mp^hw.1.mem_iff.mp z
  exact of_decide_eq_true g2^same.mp g1
theorem Ra{w:Ch->n_ Wc}{l t:Ch}{x y:D}(h1:w l=P3^.pl x)(h2:w t=P3^.pl y):Rb w^.tup [.ob l,.ob t]=[l,t]:=by
 show Fq w^.ob l++(Fq w^.ob t++[])=_;rw[Fp h1,Fp h2]; rfl
theorem Fd(w:Ch->n_ Wc)(ts:m_ Ak):(ts.map AN).map^GJ w=ts.map AN/\(ts.map AN).flatMap^Fq w=[]:=by
 induction ts with
 |nil=>exact#[rfl,rfl]
 | cons u ts ih=>
  refine#[?_,?_]
  .show AN u::(ts.map AN).map^GJ w=_
   rw[ih.1]; rfl
  .show([]:m_ Ch)++(ts.map AN).flatMap^Fq w=_
   rw[ih.2]; rfl
def T5(C:Ch):Aa:=(Ay (BB 13^Sy (Ae^AG 12) (As C7 (D9 C "thin" (FS C) (As C7 (AG 4)^AG 11) Ac)^wC^D.int 1)^DU A7)
 (Ay (BB 14^Ap (HV C)^AH (AR^As C7 (AG 4)^AG 11)^AH (AR^AG 8) Ac)
 (Ay (Ci (Ae^As (QU k_) (As (Ex l_) (AG 14)^wC D.non)^As (Ex l_) (AG 9)^wC D.non) (DJ^wC^D.bl l_) Bs)
 (Ay (BB 15^Sy (Ae^AG 12) (As C7 (D9 C "thin" (FS C) (As C7 (AG 4)^AG 11) Ac)^wC^D.int 1)^DU A7)
 (Ci (Ge (Ae^AG 12)^Ge (Ae^As (Ex k_) (AG 14)^wC D.non)^Hc^Ae^KQ LU^AH (AR^AG 13)^AH (AR^AG 15)^AH (AR^AG 14)^AH (AR^AG 10) Ac) (DJ^wC^D.bl l_) Bs)))))
section
variable {C a:Addr}{T4:m_ D}{j t b:Int}{N N' M:Net}{d:Dd}{lk:Bool}{n:Sg}{D2:E2}{s2 s3 s5 s6 s7 s13 s14 s15:Slot}
theorem OL(h4:atI T4 j=P3^.ob a)(K:Iz C n a t b N M)(hv:Gc^.dd d){c:Str}(er:BI N^.dd d=P3 c)
  (q:∀s13 s14 s15:Slot,D2.nx n [.no,.fd,s2,s3,.sh^.lst T4,s5,s6,s7,.sh^DR d,.sh .non,.sh^.lst [],.sh^.int j,.sh^.bl lk,s13,s14,s15]):
  T5 C D2 n [.no,.fd,s2,s3,.sh^.lst T4,s5,s6,s7,.sh^DR d,.sh .non,.sh^.lst [],.sh^.int j,.sh^.bl lk,s13,s14,s15]:=by
 have wa:=K.1.1;have tell:∀{P:D->Sg->Prop}{Pr:PX},Pr c [] [] n->BP C n a t b N M (.dd d) P Pr:=λp=>by unfold BP; rw[er]; exact p
 unfold T5;cases lk with
 |true=>
  refine#[_,h4,a,_,_,rfl,wa,by cbv,a,t,b,N,M,rfl,wa,_,AA (j:=1) rfl,?_];refine#[_,h4,a,t,b,N,M,d,rfl,K,hv,tell #[rfl,rfl,?_]];refine#[_,h4,a,_,_,rfl,wa,by cbv,a,t,b,N,M,rfl,wa,_,AA (j:=1) rfl,?_];exact#[rfl,q _ _ _]
 |false=>
  refine#[z0,_,h4,a,t,b,N,M,d,rfl,K,hv,tell #[rfl,rfl,?_]];exact#[z0,q _ _ _]
theorem OM(h4:atI T4 j=P3^.ob a)(K:Iz C n a t b N M)(hM:IsT N t b M)(hv:Gc^.dd d)(er:BI N^.dd d=j_)(dN:JQ N d N')(ok':okN N')(l1:N.ts.length<=30)(l2:N'.ts.length<=30)
  (q:∀(n':Sg) (T:Net) (s13 s14 s15:Slot),n'.n=n.n->Vb C n' a t b N' T->IsT N' t b T->(∀y,y≠a->n.w y≠j_->n'.w y=n.w y)->D2.nx n' [.no,.fd,s2,s3,.sh^.lst T4,s5,s6,s7,.sh^DR d,.sh^enc N',.sh^.lst^(D_ N N').map AN,.sh^.int j,.sh^.bl lk,s13,s14,s15]):
  T5 C D2 n [.no,.fd,s2,s3,.sh^.lst T4,s5,s6,s7,.sh^DR d,.sh^enc N',.sh^.lst^(D_ N N').map AN,.sh^.int j,.sh^.bl lk,s13,s14,s15]:=by
 have wa:=K.1.1;have okn:=K.1.2.1;have okM:=K.1.2.2.1;have tm:=K.1.2.2.2
 have tell:∀{P:D->Sg->Prop}{Pr:PX},(∀(T:Net) (came went:m_ Ak) (x1 x2:Ch) (n2:Sg),IsT N' t b T->Iy T.ts M.ts came->Iy M.ts T.ts went->n2.n=n.n->n2.w a=P3^kc C t b N' T->n2.w x1=P3^.pl^.lst^came.map AN->n2.w x2=P3^.pl^.lst^went.map AN->(∀y,y≠a->n.w y≠j_->n2.w y=n.w y)->P (.tup [.ob x1,.ob x2]) n2)->BP C n a t b N M (.dd d) P Pr:=λp=>by
  unfold BP;rw[er];intro N2 dN2 ok2 _ T came went x1 x2 hT hc hw e1 e2 x12;obtain rfl:=MP dN dN2 ok' ok2;have n1a:a≠x1:=Wd wa e1;have n2a:a≠x2:=Wd wa e2;exact p T came went x1 x2 _ hT hc hw rfl ((DN n2a).trans^(DN n1a).trans (Dv ..)) ((DN x12).trans (Dv ..)) (Dv ..) λy ya hy=>(DN (show y≠x2 from λz=>hy^by rw[z]; exact e2)).trans^(DN (show y≠x1 from λz=>hy^by rw[z]; exact e1)).trans^DN ya
 unfold T5;cases lk with
 | true=>
  refine#[_,h4,a,_,_,rfl,wa,by cbv,a,t,b,N,M,rfl,wa,_,AA (j:=1) rfl,?_];refine#[_,h4,a,t,b,N,M,d,rfl,K,hv,tell λT came went x1 x2 n2 hT hc hw en w3 w1 w2 oth=>#[rfl,rfl,?_]];refine#[_,h4,a,_,_,rfl,w3,by cbv,a,t,b,N',T,rfl,w3,_,AA (j:=1) rfl,?_];have okT:=hT.okN ok';refine#[rfl,[x1,x2],[.sh^.tup^M.ts.map AN,.sh^.tup^T.ts.map AN,.sh^.tup [.lst^came.map AN,.lst^went.map AN],.sh^.lst^(D_ N N').map AN],?_,?_,?_]
  .show [Slot.sh^.tup^(M.ts.map AN).map^GJ n2.w,.sh^.tup^(T.ts.map AN).map^GJ n2.w,.sh^Dp.Ls n2.w^.tup [.ob x1,.ob x2],.sh^.lst^(D_ N N').map AN]=_
   rw[(Fd _ _).1,(Fd _ _).1,V_ w1 w2]
  .show(M.ts.map AN).flatMap^Fq n2.w++((T.ts.map AN).flatMap^Fq n2.w++(Rb n2.w^.tup [.ob x1,.ob x2]++([]++[])))=_
   rw[(Fd _ _).2,(Fd _ _).2,Ra w1 w2]; rfl
  refine#[M,T,D_ N N',came,went,rfl,okM,okT,?_,?_,?_,hc,hw,Vu okn ok' hM hT hc hw,rfl,?_]
  .unfold D_
   have:=cj (λu=>decide (u∉N'.ts)) N.ts
   have:=cj (λu=>decide (u∉N.ts)) N'.ts
   rw[cZ]; omega
  .exact λu hu=>(cn.mp hu).elim (λz=>Cr okn.1 (cv.mp z).1) λz=>Cr ok'.1 (cv.mp z).1
  .have a1:=Jq hM
   have a2:=Jq hT;lk
  rw[QM];exact q _ T _ _ _ en #[w3,ok',okT,tm] hT oth
 |false=>
  refine#[z0,_,h4,a,t,b,N,M,d,rfl,K,hv,tell λT came went x1 x2 n2 hT hc hw en w3 w1 w2 oth=>#[rfl,rfl,?_]];exact#[z0,q _ T _ _ _ en #[w3,ok',hT.okN ok',tm] hT oth]
end
def Wj(C:Ch):Aa:=(Ay (BB 9^Ap Np^AH (AR^AG 5)^AH (AR^AG 8) Ac)
 (Ay (BB 10^Ap Nn^AH (AR^AG 5)^AH (AR^AG 9) Ac)
 (Ay (Mq (FV^AZ (wC^D.int 2) A7) (A6 11) (Ay (BB 12^aC (As (QU l_) (AG 11)^wC^D.int 0)^As (QU l_) (Ap DC^AH (Bl 1)^AH (AR^wC^D.int 2) Ac)^wC^D.int 0)
 (Ay (BB 13^Sy (Ae^AG 12) (As C7 (D9 C "thin" (FS C) (As C7 (AG 4)^AG 11) Ac)^wC^D.int 1)^DU A7)
 (Ay (BB 14^Ap (HV C)^AH (AR^As C7 (AG 4)^AG 11)^AH (AR^AG 8) Ac)
 (Ay (Ci (Ae^As (QU k_) (As (Ex l_) (AG 14)^wC D.non)^As (Ex l_) (AG 9)^wC D.non) (DJ^wC^D.bl l_) Bs)
 (Ay (BB 15^Sy (Ae^AG 12) (As C7 (D9 C "thin" (FS C) (As C7 (AG 4)^AG 11) Ac)^wC^D.int 1)^DU A7)
 (Ci (Ge (Ae^AG 12)^Ge (Ae^As (Ex k_) (AG 14)^wC D.non)^Hc^Ae^KQ LU^AH (AR^AG 13)^AH (AR^AG 15)^AH (AR^AG 14)^AH (AR^AG 10) Ac) (DJ^wC^D.bl l_) Bs)))))))
 (Ay (BB 5^Sy (Ae^As (Ex l_) (AG 9)^wC D.non) (AG 5)^AG 9)
 (Ci (Ae^As (f2 λi j=>D.bl (decide (j<i))) (Ap DC^AH (Bl 1)^AH (AR^wC^D.int 3) Ac)^wC^D.int 0) (Ci (Hc^Ae^Ap (Iw C)^AH (AR^As C7 (AG 4)^wC^D.int 0)^AH (AR^As C7 (AG 3)^wC^D.int 0)^AH (AR^AG 5)^AH (Bl 1) Ac) (DJ^wC^D.bl l_) Bs) Bs)))))
structure Ho92 (C:Ch) (t b:Int) (n:Sg) (a:Ch) (N T:Net):Prop where
 kp:Vb C n a t b N T
 tn:IsT N t b T
 bt:b<=t
theorem Ho92.k9{C:Ch}{t b:Int}{n:Sg}{a:Ch}{N T:Net}(h:Ho92 C t b n a N T)(l:N.ps.length<=24):Iz C n a t b N T:=#[h.kp,l,h.tn.ps.symm]
theorem Ho92.to{C:Ch}{t b:Int}{n n':Sg}{a:Ch}{N T:Net}(h:Ho92 C t b n a N T)(e:n'.w a=n.w a):Ho92 C t b n' a N T:=#[#[e.trans h.kp.1,h.kp.2],h.tn,h.bt]
theorem Ii{N N':Net}{d:Dd}(h:JQ N d N'):N'.ps.length<=N.ps.length+1/\N'.ts.length<=N.ts.length+1:=by
 cases d with
 |come x=>
  let#[_,_,h1,h2]:=h;exact#[gl h1.length_eq,by rw[h2]; omega]
 |go x=>
  let#[_,rfl]:=h;exact#[hV^cj _ _,hV^cj _ _]
 |lay x y l=>
  let#[_,_,_,_,_,h1,h2]:=h;exact#[by rw[h1]; omega,by rw[h2.length_eq]; exact ft^cj _ _]
 |take x y=>
  let#[_,_,_,_,rfl]:=h;exact#[dO _,hV^cj _ _]
theorem Nc{N N':Net}{d:Dd}{ps:m_ Str}(h:JQ N d N')(sub:∀x∈N.ps,x∈ps)(hc:∀x,d=.come x->x∈ps):∀x∈N'.ps,x∈ps:=λy hy=>by
 cases d with
 |come x=>
  let#[_,_,h1,_]:=h
  rcases Tk.mp^h1.mem_iff.mp hy with rfl|z
  .exact hc _ rfl
  .exact sub y z
 |go x=>let#[_,rfl]:=h; exact sub y (cv.mp hy).1
 |lay x z l=>let#[_,_,_,_,_,h1,_]:=h; rw[h1]at hy; exact sub y hy
 |take x z=>let#[_,_,_,_,rfl]:=h; exact sub y hy
def Z3(ps:m_ Str)(t b t' b':Int)(a a':Ch)(N:Net)(bg:Int)(r:m_ Slot):m_ Slot:=[.no,.fd,.sh^.lst^ps.map .str,.sh^.lst [tD t b,tD t' b'],.sh^.lst [.ob a,.ob a'],.sh^enc N,.sh^.int bg]++r
section
variable {C a a':Addr}{ps:m_ Str}{t b t' b' bg:Int}{N T T':Net}{n:Sg}{D2:E2}{d:Dd}{s7 s9 s10 s11 s12 s13 s14 s15:Slot}
theorem V7(I:Ho92 C t b n a N T)(J:Ho92 C t' b' n a' N T')(ne:a≠a')(l24:N.ps.length<24)(l30:N.ts.length<30)(hv:Gc^.dd d)(nn:4<=n.n)
  (q:∀(n':Sg) (N' T T':Net) (s9 s10 s11 s12 s13 s14 s15:Slot),n.n<=n'.n+4->Ho92 C t b n' a N' T->Ho92 C t' b' n' a' N' T'->(N'=N\/JQ N d N')->N'.ps.length<=24->D2.nx n'^Z3 ps t b t' b' a a' N' bg [s7,.sh^DR d,s9,s10,s11,s12,s13,s14,s15]):
  Wj C D2 n (Z3 ps t b t' b' a a' N bg [s7,.sh^DR d,s9,s10,s11,s12,s13,s14,s15]):=by
 have okn:=I.kp.2.1
 have tail:∀(m:Nat) (w:Ch->n_ Wc) (N' T T':Net) (s9 s10 s11 s12 s13 s14 s15:Slot),n.n<=m+1->Ho92 C t b #[m,w] a N' T->Ho92 C t' b' #[m,w] a' N' T'->(N'=N\/JQ N d N')->N'.ps.length<=24->(Ci (Ae^As (f2 λi j=>D.bl (decide (j<i))) (Ap DC^AH (Bl 1)^AH (AR^wC^D.int 3) Ac)^wC^D.int 0) (Ci (Hc^Ae^Ap (Iw C)^AH (AR^As C7 (AG 4)^wC^D.int 0)^AH (AR^As C7 (AG 3)^wC^D.int 0)^AH (AR^AG 5)^AH (Bl 1) Ac) (DJ^wC^D.bl l_) Bs) Bs) D2 #[m,w]^Z3 ps t b t' b' a a' N' bg [s7,.sh^DR d,s9,s10,s11,s12,s13,s14,s15]:=by
  intro m w N' T T' s9 s10 s11 s12 s13 s14 s15 hm I J hd l24;refine#[3,rfl,by cbv,by cbv,(by show 1<=m; omega),λr r0 r1=>B_ (λ_=>?_) λ_=>?_]
  .refine#[_,AA (j:=0) rfl,_,AA (j:=0) rfl,a,t,b,N',T,rfl,(I.to rfl).k9 l24,I.bt,I.tn,(by show 2<=m - 1; omega),λm2 hm2=>?_]
   have hm2:m - 1<=m2+2:=hm2;exact B4^q #[m2,w] N' T T' _ _ _ _ _ _ _ (by show n.n<=m2+4; omega) (I.to rfl) (J.to rfl) hd l24
  .exact q #[m - 1,w] N' T T' _ _ _ _ _ _ _ (by show n.n<=m - 1+4; omega) (I.to rfl) (J.to rfl) hd l24
 unfold Wj;refine#[N,d,rfl,okn,by lk,by lk,hv,λN' er dN ok'=>?_,λc er=>?_]
 .let#[g1,g2]:=Ii dN
  refine#[N,P3 N',rfl,okn,(λ_ e=>by cases e; exact ok'),?_];refine#[2,rfl,#[by cbv,by cbv],?_];refine OM (a:=a) (t:=t) (b:=b) (N:=N) (M:=T) (lk:=k_) rfl (I.k9^by lk) I.tn hv er dN ok' (by lk) (by lk) λn1 T1 s13 s14 s15 e1 K1 hT1 oth=>?_;refine#[2,rfl,by cbv,by cbv,(by lk),λr r0 r1=>?_];have J1:Ho92 C t' b' (n1 - 1) a' N T':=J.to (oth a' ne.symm^by rw[J.kp.1]; exact λz=>by cases z);refine OM (a:=a') (t:=t') (b:=b') (N:=N) (M:=T') (lk:=r==0) rfl (J1.k9^by lk) J.tn hv er dN ok' (by lk) (by lk) λn2 T2 s13 s14 s15 e2 K2 hT2 oth2=>?_;have I2:n2.w a=P3^kc C t b N' T1:=(oth2 a ne^by show n1.w a≠j_; rw[K1.1]; exact λz=>by cases z).trans K1.1;have e2:n2.n=n1.n - 1:=e2;exact#[rfl,tail n2.n n2.w N' T1 T2 _ _ _ _ _ _ _ (by lk) #[#[I2,K1.2],hT1,I.bt] #[K2,hT2,J.bt] (.inr dN)^by lk]
 .refine#[N,j_,rfl,okn,(λ_ e=>by cases e),?_]
  refine#[2,rfl,#[by cbv,by cbv],?_];refine OL (a:=a) (t:=t) (b:=b) (N:=N) (M:=T) (lk:=k_) rfl (I.k9^by lk) hv er λs13 s14 s15=>?_;refine#[2,rfl,by cbv,by cbv,(by lk),λr r0 r1=>?_];refine OL (a:=a') (t:=t') (b:=b') (N:=N) (M:=T') (lk:=r==0) rfl ((J.to (n':=n - 1) rfl).k9^by lk) hv er λs13 s14 s15=>?_;exact#[rfl,tail (n.n - 1) n.w N T T' _ _ _ _ _ _ _ (by lk) (I.to rfl) (J.to rfl) (.inl rfl)^by lk]
end
theorem M8{C:Ch}{n0:Sg}(hn0:400<=n0.n):Ox C {nx:=λ_ _=>False,rt:=λd _=>d=.bl k_} n0 (.no::.fd::dX 14 .no):=by
 unfold Ox;refine#[7,rfl,by cbv,by cbv,by lk,λps k1 l7 hN rise hk1=>?_];refine#[rfl,(by show 2<=k1; omega),λt b tm bt=>?_];refine#[rfl,(by show 2<=k1 - 2; omega),λt' b' tm' bt'=>#[z2,?_]];have ok0:okN #[[],[]]:=#[#[λx hx=>(by cases hx),.nil,λx hx=>(by cases hx),.nil],cq _,cq _];have T0:∀{t b:Int},IsT #[[],[]] t b #[[],[]]:=#[[],.refl _,.nil,rfl];refine#[(by cbv:2<=10000000),?_];refine λa ha=>#[a,t,b,rfl,Dv ..,rfl,?_];refine λa' ha'=>#[a',t',b',rfl,Dv ..,rfl,?_];generalize en1:Sg.put (Sg.put (#[k1 - 2 - 2,n0.w]:Sg) a^.ins C [] []) a^kc C t b #[[],[]] #[[],[]]=n1 at ha';have n1n:n1.n=k1 - 2 - 2:=by rw[←en1]; rfl
 have a1:n1.w a=P3^kc C t b #[[],[]] #[[],[]]:=by rw[←en1]; exact Dv ..
 have ne:a≠a':=Wd a1 ha';generalize en2:Sg.put (Sg.put n1 a'^.ins C [] []) a'^kc C t' b' #[[],[]] #[[],[]]=n2;have n2n:n2.n=n1.n:=by rw[←en2]; rfl
 have I0:Ho92 C t b n2 a #[[],[]] #[[],[]]:=#[#[by rw[←en2]; exact(DN ne).trans^(DN ne).trans a1,ok0,ok0,tm],T0,bt];have J0:Ho92 C t' b' n2 a' #[[],[]] #[[],[]]:=#[#[by rw[←en2]; exact Dv ..,ok0,ok0,tm'],T0,bt'];refine#[z0,z0,z2,?_];refine#[2,rfl,by cbv,by cbv,(by lk),λg g0 g1=>#[.inr (by constructor <;>lk),?_]];refine#[13,rfl,by cbv,by cbv,(by show 1<=n2.n - 1; omega),λr r0 r1=>#[_,rfl,#[by lk,by lk],?_]];obtain⟨R,hR⟩:∃R:Nat,R=(7*g+6+r).toNat:=#[_,rfl];have R25:R<=25:=by lk
 rw[←hR];refine Dl (all:=EI 0 R) (λpre n ρ=>∃(N T T':Net) (s7 s8 s9 s10 s11 s12 s13 s14 s15:Slot),9*R+4<=n.n+9*pre.length/\Ho92 C t b n a N T/\Ho92 C t' b' n a' N T'/\(∀x∈N.ps,x∈ps)/\N.ts.length<=pre.length/\ρ=Z3 ps t b t' b' a a' N (7*g) [s7,s8,s9,s10,s11,s12,s13,s14,s15]) ?_ ?_ _ [] _ _ rfl #[#[[],[]],#[[],[]],#[[],[]],_,_,_,_,_,_,_,_,_,(by show 9*R+4<=n2.n - 1 - 1+0; omega),I0.to rfl,J0.to rfl,λx hx=>(by cases hx),Rs _,rfl]
 .rintro n ρ ⟨N,T,T',s7,s8,s9,s10,s11,s12,s13,s14,s15,hn,I,J,sub,lt,rfl⟩
  rw[C1]at hn
  have l7':N.ps.length<=7:=by
   have:=GC (N:=#[ps,[]]) (Fc I.kp.2.1.1.rise) sub
   rw[←l7]; exact this
  refine#[2,rfl,#[by cbv,by cbv],(by cbv:2<=10000000),?_];refine#[_,AA (j:=0) rfl,_,AA (j:=0) rfl,a,t,b,N,T,rfl,I.k9^by lk,I.bt,I.tn,(by lk),λm hm=>?_];refine#[_,AA (j:=1) rfl,_,AA (j:=1) rfl,a',t',b',N,T',rfl,(J.to (n':=#[m,n.w]) rfl).k9^by lk,J.bt,J.tn,(by show 2<=m; omega),λm2 hm2=>?_];exact Oc (bs:=[k_,k_]) (neg:=k_) (P:=λz=>z=.bl k_) rfl
 .rintro pre d post n ρ nx hall ⟨N,T,T',s7,s8,s9,s10,s11,s12,s13,s14,s15,hn,I,J,sub,lt,rfl⟩ hnx
  let#[rfl,hk]:=N9 hall
  have l7':N.ps.length<=7:=by
   have:=GC (N:=#[ps,[]]) (Fc I.kp.2.1.1.rise) sub
   rw[←l7]; exact this
  have fin:∀(D2:E2) (dd:Dd) (m:Nat),D2.nx=nx->Gc^.dd dd->(∀x,dd=.come x->x∈ps)->n.n<=m+5->Wj C D2 #[m,n.w]^Z3 ps t b t' b' a a' N (7*g) [.sh^.int (0+(pre.length:Int)),.sh^DR dd,s9,s10,s11,s12,s13,s14,s15]:=λD2 dd m eD hv hc hm=>by
   refine V7 (T:=T) (T':=T') (I.to rfl) (J.to rfl) ne (by lk) (by lk) hv (by show 4<=m; omega) λn' N' T1 T2 s9 s10 s11 s12 s13 s14 s15 hn' I' J' hd l24=>?_;rw[eD];have hn':m<=n'.n+4:=hn';refine hnx _ _ #[N',T1,T2,_,_,_,_,_,_,_,_,_,by rw[cZ,c7]; omega,I',J',?_,?_,rfl]
   .rcases hd with rfl|hd
    .exact sub
    .exact Nc hd sub hc
   .rw[cZ,c7]
    rcases hd with rfl|hd
    .lk
    .have:=(Ii hd).2; omega
  refine B_ (λc=>?_) λc=>?_
  .have c:=of_decide_eq_true c
   have h6:6 - pre.length<ps.length:=by lk
   refine#[.str ps[6 - pre.length],?_,z2,?_]
   .rw[show(6:Int) - (0+(pre.length:Int))=((6 - pre.length:Nat):Int) by lk]
    exact AA^by rw[cX,No h6]; rfl
   .exact fin _ (.come ps[6 - pre.length]) n.n rfl (hN _^dY h6) (λx e=>by cases e; exact dY h6) (by lk)
  .exact#[ps,rfl,l7,hN,(by lk),λdd m hv hc hm=>fin _ dd m rfl hv hc hm]
end Nt
namespace K92
open L2 Dp Nt
section
variable (P:Program)(w:World)(K:Frag)(mg:Str->n_ Value)(base:Heap)(C:Addr)
abbrev Nl:Prop:=Got P w K mg base "steps_of" 1 ["net"] .sh Sk
abbrev Md:Prop:=Got P w K mg base "_law_next" 1 ["_law_feed_here","_law_many"] .sh DC
abbrev F9:Prop:=X0 P w K mg base "Keeper" C 1 ["self","times"]^O5 C
end
theorem b9{d:dR}{ps:m_ Str}{n:Nat}(c:∀f:Nat->Cn,bindArgs d #[(dA n).map f,[]]=pure^ps.zip^(dA n).map f)(us:m_ Cn)(h:us.length=n):bindArgs d #[us,[]]=pure^ps.zip us:=by
 have e:us=(dA n).map λi=>us.getD i .none:=by
  apply List.ext_getElem <;>simp_all
 rw[e];exact c _
local macro_rules|`(tactic|walk_at "R")=>`(tactic|(intro _ _ _ _ h; repeat (first|(obtain⟨e,_⟩:=h; subst e; rfl)|(obtain⟨_,h⟩:=h))))
local macro_rules|`(tactic|walk_at "L")=>`(tactic|(first|(intro _ _ _ h; repeat (first|(obtain⟨e,_⟩:=h; subst e; rfl)|(obtain⟨_,h⟩:=h)))))
local macro_rules|`(tactic|walk_at "B")=>`(tactic|(intro _ _ _ _ _ _; exact b9 λ_=>rfl))
def Ht(K:Frag)(x:Str)(st:d6):Prop:=∃(f:Ch) (oc:Cn) (od an:n_ Ch) (sl:Array^n_ Cn) (kV dc pm cd ct:Cn),nsIn K mainGlobals x=P3^P3^.ref f/\K.lookup f=P3 #[oc,od,.func^fnOf x x (BL st) (An st) (AK st) .none kV dc pm an cd ct,sl]/\codeIn K cd x=k_/\keepIn K^.ref f=k_
def Hn(K:Frag)(x:Str):Prop:=nsIn K mainGlobals x=P3 j_
def Hi(K:Frag)(x:Str)(i:Int):Prop:=∃t,nsIn K mainGlobals x=P3^P3^.int i t
theorem Ht.mk{K:Frag}{x:Str}{st:d6}{f:Ch}{oc:Cn}{od an:n_ Ch}{sl:Array^n_ Cn}{kV dc pm cd ct:Cn}(a:nsIn K mainGlobals x=P3^P3^.ref f)(l:K.lookup f=P3 #[oc,od,.func^fnOf x x (BL st) (An st) (AK st) .none kV dc pm an cd ct,sl])(c:codeIn K cd x=k_)(k:keepIn K^.ref f=k_):Ht K x st:=#[f,oc,od,an,sl,kV,dc,pm,cd,ct,a,l,c,k]
theorem Hi.mk{K:Frag}{x:Str}{i:Int}{t:Tok}(a:nsIn K mainGlobals x=P3^P3^.int i t):Hi K x i:=#[t,a]
theorem Hn.mk{K:Frag}{x:Str}(a:nsIn K mainGlobals x=P3 j_):Hn K x:=a
def Hm(K:Frag)(C:Ch)(x q:Str)(st:d6):Prop:=∃(f:Ch) (oc:Cn) (od an:n_ Ch) (sl:Array^n_ Cn) (kV dc pm cd ct:Cn),PySem.W.findIn K (.ref C) x=P3^P3^.ref f/\K.lookup f=P3 #[oc,od,.func^fnOf x q (BL st) (An st) (AK st) .none kV dc pm an cd ct,sl]/\codeIn K cd q=k_/\PySem.W.isFn K^.ref f=k_/\keepIn K^.ref f=k_
theorem Hm.mk{K:Frag}{C:Ch}{x q:Str}{st:d6}{f:Ch}{oc:Cn}{od an:n_ Ch}{sl:Array^n_ Cn}{kV dc pm cd ct:Cn}(a:PySem.W.findIn K (.ref C) x=P3^P3^.ref f)(l:K.lookup f=P3 #[oc,od,.func^fnOf x q (BL st) (An st) (AK st) .none kV dc pm an cd ct,sl])(c:codeIn K cd q=k_)(n:PySem.W.isFn K^.ref f=k_)(k:keepIn K^.ref f=k_):Hm K C x q st:=#[f,oc,od,an,sl,kV,dc,pm,cd,ct,a,l,c,n,k]
def Ha(K:Frag)(x y:Str):Prop:=∃f:Ch,nsIn K mainGlobals x=P3^P3^.ref f/\nsIn K mainGlobals y=P3^P3^.ref f
theorem Ha.mk{K:Frag}{x y:Str}{f:Ch}(a:nsIn K mainGlobals x=P3^P3^.ref f)(b:nsIn K mainGlobals y=P3^P3^.ref f):Ha K x y:=#[f,a,b]
theorem xc_mk{K:Frag}{nm q q2:Str}{C U N N2:Ch}{bs bs2 sub sub2:m_ Cn}{sn sn2:m_ Str}{ab ab2 hd2:Bool}{col col2:n_ Bool}{dd dd2:n_ Ch}{k0 k1 k2 k3 k5 l0 l1 l2 l3 l5:n_ Cn}(at_:nsIn K mainGlobals nm=P3^P3^.ref C)(atU:nsIn K mainGlobals "ThinError"=P3^P3^.ref U)
  (o:K.lookup C=P3^excClassObj nm q C N bs (.ref U::[.type "ValueError",.type "Exception",.type "BaseException",.type "object"]) k_ sn sub ab col dd k0 k1 k2 k3 k5 "ValueError.__new__")
  (u:K.lookup U=P3^excClassObj "ThinError" q2 U N2 bs2 [.type "ValueError",.type "Exception",.type "BaseException",.type "object"] hd2 sn2 sub2 ab2 col2 dd2 l0 l1 l2 l3 l5 "ValueError.__new__")
  (kp:keepIn K^.ref C=k_) (ga:PySem.W.findIn K (.ref C) "__getattribute__"=P3^P3^.builtin "BaseException.__getattribute__") (gt:PySem.W.findIn K (.ref C) "__getattr__"=P3 j_) (sa:PySem.W.findIn K (.ref C) "__setattr__"=P3^P3^.builtin "object.__setattr__") (ca:PySem.W.findIn K (.ref C) "__class__"=P3^P3^.builtin "object.__class__")
  (nw:PySem.W.findIn K (.ref C) "word"=P3 j_) (nn:PySem.W.findIn K (.ref C) "number"=P3 j_) (nr:PySem.W.findIn K (.ref C) "row"=P3 j_):XC K nm C U:=
 #[#[q,N,bs,sn,sub,ab,col,dd,k0,k1,k2,k3,k5,o],#[q2,N2,bs2,sn2,sub2,ab2,col2,dd2,l0,l1,l2,l3,l5,hd2,u],kp,ga,gt,sa,at_,atU,ca,nw,nn,nr]
def H0(K:Frag)(nm:Str):Prop:=∃C U,XC K nm C U/\PySem.W.findIn K (.ref C) "__init__"=P3^P3^.builtin "ValueError.__init__"
def H1(K:Frag)(nm:Str):Prop:=∃C U,XC K nm C U
theorem H0.mk{K:Frag}{nm:Str}{C U:Ch}(c:XC K nm C U)(i:PySem.W.findIn K (.ref C) "__init__"=P3^P3^.builtin "ValueError.__init__"):H0 K nm:=#[C,U,c,i]
theorem H1.mk{K:Frag}{nm:Str}{C U:Ch}(c:XC K nm C U):H1 K nm:=#[C,U,c]
theorem H0.h1{K:Frag}{nm:Str}(H:H0 K nm):H1 K nm:=let #[C,U,c,_]:=H; #[C,U,c]
theorem H1.xm{K:Frag}{mg:Str->n_ Cn}{h:cf}{nm:Str}(H:H1 K nm)(X:K.In h)(G:h.Ns mainGlobals mg):∃C U,XC K nm C U/\mg nm=P3^.ref C:=let #[C,U,c]:=H; #[C,U,c,mg_of X G c.at_]
theorem H1.u{K:Frag}{mg:Str->n_ Cn}{h:cf}{nm:Str}(H:H1 K nm)(X:K.In h)(G:h.Ns mainGlobals mg):∃U,YD K U/\mg "ThinError"=P3^.ref U/\nsIn K mainGlobals "ThinError"=P3^P3^.ref U:=let #[C,U,c]:=H; #[U,c.isU,mg_of X G c.atU,c.atU]
theorem H0.g{K:Frag}{mg:Str->n_ Cn}{h:cf}{nm:Str}(H:H0 K nm)(X:K.In h)(G:h.Ns mainGlobals mg):Vc K mg nm:=let #[C,U,c,i]:=H; #[C,U,c,mg_of X G c.at_,i]
structure C0 (K:Frag) (mg:Str->Option Cn) (h:cf) (C:Ch):Prop where
 X:K.In h
 G:h.Ns mainGlobals mg
 c_Keeper:nsIn K mainGlobals "Keeper"=P3 (P3^.ref C)
 cl_Keeper:Cls K C
 na_Keeper_times:NoAttr K C "times"
 na_Keeper_whole:NoAttr K C "whole"
 na_Keeper_kept:NoAttr K C "kept"
 mk_Keeper:PySem.W.makesIn K C=k_
 kp_Keeper:keepIn K^.ref C=k_
 h00:Ht K "is_whole" (top 11)
 h01:Ht K "is_tuple_of" (top 12)
 h02:Ht K "is_rising" (top 13)
 h03:Ht K "rank_of" (top 14)
 h04:Ht K "order_of" (top 15)
 h05:Ht K "steps_of" FA
 h06:Ht K "only" (top 17)
 h07:Ht K "is_tie_of" (top 18)
 h08:Ht K "is_thin" (top 19)
 h09:Ht K "ahead_of" (top 20)
 h0a:Ht K "without" (top 21)
 h0b:Ht K "left_out" (top 22)
 h0c:Ht K "length_of" (top 24)
 h0d:Ht K "length_between" (top 25)
 h0e:Ht K "nearest_of" (top 26)
 h0f:Ht K "least_ways" (top 27)
 h0g:Ht K "far" (top 28)
 h0h:Ht K "way_of" (top 30)
 h0i:Ht K "are_prices" (top 32)
 h0j:Ht K "price_gap" (top 33)
 h0k:Ht K "is_fair" (top 34)
 h0l:Ht K "prices_from" (top 35)
 h0m:Ht K "is_within" (top 37)
 h0n:Ht K "least_beyond" (top 38)
 h0o:Ht K "near_way" (top 39)
 h0p:Ht K "thinned" (top 40)
 h0q:Ht K "greedy_paper" (top 41)
 h0r:Ht K "way_fault" (top 45)
 h0s:Ht K "prices_fault" (top 46)
 h0t:Ht K "greedy_fault" (top 47)
 h0u:Ht K "is_greedy_entry" (top 48)
 h0v:Ht K "lets_greedy" (top 49)
 h0w:Ht K "_law_feed" EO
 h0x:Ht K "_law_next" DM
 h0y:Ht K "_law_places" (top 53)
 h0z:Ht K "_law_times" (top 54)
 h10:Ht K "_law_in_order" (top 55)
 h11:Ht K "_law_least" (top 56)
 h12:Ht K "_law_within" (top 57)
 h13:Ht K "_law_deed" (top 58)
 h14:Ht K "_law_done" (top 59)
 h15:Ht K "_law_net_behind" (top 60)
 h16:Ht K "_law_touched" (top 61)
 h17:Ht K "_law_turned_right" (top 62)
 h18:Ht K "_law_is_right" (top 63)
 h19:Ht K "law" Hr
 h1a:Hm K C "turn_to" "Keeper.turn_to" (EC 1^top 43)
 h1b:Hm K C "come" "Keeper.come" (EC 5^top 43)
 h1c:Hm K C "ask_place" "Keeper.ask_place" (EC 2^top 43)
 h1d:Hm K C "go" "Keeper.go" (EC 6^top 43)
 h1e:Hm K C "ties_between" "Keeper.ties_between" (EC 3^top 43)
 h1f:Hm K C "lay" "Keeper.lay" (EC 7^top 43)
 h1g:Hm K C "tie_between" "Keeper.tie_between" (EC 4^top 43)
 h1h:Hm K C "take" "Keeper.take" (EC 8^top 43)
 h1i:Hm K C "far" "Keeper.far" (EC 11^top 43)
 h1j:Hm K C "net" "Keeper.net" (EC 9^top 43)
 h1k:Hm K C "thin" "Keeper.thin" (EC 10^top 43)
 h1l:Hm K C "__init__" "Keeper.__init__" Ax
 a_far_ways:Ha K "far" "far_ways"
 y_NoPaper:H1 K "NoPaper"
 y_TooMany:H0 K "TooMany"
 y_Twice:H0 K "Twice"
 y_NoPlace:H0 K "NoPlace"
 y_NoTie:H0 K "NoTie"
 z0:Hn K "abs"
 z1:Hn K "all"
 z2:Hn K "bool"
 z3:Hn K "enumerate"
 z4:Hn K "int"
 z5:Hn K "isinstance"
 z6:Hn K "len"
 z7:Hn K "list"
 z8:Hn K "max"
 z9:Hn K "min"
 z10:Hn K "range"
 z11:Hn K "repr"
 z12:Hn K "reversed"
 z13:Hn K "sorted"
 z14:Hn K "str"
 z15:Hn K "tuple"
 z16:Hn K "zip"
 v0:Hi K "MOST_PLACES" 24
 v1:Hi K "MOST_TIES" 60
def Ctx(P:cm)(w:cy)(K:Frag)(mg:Str->n_ Cn)(base h:cf)(C:Ch):Prop:=C0 K mg h C
abbrev Ctx.Y{P:cm}{w:cy}{K:Frag}{mg:Str->n_ Cn}{base h:cf}{C:Ch}(A:Ctx P w K mg base h C)(x:Str)(k:Nat)(ps:m_ Str)(κ:Kd)(W:W2):Prop:=Got P w K mg base x k ps κ W
abbrev Ctx.Z{P:cm}{w:cy}{K:Frag}{mg:Str->n_ Cn}{base h:cf}{C:Ch}(A:Ctx P w K mg base h C)(x:Str)(k:Nat)(ps:m_ Str)(κ:Kd)(W:W2):Prop:=Nq P w K mg base C x k ps κ W
abbrev Ctx.ZR{P:cm}{w:cy}{K:Frag}{mg:Str->n_ Cn}{base h:cf}{C:Ch}(A:Ctx P w K mg base h C)(x:Str)(k:Nat)(ps:m_ Str)(κ:Kd)(W:WX):Prop:=KO P w K mg base C x k ps κ W
section
variable {P:Program}{w:World}{K:Frag}{mg:Str->n_ Value}{h base:Heap}{x:Str}{st:Stmt}
theorem Ht.fn(X:K.In h)(G:h.Ns mainGlobals mg)(H:Ht K x st):∃f fd,mg x=P3^.ref f/\Fun K x x st f fd:=by
 let#[f,oc,od,an,sl,kV,dc,pm,cd,ct,a,l,c,k]:=H;exact#[f,_,mg_of X G a,IS (st:=st) l c k]
variable {C:Addr}
theorem C0.T(A:C0 K mg h C):Txt K mg:=#[mg_none_of A.X A.G A.z0,mg_none_of A.X A.G A.z1,mg_none_of A.X A.G A.z2,mg_none_of A.X A.G A.z3,mg_none_of A.X A.G A.z4,mg_none_of A.X A.G A.z5,mg_none_of A.X A.G A.z6,mg_none_of A.X A.G A.z7,mg_none_of A.X A.G A.z8,mg_none_of A.X A.G A.z9,mg_none_of A.X A.G A.z10,mg_none_of A.X A.G A.z11,mg_none_of A.X A.G A.z12,mg_none_of A.X A.G A.z13,mg_none_of A.X A.G A.z14,mg_none_of A.X A.G A.z15,mg_none_of A.X A.G A.z16,(let #[t,e]:=A.v0; #[t,mg_of A.X A.G e]),(let #[t,e]:=A.v1; #[t,mg_of A.X A.G e]),A.y_NoPaper.xm A.X A.G,A.y_TooMany.h1.xm A.X A.G,A.y_Twice.h1.xm A.X A.G,A.y_NoPlace.h1.xm A.X A.G,A.y_NoTie.h1.xm A.X A.G,A.y_NoPaper.u A.X A.G]
theorem Ctx.got{k:Nat}{ps:m_ Str}{κ:Kd}{W:W2}(A:Ctx P w K mg base h C)(H:Ht K x st)
  (ok:∀{f:Ch}{fd:dR},Txt K mg->Fun K x x st f fd->mg x=P3^.ref f->Binds K fd ps []->FnOk P w K mg base E6 k f fd ps^QS K κ W ps.length)
  (hW:∀ss n P,W ss n P->ss.length=ps.length:=by walk_at "L") (hb:∀(kV doc pm:Cn) (an:n_ Ch) (cdv ct:Cn) (us:m_ Cn),us.length=ps.length->bindArgs (fnOf x x (BL st) (An st) (AK st) .none kV doc pm an cdv ct) #[us,[]]=pure^ps.zip us:=by walk_at "B"):Got P w K mg base x k ps κ W:=by
 let#[f,fd,m,F]:=H.fn A.X A.G;exact#[f,fd,ok A.T F m^F.binds hb,m,F.kp,F.binds hb,hW]
theorem Ctx.gotM{q:Str}{k:Nat}{ps:m_ Str}{κ:Kd}{W:W2}(A:Ctx P w K mg base h C)(H:Hm K C x q st)
  (ok:∀{f:Ch}{fd:dR},Txt K mg->Fun K x q st f fd->FnOk P w K mg base E6 k f fd ps^QS K κ W ps.length)
  (hW:∀ss n P,W ss n P->ss.length=ps.length:=by walk_at "L") (hb:∀(kV doc pm:Cn) (an:n_ Ch) (cdv ct:Cn) (us:m_ Cn),us.length=ps.length->bindArgs (fnOf x q (BL st) (An st) (AK st) .none kV doc pm an cdv ct) #[us,[]]=pure^ps.zip us:=by walk_at "B"):Nq P w K mg base C x k ps κ W:=by
 let#[f,oc,od,an,sl,kV,dc,pm,cd,ct,a,l,c,n,k]:=H;have F:=IS (st:=st) l c k;exact#[f,_,ok A.T F,#[a,n,k],F.binds hb,hW]
theorem Ctx.gotMR{q:Str}{k:Nat}{ps:m_ Str}{κ:Kd}{W:WX}(A:Ctx P w K mg base h C)(H:Hm K C x q st)
  (ok:∀{f:Ch}{fd:dR},Txt K mg->Fun K x q st f fd->FnOk P w K mg base (Mj P w) k f fd ps^aG K κ W ps.length)
  (hW:∀ss n P Pr,W ss n P Pr->ss.length=ps.length:=by walk_at "R") (hb:∀(kV doc pm:Cn) (an:n_ Ch) (cdv ct:Cn) (us:m_ Cn),us.length=ps.length->bindArgs (fnOf x q (BL st) (An st) (AK st) .none kV doc pm an cdv ct) #[us,[]]=pure^ps.zip us:=by walk_at "B"):KO P w K mg base C x k ps κ W:=by
 let#[f,oc,od,an,sl,kV,dc,pm,cd,ct,a,l,c,n,k]:=H;have F:=IS (st:=st) l c k;exact#[f,_,ok A.T F,#[a,n,k],F.binds hb,hW]
theorem Ctx.gotC{k:Nat}{ps:m_ Str}{W:W2}(A:Ctx P w K mg base h C)
  (ok:∀{f:Ch}{fd:dR},Txt K mg->Fun K "__init__" "Keeper.__init__" Ax f fd->FnOk P w K mg base E6 k f fd ps^QS K .sh W ps.length)
  (hW:∀ss n P,W ss n P->ss.length=ps.length:=by walk_at "L") (hb:∀(kV doc pm:Cn) (an:n_ Ch) (cdv ct:Cn) (us:m_ Cn),us.length=ps.length->bindArgs (fnOf "__init__" "Keeper.__init__" (BL Ax) (An Ax) (AK Ax) .none kV doc pm an cdv ct) #[us,[]]=pure^ps.zip us:=by walk_at "B"):X0 P w K mg base "Keeper" C k ps W:=by
 let#[f,oc,od,an,sl,kV,dc,pm,cd,ct,a,l,c,n,k]:=A.h1l;have F:=IS (st:=Ax) l c k;exact#[f,_,ok A.T F,#[A.mk_Keeper,a,n,A.kp_Keeper],mg_of A.X A.G A.c_Keeper,F.binds hb,hW]
theorem Ctx.gk{k:Nat}{ps:m_ Str}{κ:Kd}{W:W2}{wb:Aa}(A:Ctx P w K mg base h C)(H:Ht K x st)(N:m_ Str)
  (hb:∀{f:Ch}{cdv:Cn}{A:c_}{outer:m_ Env}{s:Go}{H:Hp}{E:XK},Txt K mg->N.Nodup->Room k^A.deeper^envOfC x (AK st) s.heap.objs.size f cdv->Mh (D7 E6 P w K mg base N x (AK st) f cdv A outer s H E).nox κ (An st) wb)
  (hW:∀{ss n Pd},W ss n Pd->wb {nx:=λn _=>κ=.sh/\Pd .non n,rt:=Pd} n (ss++dX (N.length - ps.length) .no)) (S:BF N ps^AK st:=by constructor <;>first|rfl|decide +kernel) (hNp:ps.length<=N.length:=by decide) (hL:∀ss n P,W ss n P->ss.length=ps.length:=by walk_at "L") (hB:∀(kV doc pm:Cn) (an:n_ Ch) (cdv ct:Cn) (us:m_ Cn),us.length=ps.length->bindArgs (fnOf x x (BL st) (An st) (AK st) .none kV doc pm an cdv ct) #[us,[]]=pure^ps.zip us:=by walk_at "B"):Got P w K mg base x (k+1) ps κ W:=
 A.got H (λT F _ _=>cO F S (hb T S.nd) hW hNp) hL hB
theorem Ctx.gm{q:Str}{k:Nat}{ps:m_ Str}{κ:Kd}{W:W2}{wb:Aa}(A:Ctx P w K mg base h C)(H:Hm K C x q st)(N:m_ Str)
  (hb:∀{f:Ch}{cdv:Cn}{A:c_}{outer:m_ Env}{s:Go}{H:Hp}{E:XK},Txt K mg->N.Nodup->Room k^A.deeper^envOfC q (AK st) s.heap.objs.size f cdv->Mh (D7 E6 P w K mg base N q (AK st) f cdv A outer s H E).nox κ (An st) wb)
  (hW:∀{ss n Pd},W ss n Pd->wb {nx:=λn _=>κ=.sh/\Pd .non n,rt:=Pd} n (ss++dX (N.length - ps.length) .no)) (S:BF N ps^AK st:=by constructor <;>first|rfl|decide +kernel) (hNp:ps.length<=N.length:=by decide) (hL:∀ss n P,W ss n P->ss.length=ps.length:=by walk_at "L") (hB:∀(kV doc pm:Cn) (an:n_ Ch) (cdv ct:Cn) (us:m_ Cn),us.length=ps.length->bindArgs (fnOf x q (BL st) (An st) (AK st) .none kV doc pm an cdv ct) #[us,[]]=pure^ps.zip us:=by walk_at "B"):Nq P w K mg base C x (k+1) ps κ W:=
 A.gotM H (λT F=>bz F S (hb T S.nd) hW hNp) hL hB
theorem Ctx.gmr{q:Str}{k:Nat}{ps:m_ Str}{κ:Kd}{W:WX}{wb:PX->Aa}(A:Ctx P w K mg base h C)(H:Hm K C x q st)(N:m_ Str)
  (hb:∀{f:Ch}{cdv:Cn}{A:c_}{outer:m_ Env}{s:Go}{H:Hp}{E:XK}{Pr:PX}{Φ:Fm->Prop},Txt K mg->N.Nodup->Room k^A.deeper^envOfC q (AK st) s.heap.objs.size f cdv->Pss Φ (D7 (Mj P w) P w K mg base N q (AK st) f cdv A outer s H E) Pr->LY Φ (D7 (Mj P w) P w K mg base N q (AK st) f cdv A outer s H E) κ (An st)^wb Pr)
  (hW:∀{ss n Pd Pr},W ss n Pd Pr->wb Pr {nx:=λn _=>κ=.sh/\Pd .non n,rt:=Pd} n (ss++dX (N.length - ps.length) .no)) (S:BF N ps^AK st:=by constructor <;>first|rfl|decide +kernel) (hNp:ps.length<=N.length:=by decide) (hL:∀ss n P Pr,W ss n P Pr->ss.length=ps.length:=by walk_at "R") (hB:∀(kV doc pm:Cn) (an:n_ Ch) (cdv ct:Cn) (us:m_ Cn),us.length=ps.length->bindArgs (fnOf x q (BL st) (An st) (AK st) .none kV doc pm an cdv ct) #[us,[]]=pure^ps.zip us:=by walk_at "B"):KO P w K mg base C x (k+1) ps κ W:=
 A.gotMR H (λT F=>bN F S (hb T S.nd) hW hNp) hL hB
end
section
variable {P:Program}{w:World}{K:Frag}{mg:Str->n_ Value}{base:Heap}
variable {h:Heap}{C:Addr}(A:Ctx P w K mg base h C)
include A
theorem Gm:A.Y "is_whole" 1 ["thing"] .sh Zv:=A.gk A.h00 ["thing"] (λT _ hr=>(AE^AL^Ea (FP Tv (dv 0) rfl T.Gab rfl T.Gas (by decide +kernel))^D6^XB (FP Rm (dv 0) rfl T.Gab rfl T.Gap (by decide +kernel)))) (@λss n Pd h=>by
 let#[l,rfl,p]:=h;exact p)
theorem CH:A.Y "is_tuple_of" 1 ["count","thing"] .sh Xf:=A.gk A.h01 ["count","thing"] (λT _ hr=>(AE^AL^Ea (FP kit_tuple (dv 1) rfl T.Gab rfl T.Gaa (by decide +kernel))^D6^Bb Bx DZ (S1 T.Gad^dv 1) (dv 0)^BV _)) (@λss n Pd h=>by
 let#[i,xs,rfl,rfl,p]:=h;refine#[_,_,rfl,rfl,?_];show Pd (.bl ((xs.length:Int)==(xs.length:Int))) n;rw[beq_self_eq_true];exact p)
theorem Ks:A.Y "is_rising" 1 ["things"] .sh Xh:=A.gk A.h02 ["things"] (λT _ hr=>(AE^AL (AY (Do rfl) KI rfl T.Gai fC (AO (GY ["ahead","behind"] [j_,j_] (UJ rfl T.Gao (AO (dv 0)^AO (Dn G2 EG (dv 0) (BE AC) Cs) AT)) (λnq=>UM^Ar (Cg 0 nq)^Ar (Cg 1 nq) Ct) BZ^Bb (ER hr) Gz (dv 0) (dv 1)^BV _) AT)))) (@λss n Pd h=>by
 let#[us,rfl,hp,hl,p]:=h
 have hz:∀d∈E7 (us.map AN)^(us.map AN).drop 1,∃s t,Be s t/\d=.tup [AN s,AN t]:=λd hd=>by
  let#[i,hi]:=List.getElem?_of_mem hd;unfold E7 at hi;rw[iB,List.getElem?_drop,cX,cX]at hi;cases e1:us[i]? with
  |none=>rw[e1]at hi; cases hi
  | some s=>
   cases e2:us[1+i]? with
   |none=>rw[e1,e2]at hi; cases hi
   |some t=>
    rw[e1,e2]at hi;let#[h1,rfl]:=Uf.mp e1;let#[h2,rfl]:=Uf.mp e2;exact#[_,_,i6.mp hp i (1+i) h1 h2^by lk,(XV hi).symm]
 refine#[_,_,us.map AN,(us.map AN).drop 1,rfl,rfl,by rw[Zk]; rfl,by unfold E7; rw[List.length_zipWith,FM]; omega,?_];refine BO (λ_=>.bl k_) (λρ=>∃s t,ρ=[s,t]) _ _ _ _ ?_ #[_,_,rfl] ?_
 .rintro d hd ρ m nx ⟨s,t,rfl⟩ hnx
  let#[s,t,h,rfl]:=hz d hd;refine#[rfl,rfl,EM s,EM t,rfl,rfl,rfl,?_];rw[Ft _ _ rfl,N3 h];exact hnx _ #[_,_,rfl]
 .rw[cw]
  exact IV (p:=λ_=>k_) (P:=λz=>Pd z n)^by rw[eg.mpr λ_ _=>rfl]; exact p)
theorem FD:A.Y "rank_of" 1 ["tie"] .sh Zx:=A.gk A.h03 ["tie"] (λ_ _ hr=>(AE^AL^AV^AD (Au (dv 0) AC)^AD (Au (dv 0) AC)^AD (Au (dv 0) AC) AJ)) (@λss n Pd h=>by
 let#[x,y,z,rfl,p]:=h;exact#[_,AA rfl,_,AA rfl,_,AA rfl,z3,p])
theorem DQ:A.Y "order_of" 4 ["ties"] .fr Xk:=A.gk A.h04 ["ties"] (λT _ hr=>(AE^AL (SM (FD A) (hr.mono^by cbv) rfl T.Gac rfl (dv 0)))) (@λss n Pd h=>by
 let#[d,ts,rfl,hd,h64,p]:=h;refine#[ts.map AN,Lu,hd,by rw[FM]; exact h64,λx hx Q hq=>?_,#[λx hx=>?_,λx hx y hy ka kb ea eb=>?_],λxs' hp ho=>?_]
 .let#[t,_,rfl]:=Sc.mp hx
  exact#[_,_,_,rfl,hq]
 .let#[t,_,rfl]:=Sc.mp hx
  exact#[Ab t,rfl,eO _ _]
 .let#[t,_,rfl]:=Sc.mp hx
  let#[u,_,rfl]:=Sc.mp hy;cases(show P3^Ab t=P3 ka from ea);cases(show P3^Ab u=P3 kb from eb);rfl
 .let#[ts',h1,rfl]:=Nx (g:=JK) (λ_=>rfl) hp
  exact p ts' h1^RS ho)
omit A in
theorem jf:BF ["net","steps","place","a","b","length"] ["net"]^AK FA:=#[rfl,rfl,rfl,by decide +kernel,rfl,by decide +kernel,by decide +kernel]
omit A in
theorem cM{f:Ch}{fd:dR}(F:Fun K "steps_of" "steps_of" FA f fd):FnOk P w K mg base E6 1 f fd ["net"]^QS K .sh Sk 1:=by
 refine F.ok (k:=0) jf (λvs H Q E h=>h.1) λcdv A outer s H vs Q E hr h=>?_;let#[hl,F0,U,V',M,n,ss,Pd,ra,#[N,rfl,ok,lp,lt,p],q]:=h;let#[dom,fU,uV,vM,fd0,pa]:=ra;cases pa with
 |cons r1 pa=>
 cases pa;let#[v,e1,h1]:=r1.1;cases e1;let#[an,vs,rfl,hn,v1,r,rfl,hp,v2,r2,rfl,ht,e2]:=h1;cases(show r2=[]from e2);let#[ap,us,rfl,hpn,hps]:=hp;let#[at_,ws,rfl,htn,hts]:=ht;have nd:=jf.nd;have hu:=IQ hr;have szl:=PySem.sizeLine_eq;have lus:us.length=N.ps.length:=by rw[hps.length,FM]
 have lws:ws.length=N.ts.length:=by rw[hts.length,FM]
 refine#[_,A8 (Dx (i:=1) nd rfl (eA rfl) L0)
  (A8 (Kh dM rfl (RH^EA ix_tup (pv 0) Aq λ_ _=>rfl) (Fh (i:=2) nd rfl (eA rfl)) (Cq (HD hu (pv 1) (pv 2) L0 rfl)))
  (A8 (Kh dM rfl (RH^EA ix_tup (pv 0) Aq λ_ _=>rfl) (RK rfl (Fg (Fh (i:=3) nd rfl (eA rfl))^Fg (Fh (i:=4) nd rfl (eA rfl))^Fg (Fh (i:=5) nd rfl (eA rfl)) OK))
   (A8 (HD hu (Km hu (pv 1) (pv 3) λ_ _=>rfl) (pv 4) (pv 5) rfl)^Cq (HD hu (Km hu (pv 1) (pv 4) λ_ _=>rfl) (pv 3) (pv 5) rfl)))
  (Cq^EQ^RO^pv 1))),?_]
 refine λd hd=>?_;have old0:∀b o,H b=P3 o->Ah H d (.dK []) b=P3 o:=λb o e=>by rw[AI^AU e hd]; exact e
 have SqN:∀H':Hp,(∀b o,H b=P3 o->H' b=P3 o)->SqT K H' an [.ref ap,.ref at_]:=λH' o=>SqT.of^o _ _ hn;have SqP:∀H':Hp,(∀b o,H b=P3 o->H' b=P3 o)->SqT K H' ap us:=λH' o=>SqT.of^o _ _ hpn;have SqW:∀H':Hp,(∀b o,H b=P3 o->H' b=P3 o)->SqT K H' at_ ws:=λH' o=>SqT.of^o _ _ htn;refine#[_,rfl,an,_,0,_,rfl,rfl,SqN _ old0,rfl,ap,rfl,#[_,SqP _ old0],?_];refine Od (xs:=us) (λi σ H'=>∃(as:m_ (Str×Ch)) (x2 x3 x4 x5:n_ V),σ=[P3^.ref an,P3^.ref d,x2,x3,x4,x5]/\as.map (·.1)=N.ps.take i/\Stp H d as (λ_=>[]) H') ?_ (λi σ H' hi #[as,x2,x3,x4,x5,e,hm,st]=>SqP _ st.old) ?_ ?_
 .exact#[[],_,_,_,_,rfl,rfl,old0,hd,AM,(λx hx=>by cases hx),di,di]
 .rintro i x σ H' hx ⟨as,x2,x3,x4,x5,rfl,hm,st⟩
  have hi:i<N.ps.length:=by rw[←lus]; exact(Uf.mp hx).1
  let#[x',hx',hAt]:=hps.get (i:=i) (d:=.str N.ps[i]) (by rw[cX,No hi]; rfl);rw[hx]at hx';cases hx';let#[rfl,_]:=hAt;intro q hq;have las:as.length<=i:=by have:=congrArg gY hm; rw[FM,fA]at this; omega
  have nq:d≠q:=λe=>by rw[←e,st.top]at hq; cases hq
  have las2:(as.map λx=>((.inr x.1:Key),V.ref x.2)).length=as.length:=FM ..;refine#[_,rfl,_,rfl,d,_,rfl,DPut.k (k:=.inr N.ps[i]) (by rw[AI nq]; exact st.top)^by lk,?_];refine#[as++[(N.ps[i],q)],_,_,_,_,rfl,?_,st.more hq ?_ rfl]
  .rw[dD,hm,List.take_succ,No hi]; rfl
  .rw[hm]; exact NI (Kb ok.rise) hi
 .rintro σ H' ⟨as,x2,x3,x4,x5,rfl,hm,st⟩
  rw[lus,jE]at hm;refine#[_,rfl,an,_,1,_,rfl,rfl,SqN _ st.old,rfl,at_,rfl,#[_,SqW _ st.old],?_];refine Od (xs:=ws) (λi σ H'=>∃(x2 x3 x4 x5:n_ V),σ=[P3^.ref an,P3^.ref d,x2,x3,x4,x5]/\Stp H d as (λp=>(Dk (N.ts.take i) p).map kv) H') #[_,_,_,_,rfl,st] (λi σ H' hi #[x2,x3,x4,x5,e,st]=>SqW _ st.old) ?_ ?_
  .rintro i x σ H' hx ⟨x2,x3,x4,x5,rfl,st⟩
   have hi:i<N.ts.length:=by rw[←lws]; exact(Uf.mp hx).1
   let#[x',hx',hAt]:=hts.get (i:=i) (d:=AN N.ts[i]) (by rw[cX,No hi]; rfl);rw[hx]at hx';cases hx';have hmem:N.ts[i]∈N.ts:=dY hi;have hsnoc:N.ts.take (i+1)=N.ts.take i++[N.ts[i]]:=by rw[List.take_succ,No hi]; rfl
   have hpre:(N.ts.take (i+1)).Pairwise Be:=ok.trise.sublist^List.take_sublist _ _;have hlt2:∀s∈N.ts.take (i+1),cs s.a<cs s.b:=λs hs=>(ok.tin s^List.mem_of_mem_take hs).2.2.1;rw[hsnoc]at hpre hlt2;have new:=SA hpre hlt2;have ltk:(N.ts.take i).length<=1000:=by rw[fA]; omega
   generalize N.ts[i]=t at hAt hmem hsnoc new;generalize N.ts.take i=ts at hsnoc new st ltk;let#[m1,m2,m3,_]:=ok.tin t hmem;have hab:t.a≠t.b:=λe=>by rw[e]at m3; exact gz _ m3
   let#[ta,tb,tl]:=t;let#[tt,us3,rfl,htt,hit]:=hAt;let#[va,r3,rfl,#[rfl,_],vb,r4,rfl,#[rfl,_],vl,r5,rfl,rfl,e5]:=hit;cases(show r5=[]from e5);rw[←hm]at m1 m2;let#[#[xa,pa],ha,ea]:=Sc.mp m1;let#[#[xb,pb],hb,eb]:=Sc.mp m2;have ea':ta=xa:=ea.symm;have eb':tb=xb:=eb.symm;subst ea' eb';clear ea eb;replace hab:ta≠tb:=hab;replace new:tb∉(Dk ts ta).map (·.1)/\ta∉(Dk ts tb).map (·.1):=new;have ga:=DGet.k (k:=.inr ta) st.top;rw[HB st.nms ha]at ga;have l1:=OR ts ta;refine#[tt,_,rfl,SqT.of^st.old _ _ htt,rfl,_,_,rfl,_,_,rfl,_,_,rfl,rfl,?_];refine#[_,rfl,_,rfl,_,rfl,d,_,rfl,ga,_,rfl,pa,_,rfl,DPut.k (k:=.inr tb) (st.inn _ ha).2.2 (by show((Dk ts ta).map kv).length<sizeLine; rw[FM]; omega),?_];have st1:=st.put (tb2:=λp=>(Dk ts p++if ta=p then [(tb,tl)]else []).map kv) ha (kvs:=putK ((Dk ts ta).map kv) (.inr tb)^.int tl) (by rw[OF new.1,if_pos rfl]) (λq hq=>by rw[if_neg^dH hq,c9]);have gb:=DGet.k (k:=.inr tb) st1.top;rw[HB st1.nms hb]at gb;have l2:=OR ts tb;have ib:=(st1.inn _ hb).2.2;simp only[if_neg hab,c9]at ib;refine#[_,rfl,_,rfl,_,rfl,d,_,rfl,gb,_,rfl,pb,_,rfl,DPut.k (k:=.inr ta) ib (by rw[FM]; omega),?_];refine#[_,_,_,_,rfl,st1.put hb ?_ λq hq=>?_]
   .show(Dk (N.ts.take (i+1)) tb).map kv=_
    rw[hsnoc,L4,OF new.2];show((Dk ts tb++((if ta=tb then [(tb,tl)]else [])++if tb=tb then [(ta,tl)]else [])).map kv)=_;rw[if_neg hab,if_pos rfl]; rfl
   .show(Dk (N.ts.take (i+1)) q).map kv=_
    rw[hsnoc,L4];show((Dk ts q++((if ta=q then [(tb,tl)]else [])++if tb=q then [(ta,tl)]else [])).map kv)=_;rw[if_neg^dH hq,c9]
  .rintro σ H' ⟨x2,x3,x4,x5,rfl,st⟩
   rw[lws,jE]at st
   have old:∀(f:Ch->Obj) b o,H b=P3 o->Ew H' (as.map (·.2)) f b=P3 o:=λf b o e=>by
    rw[C4 λhm=>by let#[x,hx,e2]:=Sc.mp hm; have:=(st.inn x hx).1; rw[e2,e]at this; cases this];exact st.old b o e
   refine#[_,rfl,(as.map fun(x:Str×Ch)=>x.2),λb hb=>?_,λf=>q (.ref d) (Ew H' (as.map fun(x:Str×Ch)=>x.2) f) (EN N) n (λb o e=>#[o,old f b o e,λ_ _=>rfl,λ_ _=>rfl]) #[λg hg=>?_,λb k hk=>(fd0.2 b k hk).to (λ_ _ z=>z) (λb vs e=>old f b _ e) (λb o e=>#[o,old f b o e]) λu e=>old f b _ e] (show At K M (Ew H' (as.map fun(x:Str×Ch)=>x.2) f) (EN N)^.ref d from st.at_ dom hm f) p]
   .let#[x,hx,rfl]:=Sc.mp hb
    exact#[_,(st.inn x hx).2.2]
   .let#[a,r,cells,hf,hcf,hc,rest]:=fd0.1 g hg
    exact#[a,r,cells,old f _ _ hf,hcf,#[hc.1,old f _ _ hc.2],rest]
theorem Gj:Nl P w K mg base:=A.got A.h05 λ_ F _ _=>cM F
theorem Fl:A.Y "only" 1 ["net","ties"] .sh LV:=A.gk A.h06 ["net","ties"] (λT _ hr=>(AE^AL^AV^AD (Au (dv 0) AC)^AD (SD T.Gaa (AY FR LQ rfl T.Gac gG (AO (IY 1) AT))) AJ)) (@λss n Pd h=>by
 let#[N,z,ts,rfl,hz,h64,p]:=h;refine#[_,AA (j:=0) rfl,z,_,rfl,hz,by simp_all,#[λx hx=>?_,λx hx y hy ka kb ea eb=>?_],λxs' hp ho=>?_]
 .let#[t,_,rfl]:=Sc.mp hx
  exact#[EM t,rfl,eO _ _]
 .let#[t,_,rfl]:=Sc.mp hx
  let#[u,_,rfl]:=Sc.mp hy;cases(show P3^EM t=P3 ka from ea);cases(show P3^EM u=P3 kb from eb);rfl
 .let#[ts',h1,rfl]:=Nx (g:=JK) (λ_=>rfl) hp
  exact#[z2,p ts' h1^OO ho])
theorem Kr:A.Y "is_tie_of" 2 ["net","thing"] .sh Xg:=A.gk A.h07 ["net","thing"] (λ_ _ hr=>(AE^AL^Ea (Bb (FC hr) CM (dv 1) (Au (dv 0) AC)^by with_unfolding_all rfl)^D6^cg hr (Gm A)^Bk (Au (dv 1) AC) AF)) (@λss n Pd h=>by
 let#[N,u,rfl,okn,hu,p]:=h;refine#[_,AA (j:=1) rfl,Cr okn.1 hu,(Cd okn.1 λ_ z=>z).1,_,rfl,?_];rw[Et,decide_eq_true hu];exact#[_,AA (j:=2) rfl,u.len,rfl,p])
theorem NG:A.Y "is_thin" 3 ["net","thing"] .sh Ua:=A.gk A.h08 ["net","thing"] (λT _ hr=>(AB (Av (DTW.dt^Fz (B5^BH^cg hr (CH A)^Bk AC^A4 1 AF)^EX^B5^BH (FP kit_tuple (Au (dv 1) AC) rfl T.Gab rfl T.Gaa (by decide +kernel))) (AE^AL CL) AS)
 (AE^AL^Ea (Bb (GK hr) KG (Au (dv 1) AC) (Au (dv 0) AC)^BV _)^Ea (AY (Do rfl) KI rfl T.Gai fC (AO (GY ["net","tie"] [P3 0,j_] (Aw^Au (dv 1) AC) (λnq=>Cg 1 nq) BZ^cg hr (Kr A)^A4 0^A4 1 AF) AT))^D6^cg hr (Ks A)^Bk (Au (dv 1) AC) AF))) (@λss n Pd h=>by
 let#[N,M,rfl,okn,okm,e,hs,p]:=h;have l60:=okm.2.2;refine#[2,_,rfl,rfl,?_];refine#[_,AA (j:=1) rfl,?_];refine#[_,AA (j:=0) rfl,_,AA (j:=0) rfl,CQ okm.1.names,CQ okn.1.names,?_];rw[e,IX];refine#[_,AA (j:=1) rfl,by show(M.ts.map AN).length<=10000000; rw[FM]; omega,?_];refine BO (λ_=>.bl k_) (λρ=>∃s,ρ=[.sh^enc N,s]) _ _ _ _ ?_ #[_,rfl] ?_
 .rintro d hd ρ m nx ⟨s,rfl⟩ hnx
  let#[u,hu,rfl]:=Sc.mp hd;exact#[N,u,rfl,okn,hs u hu,hnx _ #[_,rfl]]
 .rw[cw]
  refine#[_,_,rfl,Ef (λ_=>k_)^M.ts.map AN,?_];rw[show(((M.ts.map AN).map λ_=>k_).all id)=k_ from eg.mpr λx hx=>by let#[_,_,rfl]:=Sc.mp hx; rfl];exact#[_,AA (j:=1) rfl,M.ts,rfl,okm.1.trise,l60,p])
theorem Gn:A.Y "ahead_of" 2 ["net","tie"] .sh Mg:=A.gk A.h09 ["net","tie"] (λ_ _ hr=>(AE^AL^cg hr (Fl A)^A4 0^AQ (DB^GY ["tie","other"] [P3 1,j_] (Aw^Au (dv 0) AC) (λnq=>Cg 1 nq) (Bi^Bu (ER hr) Gz (cg hr (FD A)^A4 1 AF)^cg hr (FD A)^A4 0 AF)^dv 1) AF)) (@λss n Pd h=>by
 let#[M,u,rfl,okm,p]:=h;have ok:=okm.1;have l60:=okm.2.2;refine#[_,AA (j:=1) rfl,by show(M.ts.map AN).length<=10000000; rw[FM]; omega,?_];refine BD (λd=>Ag (Ab^JK d)^Ab u) id (λρ=>∃s,ρ=[.sh^AN u,s]) _ _ _ _ ?_ #[_,rfl] ?_
 .rintro d hd ρ m nx sk ⟨s,rfl⟩ h1 h2
  let#[v,hv,rfl]:=Sc.mp hd;refine#[_,_,_,rfl,_,_,_,rfl,Ab v,Ab u,rfl,rfl,rfl,?_];rw[Py];exact B_ (λc=>h1 _ #[_,rfl] c) λc=>h2 _ #[_,rfl]^de.mpr c
 .rw[cw,e8,e7]
  have pw:(M.ts.filter λv=>Ag (Ab v)^Ab u).Pairwise Be:=ok.trise.filter _;refine#[M,_,M.ts.filter λv=>Ag (Ab v)^Ab u,rfl,rfl,by have:=cj (λv=>Ag (Ab v)^Ab u) M.ts; omega,λts' p1 p2=>?_];rw[CN p1 p2^B6 pw];exact p)
theorem H_:A.Y "without" 2 ["net","ties"] .sh O3:=A.gk A.h0a ["net","ties"] (λ_ _ hr=>(AE^AL^cg hr (Fl A)^A4 0^AQ (DB^GY ["ties","tie"] [P3 1,j_] (Aw^Au (dv 0) AC) (λnq=>Cg 1 nq) (Bi^Bu (BN hr) CM (dv 1)^IY 0)^dv 1) AF)) (@λss n Pd h=>by
 let#[N,us,rfl,ok,hu,p]:=h;have h60:=ok.2.2;refine#[_,AA (j:=1) rfl,by show(N.ts.map AN).length<=10000000; rw[FM]; omega,?_];refine BD (λd=>!((us.map AN).any λy=>De y d)) id (λρ=>∃s,ρ=[.br^.lst^us.map AN,s]) _ _ _ _ ?_ #[_,rfl] ?_
 .rintro d hd ρ m nx sk ⟨s,rfl⟩ h1 h2
  let#[t,ht,rfl]:=Sc.mp hd;refine#[Cr ok.1 ht,(Cd ok.1 hu).2,_,rfl,?_];exact B_ (λc=>h1 _ #[_,rfl] c) λc=>h2 _ #[_,rfl]^de.mpr c
 .rw[cw,e8,MI]
  refine#[N,_,N.ts.filter λt=>decide (t∉us),rfl,rfl,gq (cj _ _)^by lk,λl h1 h2=>?_];rw[show l=N.ts.filter λt=>decide (t∉us)from CN h1 h2^B6^ok.1.trise.filter _];exact p)
theorem Gk:A.Y "left_out" 5 ["net","thin"] .fr Ue:=A.gk A.h0b ["net","thin"] (λ_ _ hr=>(AE^AL^cg hr (DQ A)^Bk (GY ["thin","tie"] [P3 1,j_] (Aw^Au (dv 0) AC) (λnq=>Cg 1 nq) (Bi^Bu (BN hr) CM (dv 1)^Au (dv 0) AC)^dv 1) AF)) (@λss n Pd h=>by
 let#[N,M,rfl,ok,ok2,p]:=h;have h60:=ok.2.2;refine#[_,AA (j:=1) rfl,by show(N.ts.map AN).length<=10000000; rw[FM]; omega,?_];refine BD (λd=>!((M.ts.map AN).any λy=>De y d)) id (λρ=>∃s,ρ=[.sh^enc M,s]) _ _ _ _ ?_ #[_,rfl] ?_
 .rintro d hd ρ m nx sk ⟨s,rfl⟩ h1 h2
  let#[t,ht,rfl]:=Sc.mp hd;refine#[_,AA (j:=1) rfl,Cr ok.1 ht,Tu ok2.1,_,rfl,?_];exact B_ (λc=>h1 _ #[_,rfl] c) λc=>h2 _ #[_,rfl]^de.mpr c
 .rw[cw,e8,MI]
  exact#[_,_,rfl,rfl,gq (cj _ _)^by lk,λl h1 h2=>p l #[h1,h2]])
theorem Fn:A.Y "length_of" 2 ["net","thing"] .sh bV:=A.gk A.h0c ["net","thing","steps","length","here","there"] (λT nd hr=>(AB (Av (DTW.dt^Fz (B5^BH (FP kit_tuple (dv 1) rfl T.Gab rfl T.Gaa (by decide +kernel)))^EX^Bu Bx DZ (S1 T.Gad^dv 1) AC) (AE^AL Az) AS)
 (AB (Av (B5^BH (AY (Do rfl) KI rfl T.Gai fC (AO (GY ["place"] [j_] (Aw^dv 1) (λnq=>Cg 0 nq) BZ (FP OY (dv 0) rfl T.Gab rfl T.Gan (by decide +kernel))) AT))) (AE^AL Az) AS)
 (AB (CA 2 nd^cg hr (Gj A)^A4 0 AF)
 (AB (Av (Bu (Di hr) Eh (Au (dv 1) AC)^dv 2) (AE^AL Az) AS)
 (AB (CA 3 nd AC)
 (AB (C9 dM rfl (W8 rfl T.Gao (AD (dv 1)^AD (Dn G2 EG (dv 1) (BE AC) Cs) AJ)) (UM^Ar (Cg 4 nd)^Ar (Cg 5 nd) Ct) (AB (Av (Bu (Di hr) Eh (dv 5)^Bq hr (dv 2)^dv 4) (AE^AL Az) AS)
 (AE (UI (i:=3) nd rfl (eA rfl) (Bq hr (Bq hr (dv 2)^dv 4)^dv 5)))))
 (AE^AL^dv 3)))))))) (@λss n Pd h0=>by
 let#[N,d,rfl,ok,lp,lt,fd,p]:=h0;cases d with
 | tup xs=>
  have hl:=N6 xs;have hz:Ll xs<=160000:=fd.2.1;have p':Pd (if xs.all EW then Wi N^strsOf xs else .non) n:=p;refine#[_,_,rfl,rfl,?_];show if((xs.length:Int)==0)=k_ then _ else _
  cases xs with
  |nil=>exact CU p'
  | cons x0 r0=>
   rw[show(((x0::r0).length:Int)==0)=l_ from beq_eq_false_iff_ne.mpr^by rw[ce]; omega];refine B4 #[by lk,?_];refine BO (λd=>.bl^EW d) (λρ=>∃s,ρ=[s]) _ _ _ _ ?_ #[_,rfl] ?_
   .rintro d hd ρ m nx ⟨s,rfl⟩ hnx
    have:=hnx [.sh d] #[_,rfl]
    have hf:=fines_iff.mp (show IU _ _ from fd.1) d hd;cases d <;>first|exact this|exact hf.elim
   rw[cw];refine#[_,_,rfl,Ef EW (x0::r0),?_];rw[XW];show if(!(x0::r0).all EW)=k_ then _ else _
   cases ha:(x0::r0).all EW with
   |false=>rw[ha]at p'; exact CU p'
   | true=>
    rw[ha]at p';let#[ys,e]:=Ln ha;rw[e,Hk]at p';cases ys with
    |nil=>cases e
    | cons y r=>
     rw[dL]at e;cases e;refine B4 #[N,rfl,ok,by lk,by lk,?_];refine#[.str y,AA (j:=0) rfl,_,_,.inr y,rfl,rfl,?_];show if(!(BA (N.ps.map .inr) (N.ps.map^S0 N.ts)^.inr y).isSome)=k_ then _ else _
     rw[KR];have p2:Pd (if y∈N.ps then Ls^K3 N.ts y r 0 else .non) n:=p'
     by_cases hy:y∈N.ps
     .rw[if_pos hy]at p2 ⊢
      refine B4 #[_,_,(y::r).map .str,r.map .str,rfl,rfl,by show P3^Dp.cutD (D.str y::r.map .str) (P3 1) j_=_; rw[Zk]; rfl,?_];refine L9 ok r y 0 _ _ hy ?_;cases c:K3 N.ts y r 0 with
      |none=>rw[c]at p2; exact p2
      |some l=>rw[c]at p2; exact λ_ _=>p2
     .rw[if_neg hy]at p2 ⊢
      exact CU p2
 |ob a=>exact(show False from fd.1).elim
 |_=>exact p)
theorem Fo:A.Y "length_between" 3 ["net","a","b","thing"] .sh Ug:=A.gk A.h0d ["net","a","b","thing","length"] (λ_ nd hr=>(AB (CA 4 nd^cg hr (Fn A)^A4 0^A4 3 AF)
 (AB (Av (DTW.dt^Fz (Bu ES G0 (dv 4) Az)^Fz (Bu Gi Mc (Au (dv 3) AC)^dv 1)^EX^Bu Gi Mc (Au (dv 3)^XD AC)^dv 2) (AE^AL Az) AS)
 (AE^AL^dv 4)))) (@λss n Pd h=>by
 let#[M,a,b,w,d,rfl,okm,#[#[r,rfl],hl,hw,h30,hin],p]:=h;refine#[M,.tup^(a::r).map .str,rfl,okm.1,by have:=okm.2.1; omega,okm.2.2,Lc okm.1 h30 hin,?_];rw[OU okm.1 (hin _ Op) hw];refine#[rfl,.str a,AA (j:=0) rfl,?_];refine B_ (λc=>absurd c^by simp) λ_=>?_;refine#[1,rfl,.str b,Pz hl,?_];refine B_ (λc=>absurd c^by simp) λ_=>?_;exact p)
theorem JC:A.Y "nearest_of" 1 ["waiting","found"] .sh Zy:=A.gk A.h0e ["waiting","found"] (λT _ hr=>(AE^AL^Au (AY (QI hr) XX rfl T.Gaj boot_min (AO (GY ["found","place"] [P3 1,j_] (Aw^IY 0) (λnq=>Cg 1 nq) BZ^AV^AD (Au (Bq hr (IY 0)^dv 1) AC)^AD (dv 1) AJ) AT)) AC)) (@λss n Pd h=>by
 let#[Wt,ks,ds,F,rfl,M,hF,hne,hl,p]:=h;refine#[by show(Wt.map D.str).length<=10000000; rw[FM]; omega,?_]
 have dist:∀x∈Wt,∃d q,F x=P3 (d,q):=λx hx=>by
  cases e:F x with
  |none=>exact absurd e^hF x hx
  |some a=>exact#[a.1,a.2,rfl]
 refine BO (λd=>match d with|.str x=>.tup [.int ((F x).getD (0,j_)).1,.str x]|d=>d) (λρ=>∃s,ρ=[.br^.dic ks ds,s]) _ _ _ _ ?_ #[_,rfl] ?_
 .rintro d hd ρ m nx ⟨s,rfl⟩ hnx
  let#[x,hx,rfl]:=Sc.mp hd;let#[dx,q,ex]:=dist x hx;refine#[ks,ds,_,GV (dx,q),rfl,rfl,by rw[M.at_,ex]; rfl,_,AA (j:=0) rfl,(by cbv:2<=sizeLine),?_]
  grind
 rw[cw,ej];refine#[_,rfl,?_,#[λx hx=>?_,λx hx y hy ka kb ea eb=>?_],λx hx hmin=>?_]
 .rw[FM]
  cases Wt with
  |nil=>exact absurd rfl hne
  |cons a r=>exact Nat.succ_pos _
 .let#[z,_,rfl]:=Sc.mp hx
  exact#[_,rfl,eO _ _]
 .let#[z,_,rfl]:=Sc.mp hx
  let#[u,_,rfl]:=Sc.mp hy;cases(show P3 [iA _,fW _]=P3 ka from ea);cases(show P3 [iA _,fW _]=P3 kb from eb);rfl
 .let#[v,hv,rfl]:=Sc.mp hx
  refine#[_,AA (j:=1) rfl,p v hv λy hy dv pv dy py ev ey=>?_]
  have:=bS (hmin _ (Sc.mpr #[y,hy,rfl]) _ _ rfl rfl)
  rw[ev,ey]at this;exact this)
theorem DX:A.Y "least_ways" 2 ["net","start"] .fr Xm:=A.gk A.h0f ["net","start","steps","found","waiting","place","other","step","length"] (λ_ nd hr=>(AB (CA 2 nd^cg hr (Gj A)^A4 0 AF)
 (AB (W3 3 nd^MQ (dv 1)^AV^AD AC^AD Az AJ)
 (AB (W3 4 nd^DA^AD (dv 1) AJ)
 (AB (IZ dM (NZ^IY 4) (AB (CA 5 nd^cg hr (JC A)^AQ (DB^IY 4)^AQ (DB^IY 3) AF)
 (AB (Ib 4 WM PySem.F.slot_list_remove PySem.F.type_list_remove (Pn hr) Zo (pv 4)^AD (dv 5) AJ)
 (AE (C9 dM rfl (SF^Bq hr (dv 2)^dv 5) (UM^Ar (Cg 6 nd)^Ar (Cg 7 nd) Ct) (AB (CA 8 nd^Ai Aj A1 (Au (Bq hr (IY 3)^dv 5) AC)^dv 7)
 (AE (Av (Bu (Di hr) Eh (dv 6)^IY 3) (AB (Ib 4 WM X8 X7 CO KH (pv 4)^AD (dv 6) AJ)
 (AE^LA (i:=3) hr (pv 3) (dv 6)^AV^AD (dv 8)^AD (dv 5) AJ))^AE^Av (Bu (ER hr) Gz (dv 8)^Au (Bq hr (IY 3)^dv 6) AC) (AE^LA (i:=3) hr (pv 3) (dv 6)^AV^AD (dv 8)^AD (dv 5) AJ) AS))))))))
 (AE^Om 3^pv 3)))))) (@λss n Pd h=>by
 let#[N,s,rfl,#[ok,lp,lt],hs,p]:=h;have szl:=PySem.sizeLine_eq;refine#[N,rfl,ok,by lk,by lk,?_];refine#[(by cbv:2<=sizeLine),_,Al s,(by cbv:1<=sizeLine),?_];refine GF (λm n' ρ=>n'=n/\∃(Wt:m_ Str) (ks:m_ Key) (ds:m_ D) (F:La) (s5 s6 s7 s8:Slot),ρ=[.sh^enc N,.sh^.str s,.sh^EN N,.ow^.dic ks ds,.ow^.lst^Wt.map .str,s5,s6,s7,s8]/\Dmap ks ds GV F/\Dj N s F Wt/\m+ks.length=N.ps.length+Wt.length) (N.ps.length) #[rfl,[s],[.inr s],[GV (0,j_)],_,_,_,_,_,rfl,Dmap.one,Dj.init hs,rfl] ?_ ?_
 .rintro m n' ρ N' ⟨rfl,Wt,ks,ds,F,s5,s6,s7,s8,rfl,M,J,hm⟩ hN
  cases Wt with
  |nil=>
   exact#[l_,rfl,_,rfl,p ks ds F M J.told]
  | cons w0 Wr=>
   refine#[k_,rfl,?_];have insW:∀x∈w0::Wr,x∈N.ps:=λx hx=>J.ins x^J.wfound x hx;have wl:=GC J.nd insW;refine#[w0::Wr,ks,ds,F,rfl,M,J.wfound,eO _ _,by lk,λv hv hmin=>?_]
   obtain⟨dv,pv,ev⟩:∃d q,F v=P3 (d,q):=by
    cases e:F v with
    |none=>exact absurd e^J.wfound v hv
    |some a=>exact#[a.1,a.2,rfl]
   have D0:=J.take hv ev λy hy dy q ey=>hmin y hy dv pv dy q ev ey;have hvp:=insW v hv;have hidx:(w0::Wr).idxOf v<(w0::Wr).length:=List.idxOf_lt_length_of_mem hv;have hget:(w0::Wr)[(w0::Wr).idxOf v]?=P3 v:=by rw[No hidx,List.getElem_idxOf]
   have ee:((w0::Wr).map D.str).eraseIdx^(w0::Wr).idxOf v=((w0::Wr).erase v).map D.str:=by
    rw[List.erase_eq_eraseIdx_of_idxOf (rfl:(w0::Wr).idxOf v=_),Jv]
   refine#[_,rfl,rfl,_,_,(w0::Wr).idxOf v,rfl,rfl,Pm ok insW,By^ok.names v hvp,#[.str v,by rw[cX,hget]; rfl,by show(v==v)=k_; exact beq_self_eq_true v],λk x hk hx=>?_,?_]
   .rw[cX]at hx
    let#[t,ht,rfl]:=dJ.mp hx;have hkl:k<(w0::Wr).length:=(Uf.mp ht).1;have hh:=List.not_of_lt_findIdx (p:=λy=>y==v) (xs:=w0::Wr) hk;have e2:(w0::Wr)[k]=t:=(Uf.mp ht).2;have h3:((w0::Wr)[k]==v)=l_:=hh;rw[e2]at h3;exact h3
   rw[ee];refine#[_,_,_,S0 N.ts v,rfl,Al v,PJ hvp,_,_,rfl,λk hk=>?_,?_]
   .let#[q,hq,rfl]:=Sc.mp hk
    have:=(ok.names _ (K0 ok hq).1).2.1
    show q.1.length<=sizeLine;lk
   rw[S3];have el:=List.length_erase_of_mem hv
   have inner:∀(rest seen:m_ (Str×Int)) (Wt:m_ Str) (ks:m_ Key) (ds:m_ D) (F:La) (s6 s7 s8:Slot),seen++rest=Dk N.ts v->Dmap ks ds GV F->Dm N s F Wt v dv seen->m+ks.length=N.ps.length+Wt.length+1->
     Bn (MY 2^B7 (A6 6)^B7 (A6 7) Ir) (Ay (BB 8^As B0 (As C7 (As Fy (CB 3)^AG 5)^wC^D.int 0)^AG 7)
 (Ci (Ae^As (QA k_) (AG 6)^CB 3) (Ay (Vn 4 "list" NY^AZ (AG 6) A7)
 (JS 3 (AG 6)^DU^AZ (AG 8)^AZ (AG 5) A7))^Ci (Ae^As NW (AG 8)^As C7 (As Fy (CB 3)^AG 6)^wC^D.int 0) (JS 3 (AG 6)^DU^AZ (AG 8)^AZ (AG 5) A7) Bs)) {EF Pd with nx:=N',ct:=N',bk:=Qd 3^EF Pd} (rest.map bE) n' [.sh^enc N,.sh^.str s,.sh^EN N,.ow^.dic ks ds,.ow^.lst^Wt.map .str,.sh^.str v,s6,s7,s8]:=by
    intro rest
    induction rest with
    |nil=>
     intro seen Wt ks ds F s6 s7 s8 e M D0 hm;rw[c9]at e;exact hN (m - 1) n' _ (by have:=M.le D0.ins; omega) #[rfl,Wt,ks,ds,F,_,_,_,_,rfl,M,D0.finish λy l hy=>by rw[e]; exact hy,by have:=M.le D0.ins; omega]
    | cons q rest ih=>
     intro seen Wt ks ds F s6 s7 s8 e M D0 hm;let#[y,l]:=q;have he:Ed N v y l:=by show(y,l)∈Dk N.ts v; rw[←e]; exact cW _ Op
     have e':(seen++[(y,l)])++rest=Dk N.ts v:=by rw[e6]; exact e
     let#[pv,ev]:=D0.here;have kl:=M.le D0.ins;have hyp:=he.ins ok;have insW:∀x∈Wt,x∈N.ps:=λx hx=>D0.ins x^D0.wfound x hx;have wl:=GC D0.nd insW;refine#[rfl,rfl,?_];refine#[ks,ds,_,GV (dv,pv),rfl,Al v,by rw[M.at_,ev]; rfl,_,AA (j:=0) rfl,?_];refine#[ks,ds,_,rfl,Al y,?_];show if(!(BA ks ds^.inr y).isSome)=k_ then _ else _
     cases ey:F y with
     |none=>
      have hno:=(M.has (x:=y)).1 ey;rw[M.at_,ey];refine CU #[_,rfl,rfl,_,_,rfl,rfl,by rw[FM]; omega,?_];refine#[ks,ds,rfl,(by cbv:2<=sizeLine),_,Al y,by lk,?_]
      have:=ih (seen++[(y,l)]) (Wt++[y]) (Ck ks^.inr y) (C2 ks ds (.inr y)^GV (dv+l,P3 v)) _ (.sh^.str y) (.sh^.int l) (.sh^.int (dv+l)) e' (M.put y (dv+l,P3 v)) (D0.find ok he ey)^by rw[Hw,if_neg (by rw[hno]; decide),cZ,c7]; omega
      rw[dD]at this;exact this
     | some a=>
      let#[dy,qy]:=a;have hyes:=(M.has (x:=y)).2 (by rw[ey]; intro z; cases z);rw[M.at_,ey];refine B4 #[ks,ds,_,GV (dy,qy),rfl,Al y,by rw[M.at_,ey]; rfl,_,AA (j:=0) rfl,?_];show if decide (dv+l<dy)=k_ then _ else _
      by_cases c:dv+l<dy
      .rw[decide_eq_true c]
       refine CU #[ks,ds,rfl,(by cbv:2<=sizeLine),_,Al y,by lk,?_];exact ih (seen++[(y,l)]) Wt (Ck ks^.inr y) (C2 ks ds (.inr y)^GV (dv+l,P3 v)) _ (.sh^.str y) (.sh^.int l) (.sh^.int (dv+l)) e' (M.put y (dv+l,P3 v)) (D0.nearer ok he ey c)^by rw[Hw,if_pos hyes]; omega
      .rw[decide_eq_false c]
       exact B4^ih (seen++[(y,l)]) Wt ks ds F (.sh^.str y) (.sh^.int l) (.sh^.int (dv+l)) e' M (D0.skip ey^by lk) hm
   exact inner (Dk N.ts v) [] ((w0::Wr).erase v) ks ds F _ _ _ rfl M D0 (by have:=List.length_pos_of_mem hv; omega)
 .rintro n' ρ P Q hPQ h
  unfold YF CB at h ⊢
  split at h
  all_goals first
   |exact h.elim
   |(let#[c,hc,h]:=h; exact#[c,hc,hPQ _ _ h]))
theorem Wa:A.Y "far" 3 ["net","a","b"] .sh Z1:=A.gk A.h0g ["net","a","b","found"] (λ_ nd hr=>(AB (CA 3 nd^cg hr (DX A)^A4 0^A4 1 AF)
 (AE^AL^E5 (Bu (NE hr) Si (dv 2)^dv 3) (Au (Bq hr (dv 3)^dv 2) AC) Az))) (@λss n Pd h=>by
 let#[N,a,b,rfl,okn,ha,hb,p]:=h;refine#[N,a,rfl,okn,ha,λks ds F M T=>?_];refine#[ks,ds,_,rfl,Al b,?_];show if((BA ks ds^.inr b).isSome)=k_ then _ else _
 have hp:=p _^T.far b;cases e:F b with
 |none=>
  rw[M.at_,e];rw[e]at hp;exact B4 hp
 |some x=>
  rw[M.at_,e];rw[e]at hp;exact CU #[ks,ds,_,GV x,rfl,Al b,by rw[M.at_,e]; rfl,_,AA (j:=0) rfl,hp])
theorem Mb:Got P w K mg base "far_ways" 3 ["net","a","b"] .sh Z1:=by
 let#[f,a,b]:=A.a_far_ways;let#[f1,fd,ok,m,r]:=Wa A;cases m.symm.trans^mg_of A.X A.G a;exact#[f,fd,ok,mg_of A.X A.G b,r]
theorem Jg:A.Y "way_of" 3 ["net","a","b"] .sh Zw:=A.gk A.h0h ["net","a","b","found","way","place"] (λT nd hr=>(AB (CA 3 nd^cg hr (DX A)^A4 0^A4 1 AF)
 (AB (Av (Bu (Di hr) Eh (dv 2)^dv 3) (AE^AL Az) AS)
 (AB (W3 4 nd^DA AJ)
 (AB (CA 5 nd^dv 2)
 (AB (IZ dM (Bu Kp Nk (dv 5) Az) (AB (Ib 4 WM X8 X7 CO KH (pv 4)^AD (dv 5) AJ)
 (AE^CA 5 nd^Au (Bq hr (dv 3)^dv 5) AC)))
 (AE^AL (QE rfl (IY 4) rfl T.Gaa rfl T.Gam)))))))) (@λss n Pd h=>by
 let#[N,a,b,rfl,okn,ha,hb,p]:=h;have szl:=PySem.sizeLine_eq;have ok:=okn.1;refine#[N,a,rfl,okn,ha,λks ds F M T=>?_];refine#[ks,ds,_,rfl,Al b,?_];show if(!(BA ks ds^.inr b).isSome)=k_ then _ else _
 have hfar:=T.far b;cases eb:F b with
 |none=>
  rw[M.at_,eb];rw[eb]at hfar;exact CU^p j_ hfar
 | some x=>
  let#[db,qb]:=x;rw[M.at_,eb];refine B4 #[z0,?_];refine GF (λm n' ρ=>n'=n/\∃(acc:m_ Str) (pl:n_ Str),ρ=[.sh^enc N,.sh^.str a,.sh^.str b,.sh^.dic ks ds,.ow^.lst^acc.map .str,.sh^Y5 pl]/\WInv N F b db acc pl/\m=wm F pl) (wm F^P3 b) #[rfl,[],P3 b,rfl,#[.inl #[rfl,rfl],di,(λx hx=>by cases hx),(λ_ _ _ _ _ x hx=>by cases hx),λy e=>by cases e; rw[eb]; intro z; cases z],rfl] ?_ ?_
  .rintro m n' ρ N' ⟨rfl,acc,pl,rfl,J,rfl⟩ hN
   have wl:=GC J.nd J.ins;have l25:=okn.2.1;cases pl with
   | none=>
    refine#[rfl,_,rfl,?_]
    rcases J.st with⟨_,e⟩|⟨z,r,dz,e1,e2,e3,e4⟩
    .cases e
    .have hz:z=a:=by
      rcases T.prev z dz j_ e2 with⟨_,w⟩|⟨w',dw',q',l,k1,_⟩
      .exact w
      .cases k1
     subst hz;rw[T.start]at e2;cases e2;rw[←List.map_reverse];refine p (P3 acc.reverse) #[db - 0,r,e1,e4,e3,?_,by rw[iS]; omega,λx hx=>J.ins x^List.mem_reverse.mp hx];rw[show db - 0=db by lk];exact T.least b db qb eb
   | some y=>
    cases ey:F y with
    |none=>exact absurd ey (J.fnd y rfl)
    |some q=>
     let#[dy,qy]:=q;let#[J2,lt2]:=J.step ok T eb ey;refine#[rfl,?_];refine#[_,rfl,rfl,_,_,rfl,rfl,by rw[FM]; omega,?_];refine#[ks,ds,_,GV (dy,qy),rfl,Al y,by rw[M.at_,ey]; rfl,_,AA (j:=1) rfl,?_];refine hN (wm F qy) _ _ lt2 #[rfl,acc++[y],qy,?_,J2,rfl];rw[dD];rfl
  .rintro n' ρ P Q hPQ h
   unfold Ae As AG wC Ex at h ⊢
   split at h
   .exact#[h.1,hPQ _ _ h.2]
   .exact h.elim)
theorem JD:A.Y "are_prices" 2 ["net","thing"] .sh Xi:=A.gk A.h0i ["net","thing"] (λT _ hr=>(AE^AL^Ea (cg hr (CH A)^Bk (S1 T.Gad^Au (dv 0) AC)^A4 1 AF)^D6 (AY (Do rfl) KI rfl T.Gai fC (AO (GY ["price"] [j_] (Aw^dv 1) (λnq=>Cg 0 nq) BZ^Ea (cg hr (Gm A)^A4 0 AF)^D6^Bb WY Zs (dv 0) AC^BV _) AT)))) (@λss n Pd h=>by
 let#[M,g,rfl,okm,h0,p]:=h;have l25:=okm.2.1;refine#[_,AA (j:=0) rfl,_,_,rfl,rfl,_,_,rfl,by rw[FM,FM],by show(M.ps.map λx=>D.int^g x).length<=10000000; rw[FM]; omega,?_];refine BO (λ_=>.bl k_) (λρ=>∃s,ρ=[s]) _ _ _ _ ?_ #[_,rfl] ?_
 .rintro d hd ρ m nx ⟨s,rfl⟩ hnx
  let#[x,hx,rfl]:=Sc.mp hd;refine#[g x,rfl,?_];show nx (.bl (decide (0<=g x))) m [.sh^.int^g x];rw[decide_eq_true^h0 x hx];exact hnx _ #[_,rfl]
 .rw[cw]
  exact IV (p:=λ_=>k_) (P:=λz=>Pd z n)^by rw[eg.mpr λ_ _=>rfl]; exact p)
theorem Fk:A.Y "price_gap" 1 ["net","prices","a","b"] .sh Xp:=A.gk A.h0j ["net","prices","a","b"] (λT _ hr=>(AE^AL (AY SX Zt rfl T.Gar boot_abs (AO (Ai OQ Sb (Au (dv 1)^SK hr (Au (dv 0) AC)^AO (dv 2) AT)^Au (dv 1)^SK hr (Au (dv 0) AC)^AO (dv 3) AT) AT)))) (@λss n Pd h=>by
 let#[M,g,a,b,rfl,okm,ha,hb,p]:=h;let#[i,i2,hlay,i3,i4,i5]:=ZD okm g ha;let#[j,j2,_,j3,j4,j5]:=ZD okm g hb;exact#[_,AA (j:=0) rfl,#[_,rfl],_,_,i,rfl,rfl,hlay,i3,i4,i5,_,AA i2,_,AA (j:=0) rfl,#[_,rfl],_,_,j,rfl,rfl,hlay,j3,j4,j5,_,AA j2,p])
theorem NH:A.Y "is_fair" 3 ["net","thing"] .sh Ui:=A.gk A.h0k ["net","thing"] (λT _ hr=>(AB (Av (B5^BH^cg hr (JD A)^A4 0^A4 1 AF) (AE^AL CL) AS)
 (AE^AL (AY (Do rfl) KI rfl T.Gai fC (AO (GY ["net","thing","a","b","length"] [P3 0,P3 1,j_,j_,j_] (Aw^Au (dv 0) AC) (λnq=>UM^Ar (Cg 2 nq)^Ar (Cg 3 nq)^Ar (Cg 4 nq) Ct) BZ^Bb RW VX (cg hr (Fk A)^A4 0^A4 1^A4 2^A4 3 AF) (dv 4)^BV _) AT))))) (@λss n Pd h=>by
 let#[M,g,rfl,okm,#[h0,hf],p]:=h;have l60:=okm.2.2;refine#[M,g,rfl,okm,h0,?_];refine B4 #[_,AA (j:=1) rfl,by show(M.ts.map AN).length<=10000000; rw[FM]; omega,?_];refine BO (λ_=>.bl k_) (λρ=>∃s2 s3 s4,ρ=[.sh^enc M,.sh^VB M g,s2,s3,s4]) _ _ _ _ ?_ #[_,_,_,rfl] ?_
 .rintro d hd ρ m nx ⟨s2,s3,s4,rfl⟩ hnx
  let#[t,ht,rfl]:=Sc.mp hd;let#[m1,m2,_]:=okm.1.tin t ht;refine#[rfl,rfl,M,g,t.a,t.b,rfl,okm,m1,m2,?_];show nx (.bl (decide (LP (g t.a - g t.b)<=t.len))) m _;rw[decide_eq_true^hf t ht];exact hnx _ #[_,_,_,rfl]
 .rw[cw]
  exact IV (p:=λ_=>k_) (P:=λz=>Pd z n)^by rw[eg.mpr λ_ _=>rfl]; exact p)
theorem IB:A.Y "prices_from" 3 ["net","place","most"] .sh Me:=A.gk A.h0l ["net","place","most","found"] (λT nd hr=>(AB (CA 3 nd^cg hr (DX A)^A4 0^A4 1 AF)
 (AE^AL^SD T.Gaa^GY ["most","found","other"] [P3 2,P3 3,j_] (Aw^Au (dv 0) AC) (λnq=>Cg 2 nq) BZ^E5 (Bu (NE hr) Si (dv 2)^dv 1) (AY (QK rfl) XZ rfl T.Gaj boot_min (AO (dv 0)^AO (Au (Bq hr (dv 1)^dv 2) AC) AT))^dv 0))) (@λss n Pd h=>by
 let#[N,s,m,rfl,okn,hs,p]:=h;have l25:=okn.2.1;refine#[N,s,rfl,okn,hs,λks ds F M T=>?_];refine#[_,AA (j:=0) rfl,by show(N.ps.map D.str).length<=10000000; rw[FM]; omega,?_];refine BO (λd=>match d with|.str x=>.int (ED m ((F x).map (·.1)))|_=>.non) (λρ=>∃s2,ρ=[.sh^.int m,.sh^.dic ks ds,s2]) _ _ _ _ ?_ #[_,rfl] ?_
 .rintro d hd ρ m' nx ⟨s2,rfl⟩ hnx
  let#[x,hx,rfl]:=Sc.mp hd;refine#[ks,ds,_,rfl,Al x,?_];show if((BA ks ds^.inr x).isSome)=k_ then _ else _
  have hnx:nx (.int (ED m ((F x).map (·.1)))) m' [.sh^.int m,.sh^.dic ks ds,.sh^.str x]:=hnx _ #[.sh^.str x,rfl];rw[M.at_];cases ex:F x with
  |none=>
   rw[ex]at hnx;exact B4 hnx
  |some q=>
   rw[ex]at hnx;exact CU #[ks,ds,_,GV q,rfl,Al x,by rw[M.at_,ex]; rfl,_,AA (j:=0) rfl,hnx]
 .rw[cw,ej]
  exact p F T)
theorem Dy:A.Y "is_within" 1 ["length","times","number"] .sh UZ:=A.gk A.h0m ["length","times","number"] (λ_ _ hr=>(AE^AL^Bb RW VX (Ai DP Eg (dv 0)^Au (dv 1) AC) (Ai DP Eg (dv 2)^Au (dv 1) AC)^BV _)) (@λss n Pd h=>by
 let#[l,t,b,x,rfl,b0,b1,t0,t1,p]:=h;exact#[_,AA rfl,b8 (by lk) b1,_,AA rfl,b8 (by lk) t1,p])
theorem G5:A.Y "least_beyond" 1 ["times","number"] .sh Su:=A.gk A.h0n ["times","number"] (λ_ _ hr=>(AE^AL^Ai Aj A1 (Ai HF Gb (Ai DP Eg (dv 1)^Au (dv 0) AC)^Au (dv 0) AC) AC)) (@λss n Pd h=>by
 let#[t,b,l,rfl,#[b1,b2,t1,t2],p]:=h;exact#[_,AA (j:=0) rfl,.inr (by constructor <;>lk),_,AA (j:=1) rfl,#[by lk,by lk],p])
theorem L1:A.Y "near_way" 4 ["net","times","tie"] .sh Sn:=A.gk A.h0o ["net","times","tie","way"] (λ_ nd hr=>(AB (CA 3 nd^cg hr (Jg A)^A4 0^Bk (Au (dv 2) AC)^Bk (Au (dv 2) AC) AF)
 (AB (Av (DTW.dt^Fz (Bu ES G0 (dv 3) Az)^EX^B5^BH^cg hr (Dy A)^Bk (cg hr (Fn A)^A4 0^A4 3 AF)^A4 1^Bk (Au (dv 2) AC) AF) (AE^AL Az) AS)
 (AE^AL^dv 3)))) (@λss n Pd h=>by
 let#[N,u,t,b,rfl,okn,ha,hb,b1,b2,t1,t2,p]:=h;refine#[_,AA (j:=0) rfl,_,AA (j:=1) rfl,N,u.a,u.b,rfl,okn,ha,hb,λo ho=>#[rfl,?_]];cases o with
 |none=>
  refine p j_ (λw e=>by cases e) λ_=>?_;rw[de];intro z;let#[d,hd,_]:=nearB_iff.mp z;exact ho d hd.1
 | some w=>
  have ho':=ho;let#[d,r,rfl,hl,hw,hd,h30,hin]:=ho'
  have near:Bt N t b u=decide (d*b<=u.len*t):=by
   rw[dC,nearB_iff,decide_eq_true_eq];exact#[fun#[d',hd',h2]=>by rw[Least.unique hd hd']; exact h2,λh2=>#[d,hd,h2]]
  refine#[N,.tup^(u.a::r).map .str,rfl,okn.1,by have:=okn.2.1; omega,okn.2.2,Lc okn.1 h30 hin,?_];rw[OU okn.1 (hin _ Op) hw];refine#[_,AA (j:=2) rfl,d,t,b,u.len,rfl,b1,b2,t1,t2,?_]
  by_cases c:d*b<=u.len*t
  .rw[decide_eq_true c]
   exact p (P3 _) (λw e=>by cases e; exact#[ho,by rw[near]; exact decide_eq_true c]) λe=>by cases e
  .rw[decide_eq_false c]
   exact p j_ (λw e=>by cases e) λ_=>by rw[near]; exact decide_eq_false c)
theorem IA:A.Y "thinned" 5 ["net","times"] .sh Sj:=A.gk A.h0p ["net","times","kept","tie"] (λ_ nd hr=>(AB (W3 2 nd^DA AJ)
 (AB (C9 dM rfl (LB^cg hr (DQ A)^Bk (Au (dv 0) AC) AF) (Cg 3 nd) (AE^Av (Bu ES G0 (cg hr (L1 A)^Bk (cg hr (Fl A)^A4 0^AQ (DB^IY 2) AF)^A4 1^A4 3 AF) Az) (AE^Ib 2 WM X8 X7 CO KH (pv 2)^AD (dv 3) AJ) AS))
 (AE^AL^cg hr (Fl A)^A4 0^AQ (DB^IY 2) AF)))) (@λss n Pd h=>by
 let#[N,t,b,rfl,okn,b1,b2,t1,t2,p]:=h;have ok:=okn.1;have l60:=okn.2.2;have szl:=PySem.sizeLine_eq;refine#[z0,_,AA (j:=1) rfl,_,N.ts,rfl,rfl,by lk,λord o1 o2=>?_];have hol:=o1.length_eq;have ndo:ord.Nodup:=o1.nodup_iff.mpr^BG ok.trise
 have go:∀(rest done kept:m_ Ak) (s3:Slot),done++rest=ord->(∀u∈kept,u∈done)->kept.Nodup->AW N t b kept rest=AW N t b [] ord->
   Bn (A6 3) (Ci (Ae^As (Ex l_) (Ap Sn^AH (AR^Ap LV^AH (AR^AG 0)^AH (E8^CB 2) Ac)^AH (AR^AG 1)^AH (AR^AG 3) Ac)^wC D.non) (Vn 2 "list" NY^AZ (AG 3) A7) Bs) {EE Pd with nx:=DJ (Ap LV^AH (AR^AG 0)^AH (E8^CB 2) Ac)^EE Pd} (rest.map AN) n [.sh^enc N,.sh^.tup [.int t,.int b],.ow^.lst^kept.map AN,s3]:=by
  intro rest
  induction rest with
  |nil=>
   intro done kept s3 e h1 h2 h3;rw[c9]at e;subst e;have hin:∀u∈kept,u∈N.ts:=λu hu=>o1.mem_iff.mp^h1 u hu;have hkl:=sub_len h2 (BG ok.trise) hin;refine#[N,_,kept,rfl,rfl,by lk,λts' p1 p2=>?_];rw[Qu ok hin h2 p1 p2,show kept=AW N t b [] done from h3];exact p done o1 o2
  | cons u rest ih=>
   intro done kept s3 e h1 h2 h3;have hin:∀v∈kept,v∈N.ts:=λv hv=>o1.mem_iff.mp (by rw[←e]; exact df _^h1 v hv);have hkl:=sub_len h2 (BG ok.trise) hin;have hu:u∈N.ts:=o1.mem_iff.mp^by rw[←e]; exact cW _ Op
   have hud:u∉done:=by
    rw[←e,eG]at ndo;exact λz=>ndo.2.2 u z u Op rfl
   have e':(done++[u])++rest=ord:=by rw[e6]; exact e
   let#[m1,m2,_]:=ok.tin u hu;refine#[N,_,kept,rfl,rfl,by lk,λts' p1 p2=>?_];rw[Qu ok hin h2 p1 p2];refine#[sub N kept,u,t,b,rfl,CD okn kept,m1,m2,b1,b2,t1,t2,λo hs hn=>#[rfl,?_]];rw[BY]at h3;cases o with
   |some w=>
    rw[(hs w rfl).2,if_pos rfl]at h3;exact ih (done++[u]) kept _ e' (λv hv=>df _^h1 v hv) h2 h3
   | none=>
    rw[hn rfl,if_neg^by cbv]at h3;refine#[_,rfl,rfl,_,_,rfl,rfl,by rw[FM]; omega,?_]
    have:=ih (done++[u]) (kept++[u]) (.sh^AN u) e' (λv hv=>by
     rcases cn.mp hv with hv|hv
     .exact df _^h1 v hv
     .exact cW _ hv) (by
     rw[eG];exact#[h2,cz.mpr #[ci,di],λx hx y hy z=>hud^by rw[←On.mp hy,←z]; exact h1 x hx]) h3
    rw[dD]at this;exact this
 exact go ord [] [] _ rfl (λu h=>by cases h) di rfl)
theorem G6:A.Y "greedy_paper" 6 ["net","times"] .sh Uh:=A.gk A.h0q ["net","times","thin","paper","tie","ahead"] (λT nd hr=>(AB (CA 2 nd^cg hr (IA A)^A4 0^A4 1 AF)
 (AB (W3 3 nd^DA AJ)
 (AB (C9 dM rfl (LB^cg hr (DQ A)^Bk (Au (dv 0) AC) AF) (Cg 4 nd) (AB (CA 5 nd^cg hr (Gn A)^A4 2^A4 4 AF)
 (AE^Av (Bu (FC hr) CM (dv 4)^Au (dv 2) AC) (AE^Ib 3 WM X8 X7 CO KH (pv 3)^AD (AV^AD AX^AD (cg hr (IB A)^A4 5^Bk (Au (dv 4) AC)^Bk (cg hr (G5 A)^A4 1^Bk (Au (dv 4) AC) AF) AF) AJ) AJ)^AE^Ib 3 WM X8 X7 CO KH (pv 3)^AD (AV^AD AX^AD (cg hr (Jg A)^A4 5^Bk (Au (dv 4) AC)^Bk (Au (dv 4) AC) AF) AJ) AJ)))
 (AE^AL^SD T.Gaa^IY 3))))) (@λss n Pd h=>by
 let#[N,t,b,rfl,okn,tm,p]:=h;have tm':=tm;let#[b1,b2,t1,t2]:=tm';have ok:=okn.1;have l60:=okn.2.2;have szl:=PySem.sizeLine_eq;refine#[N,t,b,rfl,okn,b1,b2,t1,t2,λord o1 o2=>?_];have hol:=o1.length_eq;refine#[z0,_,AA (j:=1) rfl,_,N.ts,rfl,rfl,by lk,λord' q1 q2=>?_];obtain rfl:=BQ (q1.trans o1.symm) q2 o2;have nd:ord'.Nodup:=o1.nodup_iff.mpr^BG ok.trise
 have go:∀(us pre:m_ Ak) (rs:m_ D) (s4 s5:Slot),pre++us=ord'->Pap92 N t b [] pre rs->
   Bn (A6 4) (Ay (BB 5^Ap Mg^AH (AR^AG 2)^AH (AR^AG 4) Ac)
 (Ci (Ae^As (NX l_) (AG 4)^As C7 (AG 2)^wC^D.int 1) (Vn 3 "list" NY^AZ (DU^AZ (wC^D.str "in")^AZ (Ap Me^AH (AR^AG 5)^AH (AR^As C7 (AG 4)^wC^D.int 0)^AH (AR^Ap Su^AH (AR^AG 1)^AH (AR^As C7 (AG 4)^wC^D.int 2) Ac) Ac) A7) A7)^Vn 3 "list" NY^AZ (DU^AZ (wC^D.str "out")^AZ (Ap Zw^AH (AR^AG 5)^AH (AR^As C7 (AG 4)^wC^D.int 0)^AH (AR^As C7 (AG 4)^wC^D.int 1) Ac) A7) A7)) {EE Pd with nx:=DJ (Sz HJ^AZ (CB 3) A7)^EE Pd} (us.map AN) n [.sh^enc N,.sh^tD t b,.sh^enc^sub N^AW N t b [] ord',.ow^.lst rs,s4,s5]:=by
  intro us
  induction us with
  |nil=>
   intro pre rs s4 s5 e hk;rw[c9]at e;exact p ord' rs o1 o2 (e▸hk)
  | cons u us ih=>
   intro pre rs s4 s5 e hk;have hu:u∈N.ts:=o1.subset (by rw[←e]; exact cW _ Op);let#[ha,hb,_,l1,l2]:=ok.tin u hu;have e':pre++[u]++us=ord':=by rw[e6]; exact e
   have hrl:rs.length<sizeLine:=by
    have h1:=hk.len;have h2:=congrArg gY e;rw[cZ,ce]at h2;lk
   have key:decide (u∈(sub N^AW N t b [] ord').ts)=!Bt (sub N^AW N t b [] pre) t b u:=by
    rw[←e]at nd ⊢;rw[dC,decide_eq_true_eq,sub_mem,Rn nd,g_];exact#[λh=>h.2,λh=>#[hu,h]]
   refine#[sub N^AW N t b [] ord',u,rfl,CD okn _,?_]
   have ea:(#[(sub N^AW N t b [] ord').ps,(sub N^AW N t b [] ord').ts.filter λv=>Ag (Ab v)^Ab u]:Net)=sub N^AW N t b [] pre:=by
    rw[←e]at nd o2 ⊢;exact LO nd o2
   rw[ea];refine#[_,AA (j:=1) rfl,Cr ok hu,(Cd ok λv hv=>(sub_mem.mp hv).1).1,_,rfl,?_];rw[Et,key];have okA:=CD okn^AW N t b [] pre;cases hn:Bt (sub N^AW N t b [] pre) t b u with
   |false=>
    refine#[_,rfl,rfl,_,AA (j:=0) rfl,_,AA (j:=2) rfl,t,b,u.len,rfl,tm,sub N^AW N t b [] pre,u.a,u.len*t / b+1,rfl,okA,ha,λF hF=>#[z2,_,_,rfl,rfl,hrl,?_]];have e0:0<=u.len*t / b:=Int.ediv_nonneg (Int.mul_nonneg (by lk)^by lk) (by lk);exact ih (pre++[u]) _ _ _ e'^hk.snoc^bG okA hn hF.far (by lk)^Int.lt_ediv_add_one_mul_self (u.len*t)^by lk
   | true=>
    refine#[_,rfl,rfl,_,AA (j:=0) rfl,_,AA (j:=1) rfl,sub N^AW N t b [] pre,u.a,u.b,rfl,okA,ha,hb,λo ho=>?_];let#[d,hd,hle]:=nearB_iff.mp hn;cases o with
    |none=>exact absurd hd.1^ho d
    |some w=>
     let#[d',r,rfl,hw1,hw2,hw3,hw4,hw5]:=ho;have ed:d'=d:=hw3.unique hd;subst ed;refine#[z2,_,_,rfl,rfl,hrl,ih (pre++[u]) _ _ _ e'^hk.snoc^.inr #[hn,u.a::r,d',rfl,#[#[r,rfl],hw1,hw2,hw4,hw5],hle]]
 exact go ord' [] [] _ _ rfl trivial)
theorem Kq:A.Y "way_fault" 4 ["net","times","tie","thing"] .sh Xe:=A.gk A.h0r ["net","times","tie","thing","length"] (λ_ nd hr=>(AB (CA 4 nd^cg hr (Fo A)^A4 0^Bk (Au (dv 2) AC)^Bk (Au (dv 2) AC)^A4 3 AF)
 (AB (Av (Bu ES G0 (dv 4) Az) (AE^AL AX) AS)
 (AE^AL^E5 (BH^cg hr (Dy A)^A4 4^A4 1^Bk (Au (dv 2) AC) AF) Az AX)))) (@λss n Pd h=>by
 let#[M,t,b,u,w,d,rfl,okm,#[b1,b2,t1,t2],hw,hle,p]:=h;refine#[_,AA (j:=0) rfl,_,AA (j:=1) rfl,M,_,_,w,d,rfl,okm,hw,#[rfl,?_]];refine#[_,AA (j:=2) rfl,d,t,b,_,rfl,b1,b2,t1,t2,?_];rw[decide_eq_true hle];exact p)
theorem G4:A.Y "prices_fault" 4 ["net","times","tie","thing"] .sh Xj:=A.gk A.h0s ["net","times","tie","thing"] (λ_ _ hr=>(AB (Av (B5^BH^cg hr (NH A)^A4 0^A4 3 AF) (AE^AL AX) AS)
 (AE^AL^E5 (BH^cg hr (Dy A)^Bk (cg hr (Fk A)^A4 0^A4 3^Bk (Au (dv 2) AC)^Bk (Au (dv 2) AC) AF)^A4 1^Bk (Au (dv 2) AC) AF) AX Az))) (@λss n Pd h=>by
 let#[M,t,b,u,g,rfl,okm,#[b1,b2,t1,t2],ha,hb,hf,hlt,p]:=h;refine#[M,g,rfl,okm,hf,?_];refine B4 #[_,AA (j:=0) rfl,_,AA (j:=1) rfl,M,g,u.a,u.b,rfl,okm,ha,hb,_,AA (j:=2) rfl,_,t,b,u.len,rfl,b1,b2,t1,t2,?_];rw[decide_eq_false^by lk];exact p)
theorem G7:A.Y "greedy_fault" 5 ["times","thin","tie","entry"] .sh Sr:=A.gk A.h0t ["times","thin","tie","entry","kept","ahead"] (λ_ nd hr=>(AB (CA 4 nd^Bb (FC hr) CM (dv 2) (Au (dv 1) AC)^by with_unfolding_all rfl)
 (AB (Av (Bu Gi Mc (dv 4)^Bb Bx DZ (Au (dv 3) AC) AX^BV _) (AE^AL AX) AS)
 (AB (CA 5 nd^cg hr (Gn A)^A4 1^A4 2 AF)
 (AE^AL^E5 (BH^dv 4) (cg hr (G4 A)^A4 5^A4 0^A4 2^Bk (Au (dv 3) AC) AF)^cg hr (Kq A)^A4 5^A4 0^A4 2^Bk (Au (dv 3) AC) AF))))) (@λss n Pd h=>by
 let#[N,t,b,pre,post,u,row,rfl,okn,tm,hp,hr,hrow,p]:=h;have ok:=okn.1;have nd:(pre++u::post).Nodup:=hp.nodup_iff.mpr^BG ok.trise;have hu:u∈N.ts:=hp.subset^cW _ Op;let#[ha,hb,_]:=ok.tin u hu
 have key:decide (u∈(sub N^AW N t b [] (pre++u::post)).ts)=!Bt (sub N^AW N t b [] pre) t b u:=by
  rw[dC,decide_eq_true_eq,sub_mem,Rn nd,g_];exact#[λh=>h.2,λh=>#[hu,h]]
 refine#[_,AA (j:=1) rfl,Cr ok hu,(Cd ok λv hv=>(sub_mem.mp hv).1).1,_,rfl,?_];rw[Et,key]
 rcases hrow with⟨hn,g,rfl,hf,hlt⟩|⟨hn,w,d,rfl,hw,hle⟩
 .rw[hn]
  refine#[_,AA (j:=0) rfl,?_];refine#[sub N^AW N t b [] (pre++u::post),u,rfl,CD okn _,?_];rw[LO nd hr];exact#[_,AA (j:=1) rfl,sub N^AW N t b [] pre,t,b,u,g,rfl,CD okn _,tm,ha,hb,hf,hlt,p]
 .rw[hn]
  refine#[_,AA (j:=0) rfl,?_];refine#[sub N^AW N t b [] (pre++u::post),u,rfl,CD okn _,?_];rw[LO nd hr];exact#[_,AA (j:=1) rfl,sub N^AW N t b [] pre,t,b,u,w,d,rfl,CD okn _,tm,hw,hle,p])
theorem FE:A.Y "is_greedy_entry" 2 ["thing"] .sh Xo:=A.gk A.h0u ["thing"] (λ_ _ hr=>(AE^AL^Ea (cg hr (CH A)^Bk AC^A4 0 AF)^D6^Bb (FC hr) CM (Au (dv 0) AC) (AV^AD AX^AD AX AJ)^by with_unfolding_all rfl)) (@λss n Pd h=>by
 let#[s,y,rfl,hs,p]:=h;have st:∀x∈[("in":Str),"out"],Ds x:=(by decide +kernel:∀x∈[("in":Str),"out"],1<=x.length/\x.length<=8/\∀c∈cs x,97<=c/\c<=122);refine#[2,_,rfl,rfl,_,AA (j:=0) rfl,z2,By (st s^by rcases hs with rfl|rfl <;>simp),CQ (ps:=["in","out"]) st,_,rfl,?_]
 rcases hs with rfl|rfl <;>exact p)
theorem IC:A.Y "lets_greedy" 6 ["net","times","thin","paper"] .sh Ud:=A.gk A.h0v ["net","times","thin","paper","number","tie","fault"] (λT nd hr=>(AB (Av (DTW.dt^Fz (B5^BH^cg hr (NG A)^A4 0^A4 2 AF)^EX^B5^BH^cg hr (CH A)^Bk (S1 T.Gad^Au (dv 0) AC)^A4 3 AF) (AE Ic) AS)
 (AB (Av (B5^BH (AY (Do rfl) KI rfl T.Gai fC (AO (GY ["entry"] [j_] (Aw^dv 3) (λnq=>Cg 0 nq) BZ^cg hr (FE A)^A4 0 AF) AT))) (AE Ic) AS)
 (AB (C9 dM rfl (UL rfl T.Gak (cg hr (DQ A)^Bk (Au (dv 0) AC) AF)) (UM^Ar (Cg 4 nd)^Ar (Cg 5 nd) Ct) (AB (CA 6 nd^cg hr (G7 A)^A4 1^A4 2^A4 5^Bk (Au (dv 3)^dv 4) AF)
 (AE^Av (Bu Kp Nk (dv 6) Az) (AE Ic) AS)))
 (AE^AL CL))))) (@λss n Pd h=>by
 let#[N,T,t,b,ord,rs,rfl,okn,tm,#[o2,q1,q2,rfl],hp,hr,hpap,p]:=h;obtain rfl:=BQ (q1.trans hp.symm) q2 hr;have ok:=okn.1;have okm:=CD okn^AW N t b [] o2;have l60:=okn.2.2;have hlen:=hpap.len;have hol:=hp.length_eq;refine#[N,_,rfl,okn,okm,rfl,λu hu=>(sub_mem.mp hu).1,?_];refine B4 #[_,AA (j:=1) rfl,_,_,rfl,rfl,_,_,rfl,by rw[FM,hlen,hol],?_];refine B4 #[by lk,?_];refine BO (λ_=>.bl k_) (λρ=>∃s,ρ=[s]) _ _ _ _ ?_ #[_,rfl] ?_
 .rintro d hd ρ n' nx ⟨s,rfl⟩ hnx
  let#[s,y,rfl,hs]:=hpap.shape d hd;exact#[s,y,rfl,hs,hnx _ #[_,rfl]]
 rw[cw];refine#[_,_,rfl,Ef (λ_=>k_) rs,?_];show if(!((rs.map λ_=>k_).all id))=k_ then _ else _
 rw[show((rs.map λ_=>k_).all id)=k_ from eg.mpr λx hx=>by let#[_,_,rfl]:=Sc.mp hx; rfl];refine B4 #[_,AA (j:=1) rfl,_,N.ts,rfl,rfl,by lk,λord' o1 o2'=>#[_,rfl,?_]];obtain rfl:=BQ (o1.trans hp.symm) o2' hr
 have go:∀(us pre:m_ Ak) (rs1 rs2:m_ D) (s4 s5 s6:Slot),pre++us=ord'->rs1++rs2=rs->rs1.length=pre.length->Pap92 N t b (AW N t b [] pre) us rs2->
   Bn (MY 2^B7 (A6 4)^B7 (A6 5) Ir) (Ay (BB 6^Ap Sr^AH (AR^AG 1)^AH (AR^AG 2)^AH (AR^AG 5)^AH (AR^As C7 (AG 3)^AG 4) Ac)^Ci (Ae^As (Ex k_) (AG 6)^wC D.non) Qe Bs) {EE Pd with nx:=DJ (wC^D.bl k_)^EE Pd} (E3 rs1.length^us.map AN) n [.sh^enc N,.sh^tD t b,.sh^enc^sub N^AW N t b [] ord',.sh^.tup rs,s4,s5,s6]:=by
  intro us
  induction us with
  |nil=>intro pre rs1 rs2 s4 s5 s6 _ _ _ _; exact p
  | cons u us ih=>
   intro pre rs1 rs2 s4 s5 s6 e1 e2 e3 hk
   match rs2,hk with
   |row::rs2,#[hrow,hk]=>
    have hat:rs[rs1.length]?=P3 row:=by rw[←e2,eP^Rs _,Nat.sub_self]; rfl
    refine#[rfl,rfl,_,AA hat,N,t,b,pre,us,u,row,by rw[e1],okn,tm,by rw[e1]; exact o1,by rw[e1]; exact o2',hrow,#[rfl,?_]]
    have:=ih (pre++[u]) (rs1++[row]) rs2 (.sh^.int (rs1.length:Int)) (.sh^AN u) (.sh .non) (by rw[e6]; exact e1) (by rw[e6]; exact e2) (by rw[cZ,cZ,e3]; rfl)^by rw[BS]; exact hk
    rw[cZ,c7]at this;exact this
 exact go ord' [] [] rs _ _ _ rfl rfl rfl hpap)
theorem BU:Md P w K mg base:=A.got A.h0x λT F _ _=>Ti F T.Gad
theorem IE:A.Y "_law_places" 2 ["_law_feed_here","_law_many"] .fr Sl:=have jg:=BU A; A.gk A.h0y ["_law_feed_here","_law_many","_law_way","_law_words","_law_first","_law_letters","_law_word","_law_at","_law_names","_law_k","_law_sign"] (λT nd hr=>(AB (CA 2 nd^cg hr jg^AQ (Bj 0)^Bk AC AF)
 (AB (CA 3 nd^DA^AD AX^AD AX^AD AX^AD AX^AD AX^AD AX^AD AX^AD AX^AD AX^AD AX^AD AX^AD AX AJ)
 (AB (Av (DTW.dt^GW (Bu Bx DZ (dv 2) AC)^F1^Bu (ER hr) Gz (dv 1) AC) (AB (CA 4 nd^cg hr jg^AQ (Bj 0)^Bk AC AF)
 (AE^AL (AY Ip O1 rfl T.Gac gG (AO (GY ["_law_words","_law_first","_law_k"] [P3 3,P3 4,j_] (DI.c (CW rfl T.Gae (AO (dv 1) AT))) (λnq=>Cg 2 nq) BZ^Au (dv 0)^Ai DV Gb (Ai Aj A1 (dv 1)^dv 2) AC) AT)))) AS)
 (AB (CA 5 nd AX)
 (AB (CA 6 nd^Zh PySem.F.plainAttrs_str PySem.F.slot_str_join PySem.F.type_str_join Tq Xb AX^AO (GY ["_law_letters","_law_feed_here","_law_k"] [P3 5,P3 0,j_] (DI.c (CW rfl T.Gae (AO AC AT))) (λnq=>Cg 2 nq) BZ^Au (dv 0)^cg hr jg^AQ (Bj 1)^Bk AC AF) AT)
 (AB (Av (DTW.dt^GW (Bu Bx DZ (dv 2) AC)^F1^Bu (ER hr) Gz (dv 1) AC) (AE^AL^GY ["_law_word","_law_k"] [P3 6,j_] (DI.c (CW rfl T.Gae (AO (dv 1) AT))) (λnq=>Cg 1 nq) BZ^Dn G2 EG (dv 0) Cs^BE^Ai Aj A1 AC^dv 1) AS)
 (AB (CA 7 nd^cg hr jg^AQ (Bj 0)^Bk AC AF)
 (AB (CA 4 nd^cg hr jg^AQ (Bj 0)^Bk AC AF)
 (AB (W3 8 nd^DA AJ)
 (AB (C9 dM rfl (CW rfl T.Gae (AO (dv 1) AT)) (Cg 9 nd) (AB (CA 10 nd^Au (dv 5)^Ai DV Gb (Ai Aj A1 (dv 4)^dv 9) AC)
 (AE^Ib 8 WM X8 X7 CO KH (pv 8)^AD (Ai Aj A1 (Ai Aj A1 (Ai Aj A1 (Dn G2 EG (dv 6) Cs^BE^dv 7)^dv 10)^Dn G2 EG (dv 6) (BE^Ai Aj A1 (dv 7) AC)^BE AC)^Ai DP Eg AX^Ai DV Gb (dv 9) AC) AJ)))
 (AE^AL (AY Ip O1 rfl T.Gac gG (AO (IY 8) AT)))))))))))))) (@λss n Pd h=>by
 let#[m,rfl,hm1,hm2,hn,p]:=h;refine#[3,rfl,by cbv,by cbv,by lk,λway hw0 hw1=>#[(by cbv:12<=sizeLine),?_]];have last:∀(n':Nat),n.n<=n'+1->(Ay (BB 5^wC^D.str "abcdefghijklmnopqrstuvwxyz")
 (Ay (BB 6^bo "str" VO (wC^D.str "")^AZ (FY [P3 5,P3 0,j_] (FV^AZ (wC^D.int 8) A7) (A6 2) HZ^As C7 (AG 0)^Ap DC^AH (Bl 1)^AH (AR^wC^D.int 26) Ac) A7)
 (Ay (Ci (Ge (Ae^As (QU l_) (AG 2)^wC^D.int 1)^Ae^As NW (AG 1)^wC^D.int 9) (DJ^FY [P3 6,j_] (FV^AZ (AG 1) A7) (A6 1) HZ^Vm MJ (AG 0) FX^FW^As B0 (wC^D.int 1)^AG 1) Bs)
 (Ay (BB 7^Ap DC^AH (Bl 0)^AH (AR^wC^D.int 7) Ac)
 (Ay (BB 4^Ap DC^AH (Bl 0)^AH (AR^wC^D.int 26) Ac)
 (Ay (Nw 8^Mn A7)
 (Ay (Mq (FV^AZ (AG 1) A7) (A6 9) (Ay (BB 10^As C7 (AG 5)^As (Zc (λ_ j=>0<j) λi j=>D.int (i % j)) (As B0 (AG 4)^AG 9)^wC^D.int 26)
 (Vn 8 "list" NY^AZ (As B0 (As B0 (As B0 (Vm MJ (AG 6) FX^FW^AG 7)^AG 10)^Vm MJ (AG 6) (FW^As B0 (AG 7)^wC^D.int 1)^FW^wC^D.int 7)^As MK (wC^D.str "z")^As (Zc (λ_ j=>0<j) λi j=>D.int (i % j)) (AG 9)^wC^D.int 2) A7)))
 (DJ^Sz NV^AZ (CB 8) A7)))))))) {nx:=λn _=>Kd.fr=.sh/\Pd .non n,rt:=Pd} #[n',n.w] [.fd,.sh^.int m,.sh^.int way,.sh^.lst^words.map .str,.no,.no,.no,.no,.no,.no,.no]:=by
  intro n' hn';refine#[rfl,8,rfl,#[by cbv,by cbv],by rw[C1]; decide,?_];refine drawn (m:=8) (by lk) λzs hz1 hz2=>?_;have hone:∀z∈zs,z.length=1:=λz hz=>(hz2 z hz).1;have hj:=Tw zs;have hl8:(Txt.join (eJ "") zs).length=8:=by rw[←CY,hj,RZ hone,hz1]
  have hc:∀c∈cs^Txt.join (eJ "") zs,97<=c/\c<=122:=λc hc=>by
   rw[hj]at hc;let#[z,hz,hcz]:=dk.mp hc;exact(hz2 z hz).2 c hcz
  refine#[_,_,zs,rfl,rfl,F8 zs,by rw[Lm zs hone,show(eJ "").length=0 from rfl]; omega,by lk,?_];generalize Txt.join (eJ "") zs=x at hl8 hc;have hx8:(cs x).length=8:=by rw[CY,hl8]
  have tail:∀(n2:Nat),n'<=n2+8->(Ay (BB 7^Ap DC^AH (Bl 0)^AH (AR^wC^D.int 7) Ac)
 (Ay (BB 4^Ap DC^AH (Bl 0)^AH (AR^wC^D.int 26) Ac)
 (Ay (Nw 8^Mn A7)
 (Ay (Mq (FV^AZ (AG 1) A7) (A6 9) (Ay (BB 10^As C7 (AG 5)^As (Zc (λ_ j=>0<j) λi j=>D.int (i % j)) (As B0 (AG 4)^AG 9)^wC^D.int 26)
 (Vn 8 "list" NY^AZ (As B0 (As B0 (As B0 (Vm MJ (AG 6) FX^FW^AG 7)^AG 10)^Vm MJ (AG 6) (FW^As B0 (AG 7)^wC^D.int 1)^FW^wC^D.int 7)^As MK (wC^D.str "z")^As (Zc (λ_ j=>0<j) λi j=>D.int (i % j)) (AG 9)^wC^D.int 2) A7)))
 (DJ^Sz NV^AZ (CB 8) A7))))) {nx:=λn _=>Kd.fr=.sh/\Pd .non n,rt:=Pd} #[n2,n.w] [.fd,.sh^.int m,.sh^.int way,.sh^.lst^words.map .str,.no,.sh^.str El,.sh^.str x,.no,.no,.no,.no]:=by
   intro n2 hn2;refine#[7,rfl,by cbv,by cbv,(by show 1<=n2; omega),λa ha0 ha1=>#[26,rfl,by cbv,by cbv,(by show 1<=n2 - 1; omega),λfirst hf0 hf1=>#[(by cbv:0<=sizeLine),(m:Int),rfl,#[by lk,by lk],?_]]];obtain⟨a,rfl⟩:∃q:Nat,a=(q:Int):=#[a.toNat,by lk];obtain⟨f,rfl⟩:∃q:Nat,first=(q:Int):=#[first.toNat,by lk]
   have ha7:a<7:=by lk
   refine Dl (all:=EI 0 ((m:Int)).toNat) (λpre n3 ρ=>n3=#[n2 - 1 - 1,n.w]/\∃s9 s10,ρ=[.fd,.sh^.int m,.sh^.int way,.sh^.lst^words.map .str,.sh^.int f,.sh^.str El,.sh^.str x,.sh^.int a,.ow^.lst^((dA pre.length).map λk=>nameAt x a f k).map .str,s9,s10]) ?_ ?_ _ [] _ _ rfl #[rfl,_,_,rfl]
   .rintro n3 ρ ⟨rfl,s9,s10,rfl⟩
    have el:(EI 0 ((m:Int)).toNat).length=m:=by rw[C1]; omega
    refine#[_,_,rfl,F8 _,by rw[FM,fJ,el]; omega,λss' hp hs=>p ss' _ ?_ ?_ ?_^by lk]
    .rw[hp.length_eq,FM,fJ,el]
    .intro y hy
     let#[k,_,rfl]:=Sc.mp^hp.mem_iff.mp hy;exact L5 hl8 hc ha7
    .refine CZ hs^hp.nodup_iff.mpr^GO List.nodup_range λj hj k hk e=>?_
     rw[el]at hj hk;exact NJ hl8 ha7 hm2 (d8.mp hj) (d8.mp hk) e
   .rintro pre d post n3 ρ nx hall ⟨rfl,s9,s10,rfl⟩ hnx
    clear hn hn' hn2 hw0 hw1;let#[rfl,hk]:=N9 hall;have epre:(pre++[D.int (0+(pre.length:Int))]).length=pre.length+1:=by rw[cZ,c7]
    rw[epre]at hnx;generalize pre.length=k at hk hnx ⊢;have hlt:(f+k) % 26<26:=i9 _ (by cbv);have ei:((f:Int)+(0+(k:Int))) % 26=(((f+k) % 26:Nat):Int):=by lk
    have ek:(0+(k:Int)) % 2=(k:Int) % 2:=by lk
    let#[hz0,hz1,_]:=Y8 (r:=(0+(k:Int)) % 2) (by lk);have l1:=Txt.slice_le x j_^P3 (a:Int);have l2:=Txt.slice_le x (P3 ((a:Int)+1))^P3 7;have la:=iu (Txt.slice x j_^P3 (a:Int)) #[#[ 97+(f+k) % 26]];have lb:=iu (Txt.slice x j_^P3 (a:Int)++#[#[ 97+(f+k) % 26]])^Txt.slice x (P3 ((a:Int)+1))^P3 7;have ls:(#[#[ 97+(f+k) % 26]]:Str).length=1:=rfl;have hsz:=PySem.sizeLine_eq;refine#[by show(0:Int)<26; decide,97+(f+k) % 26,by rw[ei]; exact AA^IJ _ hlt,?_];refine#[_,rfl,rfl,by lk,by lk,by show(0:Int)<2; decide,hz0,by lk,by lk,?_];refine#[_,_,rfl,rfl,by rw[FM,FM,fJ]; omega,hnx _ _ #[rfl,.sh^.int (0+(k:Int)),.sh^.str #[#[ 97+(f+k) % 26]],?_]];rw[ek,List.range_succ,dD,dD];rfl
  refine B_ (λc1=>B_ (λc2=>?_) λc2=>tail (n' - 8)^by lk) λc1=>B_ (λc2=>absurd c2^by cbv) λ_=>tail (n' - 8)^by lk
  have hm9:m<9:=by
   have:(m:Int)<9:=of_decide_eq_true c2
   lk
  refine#[(m:Int),rfl,#[by lk,by lk],by rw[C1]; omega,?_];refine FI (g:=λd=>match d with|.int k=>.str^Txt.slice x j_^P3 (1+k)|_=>.non) (λρ=>∃s,ρ=[.sh^.str x,s]) ?_ _ _ _ _ ?_ #[_,rfl] ?_
  .rintro d ρ ⟨s,rfl⟩
   exact#[_,rfl]
  .rintro d hd ρ n' P' ⟨s,rfl⟩ hp
   let#[k,hk,rfl]:=Lr hd;exact hp
  .have e:[]++(EI 0 ((m:Int)).toNat).map (λd=>match d with|.int k=>D.str^Txt.slice x j_^P3 (1+k)|_=>.non)=((dA m).map λk:Nat=>Txt.slice x j_^P3 (1+(k:Int))).map .str:=by
    unfold EI;rw[cw,ej,ej,gJ];refine gc λk _=>?_
    have:(0+(k:Int))=k:=by lk
    simp only[Function.comp,this]
   have ct:∀k:Nat,k<m->cs^Txt.slice x j_^P3 (1+(k:Int))=(cs x).take (1+k):=λk hk=>by
    rw[VT (by lk)^by lk,show(1+(k:Int)).toNat=1+k by lk]
   rw[e];refine p _ _ (by rw[FM,fJ]) ?_ ?_^by lk
   .intro y hy
    let#[k,hk,rfl]:=Sc.mp hy;have hk:=d8.mp hk
    have hl:(Txt.slice x j_^P3 (1+(k:Int))).length=1+k:=by
     rw[←CY,ct k hk,fA,hx8]; omega
    exact#[by lk,by lk,λc h=>hc c^List.mem_of_mem_take^by rw[←ct k hk]; exact h]
   .unfold rising
    rw[hX];refine List.Pairwise.imp_of_mem ?_ List.pairwise_lt_range;intro i j hi hj hij;rw[ct i^d8.mp hi,ct j^d8.mp hj];exact N4 _ _ _ (by lk)^by rw[hx8]; have:=d8.mp hj; omega
 refine B_ (λc1=>B_ (λc2=>?_) λc2=>last (n.n - 1)^by lk) λc1=>B_ (λc2=>absurd c2^by cbv) λ_=>last (n.n - 1)^by lk
 have hm13:m<13:=by
  have:(m:Int)<13:=of_decide_eq_true c2
  lk
 refine#[12,rfl,by cbv,by cbv,(by show 1<=n.n - 1; omega),λfirst h0 h1=>?_];obtain⟨f,rfl⟩:∃f:Nat,first=(f:Int):=#[first.toNat,by lk]
 refine#[(m:Int),rfl,#[by lk,by lk],by rw[C1]; omega,?_];refine FI (g:=λd=>match d with|.int k=>.str^wordAt ((f+k.toNat) % 12)|_=>.non) (λρ=>∃s,ρ=[.sh^.lst^words.map .str,.sh^.int f,s]) ?_ _ _ _ _ ?_ #[_,rfl] ?_
 .rintro d ρ ⟨s,rfl⟩
  exact#[_,rfl]
 .rintro d hd ρ n' P' ⟨s,rfl⟩ hp
  let#[k,hk,rfl]:=Lr hd;refine#[by show(0:Int)<12; decide,D.str^wordAt ((f+k) % 12),?_,?_]
  .have hlt:(f+k) % 12<12:=i9 _^by cbv
   have ei:((f:Int)+(0+(k:Int))) % 12=(((f+k) % 12:Nat):Int):=by lk
   rw[ei];exact AA^by rw[cX,Qa _ hlt]; rfl
  .have e:(0+(k:Int)).toNat=k:=by lk
   simp only[e]at hp;exact hp
 .have e:[]++(EI 0 ((m:Int)).toNat).map (λd=>match d with|.int k=>D.str^wordAt ((f+k.toNat) % 12)|_=>.non)=((dA m).map λk=>wordAt ((f+k) % 12)).map .str:=by
   unfold EI;rw[cw,ej,ej,gJ];refine gc λk _=>?_
   have:(0+(k:Int)).toNat=k:=by lk
   simp only[Function.comp,this]
  refine#[_,(dA m).map λk=>wordAt ((f+k) % 12),rfl,by rw[e]; exact F8 _,by rw[FM,fJ]; omega,λss' hp hs=>p ss' _ ?_ ?_ ?_^by show n.n<=n.n - 1 - 1+11; omega]
  .rw[hp.length_eq,FM,fJ]
  .intro x hx
   let#[k,_,rfl]:=Sc.mp^hp.mem_iff.mp hx;exact Ml _^i9 _^by cbv
  .refine CZ hs^hp.nodup_iff.mpr^GO List.nodup_range λj hj k hk e=>?_
   exact Tr (M:=12) (by lk) (d8.mp hj) (d8.mp hk)^O8 _ _ (i9 _^by cbv) (i9 _^by cbv) e)
theorem JE:A.Y "_law_times" 2 ["_law_feed_here"] .sh Nm:=A.gk A.h0z ["_law_feed_here","_law_bottom"] (λ_ nd hr=>(AB (CA 1 nd^Ai Aj A1 AC^cg hr (BU A)^AQ (Bj 0)^Bk AC AF)
 (AE^AL^AV^AD (Ai Aj A1 (dv 1)^cg hr (BU A)^AQ (Bj 0)^Bk (Ai DP Eg AC^dv 1) AF)^AD (dv 1) AJ))) (@λss n Pd h=>by
 let#[rfl,hn,p]:=h;refine#[4,rfl,by cbv,by cbv,by lk,λb b0 b1=>?_];refine#[.inr (by constructor <;>lk),3*(1+b),rfl,by lk,by lk,(by show 1<=n.n - 1; omega),λt t0 t1=>#[z2,p (1+b+t) (1+b) (by refine#[?_,?_,?_,?_] <;>lk)^by lk]])
theorem GN:A.Y "_law_in_order" 1 ["_law_ties"] .fr Sm:=A.gk A.h10 ["_law_ties"] (λT _ hr=>(AE^AL^GY ["_law_length","_law_one","_law_other"] [j_,j_,j_] (Aw (AY FR LQ rfl T.Gac gG (AO (GY ["_law_tie"] [j_] (Aw^IY 0) (λnq=>Cg 0 nq) BZ^AV^AD (Au (dv 0) AC)^AD (Au (dv 0) AC)^AD (Au (dv 0) AC) AJ) AT))) (λnq=>UM^Ar (Cg 0 nq)^Ar (Cg 1 nq)^Ar (Cg 2 nq) Ct) BZ^AV^AD (dv 1)^AD (dv 2)^AD (dv 0) AJ)) (@λss n Pd h=>by
 let#[ts,rfl,h64,p]:=h;have szl:=PySem.sizeLine_eq
 have go:(ts.map AN).length<=10000000/\Co (A6 0) HZ (DU^AZ (As C7 (AG 0)^wC^D.int 2)^AZ (As C7 (AG 0)^wC^D.int 0)^AZ (As C7 (AG 0)^wC^D.int 1) A7) (λacc n2=>R8 [.lst acc] λz=>Hb (wC z) n2 [] λds n1=>ds.length<=10000000/\Co (MY 3^B7 (A6 0)^B7 (A6 1)^B7 (A6 2) Ir) HZ (DU^AZ (AG 1)^AZ (AG 2)^AZ (AG 0) A7) (λacc n2=>Pd (.lst acc) n2) ds [] n1 [.no,.no,.no]) (ts.map AN) [] n [.no]:=by
  refine#[by rw[FM]; omega,?_];refine BO Lu (λρ=>∃s,ρ=[s]) _ _ _ _ ?_ #[_,rfl] ?_
  .rintro d hd ρ m nx ⟨s,rfl⟩ hnx
   let#[t,ht,rfl]:=Sc.mp hd;exact#[_,AA (j:=2) rfl,_,AA (j:=0) rfl,_,AA (j:=1) rfl,z3,hnx _ #[_,rfl]]
  rw[cw,ej];refine#[_,_,rfl,rfl,by rw[FM]; exact h64,#[λx hx=>?_,λx hx y hy ka kb ea eb=>?_],λxs' hp ho=>?_]
  .let#[t,_,rfl]:=Sc.mp hx
   exact#[Ab t,rfl,eO _ _]
  .let#[t,_,rfl]:=Sc.mp hx
   let#[u,_,rfl]:=Sc.mp hy;cases(show P3^Ab t=P3 ka from ea);cases(show P3^Ab u=P3 kb from eb);rfl
  .let#[ts',h1,rfl]:=Nx (f:=Lu∘AN) (g:=λd=>match d with|.tup [.int l,.str a,.str b]=>#[a,b,l]|_=>#["","",0]) (λ_=>rfl) hp
   have ho:Bv ts':=by
    unfold GA at ho;rw[hX]at ho;exact ho.imp λ{s t} z=>z _ _ rfl rfl
   refine#[by show(ts'.map (Lu∘AN)).length<=10000000; rw[FM,h1.length_eq]; omega,?_];refine BO (λd=>match d with|.tup [l,a,b]=>.tup [a,b,l]|d=>d) (λρ=>∃a b c,ρ=[a,b,c]) _ _ _ _ ?_ #[_,_,_,rfl] ?_
   .rintro d hd ρ m nx ⟨a,b,c,rfl⟩ hnx
    let#[t,ht,rfl]:=Sc.mp hd;exact#[rfl,rfl,z3,hnx _ #[_,_,_,rfl]]
   .rw[cw,ej]
    exact p ts' h1 ho
 exact go)
theorem DY:A.Y "_law_least" 1 ["_law_ties","_law_place"] .fr Sq:=A.gk A.h11 ["_law_ties","_law_place","_law_known","_law_going","_law_one","_law_other","_law_length","_law_here","_law_there","_law_reach"] (λ_ nd hr=>(AB (W3 2 nd^MQ (dv 1) AC)
 (AB (CA 3 nd CL)
 (AB (IZ dM (BH^dv 3) (AB (CA 3 nd CL)
 (AE (UH dM rfl (pv 0) (UM^Ar (Cg 4 nd)^Ar (Cg 5 nd)^Ar (Cg 6 nd) Ct) (AE (C9 dM rfl (LB^DA^AD (AV^AD (dv 4)^AD (dv 5) AJ)^AD (AV^AD (dv 5)^AD (dv 4) AJ) AJ) (UM^Ar (Cg 7 nd)^Ar (Cg 8 nd) Ct) (AE (Av (Bu (NE hr) Si (dv 7)^IY 2) (AB (CA 9 nd^Ai Aj A1 (Bq hr (IY 2)^dv 7)^dv 6)
 (AE (Av (Bu (ER hr) Gz (dv 9)^UP hr (IY 2) (dv 8)^Ai Aj A1 (dv 9) AC) (AB (LA (i:=2) hr (pv 2) (dv 8)^dv 9)
 (AE^CA 3 nd CL)) AS))) AS))))))))
 (AE^Om 2^pv 2))))) (@λss n Pd h=>by
 let#[N,s,zz,us,rfl,hzz,hus,okn,hs,p]:=h;have szl:=PySem.sizeLine_eq;have ok:=okn.1;have l25:=okn.2.1;refine#[_,Al s,?_]
 have step:∀(D3:E2) (x y:Str) (l:Int),Ed N x y l->∀(ks:m_ Key) (ds:m_ D) (K:Kn) (g:Bool) (s4 s5 s7 s8 s9:Slot),Dmap ks ds D.int K->Bf N s ks.length K->
   (∀(ks':m_ Key) (ds':m_ D) (K':Kn) (g':Bool) (t7 t8 t9:Slot),Dmap ks' ds' D.int K'->Bf N s ks'.length K'->((g'=g/\K'=K/\Hg K (x,y,l))\/(g'=k_/\QT N.ps K'<QT N.ps K))->
    D3.nx n [.br zz,.sh^.str s,.ow^.dic ks' ds',.sh^.bl g',s4,s5,.sh^.int l,t7,t8,t9])->
   (Ci (Ae^As (QA l_) (AG 7)^CB 2) (Ay (BB 9^As B0 (As Fy (CB 2)^AG 7)^AG 6)
 (Ci (Ae^As NW (AG 9)^Qg (CB 2) (AG 8)^As B0 (AG 9)^wC^D.int 1) (Ay (JS 2 (AG 8)^AG 9)
 (BB 3^wC^D.bl k_)) Bs)) Bs) D3 n [.br zz,.sh^.str s,.ow^.dic ks ds,.sh^.bl g,s4,s5,.sh^.int l,.sh^.str x,.sh^.str y,s9]:=by
  intro D3 x y l he ks ds K g s4 s5 s7 s8 s9 M B hD;have kl:=M.le B.ins;refine#[ks,ds,_,rfl,Al x,?_];show if((BA ks ds^.inr x).isSome)=k_ then _ else _
  cases ex:K x with
  |none=>
   rw[M.at_,ex];exact B4^hD ks ds K g _ _ _ M B^.inl #[rfl,rfl,λd e=>by rw[show K x=P3 d from e]at ex; cases ex]
  | some d=>
   rw[M.at_,ex];refine CU #[ks,ds,_,_,rfl,Al x,by rw[M.at_,ex]; rfl,?_];refine#[ks,ds,rfl,_,Al y,?_]
   have put:(K y=j_\/∃d',K y=P3 d'/\d+l<d')->(Ay (JS 2 (AG 8)^AG 9)^BB 3^wC^D.bl k_) D3 n [.br zz,.sh^.str s,.ow^.dic ks ds,.sh^.bl g,s4,s5,.sh^.int l,.sh^.str x,.sh^.str y,.sh^.int (d+l)]:=λhy=>by
    refine#[ks,ds,rfl,_,Al y,by lk,?_];have hlen:=Hw ks^.inr y
    have key:=B.put ok (c':=(Ck ks^.inr y).length) (by rw[hlen]; split <;>lk) (by rw[hlen]; split <;>lk) ex he (λe=>by rw[hlen,if_neg^by rw[(M.has (x:=y)).1 e]; decide]) (λd' e=>by
     rcases hy with hy|⟨d2,hy,hlt⟩
     .rw[e]at hy; cases hy
     .rw[e]at hy; cases hy; exact hlt)
    exact hD _ _ _ k_ _ _ _ (M.put y (d+l)) key.1^.inr #[rfl,key.2]
   rw[M.at_];cases ey:K y with
   |none=>
    show if decide (d+l<d+l+1)=k_ then _ else _
    rw[decide_eq_true^by lk];exact CU^put^.inl ey
   | some d'=>
    show if decide (d+l<d')=k_ then _ else _
    by_cases c:d+l<d'
    .rw[decide_eq_true c]
     exact CU^put^.inr #[d',ey,c]
    .rw[decide_eq_false c]
     refine B4^hD ks ds K g _ _ _ M B^.inl #[rfl,rfl,λd2 e=>?_];rw[show K x=P3 d2 from e]at ex;cases ex;exact#[d',ey,by show d'<=d+l; omega]
 refine GF (λm n' ρ=>n'=n/\∃(ks:m_ Key) (ds:m_ D) (K:Kn) (g:Bool) (s4 s5 s6 s7 s8 s9:Slot),ρ=[.br zz,.sh^.str s,.ow^.dic ks ds,.sh^.bl g,s4,s5,s6,s7,s8,s9]/\Dmap ks ds D.int K/\Bf N s ks.length K/\((g=k_/\m=QT N.ps K+1)\/(g=l_/\m=0/\∀t∈N.ts,Hg K (t.a,t.b,t.len)/\Hg K (t.b,t.a,t.len)))) _ #[rfl,_,_,_,k_,_,_,_,_,_,_,rfl,Dmap.one (enc:=D.int) (a:=(0:Int)),Bf.init hs,.inl #[rfl,rfl]] ?_ ?_
 .rintro m n' ρ N' ⟨rfl,ks,ds,K,g,s4,s5,s6,s7,s8,s9,rfl,M,B,hg⟩ hN
  rcases hg with⟨rfl,hm⟩|⟨rfl,_,ht⟩
  .have outer:∀(rest done:m_ Ak) (ks:m_ Key) (ds:m_ D) (K':Kn) (g:Bool) (s4 s5 s6 s7 s8 s9:Slot),done++rest=us->Dmap ks ds D.int K'->Bf N s ks.length K'->((g=k_/\QT N.ps K'<QT N.ps K)\/(g=l_/\QT N.ps K'<=QT N.ps K/\∀t∈done,Hg K' (t.a,t.b,t.len)/\Hg K' (t.b,t.a,t.len)))-> Bn (MY 3^B7 (A6 4)^B7 (A6 5)^B7 (A6 6) Ir) (Mq (Hb^Mn^AZ (DU^AZ (AG 4)^AZ (AG 5) A7)^AZ (DU^AZ (AG 5)^AZ (AG 4) A7) A7) (MY 2^B7 (A6 7)^B7 (A6 8) Ir) (Ci (Ae^As (QA l_) (AG 7)^CB 2) (Ay (BB 9^As B0 (As Fy (CB 2)^AG 7)^AG 6) (Ci (Ae^As NW (AG 9)^Qg (CB 2) (AG 8)^As B0 (AG 9)^wC^D.int 1) (Ay (JS 2 (AG 8)^AG 9) (BB 3^wC^D.bl k_)) Bs)) Bs)) {EF Pd with nx:=N',ct:=N',bk:=Qd 2^EF Pd} (rest.map AN) n' [.br zz,.sh^.str s,.ow^.dic ks ds,.sh^.bl g,s4,s5,s6,s7,s8,s9]:=by
    intro rest
    induction rest with
    |nil=>
     intro done ks ds K' g s4 s5 s6 s7 s8 s9 e M B hg;rw[c9]at e;subst e
     rcases hg with⟨rfl,hlt⟩|⟨rfl,_,ht⟩
     .exact hN (QT N.ps K'+1) _ _ (by lk) #[rfl,ks,ds,K',k_,_,_,_,_,_,_,rfl,M,B,.inl #[rfl,rfl]]
     .exact hN 0 _ _ (by lk) #[rfl,ks,ds,K',l_,_,_,_,_,_,_,rfl,M,B,.inr #[rfl,rfl,λt h=>ht t^(hus t).mpr h]]
    | cons t rest ih=>
     intro done ks ds K' g s4 s5 s6 s7 s8 s9 e M B hg;have hmem:t∈N.ts:=(hus t).mp (by rw[←e]; exact cW _ Op);have e':(done++[t])++rest=us:=by rw[e6]; exact e
     have ed:=HL hmem;refine#[rfl,rfl,z2,z2,z2,?_];refine#[rfl,rfl,?_];refine step _ t.a t.b t.len ed.1 ks ds K' g _ _ s7 s8 s9 M B λks1 ds1 K1 g1 t7 t8 t9 M1 B1 h1=>?_;refine#[rfl,rfl,?_];refine step _ t.b t.a t.len ed.2 ks1 ds1 K1 g1 _ _ t7 t8 t9 M1 B1 λks2 ds2 K2 g2 u7 u8 u9 M2 B2 h2=>?_;refine ih (done++[t]) ks2 ds2 K2 g2 _ _ _ _ _ _ e' M2 B2 ?_
     rcases h1 with⟨rfl,rfl,t1⟩|⟨rfl,lt1⟩
     .rcases h2 with⟨rfl,rfl,t2⟩|⟨rfl,lt2⟩
      .rcases hg with z|⟨z1,z2,z3⟩
       .exact .inl z
       .refine .inr #[z1,z2,λu hu=>?_]
        rcases cn.mp hu with hu|hu
        .exact z3 u hu
        .rw[On.mp hu]; exact#[t1,t2]
      .refine .inl #[rfl,?_]
       rcases hg with⟨_,z⟩|⟨_,z,_⟩ <;>lk
     .have base:QT N.ps K1<QT N.ps K:=by rcases hg with⟨_,z⟩|⟨_,z,_⟩ <;>lk
      rcases h2 with⟨rfl,rfl,t2⟩|⟨rfl,lt2⟩
      .exact .inl #[rfl,base]
      .exact .inl #[rfl,by lk]
   exact#[zz,_,rfl,hzz,outer us [] ks ds K l_ _ _ _ _ _ _ rfl M B (.inr #[rfl,Rs _,λt h=>by cases h])]
  .exact#[_,rfl,p ks ds K M^B.told ok (by have:=M.le B.ins; omega) ht]
 .rintro n' ρ P Q hPQ h
  unfold Ae AG at h ⊢
  split at h
  .rename_i d hd
   cases d with
   |bl b=>exact hPQ _ _ h
   |_=>exact h.elim
  .exact h.elim)
theorem ID:A.Y "_law_within" 2 ["_law_net","_law_times_here","_law_thin"] .sh Xd:=A.gk A.h12 ["_law_net","_law_times_here","_law_thin","_law_place","_law_wide","_law_known","_law_other"] (λ_ nd hr=>(AB (C9 dM rfl (LB^Au (dv 0) AC) (Cg 3 nd) (AB (CA 4 nd^SO^cg hr (DY A)^AQ (DB^Au (dv 0) AC)^A4 3 AF)
 (AB (CA 5 nd^SO^cg hr (DY A)^AQ (DB^Au (dv 2) AC)^A4 3 AF)
 (AE (C9 dM rfl (UK^dv 4) (Cg 6 nd) (AE^Av (DTW.dt^Fz (Bu (Di hr) Eh (dv 6)^dv 5)^EX^Bu RX VY (Ai DP Eg (Bq hr (dv 5)^dv 6)^Au (dv 1) AC)^Ai DP Eg (Bq hr (dv 4)^dv 6)^Au (dv 1) AC) (AE^AL CL) AS))))))
 (AE^AL CL))) (@λss n Pd h=>by
 let#[N,T0,t,b,rfl,okn,#[b1,b2,t1,t2],bt,hT,p]:=h;have hw:=λ{x y:Str}{d:Int}=>Vk okn b1 bt hT (x:=x) (y:=y) (d:=d);let#[ord,o1,o2,rfl]:=hT;have okm:=CD okn^AW N t b [] ord;have szl:=PySem.sizeLine_eq;refine#[_,AA (j:=0) rfl,?_];refine Dl (all:=N.ps.map D.str) (λpre m ρ=>m=n/\∃s3 s4 s5 s6,ρ=[.sh^enc N,.sh^tD t b,.sh^enc^sub N^AW N t b [] ord,s3,s4,s5,s6]) ?_ ?_ _ [] _ _ rfl #[rfl,_,_,_,_,rfl]
 .rintro m ρ ⟨rfl,s3,s4,s5,s6,rfl⟩
  exact p
 .rintro pre d post m ρ nx hall ⟨rfl,s3,s4,s5,s6,rfl⟩ hnx
  have hd:d∈N.ps.map D.str:=by rw[hall]; exact cW _ Op
  let#[s,hs,rfl]:=Sc.mp hd;refine#[_,AA (j:=1) rfl,N,s,_,N.ts,rfl,rfl,λ_=>Iff.rfl,okn,hs,λks ds K Mp T=>#[ks,ds,rfl,Jr Mp,?_]];refine#[_,AA (j:=1) rfl,sub N^AW N t b [] ord,s,_,_,rfl,rfl,λ_=>Iff.rfl,okm,hs,λks' ds' K' Mp' T'=>#[ks',ds',rfl,Jr Mp',?_]];refine#[ks,ds,rfl,λk hk=>?_,?_]
  .let#[x,rfl]:=Mp.dom k hk
   have:=(okn.1.names x^T.ins x^(Mp.mem x).mp hk).2.1
   show x.length<=sizeLine;lk
  refine Dl (all:=ks.map S2) (λpre m' ρ=>m'=m/\∃s6,ρ=[.sh^enc N,.sh^tD t b,.sh^enc^sub N^AW N t b [] ord,.sh^.str s,.sh^.fdi ks ds,.sh^.fdi ks' ds',s6]) ?_ ?_ _ [] _ _ rfl #[rfl,_,rfl]
  .rintro m' ρ ⟨rfl,s6,rfl⟩
   exact hnx _ _ #[rfl,_,_,_,_,rfl]
  .rintro pre' d' post' m' ρ nx' hall' ⟨rfl,s6,rfl⟩ hnx'
   have hd':d'∈ks.map S2:=by rw[hall']; exact cW _ Op
   let#[k,hk,rfl]:=Sc.mp hd';let#[x,rfl]:=Mp.dom k hk;have hx:=(Mp.mem x).mp hk;have fin:=hnx' m' _ #[rfl,.sh^.str x,rfl];cases ek:K x with
   |none=>exact absurd ek hx
   | some d=>
    let#[d1,w1,h1]:=hw (T.least x d ek).1;cases ek':K' x with
    |none=>exact absurd ek'^T'.all x d1 w1
    |some d'=>
     have le:=(T'.least x d' ek').2 d1 w1;have hle:d'*b<=d*t:=Int.le_trans (Y9 le^by lk) h1;have v1:BA ks ds^.inr x=P3^.int d:=by rw[Mp.at_,ek]; rfl
     have v2:BA ks' ds'^.inr x=P3^.int d':=by rw[Mp'.at_,ek']; rfl
     refine#[_,_,_,rfl,Al x,?_];rw[v2];refine B4 #[_,_,_,_,rfl,Al x,v2,_,AA (j:=1) rfl,.inr #[by lk,by lk],_,_,_,_,rfl,Al x,v1,_,AA (j:=0) rfl,.inr #[by lk,by lk],?_];exact B_ (λc=>absurd (of_decide_eq_true c:d*t<d'*b)^by lk) λ_=>fin)
theorem Kv:A.Y "_law_deed" 2 ["_law_feed_here","_law_names"] .sh O6:=have jg:=BU A; A.gk A.h13 ["_law_feed_here","_law_names","_law_way","_law_one","_law_other"] (λT nd hr=>(AB (CA 2 nd^cg hr jg^AQ (Bj 0)^Bk AC AF)
 (AB (CA 3 nd^Au (dv 1)^cg hr jg^AQ (Bj 0)^Bk (S1 T.Gad^dv 1) AF)
 (AB (CA 4 nd^Au (dv 1)^cg hr jg^AQ (Bj 0)^Bk (S1 T.Gad^dv 1) AF)
 (AB (Av (Bu (ER hr) Gz (dv 2) AC) (AE^AL^AV^AD AX^AD (dv 3) AJ) AS)
 (AB (Av (Bu Bx DZ (dv 2) AC) (AE^AL^AV^AD AX^AD (dv 3) AJ) AS)
 (AB (Av (Bu Bx DZ (dv 2) AC) (AE^AL^AV^AD AX^AD (dv 3)^AD (dv 4) AJ) AS)
 (AE^AL^AV^AD AX^AD (dv 3)^AD (dv 4)^AD (Ai Aj A1 AC^cg hr jg^AQ (Bj 0)^Bk (Au (DA^AD AC^AD AC^AD (Ai RU Gb AC AC) AJ)^cg hr jg^AQ (Bj 0)^Bk AC AF) AF) AJ)))))))) (@λss n Pd h=>by
 let#[ps,rfl,l7,hN,hn,p]:=h
 have at7:∀r:Int,0<=r->r<7->∃x∈ps,atI (ps.map D.str) r=P3^.str x:=λr h0 h1=>by
  obtain⟨k,rfl⟩:∃k:Nat,r=(k:Int):=#[r.toNat,by lk];have hk:k<ps.length:=by lk
  exact#[ps[k],dY hk,AA^by rw[cX,No hk]; rfl]
 have len:((ps.map D.str).length:Int)=7:=by rw[FM,l7]; rfl
 refine#[10,rfl,by cbv,by cbv,by lk,λway w0 w1=>?_];refine#[_,_,rfl,rfl,(ps.map D.str).length,rfl,by lk,by lk,(by show 1<=n.n - 1; omega),λr r0 r1=>?_];rw[len]at r1;let#[x,hx,ex]:=at7 r r0 r1;refine#[_,ex,?_];refine#[_,_,rfl,rfl,(ps.map D.str).length,rfl,by lk,by lk,(by show 1<=n.n - 1 - 1; omega),λq q0 q1=>?_];rw[len]at q1;let#[y,hy,ey]:=at7 q q0 q1;refine#[_,ey,?_];have nx:=hN x hx;have ny:=hN y hy;refine B_ (λc=>#[z2,p (.come x) (n.n - 1 - 1 - 1) nx (λz e=>by cases e; exact hx)^by lk]) λc1=>?_;refine B_ (λc=>#[z2,p (.go x) (n.n - 1 - 1 - 1) nx (λz e=>by cases e)^by lk]) λc2=>?_;refine B_ (λc=>#[z3,p (.take x y) (n.n - 1 - 1 - 1) #[nx,ny] (λz e=>by cases e)^by lk]) λc3=>?_;refine#[#[by cbv,by cbv],z3,3,rfl,by cbv,by cbv,(by show 1<=n.n - 1 - 1 - 1; omega),λk k0 k1=>?_]
 obtain⟨v,v0,v1,ev⟩:∃v:Int,1<=v/\v<=1000000/\atI [D.int 6,.int 6,.int (10 ^ 6)] k=P3^.int v:=by
  rcases(show k=0\/k=1\/k=2 by lk)with rfl|rfl|rfl
  .exact#[6,by cbv,by cbv,rfl]
  .exact#[6,by cbv,by cbv,rfl]
  .exact#[10 ^ 6,by cbv,by cbv,rfl]
 refine#[_,ev,v,rfl,v0,by lk,(by show 1<=n.n - 1 - 1 - 1 - 1; omega),λl l0 l1=>#[(by cbv:4<=sizeLine),?_]];exact p (.lay x y (1+l)) (n.n - 1 - 1 - 1 - 1 - 1) #[#[nx,ny],by lk,by lk] (λz e=>by cases e)^by lk)
theorem Bh:A.Z "turn_to" 6 ["self","net"] .sh^O4 C:=A.gm A.h1a ["self","net","before"] (λ_ nd hr=>(AB (CA 2 nd^Ba A.cl_Keeper A.na_Keeper_kept^dv 0)
 (AB (Ie A.cl_Keeper A.na_Keeper_whole (dv 0)^dv 1)
 (AB (Ie A.cl_Keeper A.na_Keeper_kept (dv 0)^cg hr (IA A)^A4 1^Bk (Ba A.cl_Keeper A.na_Keeper_times^dv 0) AF)
 (AE^AL^AV^AD (Oq^cg hr (Gk A)^Bk (Ba A.cl_Keeper A.na_Keeper_kept^dv 0)^A4 2 AF)^AD (Oq^cg hr (Gk A)^A4 2^Bk (Ba A.cl_Keeper A.na_Keeper_kept^dv 0) AF) AJ))))) (@λss n Pd h=>by
 let#[a,t,b,N0,M,N,rfl,hw,ok,ok2,tm,p]:=h;refine#[a,_,_,_,rfl,hw,rfl,?_];refine#[MM N,a,_,_,rfl,hw,by cbv,?_];refine#[a,_,_,tD t b,rfl,Du _ _ _,rfl,N,t,b,rfl,ok,tm.1,tm.2.1,tm.2.2.1,tm.2.2.2,λord o1 o2=>?_];have hT:IsT N t b^sub N^AW N t b [] ord:=#[ord,o1,o2,rfl];generalize sub N^AW N t b [] ord=T at hT;have okT:=hT.okN ok;refine#[MM T,a,_,_,rfl,Du _ _ _,by cbv,?_];rw[Ke];refine#[a,_,_,enc T,rfl,Du _ _ _,rfl,T,M,rfl,okT,ok2,λcame hc=>#[FO came,λl1 h1=>?_]];have n1:l1≠a:=λz=>by rw[z,Du]at h1; cases h1
 refine#[a,_,_,enc T,rfl,(Kf^dH n1).trans^Du _ _ _,rfl,M,T,rfl,ok2,okT,λwent hwt=>#[FO went,λl2 h2=>#[z2,?_]]];have n2:l2≠l1:=λz=>by rw[z,Du]at h2; cases h2
 rw[Kf n2]at h2;have n3:l2≠a:=λz=>by rw[z,Du]at h2; cases h2
 exact p T came went l1 l2 hT hc hwt (by rw[Kf n1]at h1; exact h1) (by rw[Kf n3]at h2; exact h2)^dH n2)
theorem IG:A.ZR "come" 7 ["self","name"] .sh^Uj C:=by
 let#[_,Gaf]:=A.T.Gaf;exact have GX_TooMany:=A.y_TooMany.g A.X A.G; have GX_Twice:=A.y_Twice.g A.X A.G; A.gmr A.h1b ["self","name"] (λT _ hr hp=>(BC (GX (Bu (FC hr) CM (dv 1)^Au (Ba A.cl_Keeper A.na_Keeper_whole^dv 0) AC) (Ce (CV (k:=0) hp GX_Twice (hr.mono^by cbv) rfl (AD (Ai Aj A1 (Ai Aj A1 AX^dv 1) AX) AJ)))^B3 AS)
 (BC (GX (Bu Bx DZ (S1 T.Gad^Au (Ba A.cl_Keeper A.na_Keeper_whole^dv 0) AC) (Ot rfl Gaf)) (Ce (CV (k:=0) hp GX_TooMany (hr.mono^by cbv) rfl (AD AX AJ)))^B3 AS)
 (B3^AE^AL^HS A.cl_Keeper (Bh A) (hr.mono^by cbv) (dv 0)^Bk (AV^AD (SD T.Gaa (AY Io O0 rfl T.Gac gG (AO (Ai Aj A1 (Au (Ba A.cl_Keeper A.na_Keeper_whole^dv 0) AC)^AV^AD (dv 1) AJ) AT)))^AD (Au (Ba A.cl_Keeper A.na_Keeper_whole^dv 0) AC) AJ) AF)))) (@λss n Pd Pr h=>by
 let#[a,t,b,N,M,x,rfl,#[k,l24,_],hx,p]:=h;have hx:Ds x:=hx;have ok:=k.2.1;have szl:=PySem.sizeLine_eq;have net:=λhr=>C_ ok l24 (d:=.come x) hx hr;unfold BP at p;refine#[a,_,_,_,rfl,k.1,rfl,_,AA (j:=0) rfl,By hx,Cb ok.1,_,rfl,?_];show if((N.ps.map D.str).any λy=>De y^.str x)=k_ then _ else _
 rw[HU]
 by_cases hn:x∈N.ps
 .rw[show BI N^.dd^.come x=P3 "Twice" from if_pos hn]at p
  rw[decide_eq_true hn];have h1:=hx.2.1;have l0:("there is a place ":Str).length=17:=by decide +kernel
  refine CU #[by rw[l0]; omega,by rw[len_app,l0,show(" already":Str).length=8 by decide +kernel]; omega,(by cbv:1<=100),p]
 rw[decide_eq_false hn];refine B4 ?_;refine#[a,_,_,_,rfl,k.1,rfl,_,AA (j:=0) rfl,_,_,rfl,rfl,?_];show if(((N.ps.map D.str).length:Int)==24)=k_ then _ else _
 rw[FM]
 by_cases h24:N.ps.length=24
 .rw[show BI N^.dd^.come x=P3 "TooMany" from(if_neg hn).trans^if_pos h24]at p
  rw[show(((N.ps.length:Nat):Int)==24)=k_ from beq_iff_eq.mpr^by lk];exact CU #[(by cbv:1<=100),p]
 rw[show(((N.ps.length:Nat):Int)==24)=l_ from beq_eq_false_iff_ne.mpr^by lk];have er:BI N^.dd^.come x=j_:=(if_neg hn).trans^if_neg h24;rw[er]at p;let#[N',#[_,_,hp,ht],ok',l']:=net er;have p:=p N' #[hx,hn,hp,ht] ok' l';refine B4 ?_;refine#[a,_,_,rfl,k.1,by cbv,?_];refine#[a,_,_,_,rfl,k.1,rfl,_,AA (j:=0) rfl,X6,by show(N.ps.map D.str).length+1<=sizeLine; rw[FM]; omega,N.ps++[x],by rw[dD]; rfl,by rw[cZ,c7]; omega,λss' h1 h2=>?_];refine#[a,_,_,_,rfl,k.1,rfl,_,AA (j:=1) rfl,z2,?_]
 have e:ss'=N'.ps:=by
  have pe:ss'.Perm N'.ps:=h1.trans^(fg x N.ps).trans hp.symm;have nd:ss'.Nodup:=pe.nodup_iff.mpr^Fc ok'.1.rise;exact Ej (λa b x y=>absurd y^Ee x) pe (CZ h2 nd) ok'.1.rise
 subst e;refine#[a,t,b,N,M,N',?_,k.1,ok',k.2.2.1,k.2.2.2,p];show [Slot.sh^.ob a,.sh^.tup [.tup^N'.ps.map .str,.tup^N.ts.map AN]]=_;rw[←ht]
 rfl)
theorem A9:A.ZR "ask_place" 2 ["self","name"] .sh^Mf C:=have GX_NoPlace:=A.y_NoPlace.g A.X A.G; A.gmr A.h1c ["self","name"] (λ_ _ hr hp=>(Ce^GX (Bu (BN hr) CM (dv 1)^Au (Ba A.cl_Keeper A.na_Keeper_whole^dv 0) AC) (Ce (CV (k:=0) hp GX_NoPlace (hr.mono^by cbv) rfl (AD (Ai Aj A1 AX^dv 1) AJ)))^B3 AS)) (@λss n Pd Pr h=>by
 let#[a,t,b,N,M,x,rfl,#[hw,ok,ok2,tm],hx,p,pr]:=h;have szl:=PySem.sizeLine_eq;refine#[a,_,_,_,rfl,hw,rfl,_,AA (j:=0) rfl,By hx,Cb ok.1,_,rfl,?_];show if(!((N.ps.map D.str).any λy=>De y^.str x))=k_ then _ else _
 rw[HU]
 by_cases c:x∈N.ps
 .rw[decide_eq_true c]; exact B4 #[rfl,p c]
 .rw[decide_eq_false c]
  refine CU #[?_,(by cbv:1<=100),pr c]
  have:=hx.2.1
  rw[show("there is no place ":Str).length=18 by decide +kernel]
  lk)
theorem Kw:A.ZR "go" 7 ["self","name"] .sh^Z0 C:=A.gmr A.h1d ["self","name","places","ties"] (λT nd hr hp=>(BC (EY^B8 hp A.cl_Keeper (A9 A) (hr.mono^by cbv) (dv 0)^A4 1 AF)
 (B3 (AB (Ol (i:=2) nd rfl (eA rfl) rfl [("name":Str),("place":Str)] [P3 1,j_] (Aw^Au (Ba A.cl_Keeper A.na_Keeper_whole^dv 0) AC) (λ_ _ _ _ _=>(LC (i:=1) (show List.Nodup [("name":Str),("place":Str)] by decide +kernel) rfl (eA rfl))) (λ_ _ _ _ _=>(Bi^Bu Gi Mc (dv 1)^dv 0)) (λ_ _ _ _ _=>(dv 1)) (by kernel_rfl))
 (AB (Ol (i:=3) nd rfl (eA rfl) rfl [("name":Str),("tie":Str)] [P3 1,j_] (Aw^Au (Ba A.cl_Keeper A.na_Keeper_whole^dv 0) AC) (λ_ _ _ _ _=>(LC (i:=1) (show List.Nodup [("name":Str),("tie":Str)] by decide +kernel) rfl (eA rfl))) (λ_ _ _ _ _=>(Bi^Bu (BN hr) CM (dv 0)^Dn G2 EG (dv 1) Cs^BE AC)) (λ_ _ _ _ _=>(dv 1)) (by kernel_rfl))
 (AE^AL^HS A.cl_Keeper (Bh A) (hr.mono^by cbv) (dv 0)^Bk (AV^AD (SD T.Gaa^dv 2)^AD (SD T.Gaa^dv 3) AJ) AF)))))) (@λss n Pd Pr h=>by
 let#[a,t,b,N,M,x,rfl,#[k,l24,_],nx,p]:=h;have nx:Ds x:=nx;have ok:=k.2.1;have l60:=ok.2.2;have net:=λhr=>C_ ok l24 (d:=.go x) nx hr;unfold BP at p;refine#[a,_,_,rfl,k.1,by cbv,a,t,b,N,M,x,rfl,k,nx,λhx=>?_,λhx=>by rw[show BI N^.dd^.go x=P3 "NoPlace" from if_neg hx]at p; exact p];have er:BI N^.dd^.go x=j_:=if_pos hx;rw[er]at p;let#[N',dN,ok',l']:=net er;have p:=p N' dN ok' l';let#[_,rfl]:=dN;refine#[a,_,_,_,rfl,k.1,rfl,_,AA (j:=0) rfl,by show(N.ps.map D.str).length<=10000000; rw[FM]; omega,?_];refine BD (bA x) id (λρ=>∃s,ρ=[.sh^.str x,s]) _ _ _ _ ?_ #[_,rfl] ?_
 .rintro d hd ρ m nx sk ⟨s,rfl⟩ h1 h2
  let#[y,hy,rfl]:=Sc.mp hd;show if(!(y==x))=k_ then _ else _
  exact B_ (λc=>h1 _ #[_,rfl] c) λc=>h2 _ #[_,rfl]^de.mpr c
 rw[cw,e8,MH];refine#[a,_,_,_,rfl,k.1,rfl,_,AA (j:=1) rfl,by show(N.ts.map AN).length<=10000000; rw[FM]; omega,?_];refine BD (λd=>!XR x (JK d)) id (λρ=>∃s,ρ=[.sh^.str x,s]) _ _ _ _ ?_ #[_,rfl] ?_
 .rintro d hd ρ m nx' sk ⟨s,rfl⟩ h1 h2
  let#[u,hu,rfl]:=Sc.mp hd;let#[m1,m2,m3,_]:=ok.1.tin u hu;refine#[By nx,Cw (ok.1.names _ m1)^ok.1.names _ m2,_,rfl,?_]
  have e:([D.str u.a,D.str u.b].any λy=>De y^.str x)=XR x u:=by
   rw[Nz,dC,atB_iff,Bool.or_eq_true,decide_eq_true_eq,decide_eq_true_eq]
  show if(!([D.str u.a,D.str u.b].any λy=>De y^.str x))=k_ then _ else _
  rw[e];exact B_ (λc=>h1 _ #[_,rfl] c) λc=>h2 _ #[_,rfl]^de.mpr c
 rw[cw,e8,e7];refine#[a,_,_,rfl,k.1,by cbv,z2,?_];exact#[a,t,b,N,M,_,rfl,k.1,ok',k.2.2.1,k.2.2.2,p])
theorem CI:A.ZR "ties_between" 3 ["self","a","b"] .fr^Iv C:=A.gmr A.h1e ["self","a","b"] (λT _ hr hp=>(BC (EY^B8 hp A.cl_Keeper (A9 A) (hr.mono^by cbv) (dv 0)^A4 1 AF)
 (BC (EY^B8 hp A.cl_Keeper (A9 A) (hr.mono^by cbv) (dv 0)^A4 2 AF)
 (B3^AE^AL^GY ["a","b","tie"] [P3 1,P3 2,j_] (Aw^Au (Ba A.cl_Keeper A.na_Keeper_whole^dv 0) AC) (λnq=>Cg 2 nq) (Bi^Bu (GK hr) KG (Dn G2 EG (dv 2) Cs^BE AC)^AV^AD (AY (J6 rfl) Se rfl T.Gaj boot_min (AO (dv 0)^AO (dv 1) AT))^AD (AY (J7 rfl) Sf rfl T.Gal boot_max (AO (dv 0)^AO (dv 1) AT)) AJ)^dv 2)))) (@λss n Pd Pr h=>by
 let#[a,t,b,N,M,x,y,rfl,k,hx,hy,p,pr]:=h;have ok:=k.2.1;have l60:=ok.2.2;refine#[a,_,_,rfl,k.1,by cbv,a,t,b,N,M,x,rfl,k,hx,λmx=>?_,λz=>pr λw=>z w.1];refine#[a,_,_,rfl,k.1,by cbv,a,t,b,N,M,y,rfl,k,hy,λmy=>?_,λz=>pr λw=>z w.2];refine#[a,_,_,_,rfl,k.1,rfl,_,AA (j:=1) rfl,by show(N.ts.map AN).length<=10000000; rw[FM]; omega,?_];refine BD (λd=>Ao x y^JK d) id (λρ=>∃s,ρ=[.sh^.str x,.sh^.str y,s]) _ _ _ _ ?_ #[_,rfl] ?_
 .rintro d hd ρ m nx sk ⟨s,rfl⟩ h1 h2
  let#[u,hu,rfl]:=Sc.mp hd;let#[m1,m2,m3,_]:=ok.1.tin u hu;refine#[x,y,rfl,x,y,rfl,z2,?_];rw[show(if decide (y.cps.toList<x.cps.toList)=k_ then y else x)=lo x y from OS x y,show(if decide (x.cps.toList<y.cps.toList)=k_ then y else x)=hi x y from OT x y];have nn:=Jk hx hy;refine#[Cw (ok.1.names _ m1)^ok.1.names _ m2,Cw nn.1 nn.2,?_]
  have e:De (.tup [.str u.a,.str u.b])^.tup [.str^lo x y,.str^hi x y]=Ao x y u:=by
   rw[dC,Oi,betwB_iff,D8 m3]
  show if De (.tup [.str u.a,.str u.b]) (.tup [.str^lo x y,.str^hi x y])=k_ then _ else _
  rw[e];exact B_ (λc=>h1 _ #[_,rfl] c) λc=>h2 _ #[_,rfl]^de.mpr c
 .rw[cw,e8,e7]
  exact p #[mx,my])
theorem JG:A.ZR "lay" 7 ["self","a","b","length"] .sh^Xn C:=by
 let#[_,Gag]:=A.T.Gag;exact have GX_TooMany:=A.y_TooMany.g A.X A.G; have GX_NoTie:=A.y_NoTie.g A.X A.G; A.gmr A.h1f ["self","a","b","length","ties","others"] (λT nd hr hp=>(BC (Oj (i:=4) nd rfl (eA rfl) (B8 hp A.cl_Keeper (CI A) (hr.mono^by cbv) (dv 0)^A4 1^A4 2 AF))
 (BC (GX (Bu Bx DZ (dv 1)^dv 2) (Ce (CV (k:=0) hp GX_NoTie (hr.mono^by cbv) rfl (AD AX AJ)))^B3 AS)
 (BC (GX (DTW.dt^GW (B5^NZ^IY 4)^F1^Bu Bx DZ (S1 T.Gad^Au (Ba A.cl_Keeper A.na_Keeper_whole^dv 0) AC) (Ot rfl Gag)) (Ce (CV (k:=0) hp GX_TooMany (hr.mono^by cbv) rfl (AD AX AJ)))^B3 AS)
 (B3 (AB (CA 5 nd^Au (cg hr (H_ A)^Bk (Ba A.cl_Keeper A.na_Keeper_whole^dv 0)^AQ (DB^IY 4) AF) AC)
 (AE^AL^HS A.cl_Keeper (Bh A) (hr.mono^by cbv) (dv 0)^Bk (cg hr (Fl A)^Bk (Ba A.cl_Keeper A.na_Keeper_whole^dv 0)^AQ (DB^Ai Aj A1 (dv 5)^AV^AD (AV^AD (AY (J6 rfl) Se rfl T.Gaj boot_min (AO (dv 1)^AO (dv 2) AT))^AD (AY (J7 rfl) Sf rfl T.Gal boot_max (AO (dv 1)^AO (dv 2) AT))^AD (dv 3) AJ) AJ) AF) AF))))))) (@λss n Pd Pr h=>by
 let#[a,t,b,N,M,x,y,l,rfl,#[k,l24,_],hv,p]:=h;have ok:=k.2.1;have l60:=ok.2.2;have szl:=PySem.sizeLine_eq;have net:=λhr=>C_ ok l24 (d:=.lay x y l) hv hr;unfold BP at p;refine#[a,_,_,rfl,k.1,by cbv,a,t,b,N,M,x,y,rfl,k,hv.1.1,hv.1.2,λm=>?_,λm=>by rw[show BI N^.dd^.lay x y l=P3 "NoPlace" from if_neg m]at p; exact p];show if(x==y)=k_ then _ else _
 by_cases hne:x=y
 .rw[show BI N^.dd^.lay x y l=P3 "NoTie" from(if_pos m).trans^if_pos hne]at p
  rw[beq_iff_eq.mpr hne];exact CU #[(by cbv:1<=100),p]
 rw[show(x==y)=l_ from beq_eq_false_iff_ne.mpr hne];refine B4 ?_
 have next:BI N^.dd^.lay x y l=j_->Ay (BB 5^As C7 (Ap O3^AH (AR^Vp C "whole"^AG 0)^AH (E8^CB 4) Ac)^wC^D.int 1) (DJ^D9 C "turn_to" (O4 C) (AG 0)^AH (AR^Ap LV^AH (AR^Vp C "whole"^AG 0)^AH (E8^As B0 (AG 5)^DU^AZ (DU^AZ (Sz VL^AZ (AG 1)^AZ (AG 2) A7)^AZ (Sz VN^AZ (AG 1)^AZ (AG 2) A7)^AZ (AG 3) A7) A7) Ac) Ac) (EE Pd) n [.sh^.ob a,.sh^.str x,.sh^.str y,.sh^.int l,.sh^.lst^(N.ts.filter^Ao x y).map AN,.no]:=λer=>by
  rw[er]at p;let#[N',dN,ok',l']:=net er;have p:=p N' dN ok' l';let#[hx,hy,hne,l1,l2,hps,hts]:=dN;refine#[a,_,_,_,rfl,k.1,rfl,N,N.ts.filter^Ao x y,rfl,ok,λu hu=>(cv.mp hu).1,_,AA (j:=1) rfl,?_]
  have ef:(N.ts.filter λu=>decide (u∉N.ts.filter^Ao x y))=N.ts.filter λu=>!Ao x y u:=gL λu hu=>by
   rw[decide_not,Bool.not_inj_iff,dC,decide_eq_true_eq,cv];exact#[λz=>z.2,λz=>#[hu,z]]
  rw[ef];refine#[a,_,_,rfl,k.1,by cbv,a,_,_,_,rfl,k.1,rfl,x,y,rfl,x,y,rfl,z3,X6,?_];have lf:=cj (λu=>!Ao x y u) N.ts;refine#[by rw[FM]; show(N.ts.filter λu=>!Ao x y u).length+1<=sizeLine; omega,N,_,(N.ts.filter λu=>!Ao x y u)++[#[lo x y,hi x y,l]],rfl,?_,by rw[cZ,c7]; omega,λts' h1 h2=>?_]
  .rw[show(if decide (y.cps.toList<x.cps.toList)=k_ then y else x)=lo x y from OS x y,show(if decide (x.cps.toList<y.cps.toList)=k_ then y else x)=hi x y from OT x y,dD]
   rfl
  .have e:ts'=N'.ts:=CN (h1.trans^(fg _ _).trans hts.symm) h2^B6 ok'.1.trise
   subst e;rw[←hps];exact#[a,t,b,N,M,N',rfl,k.1,ok',k.2.2.1,k.2.2.2,p]
 cases hl:N.ts.filter^Ao x y with
 | nil=>
  rw[hl]at next;refine#[l_,rfl,a,_,_,_,rfl,k.1,rfl,_,AA (j:=1) rfl,_,_,rfl,rfl,?_];show if(((N.ts.map AN).length:Int)==60)=k_ then _ else _
  rw[FM]
  by_cases h60:N.ts.length=60
  .rw[show BI N^.dd^.lay x y l=P3 "TooMany" from(if_pos m).trans^(if_neg hne).trans^if_pos #[hl,h60]]at p
   rw[show(((N.ts.length:Nat):Int)==60)=k_ from beq_iff_eq.mpr^by lk];exact CU #[(by cbv:1<=100),p]
  .rw[show(((N.ts.length:Nat):Int)==60)=l_ from beq_eq_false_iff_ne.mpr^by lk]
   exact B4 (next ((if_pos m).trans^(if_neg hne).trans^if_neg λz=>h60 z.2))
 |cons d r=>
  rw[hl]at next;exact#[k_,rfl,next ((if_pos m).trans^(if_neg hne).trans^if_neg λz=>by rw[hl]at z; cases z.1)])
theorem EJ:A.ZR "tie_between" 4 ["self","a","b"] .sh^JP C:=have GX_NoTie:=A.y_NoTie.g A.X A.G; A.gmr A.h1g ["self","a","b","ties"] (λ_ nd hr hp=>(BC (Oj (i:=3) nd rfl (eA rfl) (B8 hp A.cl_Keeper (CI A) (hr.mono^by cbv) (dv 0)^A4 1^A4 2 AF))
 (BC (GX (B5^NZ^IY 3) (Ce (CV (k:=0) hp GX_NoTie (hr.mono^by cbv) rfl (AD (Ai Aj A1 (Ai Aj A1 (Ai Aj A1 AX^dv 1) AX)^dv 2) AJ)))^B3 AS)
 (B3^AE^AL^Au (IY 3) AC)))) (@λss n Pd Pr h=>by
 let#[a,t,b,N,M,x,y,rfl,k,hx,hy,p,pr]:=h;have szl:=PySem.sizeLine_eq;refine#[a,_,_,rfl,k.1,by cbv,a,t,b,N,M,x,y,rfl,k,hx,hy,λm=>?_,pr];let#[p1,p2]:=p m
 rcases VF k.2.1.1 x y with e|⟨u,e⟩
 .rw[e]
  have h1:=hx.2.1;have h2:=hy.2.1;have l0:("there is no tie between ":Str).length=24:=by decide +kernel
  have l1:(" and ":Str).length=5:=by decide +kernel
  have l2:(("there is no tie between ":Str)++x).length=24+x.length:=by rw[len_app,l0]
  have l3:(("there is no tie between ":Str)++x++(" and ":Str)).length=24+x.length+5:=by rw[len_app,l2,l1]
  exact#[l_,rfl,by rw[l0]; omega,by rw[l2,l1]; omega,by rw[l3]; omega,(by cbv:1<=100),p2 e]
 .rw[e]
  exact#[k_,rfl,_,AA (j:=0) rfl,p1 u e])
theorem IF:A.ZR "take" 7 ["self","a","b"] .sh^Ub C:=A.gmr A.h1h ["self","a","b"] (λ_ _ hr hp=>(Ce^UE^SH A.cl_Keeper (Bh A) (hr.mono^by cbv) (dv 0)^Ou (SJ (H_ A) (hr.mono^by cbv) rfl (Ou (XA^Ba A.cl_Keeper A.na_Keeper_whole^dv 0)^UT (SI^B8 hp A.cl_Keeper (EJ A) (hr.mono^by cbv) (dv 0)^A4 1^A4 2 AF)^Ov AF))^Ov AF)) (@λss n Pd Pr h=>by
 let#[a,t,b,N,M,x,y,rfl,#[k,l24,_],hv,p]:=h;have ok:=k.2.1;have net:=λhr=>C_ ok l24 (d:=.take x y) hv hr;unfold BP at p;refine#[a,_,_,rfl,k.1,by cbv,a,_,_,_,rfl,k.1,rfl,a,_,_,rfl,k.1,by cbv,a,t,b,N,M,x,y,rfl,k,hv.1,hv.2,λm=>#[λu hu=>#[X6,?_],λhf=>by rw[show BI N^.dd^.take x y=P3 "NoTie" from(if_pos m).trans^if_pos hf]at p; exact p],λm=>by rw[show BI N^.dd^.take x y=P3 "NoPlace" from if_neg m]at p; exact p];have er:BI N^.dd^.take x y=j_:=(if_pos m).trans (if_neg^by rw[hu]; exact eO _ _);rw[er]at p;let#[N',dN,ok',l']:=net er;have p:=p N' dN ok' l';let#[_,hx,hy,hne,rfl]:=dN;have mu:u∈N.ts:=(cv.mp (by rw[hu]; exact On.mpr rfl:u∈N.ts.filter^Ao x y)).1;refine#[N,[u],rfl,ok,λv hv=>by rw[On.mp hv]; exact mu,?_]
 have ef:(N.ts.filter λv=>decide (v∉[u]))=N.ts.filter λu=>!Ao x y u:=gL λv hv=>by
  rw[decide_not,Bool.not_inj_iff,dC,decide_eq_true_eq,←hu,cv];exact#[λz=>z.2,λz=>#[hv,z]]
 rw[ef];exact#[a,t,b,N,M,_,rfl,k.1,ok',k.2.2.1,k.2.2.2,p])
theorem Ku:A.Y "_law_done" 8 ["_law_keeper","_law_deed_here"] .sh^HV C:=by
 let#[C_ThinError,xi_ThinError,xm_ThinError,xk_ThinError]:=A.T.x_ThinError;exact A.gk A.h14 ["_law_keeper","_law_deed_here","_law_told"] (λ_ nd hr=>(AB (CA 2 nd Az)
 (AB (W4 rfl rfl (λ_ _ h=>h) (C8^Na (Bu Bx DZ (Au (dv 1) AC) AX) (C8 (HM (i:=2) nd rfl (eA rfl) (F3 A.cl_Keeper (IG A) (hr.mono^by cbv) (dv 0)^Bk (Au (dv 1) AC) AF)))^C8^Na (Bu Bx DZ (Au (dv 1) AC) AX) (C8 (HM (i:=2) nd rfl (eA rfl) (F3 A.cl_Keeper (Kw A) (hr.mono^by cbv) (dv 0)^Bk (Au (dv 1) AC) AF)))^C8^Na (Bu Bx DZ (Au (dv 1) AC) AX) (C8 (HM (i:=2) nd rfl (eA rfl) (F3 A.cl_Keeper (IF A) (hr.mono^by cbv) (dv 0)^Bk (Au (dv 1) AC)^Bk (Au (dv 1) AC) AF)))^C8 (HM (i:=2) nd rfl (eA rfl) (F3 A.cl_Keeper (JG A) (hr.mono^by cbv) (dv 0)^Bk (Au (dv 1) AC)^Bk (Au (dv 1) AC)^Bk (Au (dv 1) AC) AF)))
 (SG rfl xm_ThinError xk_ThinError (eA #[rfl,xi_ThinError]) rfl rfl (λa=>(AE^CA 2 nd Az))
 W9))
 (AE^AL^dv 2)))) (@λss n Pd h=>by
 let#[a,t,b,N,M,d,rfl,k,hv,p]:=h;have wa:=k.1.1
 have hand:∀(c:Str) (m:Sg) (s:Slot),Pd .non m->Mo "ThinError" (λ_=>BB 2^wC D.non) Qf {EE Pd with nx:=DJ (AG 2)^EE Pd} c [] [] m [.sh^.ob a,.sh^DR d,s]:=λc m s q=>by
  show if c="ThinError"\/("ThinError":Str)="ThinError" then _ else _
  rw[if_pos (.inr rfl)];exact λ_=>q
 have fin:∀{P':D->Sg->Prop}{Pr':PX},(∀x m,Pd x m->P' x m)->(∀c m,Pd .non m->Pr' c [] [] m)->BP C n a t b N M (.dd d) P' Pr':=λh1 h2=>Li p (λ_=>h1) λc _ m q=>h2 c m q;cases d with
 |come x=>
  refine#[_,AA (j:=0) rfl,?_];exact#[a,_,_,rfl,wa,by cbv,_,AA (j:=1) rfl,a,t,b,N,M,x,rfl,k,hv,fin (λ_ _ q=>q) λc m q=>hand c m _ q]
 |go x=>
  refine#[_,AA (j:=0) rfl,?_];refine#[_,AA (j:=0) rfl,?_];exact#[a,_,_,rfl,wa,by cbv,_,AA (j:=1) rfl,a,t,b,N,M,x,rfl,k,hv,fin (λ_ _ q=>q) λc m q=>hand c m _ q]
 |lay x y l=>
  refine#[_,AA (j:=0) rfl,?_];refine#[_,AA (j:=0) rfl,?_];refine#[_,AA (j:=0) rfl,?_];exact#[a,_,_,rfl,wa,by cbv,_,AA (j:=1) rfl,_,AA (j:=2) rfl,_,AA (j:=3) rfl,a,t,b,N,M,x,y,l,rfl,k,hv,fin (λ_ _ q=>q) λc m q=>hand c m _ q]
 |take x y=>
  refine#[_,AA (j:=0) rfl,?_];refine#[_,AA (j:=0) rfl,?_];refine#[_,AA (j:=0) rfl,?_];exact#[a,_,_,rfl,wa,by cbv,_,AA (j:=1) rfl,_,AA (j:=2) rfl,a,t,b,N,M,x,y,rfl,k,hv,fin (λ_ _ q=>q) λc m q=>hand c m _ q])
theorem FF:A.Y "_law_net_behind" 1 ["_law_net","_law_deed_here"] .sh Np:=A.gk A.h15 ["_law_net","_law_deed_here","_law_places_here","_law_ties","_law_rest","_law_pair","_law_left"] (λT nd hr=>(AB (W7 (dv 0)^UM^Ar (Cg 2 nd)^Ar (Cg 3 nd) Ct)
 (AB (Av (Bu Bx DZ (Au (dv 1) AC) AX) (AE^AL^E5 (Bu (BN hr) CM (Au (dv 1) AC)^dv 2) (AV^AD (SD T.Gaa (AY Io O0 rfl T.Gac gG (AO (Ai Aj A1 (dv 2)^AV^AD (Au (dv 1) AC) AJ) AT)))^AD (dv 3) AJ) Az) AS)
 (AB (Av (Bu (FC hr) CM CL^GY ["_law_places_here","_law_name"] [P3 2,j_] (Aw^Dn G2 EG (dv 1) (BE AC)^BE AC) (λnq=>Cg 1 nq) (Bi^BH (FP OY (dv 1) rfl T.Gab rfl T.Gan (by decide +kernel)))^Bb (FC hr) CM (dv 1) (dv 0)^by with_unfolding_all rfl) (AE^AL Az) AS)
 (AB (Av (Bu Bx DZ (Au (dv 1) AC) AX) (AB (CA 4 nd^SD T.Gaa^GY ["_law_deed_here","_law_one"] [P3 1,j_] (Aw^dv 2) (λnq=>Cg 1 nq) (Bi^Bu Gi Mc (dv 1)^Au (dv 0) AC)^dv 1)
 (AE^AL^AV^AD (dv 4)^AD (SD T.Gaa^GY ["_law_deed_here","_law_tie"] [P3 1,j_] (Aw^dv 3) (λnq=>Cg 1 nq) (Bi^Bu (BN hr) CM (Au (dv 0) AC)^Dn G2 EG (dv 1) Cs^BE AC)^dv 1) AJ)) AS)
 (AB (CA 5 nd^AV^AD (AY (QJ rfl) XY rfl T.Gaj boot_min (AO (Dn G2 EG (dv 1) (BE AC)^BE AC) AT))^AD (AY (QL rfl) Xa rfl T.Gal boot_max (AO (Dn G2 EG (dv 1) (BE AC)^BE AC) AT)) AJ)
 (AB (CA 6 nd^SD T.Gaa^GY ["_law_pair","_law_tie"] [P3 5,j_] (Aw^dv 3) (λnq=>Cg 1 nq) (Bi^Bu (WV hr) Zp (Dn G2 EG (dv 1) Cs^BE AC)^dv 0)^dv 1)
 (AB (Av (DTW.dt^Fz (Bu Bx DZ (Au (dv 5) AC)^Au (dv 5) AC)^EX^DTW.dt^GW (Bu Bx DZ (Au (dv 1) AC) AX)^F1^Bu (GK hr) KG (dv 6)^dv 3) (AE^AL Az) AS)
 (AB (Av (Bu Bx DZ (Au (dv 1) AC) AX) (AE^CA 6 nd^SD T.Gaa (AY FR LQ rfl T.Gac gG (AO (Ai Aj A1 (dv 6)^AV^AD (Ai Aj A1 (dv 5)^AV^AD (Au (dv 1) AC) AJ) AJ) AT))) AS)
 (AE^AL^AV^AD (dv 2)^AD (dv 6) AJ)))))))))) (@λss n Pd h=>by
 let#[N,d,rfl,okn,l24,l60,hv,p,pn]:=h;have ok:=okn.1;have szl:=PySem.sizeLine_eq;have net:=λhr=>C_ okn (by lk) (d:=d) hv hr
 have key:∀(qs:m_ Str) (Q:m_ D->Sg->Prop),(∀q∈qs,Ds q)->Q ((qs.map λx=>decide (x∈N.ps)).map .bl) n->Co (A6 1) (Ae^YJ "str"^AG 1) (As (NX l_) (AG 1)^AG 0) Q (qs.map .str) [] n [.sh^.tup^N.ps.map .str,.no]:=λqs Q hq q=>by
  refine BD (λ_=>k_) (λd=>.bl^(N.ps.map D.str).any λy=>De y d) (λρ=>∃s,ρ=[.sh^.tup^N.ps.map .str,s]) _ _ _ _ ?_ #[_,rfl] ?_
  .rintro d hd ρ m nx sk ⟨s,rfl⟩ h1 h2
   let#[x,hx,rfl]:=Sc.mp hd;exact#[By^hq x hx,Cb ok,_,rfl,h1 _ #[_,rfl] rfl]
  .rw[cw,gf.mpr λ_ _=>rfl,ej]
   rw[ej]at q;rw[show qs.map ((λd=>D.bl^(N.ps.map D.str).any λy=>De y d)∘D.str)=qs.map (D.bl∘λx=>decide (x∈N.ps))from gc λx _=>by show D.bl ((N.ps.map D.str).any λy=>De y^.str x)=_; rw[HU]; rfl];exact q
 have two:∀x y:Str,Ds x->Ds y->∀(Q:m_ D->Sg->Prop),Q ((N.ts.filter λu=>!Ao x y u).map AN) n->Co (A6 1) (Ae^As ZS (Vm MJ (AG 1) FX^FW^wC^D.int 2)^AG 0) (AG 1) Q (N.ts.map AN) [] n [.sh^.tup [.str^lo x y,.str^hi x y],.no]:=λx y hx hy Q q=>by
  refine BD (λd=>!Ao x y (JK d)) id (λρ=>∃s,ρ=[.sh^.tup [.str^lo x y,.str^hi x y],s]) _ _ _ _ ?_ #[_,rfl] ?_
  .rintro d hd ρ m nx sk ⟨s,rfl⟩ h1 h2
   let#[u,hu,rfl]:=Sc.mp hd;let#[m1,m2,m3,_]:=ok.tin u hu;have nn:=Jk hx hy;refine#[Cw (ok.names _ m1)^ok.names _ m2,Cw nn.1 nn.2,?_]
   have e:De (.tup [.str u.a,.str u.b])^.tup [.str^lo x y,.str^hi x y]=Ao x y u:=by
    rw[dC,Oi,betwB_iff,D8 m3]
   show if(!De (.tup [.str u.a,.str u.b]) (.tup [.str^lo x y,.str^hi x y]))=k_ then _ else _
   rw[e];exact B_ (λc=>h1 _ #[_,rfl] c) λc=>h2 _ #[_,rfl]^de.mpr c
  .rw[cw,e8,e7]
   exact q
 have h2:∀x y:Str,Ds x->Ds y->∀q∈[x,y],Ds q:=λx y hx hy q hq=>by
  rcases Tk.mp hq with rfl|hq
  .exact hx
  .rw[On.mp hq]; exact hy
 refine#[rfl,rfl,?_];cases d with
 | come x=>
  have hv:Ds x:=hv;refine#[_,AA (j:=0) rfl,?_];refine#[_,AA (j:=1) rfl,By hv,Cb ok,_,rfl,?_];show if(!((N.ps.map D.str).any λy=>De y^.str x))=k_ then _ else _
  rw[HU]
  by_cases c:x∈N.ps
  .rw[decide_eq_true c]
   exact B4^pn _^if_pos c
  .rw[decide_eq_false c]
   have er:BI N^.dd^.come x=j_:=(if_neg c).trans (if_neg^by lk);let#[N',#[_,_,hp,ht],ok',l']:=net er;refine CU #[_,AA (j:=1) rfl,X6,by show(N.ps.map D.str).length+1<=sizeLine; rw[FM]; omega,N.ps++[x],by rw[dD]; rfl,by rw[cZ,c7]; omega,λss' h1 h2=>?_]
   have e:ss'=N'.ps:=by
    have pe:ss'.Perm N'.ps:=h1.trans^(fg x N.ps).trans hp.symm;have nd:ss'.Nodup:=pe.nodup_iff.mpr^Fc ok'.1.rise;exact Ej (λa b x y=>absurd y^Ee x) pe (CZ h2 nd) ok'.1.rise
   subst e;have q:=p N' er #[hv,c,hp,ht] ok';refine#[z2,?_];show Pd (.tup [.tup^N'.ps.map .str,.tup^N.ts.map AN]) n;rw[←ht];exact q
 | go x=>
  have hv:Ds x:=hv;refine#[_,AA (j:=0) rfl,?_];refine#[(by cbv:1<=10000000),key [x] _ (λq hq=>by rw[On.mp hq]; exact hv)^Oc ?_];show if(!(decide (x∈N.ps)&&k_))=k_ then _ else _
  rw[ip]
  by_cases c:x∈N.ps
  .rw[decide_eq_true c]
   have er:BI N^.dd^.go x=j_:=if_pos c;let#[N',dN,ok',l']:=net er;have q:=p N' er dN ok';let#[_,rfl]:=dN;refine B4 #[_,AA (j:=0) rfl,?_];refine#[by show(N.ps.map D.str).length<=10000000; rw[FM]; omega,?_];refine BD (bA x) id (λρ=>∃s,ρ=[.sh^DR^.go x,s]) _ _ _ _ ?_ #[_,rfl] ?_
   .rintro d hd ρ m nx sk ⟨s,rfl⟩ h1 h2
    let#[y,hy,rfl]:=Sc.mp hd;refine#[_,AA (j:=1) rfl,?_];show if(!(y==x))=k_ then _ else _
    exact B_ (λc=>h1 _ #[_,rfl] c) λc=>h2 _ #[_,rfl]^de.mpr c
   rw[cw,e8,MH];refine#[by show(N.ts.map AN).length<=10000000; rw[FM]; omega,?_];refine BD (λd=>!XR x (JK d)) id (λρ=>∃s,ρ=[.sh^DR^.go x,s]) _ _ _ _ ?_ #[_,rfl] ?_
   .rintro d hd ρ m nx' sk ⟨s,rfl⟩ h1 h2
    let#[u,hu,rfl]:=Sc.mp hd;let#[m1,m2,m3,_]:=ok.tin u hu;refine#[_,AA (j:=1) rfl,By hv,Cw (ok.names _ m1)^ok.names _ m2,_,rfl,?_]
    have e:([D.str u.a,D.str u.b].any λy=>De y^.str x)=XR x u:=by
     rw[Nz,dC,atB_iff,Bool.or_eq_true,decide_eq_true_eq,decide_eq_true_eq]
    show if(!([D.str u.a,D.str u.b].any λy=>De y^.str x))=k_ then _ else _
    rw[e];exact B_ (λc=>h1 _ #[_,rfl] c) λc=>h2 _ #[_,rfl]^de.mpr c
   rw[cw,e8,e7];exact#[z2,q]
  .rw[decide_eq_false c]
   exact CU^pn _^if_neg c
 | lay x y l=>
  let#[#[nx,ny],_]:=hv;refine#[_,AA (j:=0) rfl,?_];refine#[(by cbv:2<=10000000),key [x,y] _ (h2 x y nx ny)^Oc ?_];show if(!(decide (x∈N.ps)&&(decide (y∈N.ps)&&k_)))=k_ then _ else _
  rw[ip,←Bool.decide_and]
  by_cases c:x∈N.ps/\y∈N.ps
  .rw[decide_eq_true c]
   refine B4 #[_,AA (j:=0) rfl,?_];refine#[x,y,rfl,x,y,rfl,z2,?_];rw[show(if decide (y.cps.toList<x.cps.toList)=k_ then y else x)=lo x y from OS x y,show(if decide (x.cps.toList<y.cps.toList)=k_ then y else x)=hi x y from OT x y];refine#[by show(N.ts.map AN).length<=10000000; rw[FM]; omega,two x y nx ny _ ?_];refine#[_,AA (j:=0) rfl,_,AA (j:=1) rfl,?_];show if(lo x y==hi x y)=k_ then _ else _
   rw[lohi92]
   by_cases hne:x=y
   .rw[decide_eq_true hne]
    exact CU^CU^pn _^(if_pos c).trans^if_pos hne
   rw[decide_eq_false hne];have er:BI N^.dd^.lay x y l=j_:=(if_pos c).trans ((if_neg hne).trans^if_neg λz=>by lk);let#[N',dN,ok',l']:=net er;have q:=p N' er dN ok';let#[_,_,_,_,_,ep,ht]:=dN;refine B4 #[_,AA (j:=0) rfl,?_];refine#[_,AA (j:=0) rfl,?_];have lf:=cj (λu=>!Ao x y u) N.ts;refine#[_,AA (j:=3) rfl,X6,(by cbv:2+1<=sizeLine),?_];refine#[X6,by show((N.ts.filter λu=>!Ao x y u).map AN).length+1<=sizeLine; rw[FM]; omega,?_];refine#[_,((N.ts.filter λu=>!Ao x y u)++[(#[lo x y,hi x y,l]:Ak)]).map AN,rfl,by rw[dD]; rfl,by rw[FM,cZ,c7]; omega,#[λx hx=>?_,λx hx y hy ka kb ea eb=>?_],λxs' hp ho=>?_]
   .let#[t,_,rfl]:=Sc.mp hx
    exact#[EM t,rfl,eO _ _]
   .let#[t,_,rfl]:=Sc.mp hx
    let#[u,_,rfl]:=Sc.mp hy;cases(show P3^EM t=P3 ka from ea);cases(show P3^EM u=P3 kb from eb);rfl
   .let#[ts',h1,rfl]:=Nx (g:=JK) (λ_=>rfl) hp
    have e:ts'=N'.ts:=CN (h1.trans^(fg _ _).trans ht.symm) (OO ho)^B6 ok'.1.trise;rw[e];refine#[z2,?_];show Pd (.tup [.tup^N.ps.map .str,.tup^N'.ts.map AN]) n;rw[←ep];exact q
  .rw[decide_eq_false c]
   exact CU^pn _^if_neg c
 | take x y=>
  let#[nx,ny]:=hv;refine#[_,AA (j:=0) rfl,?_];refine#[(by cbv:2<=10000000),key [x,y] _ (h2 x y nx ny)^Oc ?_];show if(!(decide (x∈N.ps)&&(decide (y∈N.ps)&&k_)))=k_ then _ else _
  rw[ip,←Bool.decide_and]
  by_cases c:x∈N.ps/\y∈N.ps
  .rw[decide_eq_true c]
   refine B4 #[_,AA (j:=0) rfl,?_];refine#[x,y,rfl,x,y,rfl,z2,?_];rw[show(if decide (y.cps.toList<x.cps.toList)=k_ then y else x)=lo x y from OS x y,show(if decide (x.cps.toList<y.cps.toList)=k_ then y else x)=hi x y from OT x y];refine#[by show(N.ts.map AN).length<=10000000; rw[FM]; omega,two x y nx ny _ ?_];refine#[_,AA (j:=0) rfl,_,AA (j:=1) rfl,?_];show if(lo x y==hi x y)=k_ then _ else _
   rw[lohi92];have nn0:N.ts.filter^Ao x y=[]->Pd .non n:=λz=>pn _^(if_pos c).trans^if_pos z
   by_cases hne:x=y
   .rw[decide_eq_true hne]
    refine CU^CU^nn0^gH.mpr λu hu z=>?_;have m3:=(ok.tin u hu).2.2.1;let#[e1,e2]:=(D8 m3).mp^betwB_iff.mp z;have e4:lo x y=hi x y:=beq_iff_eq.mp^lohi92.trans^decide_eq_true hne;rw[e1,e2,e4]at m3;exact Br _ m3
   rw[decide_eq_false hne];have lay1:∀ts:m_ Ak,(∀u∈ts,u∈N.ts)->CS^.tup^ts.map AN:=λts h=>(Cd ok h).1;refine B4 #[_,AA (j:=0) rfl,?_];refine#[lay1 _ λu hu=>(cv.mp hu).1,lay1 _ λ_ z=>z,?_];rw[IW]
   by_cases h0:N.ts.filter^Ao x y=[]
   .rw[decide_eq_true^gf.mpr λu hu=>by rw[g_]; exact de.mpr λz=>gH.mp h0 u hu z]
    exact CU^nn0 h0
   .have ne:¬(N.ts.filter λu=>!Ao x y u)=N.ts:=λz=>h0^gH.mpr λu hu w=>by have:=gf.mp z u hu; rw[w]at this; cases this
    rw[decide_eq_false ne];have er:BI N^.dd^.take x y=j_:=(if_pos c).trans^if_neg h0;let#[N',dN,ok',l']:=net er;have q:=p N' er dN ok';let#[_,_,_,_,rfl]:=dN;exact B4 #[_,AA (j:=0) rfl,z2,q]
  .rw[decide_eq_false c]
   exact CU^pn _^if_neg c)
theorem G8:A.Y "_law_touched" 1 ["_law_net","_law_due"] .fr Nn:=A.gk A.h16 ["_law_net","_law_due"] (λ_ _ hr=>(AB (Av (Bu ES G0 (dv 1) Az) (AE^AL^DA AJ) AS)
 (AE^AL^Ai Fj Dq (GY ["_law_due","_law_tie"] [P3 1,j_] (Aw^Au (dv 0) AC) (λnq=>Cg 1 nq) (Bi^Bu (BN hr) CM (dv 1)^Au (dv 0) AC)^dv 1)^GY ["_law_net","_law_tie"] [P3 0,j_] (Aw^Au (dv 1) AC) (λnq=>Cg 1 nq) (Bi^Bu (BN hr) CM (dv 1)^Au (dv 0) AC)^dv 1))) (@λss n Pd h=>by
 let#[N,o,rfl,okn,ho,p]:=h;cases o with
 |none=>exact#[rfl,z0,p]
 |some N'=>
 have okn':=ho N' rfl;have l1:=okn.2.2;have l2:=okn'.2.2;have szl:=PySem.sizeLine_eq;refine#[rfl,?_]
 have key:∀(A B:Net),okN A->okN B->(e1:A.ts.length<=60)->∀Q:m_ D->Sg->Prop,Q ((A.ts.filter λu=>decide (u∉B.ts)).map AN) n->Co (A6 1) (Ae^As (NX k_) (AG 1)^As C7 (AG 0)^wC^D.int 1) (AG 1) Q (A.ts.map AN) [] n [.sh^enc B,.no]:=λA B oA oB e1 Q q=>by
  refine BD (λd=>decide (JK d∉B.ts)) id (λρ=>∃s,ρ=[.sh^enc B,s]) _ _ _ _ ?_ #[_,rfl] ?_
  .rintro d hd ρ m nx sk ⟨s,rfl⟩ h1 h2
   let#[u,hu,rfl]:=Sc.mp hd;refine#[_,AA (j:=1) rfl,Cr oA.1 hu,(Cd oB.1 λ_ z=>z).1,_,rfl,?_];rw[Et,←decide_not];exact B_ (λc=>h1 _ #[_,rfl] c) λc=>h2 _ #[_,rfl]^de.mpr c
  .rw[cw,e8,e7]
   exact q
 refine#[_,AA (j:=1) rfl,by show(N.ts.map AN).length<=10000000; rw[FM]; omega,key N N' okn okn' l1 _ ?_];refine#[_,AA (j:=1) rfl,by show(N'.ts.map AN).length<=10000000; rw[FM]; omega,key N' N okn' okn l2 _ ?_];have f1:=cj (λu=>decide (u∉N'.ts)) N.ts;have f2:=cj (λu=>decide (u∉N.ts)) N'.ts;refine#[by rw[FM,FM]; omega,?_];rw[←dD];exact p)
theorem ET:A.Y "_law_turned_right" 2 ["_law_ahead","_law_behind","_law_told","_law_touched_here"] .sh LU:=have jh:=GN A; A.gk A.h17 ["_law_ahead","_law_behind","_law_told","_law_touched_here","_law_came","_law_went","_law_first"] (λT nd hr=>(AB (CA 4 nd^cg hr jh^AQ (DB^GY ["_law_ahead","_law_tie"] [P3 0,j_] (Aw^dv 1) (λnq=>Cg 1 nq) (Bi^Bu (BN hr) CM (dv 1)^dv 0)^dv 1) AF)
 (AB (CA 5 nd^cg hr jh^AQ (DB^GY ["_law_behind","_law_tie"] [P3 1,j_] (Aw^dv 0) (λnq=>Cg 1 nq) (Bi^Bu (BN hr) CM (dv 1)^dv 0)^dv 1) AF)
 (AB (Av (Bu Gi Mc (AY (Cz hr) Ga rfl T.Gah ij (AO (dv 2) AT)) (AY (Cz hr) Ga rfl T.Gah ij (AO (AV^AD (dv 4)^AD (dv 5) AJ) AT))) (AE^AL CL) AS)
 (AB (CA 6 nd^Dn sl_list Zn (cg hr jh^AQ (DB^dv 3) AF) Cs^BE AC)
 (AE^AL^VS (Bb (GK hr) KG (Ai Fj Dq (dv 4)^dv 5) (DA AJ)^BV _)^D6^Bb (GK hr) KG (Au (cg hr jh^AQ (DB^Ai Fj Dq (Ai Fj Dq (dv 4)^dv 5)^dv 6) AF) AC) (Au (dv 6) AC)^BV _)))))) (@λss n Pd h=>by
 let#[M,T,tc,came,went,rfl,okm,okt,ltc,ly,l2,hc,hw,ht,p]:=h;have l60:=okm.2.2;have l60':=okt.2.2;have szl:=PySem.sizeLine_eq
 have key:∀(A B:Net),okN A->okN B->∀Q:m_ D->Sg->Prop,Q ((A.ts.filter λu=>decide (u∉B.ts)).map AN) n->Co (A6 1) (Ae^As (NX k_) (AG 1)^AG 0) (AG 1) Q (A.ts.map AN) [] n [.sh^.tup^B.ts.map AN,.no]:=λA B oA oB Q q=>by
  refine BD (λd=>decide (JK d∉B.ts)) id (λρ=>∃s,ρ=[.sh^.tup^B.ts.map AN,s]) _ _ _ _ ?_ #[_,rfl] ?_
  .rintro d hd ρ m nx sk ⟨s,rfl⟩ h1 h2
   let#[u,hu,rfl]:=Sc.mp hd;refine#[Cr oA.1 hu,(Cd oB.1 λ_ z=>z).1,_,rfl,?_];rw[Et,←decide_not];exact B_ (λc=>h1 _ #[_,rfl] c) λc=>h2 _ #[_,rfl]^de.mpr c
  .rw[cw,e8,e7]
   exact q
 have lf:=fun(A B:Net)=>cj (λu=>decide (u∉B.ts)) A.ts;have lc:=ON hc;have lw:=ON hw;refine#[by show(T.ts.map AN).length<=10000000; rw[FM]; omega,key T M okt okm _ ?_];refine#[_,rfl,by have:=lf T M; omega,λc' c1 c2=>?_];obtain rfl:c'=came:=BQ (c1.trans hc.1.symm) c2 hc.2;refine#[by show(M.ts.map AN).length<=10000000; rw[FM]; omega,key M T okm okt _ ?_];refine#[_,rfl,by have:=lf M T; omega,λw' w1 w2=>?_];obtain rfl:w'=went:=BQ (w1.trans hw.1.symm) w2 hw.2;have sh:=Mv (Oa okt.1^Ko hc) (Oa okm.1^Ko hw) (by rw[FM]; omega) (by rw[FM]; omega);refine#[_,rfl,sh,z2,_,rfl,sh,?_];refine Jb ?_;refine#[tc,rfl,ltc,λo o1 o2=>?_];cases o with
 |nil=>
  have e:tc=[]:=List.perm_nil.mp o1.symm;subst e;have c0:c'=[]:=iR.mpr λu hu=>by let#[v,hv,_]:=ht u^df _ hu; exact absurd hv ci
  have w0:w'=[]:=iR.mpr λu hu=>by let#[v,hv,_]:=ht u^cW _ hu; exact absurd hv ci
  subst c0 w0;exact#[(by cbv:0+0<=sizeLine),z0,Wf,Wf,p]
 | cons f r=>
  have least:∀v∈tc,Ag (Ab v)^Ab f=l_:=λv hv=>by
   rcases Tk.mp^o1.mem_iff.mpr hv with rfl|z
   .exact A3 _
   .exact(dE.mp o2).1 v z
  have fin:(DJ^aC (As Wz (As R9 (AG 4)^AG 5)^Mn A7)^As Wz (As C7 (Ap Sm^AH (E8^As R9 (As R9 (AG 4)^AG 5)^AG 6) Ac)^wC^D.int 0)^As C7 (AG 6)^wC^D.int 0) (EE Pd) n [.sh^.tup^M.ts.map AN,.sh^.tup^T.ts.map AN,.sh^.tup [.lst^c'.map AN,.lst^w'.map AN],.sh^.lst^tc.map AN,.sh^.lst^c'.map AN,.sh^.lst^w'.map AN,.sh^.lst [AN f]]:=by
   have itf:∀d∈c'.map AN++w'.map AN,item d:=λd hd=>(cn.mp hd).elim (Oa okt.1 (Ko hc) d)^Oa okm.1 (Ko hw) d;refine#[by rw[FM,FM]; omega,z0,En itf,Wf,?_];cases e:c'++w' with
   |nil=>
    have e2:c'.map AN++w'.map AN=[]:=by rw[←dD,e]; rfl
    rw[e2];exact p
   | cons u us=>
    have e2:c'.map AN++w'.map AN=AN u::us.map AN:=by rw[←dD,e]; rfl
    rw[e2];refine#[by rw[FM,FM]; omega,by rw[cZ,FM,FM,c7]; omega,c'++w'++[f],by rw[dD,dD]; rfl,by rw[cZ,cZ,c7]; omega,λl l1 l2=>?_]
    have hf:∀v∈l,Ag (Ab v)^Ab f=l_:=λv hv=>by
     rcases cn.mp^l1.mem_iff.mp hv with z|z
     .let#[q,hq,hlt]:=ht v z
      have a1:=least q hq;cases e3:Ag (Ab v)^Ab f with
      |false=>rfl
      | true=>exact absurd (Bo _ _ _ e3 (by
        cases e4:Ag (Ab f)^Ab q with
        |true=>rfl
        |false=>rw[BX _ _ e4 a1]at e3; rw[e3]at hlt; cases hlt))^by rw[hlt]; decide
     .rw[On.mp z]; exact A3 _
    let#[r',rfl]:=Wx l2 (l1.mem_iff.mpr^cW _ (On.mpr rfl)) hf;have lf:=ly f^o1.mem_iff.mp Op;refine#[_,AA (j:=0) rfl,_,AA (j:=0) rfl,lf,lf,?_];rw[(HK f f).mpr rfl];exact p
  have cu:=XI (AN f)^r.map AN;rw[←cu]at fin;exact fin)
theorem JH:A.ZR "far" 4 ["self","a","b"] .sh^Ss C:=have ji:=Mb A; A.gmr A.h1i ["self","a","b"] (λ_ _ hr hp=>(BC (EY^B8 hp A.cl_Keeper (A9 A) (hr.mono^by cbv) (dv 0)^A4 1 AF)
 (BC (EY^B8 hp A.cl_Keeper (A9 A) (hr.mono^by cbv) (dv 0)^A4 2 AF)
 (B3^AE^AL^cg hr ji^Bk (Ba A.cl_Keeper A.na_Keeper_kept^dv 0)^A4 1^A4 2 AF)))) (@λss n Pd Pr h=>by
 let#[a,t,b,N,M,x,y,rfl,#[k,l24,e],hv,p]:=h;have okM:=k.2.2.1;unfold BP at p;have no:¬(x∈N.ps/\y∈N.ps)->Pr "NoPlace" [] [] n:=λm=>by rw[show BI N^.far x y=P3 "NoPlace" from if_neg m]at p; exact p
 refine#[a,_,_,rfl,k.1,by cbv,a,t,b,N,M,x,rfl,k,hv.1,λhx=>?_,λz=>no λw=>z w.1];refine#[a,_,_,rfl,k.1,by cbv,a,t,b,N,M,y,rfl,k,hv.2,λhy=>?_,λz=>no λw=>z w.2];rw[show BI N^.far x y=j_ from if_pos #[hx,hy]]at p;exact#[a,_,_,_,rfl,k.1,rfl,M,x,y,rfl,k.2.2.1,e▸hx,e▸hy,p])
theorem JF:A.Z "net" 1 ["self"] .sh^Xl C:=A.gm A.h1j ["self"] (λ_ _ hr=>(AE^AL^Ba A.cl_Keeper A.na_Keeper_whole^dv 0)) (@λss n Pd h=>by
 let#[a,t,b,N,M,rfl,hw,p]:=h;exact#[a,_,_,_,rfl,hw,rfl,p])
theorem EU:A.Z "thin" 1 ["self"] .sh^FS C:=A.gm A.h1k ["self"] (λ_ _ hr=>(AE^AL^Ba A.cl_Keeper A.na_Keeper_kept^dv 0)) (@λss n Pd h=>by
 let#[a,t,b,N,M,rfl,hw,p]:=h;exact#[a,_,_,_,rfl,hw,rfl,p])
theorem GL:A.Y "_law_is_right" 7 ["_law_keeper","_law_times_here","_law_net","_law_feed_here"] .sh^Iw C:=have GC_Keeper_far:=P9 P0^JH A; A.gk A.h18 ["_law_keeper","_law_times_here","_law_net","_law_feed_here","_law_thin","_law_a","_law_b"] (λT nd hr=>(AB (Av (Bu Gi Mc (AY (Cz hr) Ga rfl T.Gah ij (AO (F5 A.cl_Keeper (JF A) (hr.mono^by cbv)^dv 0) AT)) (AY (Cz hr) Ga rfl T.Gah ij (AO (dv 2) AT))) (AE^AL CL) AS)
 (AB (CA 4 nd^F5 A.cl_Keeper (EU A) (hr.mono^by cbv)^dv 0)
 (AB (Av (DTW.dt^Fz (Bu Pe Zr (cg hr (IC A)^A4 2^A4 1^A4 4^Bk (cg hr (G6 A)^A4 2^A4 1 AF) AF) CL)^EX^B5^BH^cg hr (ID A)^A4 2^A4 1^A4 4 AF) (AE^AL CL) AS)
 (AB (Av (Bu (GK hr) KG (Au (dv 2) AC)^AV AJ) (AE^AL CL) AS)
 (AB (W6 (i:=5) (j:=6) rfl nd rfl rfl (by cbv) rfl rfl (AD (Au (Au (dv 2) AC)^cg hr (BU A)^AQ (Bj 3)^Bk (S1 T.Gad^Au (dv 2) AC) AF)^AD (Au (Au (dv 2) AC)^cg hr (BU A)^AQ (Bj 3)^Bk (S1 T.Gad^Au (dv 2) AC) AF) AJ) rfl)
 (AE^AL^Bb Bx DZ (AY (Cz hr) Ga rfl T.Gah ij (AO (HS A.cl_Keeper GC_Keeper_far (hr.mono^by cbv) (dv 0)^A4 5^A4 6 AF) AT)) (AY (Cz hr) Ga rfl T.Gah ij (AO (UQ hr (cg hr (DY A)^AQ (DB^Au (dv 4) AC)^A4 5 AF)^dv 6) AT))^BV _))))))) (@λss n Pd h=>by
 let#[a,t,b,N,T,rfl,#[k,l24,e],bt,hT,hn,p]:=h;have ok:=k.2.1;have okT:=k.2.2.1;have l25:=okT.2.1;have lpl:(N.ps.map D.str).length=N.ps.length:=FM ..;have sh:=Mw ok;refine#[a,_,_,rfl,k.1,by cbv,a,t,b,N,T,rfl,k.1,_,rfl,sh,_,rfl,sh,Jb ?_];refine#[a,_,_,rfl,k.1,by cbv,a,t,b,N,T,rfl,k.1,?_];refine#[N,t,b,rfl,ok,k.2.2.2,λord rs o1 o2 pap=>?_];refine#[N,T,t,b,ord,rs,rfl,ok,k.2.2.2,hT,o1,o2,pap,?_];refine#[N,T,t,b,rfl,ok,k.2.2.2,bt,hT,?_];refine#[_,AA (j:=0) rfl,z0,Cb ok.1,CQ (ps:=[]) (λx hx=>by cases hx),?_];show if De (.tup^N.ps.map .str) (.tup [])=k_ then _ else _
 rw[UB];refine B_ (λ_=>p n.n^by lk) λc=>?_;have c:N.ps≠[]:=λz=>c^decide_eq_true z;have l1:=iT.mpr c;refine#[_,AA (j:=0) rfl,_,AA (j:=0) rfl,_,_,rfl,rfl,((N.ps.map D.str).length:Int),rfl,by lk,by lk,(by lk),λr r0 r1=>?_];rw[lpl]at r1;let#[x,hx,ex,_]:=Jh r0 r1;refine#[_,ex,?_];refine#[_,AA (j:=0) rfl,_,AA (j:=0) rfl,_,_,rfl,rfl,((N.ps.map D.str).length:Int),rfl,by lk,by lk,(by show 1<=n.n - 1; omega),λq q0 q1=>?_];rw[lpl]at q1;let#[y,hy,ey,_]:=Jh q0 q1;refine#[_,ey,_,_,rfl,?_];have kn:Vb C (n - 1 - 1) a t b N T:=k;refine#[a,_,_,rfl,k.1,by cbv,a,t,b,N,T,x,y,rfl,#[kn,l24,e],hx,hy,λo ho=>?_]
 have bd:∀d,o=P3 d->0<=d/\d<=30000000:=λd ed=>by
  subst ed;have ho:Least T x y d:=ho
  have:=Us okT.1 (e▸hx) T.ps.length [] y d ho di (λ_ h=>by cases h)^by rw[eK]; omega
  exact#[ho.1.pos okT.1,by lk]
 refine#[_,rfl,Lq bd,_,AA (j:=1) rfl,T,x,_,T.ts,rfl,rfl,λ_=>Iff.rfl,okT,e▸hx,λks ds Kn M1 L=>?_];refine#[ks,ds,rfl,_,Al y,?_]
 have ev:(BA ks ds^.inr y).getD .non=PY o:=by
  rw[M1.at_,show Kn y=o from(L.far y).unique ho];cases o <;>rfl
 rw[ev];refine#[_,rfl,Lq bd,?_];generalize Qv^PY o=s;show Pd (.bl (s==s)) #[n.n - 1 - 1,n.w];rw[beq_self_eq_true];exact p _^by lk)
omit A in
theorem E_:BF ["self","times"] ["self","times"]^AK Ax:=by walk_at "s"
theorem FG:F9 P w K mg base C:=A.gotC λT F=>bz F E_ (λhr=>(AB (Ie A.cl_Keeper A.na_Keeper_times (dv 0)^dv 1)
 (AB (Ie A.cl_Keeper A.na_Keeper_whole (dv 0)^AV^AD (AV AJ)^AD (AV AJ) AJ)
 (AE^Ie A.cl_Keeper A.na_Keeper_kept (dv 0)^AV^AD (AV AJ)^AD (AV AJ) AJ)))) (@λss n Pd h=>by
 let#[a,t,b,rfl,hw,p]:=h;refine#[rfl,a,[],[],rfl,hw,by cbv,?_];refine#[z0,z0,z2,rfl,a,["times"],[tD t b],rfl,Du _ _ _,by cbv,?_];refine#[z0,z0,z2,rfl,a,["times","whole"],[tD t b,enc #[[],[]]],rfl,Du _ _ _,by cbv,?_];rw[Ke,Ke];exact#[rfl,p])
end
section
variable {P:Program}{w:World}{K:Frag}{mg:Str->n_ Value}{base:Heap}
theorem Ka:BF ["_law_script"] ["_law_script"]^AK EO:=by constructor <;>first|rfl|decide +kernel
theorem Kt{f:Ch}{fd:dR}(T:Txt K mg)(F:Fun K "_law_feed" "_law_feed" EO f fd):FnOk P w K mg base E6 1 f fd ["_law_script"]^KU K:=by
 refine F.ok Ka (λvs H Q E h=>?_) λcdv A outer s H vs Q E hr h=>?_
 .let#[a,ns,rfl,_]:=h
  rfl
 .let#[a,ns,rfl,#[hl,hS],q]:=h
  refine#[_,Cq^EQ^Kl^BK (Jf LL rfl T.Gaq boot_list (BK (Ly sl_list (pv 0) OJ^OI Aq) Cj))^BK Aq^BK Aq Cj,?_];refine#[_,rfl,63,rfl,a,_,rfl,hS,λp hp=>#[p,_,rfl,.inl^SqL.of AM,λc hc=>#[by show 3<=sizeLine; decide,λg hg=>?_]]];rw[Zj hl]at hg ⊢;have ncg:c≠g:=λz=>by rw[←z,AM]at hg; cases hg
  exact q c g _ ncg (by rw[AI ncg,AM]) AM
theorem jj:BF ["_law_script","_law_feed_here","_law_names","_law_all_times","_law_keepers","_law_net","_law_begun","_law_k","_law_deed_here","_law_due","_law_touched_here","_law_j","_law_looks","_law_ahead","_law_told","_law_behind"] ["_law_script"]^AK Hr:=by walk_at "s"
theorem WZ{h:cf}{C_Keeper f ff:Ch}{fd fdf:dR}(A:Ctx P w K mg base h C_Keeper)(Gf:FnOk P w K mg base E6 1 ff fdf ["_law_script"]^KU K)(mf:mg "_law_feed"=P3^.ref ff)(kf:keepIn K^.ref ff=k_)(bf:Binds K fdf ["_law_script"] [])(F:Fun K "law" "law" Hr f fd):FnOk P w K mg base E6 9 f fd ["_law_script"]^Lp K:=by
 have jk:=FG A;have jl:=EU A;have jm:=Kv A;have jn:=Ku A;have jo:=GL A;have jp:=FF A;have jg:=BU A;have jq:=IE A;have jr:=JE A;have jt:=G8 A;have ju:=ET A;have T:=A.T
 exact ZL (n0:=3000) F jj rfl (by cbv) (λcdv A0 outer s H E hr=>Dx (i:=1) jj.nd rfl (fu rfl) (HE Gf (hr.mono^by cbv) rfl mf kf bf .nil Gh (BK (pv 0) Cj)))
  (λcdv A0 outer s H E hr=>(AB (CA 2 jj.nd^cg hr jq^AQ (Bj 1)^Bk AC AF)
 (AB (CA 3 jj.nd^DA^AD (cg hr jr^AQ (Bj 1) AF)^AD (cg hr jr^AQ (Bj 1) AF) AJ)
 (AB (CA 4 jj.nd^GY ["_law_times_here"] [j_] (Aw^dv 3) (λnq=>Cg 0 nq) BZ (UO jk (hr.mono^by cbv) rfl (A4 0 AF)))
 (AB (CA 5 jj.nd^AV^AD (AV AJ)^AD (AV AJ) AJ)
 (AB (CA 6 jj.nd^Ai DP Eg AC^cg hr jg^AQ (Bj 1)^Bk AC AF)
 (AB (C9 dM rfl (CW rfl T.Gae (AO (Ai Aj A1 (Ai Aj A1 (dv 6) AC)^cg hr jg^AQ (Bj 1)^Bk AC AF) AT)) (Cg 7 jj.nd) (AB (CA 8 jj.nd^E5 (Bu (ER hr) Gz (dv 7)^dv 6) (AV^AD AX^AD (Au (dv 2)^Ai OQ Sb AC^dv 7) AJ)^cg hr jm^AQ (Bj 1)^A4 2 AF)
 (AB (CA 9 jj.nd^cg hr jp^A4 5^A4 8 AF)
 (AB (CA 10 jj.nd^cg hr jt^A4 5^A4 9 AF)
 (AB (C9 dM rfl (CW rfl T.Gae (AO AC AT)) (Cg 11 jj.nd) (AB (CA 12 jj.nd^VS (Bb Bx DZ (dv 11) AC^BV _)^D6^Bb Bx DZ (cg hr jg^AQ (Bj 1)^Bk AC AF) AC^BV _)
 (AB (CA 13 jj.nd^E5 (BH^dv 12) (Au (F5 A.cl_Keeper jl (hr.mono^by cbv)^Au (dv 4)^dv 11) AC)^AV AJ)
 (AB (CA 14 jj.nd^cg hr jn^Bk (Au (dv 4)^dv 11)^A4 8 AF)
 (AB (Av (Bu Gi Mc (Bb ES G0 (dv 14) Az^BV _)^Bb ES G0 (dv 9) Az^BV _) (AE^AL CL) AS)
 (AB (CA 15 jj.nd^E5 (BH^dv 12) (Au (F5 A.cl_Keeper jl (hr.mono^by cbv)^Au (dv 4)^dv 11) AC)^AV AJ)
 (AE^Av (DTW.dt^GW (BH^dv 12)^GW (Bu Kp Nk (dv 14) Az)^F1^B5^BH (SQ ju (hr.mono^by cbv) rfl (A4 13^A4 15^A4 14^A4 10 AF))) (AE^AL CL) AS)))))))
 (AB (CA 5 jj.nd^E5 (Bu ES G0 (dv 9) Az) (dv 5)^dv 9)
 (AE^Av (Bu RX VY (cg hr jg^AQ (Bj 1)^Bk AC AF) AC) (AE^Av (B5^BH^cg hr jo^Bk (Au (dv 4) AC)^Bk (Au (dv 3) AC)^A4 5^AQ (Bj 1) AF) (AE^AL CL) AS) AS)))))))
 (AE^AL^Bb (BN hr) CM CL (GY ["_law_net","_law_feed_here","_law_keepers","_law_all_times","_law_j"] [P3 5,P3 1,P3 4,P3 3,j_] (DI.c (CW rfl T.Gae (AO AC AT))) (λnq=>Cg 4 nq) BZ^cg hr jo^Bk (Au (dv 2)^dv 4)^Bk (Au (dv 3)^dv 4)^A4 0^AQ (Bj 1) AF)^by with_unfolding_all rfl)))))))) (M8^by cbv)
end
local macro_rules|`(tactic|walk_at "B")=>`(tactic|(intro _ _ _ _ _ _; exact b9 λ_=>rfl))
theorem all_mk{l:PySem.W.OpenLaw}{w:cy}{K:Frag}{h:cf}{mg:Str->n_ Cn}{fa C_Keeper:Ch}(hfa:mg "law"=P3^.ref fa)(A:C0 K mg h C_Keeper):∃fd:dR,(∀(s:Go) (v:Cn),i_ s fd #[[v],[]] [("_law_script",v)])/\∀base:cf,K.In base->base.Ns mainGlobals mg->FnOk l.prog w K mg base E6 9 fa fd ["_law_script"]^Lp K:=by
 let#[ff,ffd,mf,Ff]:=A.h0w.fn A.X A.G;have bf:=Ff.binds (ps:=["_law_script"]) (by walk_at "B");let#[f,oc,od,an,sl,kV,dc,pm,cd,ct,a,l',c,k]:=A.h19;cases hfa.symm.trans^mg_of A.X A.G a;exact#[fnOf "law" "law" (BL Hr) (An Hr) (AK Hr) .none kV dc pm an cd ct,λs v=>.of_eq rfl,λbase _ _=>WZ A (Kt A.T Ff) mf Ff.kp bf^IS (st:=Hr) l' c k]
theorem walk{l:PySem.W.OpenLaw}{q:cm}{loose:m_ Str}{XP:(Str->n_ Cn)->cf->Prop}{YP:cy->cf->Prop}{d:DefRec}{K:Params->Frag}(hn:l.most=P3 63)(hdf:d.params.defaults=[])
  (hY:∀(w:cy) (h:cf),YP w h->(K w.params).In h)
  (F:∀(w:cy) (mg:Str->n_ Cn) (fa:Ch) (h:cf),(K w.params).In h->h.Ns mainGlobals mg->mg d.name=P3^.ref fa->
   ∃fd:dR,(∀(s:Go) (u:Cn),i_ s fd #[[u],[]] [("_law_script",u)])/\∀base:cf,(K w.params).In base->base.Ns mainGlobals mg->FnOk l.prog w (K w.params) mg base E6 9 fa fd ["_law_script"]^Lp^K w.params):
  PySem.W.WalkO q loose XP YP l.row.toRowW d [] (λf vs=>PySem.call f vs):=
 L2.Nv (n:=63) (k:=9) (x:="_law_script") (CX:=λ_=>E6) (sp:=λw=>Lp^K w.params) hn (by cbv) hdf #[rfl,by cbv,by cbv,rfl] hY F (λ_ _ a ns hl _ hS=>#[a,ns,rfl,#[hl,hS],λ_=>rfl]) λ_ _ _ _ _ z=>z
end K92
end _p
namespace PySem.W.Fast
def tw6928842899396979553:True:=⟨⟩
def tw8951113027704433086:True:=⟨⟩
def tw1652114619709935094:True:=⟨⟩
def tw3431956391684340694:True:=⟨⟩
def tw14059835614294209187:True:=⟨⟩
def tw10051944228735191664:True:=⟨⟩
def tw15471911412275535023:True:=⟨⟩
def tw257776021129556935:True:=⟨⟩
def tw1867028495804296477:True:=⟨⟩
def tw15234742935810377863:True:=⟨⟩
def tw7111854357110449122:True:=⟨⟩
def tw10781592521613930392:True:=⟨⟩
def tw18311773849448332159:True:=⟨⟩
def tw3441002344501977803:True:=⟨⟩
def tw10390733929282755842:True:=⟨⟩
def tw418174028634819579:True:=⟨⟩
def tw11954236974687649754:True:=⟨⟩
def tw8638956510127795808:True:=⟨⟩
def tw8633782649478115979:True:=⟨⟩
def tw9427974358850850259:True:=⟨⟩
def tw16451009442666059052:True:=⟨⟩
def tw8546344552423099749:True:=⟨⟩
def tw13394281593876018767:True:=⟨⟩
def tw2061594626114459069:True:=⟨⟩
def tw8912843778874249490:True:=⟨⟩
def tw11583726056267133577:True:=⟨⟩
def tw17421414313127690613:True:=⟨⟩
def tw16910210942694576792:True:=⟨⟩
def tw4800878806767055530:True:=⟨⟩
def tw10624548251227327144:True:=⟨⟩
def tw12743922053957042530:True:=⟨⟩
def tw16565818313857191190:True:=⟨⟩
def tw1702550136756802374:True:=⟨⟩
def tw901211201147097212:True:=⟨⟩
def tw3070520335488030668:True:=⟨⟩
def tw1220210548897793347:True:=⟨⟩
def tw6129376813079626044:True:=⟨⟩
def tw9887027557835336696:True:=⟨⟩
def tw2977994151083880593:True:=⟨⟩
def tw10120209344324507784:True:=⟨⟩
def tw11514083524389756539:True:=⟨⟩
def tw13399752824105137790:True:=⟨⟩
def tw14441305271825295690:True:=⟨⟩
def tw7460306162275228456:True:=⟨⟩
def tw5782771716534845258:True:=⟨⟩
def tw11648079237756231786:True:=⟨⟩
def tw10362440741306746733:True:=⟨⟩
def tw1634446837575649542:True:=⟨⟩
def tw2171579052499152957:True:=⟨⟩
def tw518721346704612320:True:=⟨⟩
def tw11447354691833338132:True:=⟨⟩
def tw4381095881303232364:True:=⟨⟩
def tw4135979176266327732:True:=⟨⟩
def tw8240073396571440815:True:=⟨⟩
def tw5161484719449106765:True:=⟨⟩
def tw10636807718901106373:True:=⟨⟩
def tw765621715506225502:True:=⟨⟩
def tw13234340893762390979:True:=⟨⟩
def tw7469805406116256702:True:=⟨⟩
def tw5822906139066745560:True:=⟨⟩
def tw15743329096929028661:True:=⟨⟩
def tw7880557727039231529:True:=⟨⟩
def tw1284300156288637961:True:=⟨⟩
def tw9829167030538471279:True:=⟨⟩
def tw3618743223281153349:True:=⟨⟩
def tw2706655275194772966:True:=⟨⟩
def tw8807159543932240203:True:=⟨⟩
def tw10149367091801979569:True:=⟨⟩
def tw18322147181266493251:True:=⟨⟩
def tw10839995578547906863:True:=⟨⟩
def tw11170933182081542876:True:=⟨⟩
def tw1194945971503509586:True:=⟨⟩
def tw9509511944138904194:True:=⟨⟩
def tw2564750153650644968:True:=⟨⟩
def tw8700413006891391907:True:=⟨⟩
def tw9131423938076967656:True:=⟨⟩
def tw11405436872620079185:True:=⟨⟩
def tw8026583959247842199:True:=⟨⟩
def tw3173687493014717185:True:=⟨⟩
def tw11456609354055103990:True:=⟨⟩
def tw11360559289309938363:True:=⟨⟩
def tw10466424372147537462:True:=⟨⟩
def tw1804067475924322908:True:=⟨⟩
def tw2861600039278692388:True:=⟨⟩
def tw5601590609417132409:True:=⟨⟩
def tw9828035449931054357:True:=⟨⟩
def tw8189012124109871788:True:=⟨⟩
def tw4201575652719714684:True:=⟨⟩
def tw2716632912624394350:True:=⟨⟩
def tw9840070836882662234:True:=⟨⟩
def tw11532194793986173810:True:=⟨⟩
def tw16901468216505416466:True:=⟨⟩
def tw5132493666965053480:True:=⟨⟩
def tw3013064376229572697:True:=⟨⟩
def tw3070326436140991894:True:=⟨⟩
def tw6708653300718126082:True:=⟨⟩
def tw5771302538195911152:True:=⟨⟩
def tw4027753829961444464:True:=⟨⟩
def tw10512966305911768538:True:=⟨⟩
def tw5642470005088307737:True:=⟨⟩
def tw2891775703434236640:True:=⟨⟩
def tw13747018787841565524:True:=⟨⟩
def tw5170035440598225085:True:=⟨⟩
def tw1899642997376132215:True:=⟨⟩
def tw12805254644395578887:True:=⟨⟩
def tw15792745767812725367:True:=⟨⟩
def tw6918509096431464322:True:=⟨⟩
def tw11848273445512727910:True:=⟨⟩
def tw7902888541056309793:True:=⟨⟩
def tw4644832056927208575:True:=⟨⟩
def tw7241460452002181954:True:=⟨⟩
def tw10743885489966775032:True:=⟨⟩
def tw12274834292182081550:True:=⟨⟩
def tw2907429864588341344:True:=⟨⟩
def tw18252457133213282636:True:=⟨⟩
def tw10744739642309782485:True:=⟨⟩
def tw10016237483865584029:True:=⟨⟩
def tw13477294405955151870:True:=⟨⟩
def tw10702602505317110445:True:=⟨⟩
def tw12972583991071255024:True:=⟨⟩
def tw5151946672866244117:True:=⟨⟩
def tw4229565939250362103:True:=⟨⟩
def tw10481520546600921448:True:=⟨⟩
def tw3314916936590074831:True:=⟨⟩
def tw5414837908317269541:True:=⟨⟩
def tw3543260391497724811:True:=⟨⟩
def tw2263287598665540545:True:=⟨⟩
def tw3570522861451509511:True:=⟨⟩
def tw7108968546660568200:True:=⟨⟩
def tw7389357955330133488:True:=⟨⟩
def tw16968554422992830749:True:=⟨⟩
def tw16982504788111085156:True:=⟨⟩
def tw13405559714389982644:True:=⟨⟩
def tw7232472088702048107:True:=⟨⟩
def tw1261801967213244771:True:=⟨⟩
def tw9055535044007332191:True:=⟨⟩
def tw355598580172766079:True:=⟨⟩
def tw9832765945303477367:True:=⟨⟩
def tw12247557212800821357:True:=⟨⟩
def tw10902932683745629173:True:=⟨⟩
def tw4786183204540237983:True:=⟨⟩
def tw15995291917596696400:True:=⟨⟩
def tw10349772766068270302:True:=⟨⟩
def tw9446779925931329946:True:=⟨⟩
def tw10062306390636198435:True:=⟨⟩
def tw2946368768949152:True:=⟨⟩
def tw8532677696648533977:True:=⟨⟩
def tw14460216827100252080:True:=⟨⟩
def tw11518117233404260783:True:=⟨⟩
def tw17193825463030363259:True:=⟨⟩
def tw6588052122237985877:True:=⟨⟩
def tw9246436603391716954:True:=⟨⟩
def tw16911067125962196763:True:=⟨⟩
def tw13463060652458975949:True:=⟨⟩
def tw13958973783379793970:True:=⟨⟩
def tw763989703780390038:True:=⟨⟩
def tw15362669120561952635:True:=⟨⟩
def tw11962021627104184228:True:=⟨⟩
def tw14318232503826415592:True:=⟨⟩
def tw4903070975535036036:True:=⟨⟩
def tw4274290304768059318:True:=⟨⟩
def tw10248090782395091438:True:=⟨⟩
def tw14040390382454965287:True:=⟨⟩
def tw571105351482840334:True:=⟨⟩
def tw10265753572607187406:True:=⟨⟩
def tw13937691714158531025:True:=⟨⟩
def tw17942550891084975319:True:=⟨⟩
def tw1258942133010410774:True:=⟨⟩
def tw6573071564145131767:True:=⟨⟩
def tw17951014813290259586:True:=⟨⟩
def tw2110620330565173609:True:=⟨⟩
def tw6987378556799284703:True:=⟨⟩
def tw1706383602751029837:True:=⟨⟩
def tw2106947376316712227:True:=⟨⟩
def tw12075389183946045649:True:=⟨⟩
def tw12782051494535923824:True:=⟨⟩
def tw653399033506628578:True:=⟨⟩
def tw12599798913919540189:True:=⟨⟩
def tw12880577168700388392:True:=⟨⟩
def tw5758006587429905462:True:=⟨⟩
def tw14373518231750730539:True:=⟨⟩
def tw15404671907530385505:True:=⟨⟩
def tw7397114329662321778:True:=⟨⟩
def tw17436741250846468118:True:=⟨⟩
def tw2422293315962425610:True:=⟨⟩
def tw5117534434283150334:True:=⟨⟩
def tw12146721003991106000:True:=⟨⟩
def tw10616401965650751523:True:=⟨⟩
def tw923558530456377953:True:=⟨⟩
def tw12422656365316740945:True:=⟨⟩
def tw4280444535042792649:True:=⟨⟩
def tw13532029554843979438:True:=⟨⟩
def tw4126198505209055530:True:=⟨⟩
def tw7277449955463268960:True:=⟨⟩
def tw11358654476085408079:True:=⟨⟩
def tw11199512344142594671:True:=⟨⟩
def tw18015414649383208204:True:=⟨⟩
def tw15894802925147526893:True:=⟨⟩
def tw16649625927250295706:True:=⟨⟩
def tw2422503148761750906:True:=⟨⟩
def tw18218963013724859265:True:=⟨⟩
def tw15177403028179552018:True:=⟨⟩
def tw17800111193623085936:True:=⟨⟩
def tw12990235525374751682:True:=⟨⟩
def tw4796058293874030103:True:=⟨⟩
def tw9365194473894849118:True:=⟨⟩
def tw17930365266304933991:True:=⟨⟩
def tw16375431528048795583:True:=⟨⟩
def tw450784995736955021:True:=⟨⟩
def tw14695924300550787589:True:=⟨⟩
def tw16936722137526946007:True:=⟨⟩
def tw7438086932590434185:True:=⟨⟩
def tw5817572263387416282:True:=⟨⟩
def tw788159097621710406:True:=⟨⟩
def tw14100649157414991856:True:=⟨⟩
def tw8515433265427909238:True:=⟨⟩
def tw15685856685441920651:True:=⟨⟩
def tw2370564304309756358:True:=⟨⟩
def tw14888022848822230319:True:=⟨⟩
def tw17800056899279707586:True:=⟨⟩
def tw2970628287050627951:True:=⟨⟩
def tw5840106972847160887:True:=⟨⟩
def tw9717293523776140406:True:=⟨⟩
def tw7409874468863145343:True:=⟨⟩
def tw9808846173307789948:True:=⟨⟩
def tw18281551831428514229:True:=⟨⟩
def tw14309555950236826677:True:=⟨⟩
def tw10756327401393419241:True:=⟨⟩
def tw877043883571426571:True:=⟨⟩
def tw17781221800395078792:True:=⟨⟩
def tw2938941773449183712:True:=⟨⟩
def tw6705151315249222716:True:=⟨⟩
def tw15190473852338499131:True:=⟨⟩
def tw5676163440332249139:True:=⟨⟩
def tw17567463962005851112:True:=⟨⟩
def tw1786110583362041742:True:=⟨⟩
def tw15112759831024562588:True:=⟨⟩
def tw12614722720279663624:True:=⟨⟩
def tw9509312095190585361:True:=⟨⟩
def tw738581016551342197:True:=⟨⟩
def tw9007290755326151249:True:=⟨⟩
end PySem.W.Fast
open _p
open PySem.W
set_option maxRecDepth 100000 in
set_option maxHeartbeats 0 in
theorem PySem.Challenge.cw_thinnet_k92_whole_a_keeper_through_deeds_holds : PySem.Challenge.rw_thinnet_k92_whole_a_keeper_through_deeds.Holds := by
 w_on; o_law; k_head; (case hw=>w_witness2)
 k_fill
 refine K92.walk (l:=PySem.Challenge.rw_thinnet_k92_whole_a_keeper_through_deeds) rfl rfl (λw h Y=>PySem.W.kIn_of Y) ?F
 case F =>
  intro w mg fa h KX G hmg
  refine' K92.all_mk (h:=h) hmg (K92.C0.mk KX G ?cK (L2.Cls.mk ?pg ?hd ?po ?sa) ?_ ?_ ?_ ?_ ?_ ?_ ?_ ?_ ?_ ?_ ?_ ?_ ?_ ?_ ?_ ?_ ?_ ?_ ?_ ?_ ?_ ?_ ?_ ?_ ?_ ?_ ?_ ?_ ?_ ?_ ?_ ?_ ?_ ?_ ?_ ?_ ?_ ?_ ?_ ?_ ?_ ?_ ?_ ?_ ?_ ?_ ?_ ?_ ?_ ?_ ?_ ?_ ?_ ?_ ?_ ?_ ?_ ?_ ?_ ?_ ?_ ?_ ?_ ?_ ?_ ?_ ?_ ?_ ?_ ?_ ?_ ?_ ?_ ?_ ?_ ?_ ?_ ?_ ?_ ?_ ?_ ?_ ?_ ?_ ?_ ?_ ?_ ?_)
  case cK=>k_is
  case pg=>k_is
  case hd=>k_is
  case po=>k_is
  case sa=>k_is
  all_goals first
   | (refine' K92.Ht.mk ?a ?l ?c ?k; (case a=>k_is); (case l=>k_is); (case c=>k_is); (case k=>k_is))
   | (refine' K92.Hm.mk ?a ?l ?c ?n ?k; (case a=>k_is); (case l=>k_is); (case c=>k_is); (case n=>k_is); (case k=>k_is))
   | (refine' K92.Hn.mk ?a; (case a=>k_is))
   | (refine' K92.H0.mk ?c ?i; (case c=>(refine' K92.xc_mk ?at_ ?atU ?o ?u ?kp ?ga ?gt ?sa ?ca ?nw ?nn ?nr; (case at_=>k_is); (case atU=>k_is); (case o=>k_is); (case u=>k_is); (case kp=>k_is); (case ga=>k_is); (case gt=>k_is); (case sa=>k_is); (case ca=>k_is); (case nw=>k_is); (case nn=>k_is); (case nr=>k_is))); (case i=>k_is))
   | (refine' K92.H1.mk ?c; (case c=>(refine' K92.xc_mk ?at_ ?atU ?o ?u ?kp ?ga ?gt ?sa ?ca ?nw ?nn ?nr; (case at_=>k_is); (case atU=>k_is); (case o=>k_is); (case u=>k_is); (case kp=>k_is); (case ga=>k_is); (case gt=>k_is); (case sa=>k_is); (case ca=>k_is); (case nw=>k_is); (case nn=>k_is); (case nr=>k_is))))
   | (refine' K92.Hi.mk ?a; (case a=>k_is))
   | (refine' K92.Ha.mk ?a ?b; (case a=>k_is); (case b=>k_is))
   | (unfold L2.NoAttr; k_is)
   | k_is
#print axioms PySem.Challenge.cw_thinnet_k92_whole_a_keeper_through_deeds_holds

import PyProof.Rows.All
import Wide.All
import OpenK.AllK
import Wide.FinOn
import Lean
import PyProof.EqAt
import PyProof.EqKinds
import PyProof.TupleCall
import PyProof.StationsW
import PyProof.PassesOwn
import PyProof.RulesAs
import PyProof.ExcClass3
import PyProof.Rows.CatchOwn
import OpenK.KMake
import OpenK.KWalk
import PyProof.InstStoreFacts
import PyProof.ExcBaseAll.ValueError
import PyProof.RangeIter
import OpenK.KRaise
import PyProof.NsDelKeeps
import KE.KIsAll
import PyProof.P3In
import PyProof.NeData
import PyProof.CompUse
import PyProof.ExcArgs
import PyProof.ReprLen
import KE.KSortTup
import PyProof.SumAny
import PyProof.Rows.SeqCalls
import KE.KRevIter
import PyProof.TupleOfGen
import PyProof.CollectIter
import PyProof.ListNew
import PyProof.AttrMissHeap
import PyProof.FactsAll.dict
import PyProof.Draws
import PyProof.EnumMake
import PyProof.RulesTry
import PySem.SetOps
import PyProof.TupleKey
import PyProof.SetKind
import PyProof.IsRules
import PyProof.Rows.SetFrom
import PyProof.WalksMore
import PyProof.TupleIter
import KE.KDictSum
import KE.KEqDict
import PyProof.ListMulRoad
import PyProof.FactsAll.zip
import PyProof.StrBlockH
import PyProof.MeetsStr2
import KE.KIntText
import PyProof.Rows.FStr
import PySem.Challenge.RW_thinnet_k90_whole_all_thinnings_of_a_net
open PySem.W (Frag nsIn keepIn fnOf codeIn mg_of mg_none_of)
set_option Elab.async false
set_option compiler.extract_closed false
set_option linter.all false
set_option maxRecDepth 100000
open Array renaming length_toList->fQ,getElem?_eq_getElem->ic,getElem?_eq_some_iff->jr,getElem_mem->jx,getElem?_toList->kX
open Array.Perm renaming refl->kP
open Bool renaming and_eq_true->dh,false_ne_true->eN,eq_iff_iff->e9,eq_false_iff->ft,false_eq_true->gT,not_eq_true'->i8
open Classical renaming propDecidable->fS,byContradiction->gY,not_forall->jU
open False renaming elim->gF
open ForInStep renaming yield->gZ
open Int renaming mul_le_mul_of_nonneg_right->e_,mul_le_mul_of_nonneg_left->fV,le_refl->gM,lt_ediv_add_one_mul_self->gq,zero_add->h_,toNat_natCast->iM,le_trans->iR,mul_nonneg->iy,ediv_nonneg->jS,add_assoc->jt,not_le->kg
open List renaming length_map->Ev,mem_cons_self->FM,mem_singleton->On,getElem?_eq_getElem->Op,mem_cons_of_mem->Sc,mem_append_right->TM,mem_map->TW,mem_append_left->Tk,mem_cons->UF,length_append->XV,mem_append->ZB,append_assoc->da,getElem?_eq_some_iff->de,length_cons->dg,getElem?_map->di,append_nil->dk,size_toArray->dn,length_singleton->d8,not_mem_nil->d9,nil_append->eA,mem_filter->eE,nodup_cons->eI,nodup_append->eP,getElem?_append_right->eT,toArray->eV,map_append->eX,getD_eq_getElem?_getD->eY,range->eZ,nodup_nil->ef,map_cons->e8,mem_of_getElem?->fD,pairwise_cons->fE,mem_range->fK,replicate->fN,length_filter_le->fP,all_eq_true->fX,map_map->fY,getElem_mem->fk,length_nil->f6,lt_irrefl->gH,filter_congr->gK,filter_sublist->gL,length_take->gP,mem_flatMap->gQ,getElem?_append_left->gW,drop_eq_getElem_cons->gX,length_range->gh,length_eq_zero_iff->gi,length_reverse->gj,cons_ne_nil->gn,mem_iff_getElem?->gy,singleton_append->gz,perm_ext_iff_of_nodup->g9,pairwise_append->hU,lookup_cons->h8,any_eq_true->h9,lt_trans->iB,length->iI,pairwise_map->iO,drop_length->iT,map_congr_left->iW,of_mem_zip->iX,forIn_cons->iZ,length_set->ia,map_nil->im,zipWith->ip,filter_filter->iq,getElem?_replicate->iz,pairwise_singleton->i6,reverse_cons->i7,flatMap_cons->i9,mem_reverse->jE,length_replicate->jF,getElem?_zipWith->jG,getElem?_eq_none->jH,Nodup->jT,filter_map->jV,length_zipWith->jW,map_id->jc,zip_cons_cons->je,any_cons->jm,all_cons->jn,pairwise_iff_getElem->jz,mem_of_find?_eq_some->j6,getElem?_zip_eq_some->j7,take_length->kC,cons_append->kI,getElem?_cons_succ->kJ,length_zip->kQ,getElem?_set_self->kR,getElem?_reverse->kZ,sum_cons->kh
open List.Pairwise renaming imp_of_mem->kE,nil->kz
open List.Perm renaming append_left->gU,trans->iH
open Nat renaming le_refl->Re,zero_le->dq,ne_of_lt->eB,le_trans->eJ,lt_of_lt_of_le->eW,lt_irrefl->fC,le_succ->fj,lt_succ_of_lt->f_,sub_self->gc,succ_le_succ->gm,lt_succ_self->iS,ne_of_gt->ig,not_lt->iw,min_le_right->jC,le_of_eq->jM,lt_of_le_of_lt->jd,mod_lt->j8,le_of_lt->j9,le_add_right->kF,min_eq_left->kO
open Ne renaming symm->fL
open Option renaming map_eq_some_iff->eq,isSome_map->ju,isNone->kj
open Option.some renaming inj->d6
open Or renaming inl->fh,inr->iC
open PyProof.Rows renaming callWith_type1->fI,slot_tuple_getitem->fT,boot_all->fZ,listUpdate_at->g8,get?_update_seq->iF,AllBare->ir,boot_sorted->jA,listItems_at->jR,seqEpoch_at->jb,size_push'->j1,lt_int->kT
open PyProof.Rows.KeyOrd renaming kle_refl->gA,kle_of_klt->i_,kle_trans->jD,kle_antisymm->ko
open PySem renaming Addr->Ch,Value->Db,wpAny_bind->Go,Shared->Rs,wpAny_pure->df,Heap->eC,Program->eK,Expr->eO,World->eU,Around->eh,sizeLine_eq->fA,FuncData->fJ,wpAny_mono->fM,wpAny_loadPart'->fW,wpAny_pyIter_tuple->fg,wpAny_truthy_bool->fo,wpAny_pyIter_list->fq,wpAny_field->fz,Stmt->f8,wpAny_seqItems->f9,codeAny_builtin->gB,wpAny_Call_Name_kw->gC,IsPair->gD,wpAny_holding->gE,wpAny_callSpecial?_slot->gI,plainId_quiet->gO,wpAny_newObj_type->gg,NameKind->gl,Scope->gs,wpAny_setField_rec->gv,wpAny_passesOwn->gx,Keyword->hZ,wpAny_call_entry->h7,wpAny_getItem_str_slice->iA,tupleKind_room_in1->iD,PyData->iE,wpAny_updateSeq->iG,wpAny_letGo->iK,IsZip->iN,Builtin->iQ,wpAny_typeOf->ii,typeIs_str->iu,wpAny_execs_nil->jJ,IsPart->jK,post_val_or_str->jN,wpAny_rule->jO,wpAny_updateSeq_pair->jP,BindsTo->jX,wpAny_tryCatch->jZ,SetTable->ja,wpAny_onRaise->jo,wpAny_newList->jq,codeAny_mono->j_,noFill_tuple_add->kA,PassesOwn->kL,wpAny_specialOf->kM
open PySem.Around renaming under_plainId->gf
open PySem.Builtin.Builtins renaming bindParams->jg
open PySem.Builtin.List renaming listExtendWith->gw,listTooLong->ik,listLengthHint->jh,listSameRef->kH
open PySem.Builtin.Slice renaming slicePlaces->iY,sliceAdjust->jy
open PySem.Builtin.SmallTypes renaming nextOf->fm,ownedTupleIsFree->gG,ownedTupleHandOut->io
open PySem.Builtin.Tuple renaming tupleExact->ij,tupleItemsOf->jk,tupleIsExact->jp
open PySem.Calls renaming spliced_cons->gR,spliced_nil->g_,callWith_builtin->iJ,evalArgs_plain->jL,Name_function_global->jj
open PySem.Expr renaming Call->ji
open PySem.F renaming slot_tuple_iterator_next->g7,slot_zip_next->jQ,args_tuple_iterator_next_1->jY,entry_tuple_iterator_next->jf,called_tuple->kY
open PySem.Heap renaming get?_push_of_some->No,get?_push_size->T0,lt_size->Uf,get?_update_other->d_,size_push->fe,get?_update_self->gS,SameBut->ie,IsTuple->kB,IsList->kU
open PySem.Heap.SameBut renaming update->kn
open PySem.NameKind renaming free->fH,cell->jB
open PySem.Obj renaming mapSeq->fG
open PySem.PassesOwn renaming never->d7
open PySem.PyData renaming eqv->fO,depthAll->fi,canLayAll0->gJ,hasDict->iP,eqvAll->iU,hasDictAll->jw,leavesShortAll->kW
open PySem.SeqAt.EqAt renaming int_str->kr,str_int->ku
open PySem.Shared renaming heap->iL
open PySem.Str renaming ofString->fu,length_append->jv
open PySem.Value renaming none->fB,type->fF,ref->fR,str->hV,bool->jI,int->kq
open PySem.Walks renaming listRev->ki
open Std.Legacy.Range renaming size->ke
open Sum renaming inr->f7,inl->iV
open Sum.inr renaming inj->hX
open True renaming intro->gu
open PySem PySem.Spec PyProof.Rows
local macro_rules | `(tactic| walk_at "s")=>`(tactic| (constructor <;> first | rfl | decide +kernel))
namespace _p

local macro_rules|`(tactic|let#[$x,*]:=$e)=>open Lean Parser Tactic in do
 let q k a:=mkNode ``rcasesPatLo #[mkNode ``rcasesPatMed #[mkNullNode #[mkNode k a]],mkNullNode]
 let p:Syntax:=(← `(term|⟨$x,*⟩)).raw.rewriteBottomUp fun s=>if s.isIdent then q ``rcasesPat.one #[s] else if s.getKind= ``Term.hole then q ``rcasesPat.ignore s.getArgs else if s.getKind= ``Term.anonymousCtor||s.getKind= `«term#[_,]» then q ``rcasesPat.tuple s.getArgs else s
 let m:TSyntax ``rcasesPatMed:=⟨p[0]⟩
 `(tactic|obtain $m:rcasesPatMed:=$e)
local macro_rules|`(tactic|exists $x,*)=>`(tactic|refine⟨$x,*, ?_⟩)
local macro_rules|`(tactic|lk)=>`(tactic|first|lia|omega)
local macro_rules|`(tactic|cbv)=>`(tactic|decide)
local macro_rules|`($f^$x)=>if f.raw.getTrailingSize>0 then Lean.Macro.throwUnsupported else match f with|`($g $a*)=>`($g $a* $x)|_=>`($f $x)
local macro_rules|`(#[%$t $y,*])=>if t.getTrailingSize>0||y.getElems.size=0 then Lean.Macro.throwUnsupported else `(⟨$y,*⟩)
open Option renaming some->P3,none->l_
open Bool renaming true->m_,false->n_
abbrev o_(a:Type u):=List a
abbrev p_(a:Type u):=Option a
namespace L2
abbrev Key:=Sum Int Str
def Km:Key->Db->Bool
 |.inl k,v=>Value.isInt k v
 |.inr x,v=>Value.isStrOf x v
def ba(w:eU):Key->Int
 |.inl k=>hashInt k
 |.inr x=>hashStr w x
theorem BM:∀{k:Key}{v:Db},Km k v=m_->(∃i t,k=iV i/\v=kq i t)\/(∃x t,k=f7 x/\v=hV x t)
 |.inl i,v,h=>by
  let#[t,e]:=Value.isInt_shape h;exact .inl #[i,t,rfl,e]
 |.inr x,v,h=>by
  let#[t,e]:=Value.isStrOf_shape h;exact .inr #[x,t,rfl,e]
theorem Qj(i:Int)(t:Tok):Km (.inl i)^.int i t=m_:=by simp[Km,Value.isInt]
theorem Qi(x:Str)(t:Tok):Km (.inr x)^.str x t=m_:=by simp[Km,Value.isStrOf]
theorem Xw(a b:Int):decide ((iV a:Key)=iV b)=(a==b):=by
 grind
theorem Xt(a b:Str):decide ((f7 a:Key)=f7 b)=decide (a=b):=by
 grind
theorem Xv(a:Int)(b:Str):decide ((iV a:Key)=f7 b)=n_:=decide_eq_false λq=>nomatch q
theorem Xu(a:Str)(b:Int):decide ((f7 a:Key)=iV b)=n_:=decide_eq_false λq=>nomatch q
def A_(prog:eK)(w:eU):PySem.KeyKind prog w Key where
 is:=Km
 hash:=ba w
 inj:=λv a b ha hb=>by
  rcases BM ha with⟨i,t,rfl,rfl⟩|⟨x,t,rfl,rfl⟩
  .rcases BM hb with⟨j,u,rfl,e⟩|⟨y,u,rfl,e⟩
   .injection e with e1 _;rw[e1]
   .exact nomatch e
  .rcases BM hb with⟨j,u,rfl,e⟩|⟨y,u,rfl,e⟩
   .exact nomatch e
   .injection e with e1 _;rw[e1]
 byValue:=λk v h=>by
  rcases BM h with⟨i,t,rfl,rfl⟩|⟨x,t,rfl,rfl⟩ <;>rfl
 pyHash:=λhv h=>by
  rcases BM hv with⟨i,t,rfl,rfl⟩|⟨x,t,rfl,rfl⟩
  .exact wpAny_pyHash_int h
  .exact wpAny_pyHash_str h
 eqBool:=λhu hv h=>by
  rcases BM hu with⟨i,t,rfl,rfl⟩|⟨x,t,rfl,rfl⟩
  .rcases BM hv with⟨j,u,rfl,rfl⟩|⟨y,u,rfl,rfl⟩
   .rw[Xw]at h;exact wpAny_eqBool_int h
   .rw[Xv]at h;exact kr i t y u _ _ _ _ h
  .rcases BM hv with⟨j,u,rfl,rfl⟩|⟨y,u,rfl,rfl⟩
   .rw[Xu]at h;exact ku x t j u _ _ _ _ h
   .rw[Xt]at h;exact wpAny_eqBool_str h
 «strs»:=λk x t v h=>by
  rcases BM h with⟨i,u,rfl,e⟩|⟨y,u,rfl,e⟩
  .exact nomatch e
  .injection e with e1 _
   subst e1
   cases v <;>rfl
theorem Mw(prog:eK)(w:eU)(i:Int)(t:Tok):(A_ prog w).is (.inl i)^.int i t=m_:=Qj i t
theorem Mv(prog:eK)(w:eU)(x:Str)(t:Tok):(A_ prog w).is (.inr x)^.str x t=m_:=Qi x t
inductive V where
 |non|bl (b:Bool)|int (i:Int)|str (x:Str)|byt (b:Array UInt8)|flt (b:UInt64)|ref (a:Ch)|ty (n:String)
 deriving DecidableEq
def RelV:V->Db->Prop
 |.non,u=>u=fB
 |.bl b,u=>u=jI b
 |.int i,u=>∃t,u=kq i t
 |.str x,u=>∃t,u=hV x t
 |.byt b,u=>∃t,u=Value.bytes b t
 |.flt b,u=>∃t,u=Value.float b t
 |.ref a,u=>u=fR a
 |.ty n,u=>u=fF n
abbrev Vals:o_ V->o_ Db->Prop:=Paired RelV
theorem Vals.length{xs:o_ V}{us:o_ Db}(r:Vals xs us):xs.length=us.length:=Paired.length r
theorem Vals.get:∀{xs:o_ V}{us:o_ Db}{i:Nat}{x:V},Vals xs us->xs[i]?=P3 x->∃u,us[i]?=P3 u/\RelV x u
 |_,_,_,_,.nil,e=>by simp at e
 |_,_,0,_,.cons r _,e=>by simp_all
 |_,_,i+1,x,.cons _ t,e=>by
  let#[u,h1,h2]:=Vals.get t^by simpa using e
  simp_all
theorem Vals.set{x:V}{u:Db}(r:RelV x u):∀{xs:o_ V}{us:o_ Db} (i:Nat),Vals xs us->Vals (xs.set i x)^us.set i u
 |_,_,_,.nil=>.nil
 |_,_,0,.cons _ t=>.cons r t
 |_,_,i+1,.cons q t=>.cons q^Vals.set r i t
theorem Vals.append:∀{xs ys:o_ V}{us ws:o_ Db},Vals xs us->Vals ys ws->Vals (xs++ys) (us++ws)
 |_,_,_,_,.nil,s=>s
 |_,_,_,_,.cons r t,s=>.cons r^Vals.append t s
theorem Vals.take:∀{xs:o_ V}{us:o_ Db} (n:Nat),Vals xs us->Vals (xs.take n)^us.take n
 |_,_,0,_=>.nil
 |_,_,_+1,.nil=>.nil
 |_,_,n+1,.cons r t=>.cons r^Vals.take n t
theorem Vals.drop:∀{xs:o_ V}{us:o_ Db} (n:Nat),Vals xs us->Vals (xs.drop n)^us.drop n
 |_,_,0,r=>r
 |_,_,_+1,.nil=>.nil
 |_,_,n+1,.cons _ t=>Vals.drop n t
def RelO:p_ V->p_ Db->Prop
 |some v,P3 u=>RelV v u
 |none,l_=>True
 |_,_=>False
def KV{κ:Type}:o_ (κ×V)->o_ (κ×Db)->Prop:=Paired fun(p:κ×V) (q:κ×Db)=>p.1=q.1/\RelV p.2 q.2
def kV:Key->V
 |.inl i=>.int i
 |.inr x=>.str x
inductive HO where
 |lst (xs:List V)
 |tup (xs:List V)
 |dK (kvs:List (Key×V))|dT (kvs:List (List Key×V))
 |set (S:Int->Bool) (n:Nat)
 |ins (C dx:Ch) (fs:List (Str×V))
 |own (x:Ch)
 |xd (fs:List (Str×V))
 |met (f x:Ch)
 |rng (lo hi:Int)
 |frz (o:Obj) (u:HO)
 |tbl (ps:Array Db)
 |ext (φ:eC->Prop)
abbrev Hp:=Ch->p_ HO
def BF(H:Hp)(a:Ch)(o:HO):Hp:=λb=>if b=a then P3 o else H b
theorem AW{H:Hp}{a:Ch}{o:HO}:BF H a o a=P3 o:=by unfold BF;grind
theorem AO{H:Hp}{a b:Ch}{o:HO}(h:b≠a):BF H a o b=H b:=by unfold BF;rw[if_neg h]
theorem Zi{H:Hp}{a b:Ch}{o u:HO}(h:H a=P3 o)(h':H b=P3 u)(d:o≠u):a≠b:=by
 grind
theorem Aq{H:Hp}{a b:Ch}{o:HO}(h:H a=P3 o)(h':H b=l_):a≠b:=by
 grind
def IsTupN(h:eC)(a:Ch)(items:Array Db):Prop:=∃o,h.get? a=P3 o/\o.cls=.type "tuple"/\∃n,o.data=.seq items n/\o.dict=l_/\o.slots=#[]
theorem IsTupN.tup{h:eC}{a:Ch}{items:Array Db}(x:IsTupN h a items):IsTup h a items:=let #[o,h1,h2,n,h3,_]:=x;#[o,h1,h2,n,h3]
theorem IsTupN.new(h:eC)(items:Array Db):IsTupN (h.push {cls:=.type "tuple",data:=.seq items}) h.objs.size items:=#[_,T0 _ rfl,rfl,_,rfl,rfl,rfl]
section
variable (P:Program)(w:World)
def ObjOk(H:Hp)(h:eC)(a:Ch):HO->Prop
 |.lst xs=>xs.length<=sizeLine/\∃(its:o_ Db) (n:Nat),Vals xs its/\h.get? a=P3 {cls:=.type "list",data:=.seq its.toArray n}
 |.tup xs=>xs.length<=sizeLine/\∃its:o_ Db,Vals xs its/\IsTupN h a its.toArray
 |.dK kvs=>kvs.length<=sizeLine/\(a==sysModules)=n_/\∃vs,KV kvs vs/\h.DictOf (A_ P w) a vs
 | .dT kvs=>kvs.length<=sizeLine/\(a==sysModules)=n_/\∃xs:o_ (o_ Key×Ch×Db),
   Paired (fun(p:o_ Key×V) (q:o_ Key×Ch×Db)=>p.1=q.1/\H q.2.1=P3^.tup^p.1.map kV/\RelV p.2 q.2.2) kvs xs /\
   ∃o es ep,h.get? a=P3 o/\o.ExactDict/\o.data=.dict es ep/\es.toList=xs.map^entryOfKey^tupleKind^A_ P w/\(xs.map (·.1)).Nodup
 |.set S n=>h.SetOf (intKind P w) a S n
 | .ins C dx fs=>H dx=P3^.own a/\fs.length<=1000/\dx≠a/\h.get? a=P3^PySem.W.instObj C dx /\
   ∃mA,h.Ns1 dx mA/\(∀f,RelO (fs.lookup f)^mA f)/\PySem.Within mA (fs.map (·.1))
 |.own _=>∃o,h.get? a=P3 o
 |.xd fs=>∃mA,h.Ns1 a mA/\∀f,RelO (fs.lookup f)^mA f
 |.rng lo hi=>∃t u v,h.get? a=P3 {cls:=.type "range",data:=.fields #[ .int lo t,.int hi u,.int 1 v]}
 |.frz o u=>h.get? a=P3 o/\ObjOk H h a u
 |.tbl ps=>h.get? a=P3 {cls:=.none,data:=.fields ps}
 |.met f x=>h.get? a=P3^PySem.W.methodObj (.ref f)^.ref x
 |.ext φ=>φ h/\(∃o,h.get? a=P3 o)/\∀h1 h2:eC,φ h1->(∀o,h1.get? a=P3 o->h2.get? a=P3 o)->φ h2
def HOk(H:Hp)(h:eC):Prop:=∀a o,H a=P3 o->ObjOk P w H h a o
end
section
variable {P:Program}{w:World}{H H':Hp}{h h':Heap}{a:Addr}{o:HO}
theorem ObjOk.lt(x:ObjOk P w H h a o):a<h.objs.size:=by
 cases o with
 |lst xs=>let#[_,_,_,_,e]:=x;exact Uf e
 |tup xs=>let#[_,_,_,p]:=x;exact p.tup.lt
 |dK kvs=>let#[_,_,_,_,o,_,_,e,_]:=x;exact Uf e
 |dT kvs=>let#[_,_,_,_,o,_,_,e,_]:=x;exact Uf e
 |set S n=>let#[o,_,_,_,e,_]:=x;exact Uf e
 |ins C dx fs=>let#[_,_,_,e,_]:=x;exact Uf e
 |own y=>let#[_,e]:=x;exact Uf e
 |xd fs=>let#[_,#[_,_,_,e,_],_]:=x;exact Uf e
 |rng lo hi=>let#[_,_,_,e]:=x;exact Uf e
 |frz ob u=>let#[e,_]:=x;exact Uf e
 |tbl ps=>exact Uf (show h.get? a=P3 _ from x)
 |met f y=>exact Uf (show h.get? a=P3 _ from x)
 |ext φ=>let#[_,#[_,e],_]:=x;exact Uf e
theorem Paired.mapP{α β:Type}{F G:α->β->Prop}:∀{l₁:o_ α}{l₂:o_ β},Paired F l₁ l₂->(∀a b,F a b->G a b)->Paired G l₁ l₂
 |_,_,.nil,_=>.nil
 |_,_,.cons r t,f=>.cons (f _ _ r)^Paired.mapP t f
theorem ObjOk.stay(x:ObjOk P w H h a o)(k:∀b u,(b=a\/H b=P3^.own a)->h.get? b=P3 u->h'.get? b=P3 u)
  (ho:∀b,H b=P3^.own a->H' b=P3^.own a) (ht:∀b xs,H b=P3^.tup xs->H' b=P3^.tup xs):ObjOk P w H' h' a o:=by
 induction o with
 |lst xs=>let#[z,its,n,r,e]:=x;exact#[z,its,n,r,k _ _ (.inl rfl) e]
 |tup xs=>let#[z,its,r,ob,e,c]:=x;exact#[z,its,r,ob,k _ _ (.inl rfl) e,c]
 |dK kvs=>let#[z,y,vs,r,ob,es,ep,e,c]:=x;exact#[z,y,vs,r,ob,es,ep,k _ _ (.inl rfl) e,c]
 |dT kvs=>
  let#[z,y,xs,r,ob,es,ep,e,c]:=x;exact#[z,y,xs,Paired.mapP r λp q z=>#[z.1,ht _ _ z.2.1,z.2.2],ob,es,ep,k _ _ (.inl rfl) e,c]
 |set S n=>let#[ob,es,ep,t,e,c]:=x;exact#[ob,es,ep,t,k _ _ (.inl rfl) e,c]
 |ins C dx fs=>
  let#[d,z,ne,e,mA,#[od,es,ep,e2,c],r]:=x;exact#[ho _ d,z,ne,k _ _ (.inl rfl) e,mA,#[od,es,ep,k _ _ (.inr d) e2,c],r]
 |own y=>let#[ob,e]:=x;exact#[ob,k _ _ (.inl rfl) e]
 |xd fs=>let#[mA,#[od,es,ep,e,c],r]:=x;exact#[mA,#[od,es,ep,k _ _ (.inl rfl) e,c],r]
 |rng lo hi=>let#[t,u,v,e]:=x;exact#[t,u,v,k _ _ (.inl rfl) e]
 |frz ob u ih=>let#[e,q]:=x;exact#[k _ _ (.inl rfl) e,ih q]
 |tbl ps=>
  have e:h.get? a=P3 {cls:=.none,data:=.fields ps}:=x;show h'.get? a=P3 {cls:=.none,data:=.fields ps};exact k a _ (.inl rfl) e
 |met f y=>
  have e:h.get? a=P3^PySem.W.methodObj (.ref f)^.ref y:=x;show h'.get? a=P3^PySem.W.methodObj (.ref f)^.ref y;exact k a _ (.inl rfl) e
 |ext φ=>let#[p,#[o,e],st]:=x;exact#[st _ _ p λo q=>k _ _ (.inl rfl) q,#[o,k _ _ (.inl rfl) e],st]
theorem HOk.lt(x:HOk P w H h)(e:H a=P3 o):a<h.objs.size:=(x a o e).lt
theorem HOk.fresh(x:HOk P w H h)(e:h.objs.size<=a):H a=l_:=by
 cases q:H a with
 |none=>rfl
 |some u=>exact absurd (eW (x.lt q) e)^fC _
theorem HOk.kept(x:HOk P w H h)(k:∀b u,h.get? b=P3 u->h'.get? b=P3 u):HOk P w H h':=λa o e=>
 (x a o e).stay (λb u _ q=>k b u q) (λ_ q=>q) λ_ _ q=>q
theorem HOk.laid(x:HOk P w H h)(k:∀b u,h.get? b=P3 u->h'.get? b=P3 u)(hp:h.objs.size<=a)(new:ObjOk P w (BF H a o) h' a o):HOk P w (BF H a o) h':=λb u e=>by
 have hn:=x.fresh hp
 by_cases hb:b=a
 .subst hb;rw[AW]at e;grind
 .rw[AO hb]at e
  exact(x b u e).stay (λc v _ q=>k c v q) (λc q=>by rw[AO^Aq q hn];exact q) λc xs q=>by rw[AO^Aq q hn];exact q
end
def Rd(H:Hp)(a:Ch)(u:HO):Prop:=H a=P3 u\/∃o,H a=P3^.frz o u
theorem Rd.ok{P:eK}{w:eU}{H:Hp}{h:eC}{a:Ch}{u:HO}(r:Rd H a u)(x:HOk P w H h):ObjOk P w H h a u:=by
 rcases r with r|⟨o,r⟩
 .exact x a u r
 .let#[_,q]:=x a _ r
  exact q
def ag:p_ HO->Prop
 |some (.lst _)=>True
 |some (.dK _)=>True
 |some (.dT _)=>True
 |some (.set _ _)=>True
 |some (.ins _ _ _)=>True
 |some (.ext _)=>True
 |_=>False
section
variable {P:Program}{w:World}{H:Hp}{h h':Heap}{x e:Addr}{o':HO}
theorem HOk.write(ok:HOk P w H h)(mu:ag^H x)(he:e=x\/H e=P3^.own x)(k:∀b u,b≠e->h.get? b=P3 u->h'.get? b=P3 u)(heo:∃u,h'.get? e=P3 u)
  (new:ObjOk P w (BF H x o') h' x o'):HOk P w (BF H x o') h':=λb u q=>by
 have nown:∀c y,H c=P3^.own y->c≠x:=λc y r z=>by subst z;rw[r]at mu;exact mu
 have ntup:∀c xs,H c=P3^.tup xs->c≠x:=λc xs r z=>by subst z;rw[r]at mu;exact mu
 by_cases hb:b=x
 .subst hb;rw[AW]at q;cases q;exact new
 .rw[AO hb]at q
  by_cases hbe:b=e
  .have q':H b=P3^.own x:=by
    grind
   rw[q]at q';cases q'
   let#[v,hv]:=heo;exact#[v,by rw[hbe];exact hv]
  .refine(ok b u q).stay (λc v hc r=>k c v ?_ r) (λc r=>by rw[AO^nown c b r];exact r) λc xs r=>by rw[AO^ntup c xs r];exact r
   grind
end
structure Un (fs ex:List Ch) (H H':Hp) (h h':eC):Prop where
 keep:∀b o,h.get? b=P3 o->H b=l_->b∉fs->b∉ex->h'.get? b=P3 o
 slot:∀b o,h.get? b=P3 o->H b=l_->b∈fs->b∉ex->∃sl,h'.get? b=P3 {o with slots:=sl}
 free:∀b o,h.get? b=P3 o->H b=l_->b∉ex->H' b=l_
 there:∀b o,h.get? b=P3 o->b∉ex->∃o',h'.get? b=P3 o'
 tups:∀b xs,H b=P3^.tup xs->H' b=P3 (.tup xs)
 frzs:∀b o u,H b=P3^.frz o u->H' b=P3 (.frz o u)
 tbls:∀b ps,H b=P3^.tbl ps->∃more,H' b=P3^.tbl (ps++more)
section
variable {fs ex:o_ Addr}{H H1:Hp}{h h1 h':Heap}{a x e:Addr}{o:HO}
theorem Un.any(u:Un fs ex H H1 h h1){b:Ch}{ob:Obj}(q:h.get? b=P3 ob)(n:H b=l_)(hx:b∉ex):∃sl,h1.get? b=P3 {ob with slots:=sl}:=by
 by_cases hb:b∈fs
 .exact u.slot b ob q n hb hx
 .exact#[_,u.keep b ob q n hb hx]
theorem Un.kept(k:∀b u,h.get? b=P3 u->h'.get? b=P3 u):Un fs ex H H h h':=
 #[λb ob q _ _ _=>k b ob q,λb ob q _ _ _=>#[_,k b ob q],λ_ _ _ n _=>n,λb ob q _=>#[ob,k b ob q],λ_ _ q=>q,λ_ _ _ q=>q,λ_ ps q=>#[#[],by rw[q];simp]]
theorem Un.refl:Un fs ex H H h h:=Un.kept λ_ _ q=>q
theorem Un.laid(k:∀b u,h.get? b=P3 u->h'.get? b=P3 u)(hp:h.objs.size<=a)(hn:H a=l_):Un fs ex H (BF H a o) h h' where
 keep:=λb u q _ _ _=>k b u q
 slot:=λb u q _ _ _=>#[_,k b u q]
 free:=λb u q n _=>by rw[AO^eB^eW (Uf q) hp];exact n
 there:=λb u q _=>#[u,k b u q]
 tups:=λb xs q=>by rw[AO^Aq q hn];exact q
 frzs:=λb u xs q=>by rw[AO^Aq q hn];exact q
 tbls:=λb ps q=>#[#[],by rw[AO^Aq q hn,q];simp]
theorem Un.write(mu:ag^H x)(he:e=x\/H e=P3^.own x)(k:∀b u,b≠e->h.get? b=P3 u->h'.get? b=P3 u)(heo:∃u,h'.get? e=P3 u):Un fs ex H (BF H x o) h h':=by
 have hx:∀b,H b=l_->b≠x:=λb n z=>by subst z;rw[n]at mu;exact mu
 have hb:∀b,H b=l_->b≠e:=λb n z=>by
  grind
 have hm:∀b u,H b=P3 u->¬ag^P3 u->b≠x:=λb u q nm z=>by grind
 refine#[λb u q n _ _=>k b u (hb b n) q,λb u q n _ _=>#[u.slots,k b u (hb b n) q],λb u q n _=>by rw[AO^hx b n];exact n,λb u q _=>?_,
  λb xs q=>by rw[AO^hm b _ q λz=>z];exact q,λb u xs q=>by rw[AO^hm b _ q λz=>z];exact q,λb ps q=>#[#[],by rw[AO^hm b _ q λz=>z,q];simp]]
 by_cases hbe:b=e
 .simp_all
 .exact#[u,k b u hbe q]
end
def dC(h:eC)(H:Hp):o_ Ch:=(eZ h.objs.size).filter λa=>(H a).isSome
def Lr(h:eC)(H:Hp):eC:=PySem.W.hideAll h^dC h H
theorem Qp(h:eC)(H:Hp):(Lr h H).objs.size=h.objs.size:=PySem.W.hideAll_size _ _
theorem TD{h:eC}{H:Hp}{b:Ch}{o:Obj}(e:h.get? b=P3 o)(n:H b=l_):(Lr h H).get? b=P3 o:=
 PySem.W.hideAll_get _ e λhm=>by
  have q:=(eE.mp hm).2
  grind
theorem VB{h:eC}{H:Hp}{b:Ch}{o:Obj}(e:(Lr h H).get? b=P3 o):h.get? b=P3 o/\H b=l_:=by
 have e':=PySem.W.of_hideAll _ e;refine#[e',?_];cases q:H b with
 |none=>rfl
 |some x=>
  have z:(Lr h H).get? b=l_:=PySem.W.hideAll_none _^eE.mpr #[fK.mpr^Uf e',by simp[q]]
  grind
structure Mod (K:Frag) (mg:Str->Option Db) (base:eC):Prop where
 kin:K.In base
 glob:base.Ns mainGlobals mg
 blt:∃mb,base.Ns builtinsNs mb/\∀x:Str,x ≠ "__name__"->mb x=bootBuiltins x
 nolimit:base.NoLimit
/-- the context:a def's body (or a comprehension's block) running. base:fixed through the whole law;s₀,H₀:the entry;outer:the frames whose slots others may change (a def's callers);stack:all frames that run;
   ex:iterators that were made ahead of the entry and are walked here^a comprehension's;fn:the names whose cells were made at the entry (a def:all;a comprehension's block:its own);calm:not within an except suite;pn:zG that every state bears;xe:what is wanted of an exception that leaves the code -/
structure Cx where
 prog:eK
 w:eU
 K:Frag
 mg:Str->Option Db
 base:eC
 A:eh
 N:List Str
 s₀:Rs
 H₀:Hp
 env:Env
 outer:List Env
 stack:List Env
 ex:List Ch
 fn:Str->Bool
 calm:Bool
 pn:List (Ch×Obj)
 xe:Db->Rs->Prop
def PP(l:o_ Env):o_ Ch:=l.filterMap (·.frame)
abbrev Cx.fs(X:Cx):o_ Ch:=PP X.outer
def Wo(sc:gs)(x:Str):Prop:=sc.names.lookup x=P3 .local\/sc.names.lookup x=P3 .cell\/sc.names.lookup x=P3 .free
def Loc(sc:gs)(x:Str):Prop:=sc.names.lookup x=P3 .local\/sc.names.lookup x=P3 .cell
def Look(env:Env)(h:eC)(m:Str->p_ Db)(x:Str)(u:Db):Prop:=
 (env.kindOf x=P3 .local/\m x=P3 u)\/((env.kindOf x=P3 .cell\/env.kindOf x=P3 .free)/\∃c,env.cells.lookup x=P3 c/\h.IsCell c^P3 u)
structure Cx.Ok (X:Cx):Prop where
 mod:Mod X.K X.mg X.base
 kind:X.env.scope.kind=.function
 glob:X.env.globals=mainGlobals
 blt:X.env.builtins=builtinsNs
 above:X.s₀.heap.objs.size<=X.env.locals
 inj:∀x y c,X.env.cells.lookup x=P3 c->X.env.cells.lookup y=P3 c->x=y
 has:∀x,(X.env.kindOf x=P3 .cell\/X.env.kindOf x=P3 .free)->∃c,X.env.cells.lookup x=P3 c
 cab:∀x c,X.fn x=m_->X.env.cells.lookup x=P3 c->X.s₀.heap.objs.size<=c
 hd:X.calm=m_->X.A.handled=l_
 frames:X.A.frames=P3 X.stack
 stk:X.stack=X.outer\/(X.stack=X.env::X.outer/\X.env.frame=P3 X.env.locals)
 exf:∀b∈X.ex,b≠X.env.locals/\∀x c,X.env.cells.lookup x=P3 c->c≠b
 bs:∀b o,X.base.get? b=P3 o->X.s₀.heap.get? b=P3 o/\X.H₀ b=l_
 bsz:X.base.objs.size<=X.s₀.heap.objs.size
 noex:∀b o,X.base.get? b=P3 o->b∉X.ex
 exfs:∀b∈X.ex,b∉X.fs
 funs:X.s₀.heap.FunFrames X.base X.outer
 frf:∀b∈X.fs,X.H₀ b=l_
structure Inv (X:Cx) (zG:List (Ch×Obj)) (Z:List^Option V) (H:Hp) (s:Rs):Prop where
 ok:X.Ok
 os:s.os=X.s₀.os
 bare:ir s.gens
 base:Un X.fs X.ex X.H₀ H X.s₀.heap s.heap
 loc:∃m,s.heap.Ns X.env.locals m/\∀(i:Nat) (x:Str) (v:V),X.N[i]?=P3 x->Z[i]?=P3^P3 v->Wo X.env.scope x->∃u,RelV v u/\Look X.env s.heap m x u
 cell:∀x c,X.env.cells.lookup x=P3 c->∃v,s.heap.IsCell c v
 free:H X.env.locals=l_
 freeC:∀x c,X.env.cells.lookup x=P3 c->H c=l_
 pin:∀p∈X.pn++zG,s.heap.get? p.1=P3 p.2/\H p.1=l_/\p.1≠X.env.locals/\p.1∉X.fs/\∀v,p.2.data≠.cell v
 hok:HOk X.prog X.w H s.heap
 len:Z.length=X.N.length
section
variable {X:Cx}{zG:o_ (Addr×Obj)}{Z:o_^p_ V}{H H':Hp}{s:Shared}{h':Heap}
theorem Cx.Ok.nofr(ok:X.Ok){b:Ch}{o:Obj}(e:X.base.get? b=P3 o):b∉X.fs:=λhb=>by
 have:=(ok.funs.mem hb).1
 grind
theorem Inv.bs(I:Inv X zG Z H s):∀b o,X.base.get? b=P3 o->s.heap.get? b=P3 o/\H b=l_:=λb o e=>
 #[I.base.keep b o (I.ok.bs b o e).1 (I.ok.bs b o e).2 (I.ok.nofr e)^I.ok.noex b o e,I.base.free b o (I.ok.bs b o e).1 (I.ok.bs b o e).2 (I.ok.noex b o e)]
theorem Inv.bk(I:Inv X zG Z H s):∀b o,X.base.get? b=P3 o->s.heap.get? b=P3 o:=λb o e=>(I.bs b o e).1
theorem Inv.mod(I:Inv X zG Z H s):Mod X.K X.mg X.base:=I.ok.mod
theorem Inv.kIn(I:Inv X zG Z H s):X.K.In s.heap:=I.ok.mod.kin.keeps I.bk
theorem Inv.lt(I:Inv X zG Z H s):X.env.locals<s.heap.objs.size:=let #[_,hn,_]:=I.loc;hn.lt
theorem Inv.sz(I:Inv X zG Z H s):X.s₀.heap.objs.size<=s.heap.objs.size:=eJ I.ok.above^j9 I.lt
theorem Inv.nofs(I:Inv X zG Z H s){a:Ch}(h:s.heap.objs.size<=a):a∉X.fs:=λhb=>by
 let#[_,o,ho,_]:=I.ok.funs.mem hb;exact absurd (eW (Uf ho)^eJ I.sz h)^fC _
theorem Inv.cne(I:Inv X zG Z H s):∀x c,X.env.cells.lookup x=P3 c->c≠X.env.locals:=λx c e z=>by
 let#[v,o,ho,hd]:=I.cell x c e;let#[m,#[o',es,ep,ho',hd',_],_]:=I.loc
 grind
theorem Inv.funs(I:Inv X zG Z H s):s.heap.FunFrames X.base X.outer:=by
 have all:∀(l:o_ _),(∀b∈PP l,b∈X.fs)->X.s₀.heap.FunFrames X.base l->s.heap.FunFrames X.base l:=by
  intro l
  induction l with
  |nil=>intro _ _;trivial
  |cons env r ih=>
   intro hs hl;let#[hk,#[L,o,hf,hn,ho,hd],hr]:=hl;have hL:=hs L (by unfold PP;simp_all);let#[sl,e]:=I.base.slot L o ho (I.ok.frf L hL) hL λz=>I.ok.exfs L z hL;exact#[hk,#[L,_,hf,hn,e,hd],ih (λb hb=>hs b^by unfold PP;rw[List.filterMap_cons,hf];exact Sc _ hb) hr]
 exact all _ (λ_ hb=>hb) I.ok.funs
theorem Inv.stack(I:Inv X zG Z H s):s.heap.FunFrames X.base X.stack:=by
 rcases I.ok.stk with e|⟨e,hf⟩
 .rw[e];exact I.funs
 .rw[e]
  let#[m,hn,_]:=I.loc;exact .cons (by rw[I.ok.kind];decide) hf hn (Heap.get?_none_of_le^eJ I.ok.bsz I.ok.above) I.funs
theorem Inv.stkSub(I:Inv X zG Z H s):∀b∈PP X.stack,b∈X.env.locals::X.fs:=λb hb=>by
 rcases I.ok.stk with e|⟨e,hf⟩
 .grind
 .rw[e]at hb
  unfold PP at hb;rw[List.filterMap_cons,hf]at hb;exact hb
theorem Inv.stkFree(I:Inv X zG Z H s):∀b∈PP X.stack,H b=l_:=λb hb=>by
 rcases UF.mp^I.stkSub b hb with e|hb
 .rw[e];exact I.free
 .let#[_,o,ho,_]:=I.ok.funs.mem hb
  exact I.base.free b o ho (I.ok.frf b hb) λz=>I.ok.exfs b z hb
theorem Inv.step{g':Array GenState}{t':Nat}{d':Drawn}{ch:o_ Ch}(I:Inv X zG Z H s)
  (hch:∀b∈ch,(b∈X.ex\/X.s₀.heap.objs.size<=b)/\b≠X.env.locals/\(∀x c,X.env.cells.lookup x=P3 c->c≠b)/\∀p∈X.pn++zG,p.1≠b)
  (keep:∀b o,b≠X.env.locals->b∉X.fs->b∉ch->s.heap.get? b=P3 o->H b=l_->h'.get? b=P3 o)
  (slot:∀b o,b≠X.env.locals->b∈X.fs->b∉ch->s.heap.get? b=P3 o->H b=l_->∃sl,h'.get? b=P3 {o with slots:=sl}) (free:∀b o,b∉ch->s.heap.get? b=P3 o->H b=l_->H' b=l_)
  (there:∀b o,b∉ch->s.heap.get? b=P3 o->∃o',h'.get? b=P3 o')
  (tups:∀b xs,H b=P3^.tup xs->H' b=P3^.tup xs) (frzs:∀b o u,H b=P3^.frz o u->H' b=P3^.frz o u) (tbls:∀b ps,H b=P3^.tbl ps->∃more,H' b=P3^.tbl (ps++more))
  (ns:∀m,s.heap.Ns X.env.locals m->h'.Ns X.env.locals m) (hok:HOk X.prog X.w H' h') (hg:ir g'):
  Inv X zG Z H' {s with heap:=h',gens:=g',drawn:=d',toks:=t'}:=by
 have neL:∀b o,X.s₀.heap.get? b=P3 o->b≠X.env.locals:=λb o e=>eB^eW (Uf e) I.ok.above
 have neC:∀b o,X.s₀.heap.get? b=P3 o->b∉X.ex->b∉ch:=λb o e hx hb=>by
  rcases(hch b hb).1 with z|z
  .exact hx z
  .exact absurd (eW (Uf e) z)^fC _
 have cellK:∀x c,X.env.cells.lookup x=P3 c->∀v,s.heap.IsCell c v->h'.IsCell c v:=λx c e v #[o,ho,hd]=>by
  have nch:c∉ch:=λz=>(hch c z).2.2.1 x c e rfl
  by_cases hc:c∈X.fs
  .let#[sl,q]:=slot c o (I.cne x c e) hc nch ho^I.freeC x c e
   exact#[_,q,hd]
  .exact#[o,keep c o (I.cne x c e) hc nch ho^I.freeC x c e,hd]
 refine#[I.ok,I.os,hg,#[λb o e n hb hx=>?_,λb o e n hb hx=>?_,λb o e n hx=>?_,λb o e hx=>?_,λb xs e=>tups b xs^I.base.tups b xs e,λb o xs e=>frzs b o xs^I.base.frzs b o xs e,λb ps e=>?_],?_,λx c e=>?_,?_,λx c e=>?_,λp hp=>?_,hok,I.len]
 .exact keep b o (neL b o e) hb (neC b o e hx) (I.base.keep b o e n hb hx)^I.base.free b o e n hx
 .let#[sl,e1]:=I.base.slot b o e n hb hx
  let#[sl',e2]:=slot b _ (neL b o e) hb (neC b o e hx) e1^I.base.free b o e n hx;exact#[sl',e2]
 .let#[o',e1]:=I.base.there b o e hx
  exact free b o' (neC b o e hx) e1^I.base.free b o e n hx
 .let#[o',e1]:=I.base.there b o e hx
  exact there b o' (neC b o e hx) e1
 .let#[m1,e1]:=I.base.tbls b ps e
  let#[m2,e2]:=tbls b _ e1;exact#[m1++m2,by rw[e2,Array.append_assoc]]
 .let#[m,hn,hl]:=I.loc
  refine#[m,ns m hn,λi x v e1 e2 e3=>?_];let#[u,r,l]:=hl i x v e1 e2 e3;refine#[u,r,?_]
  rcases l with l|⟨k,c,e,z⟩
  .exact .inl l
  .exact .inr #[k,c,e,cellK x c e _ z]
 .let#[v,z]:=I.cell x c e
  exact#[v,cellK x c e v z]
 .let#[m,#[o,_,_,ho,_],_]:=I.loc
  exact free _ o (λz=>(hch _ z).2.1 rfl) ho I.free
 .let#[v,o,ho,hd]:=I.cell x c e
  exact free c o (λz=>(hch c z).2.2.1 x c e rfl) ho^I.freeC x c e
 .let#[e,n,ne,nf,d]:=I.pin p hp
  have nch:p.1∉ch:=λz=>(hch p.1 z).2.2.2 p hp rfl;exact#[keep p.1 p.2 ne nf nch e n,free p.1 p.2 nch e n,ne,nf,d]
theorem Inv.un{t':Nat}(I:Inv X zG Z H s)(u:Un X.fs [] H H' s.heap h')(hok:HOk X.prog X.w H' h'):Inv X zG Z H' {s with heap:=h',toks:=t'}:=by
 let#[m,#[o,es,ep,ho,r],_]:=id I.loc;let#[sl,hL]:=u.any ho I.free^by simp
 exact I.step (ch:=[]) (λ_ z=>nomatch z) (λb o _ hb _ e n=>u.keep b o e n hb^by simp) (λb o _ hb _ e n=>u.slot b o e n hb^by simp) (λb o _ e n=>u.free b o e n^by simp) (λb o _ e=>u.there b o e^by simp) u.tups u.frzs u.tbls (λm' hm=>by
  let#[o',es',ep',ho',r']:=hm;rw[ho]at ho';cases ho'
  exact#[_,_,_,hL,r']) hok I.bare
theorem Inv.call{g':Array GenState}{t':Nat}{d':Drawn}{ch:o_ Ch}(I:Inv X zG Z H s)(u:Un (PP X.stack) ch H H' s.heap h')(hok:HOk X.prog X.w H' h')(hg:ir g')
  (hch:∀b∈ch,(b∈X.ex\/X.s₀.heap.objs.size<=b)/\b≠X.env.locals/\(∀x c,X.env.cells.lookup x=P3 c->c≠b)/\∀p∈X.pn++zG,p.1≠b):
  Inv X zG Z H' {s with heap:=h',gens:=g',drawn:=d',toks:=t'}:=by
 let#[m,#[o,es,ep,ho,r],_]:=id I.loc;let#[sl,hL]:=u.any ho I.free λz=>(hch _ z).2.1 rfl
 exact I.step hch (λb o hL hb hc e n=>u.keep b o e n (λz=>(UF.mp^I.stkSub b z).elim hL hb) hc) (λb o _ _ hc e n=>u.any e n hc) (λb o hc e n=>u.free b o e n hc) (λb o hc e=>u.there b o e hc) u.tups u.frzs u.tbls (λm' hm=>by
  let#[o',es',ep',ho',r']:=hm;rw[ho]at ho';cases ho'
  exact#[_,_,_,hL,r']) hok hg
theorem Inv.turned{t':Nat}{it:Ch}(I:Inv X zG Z H s)(k:∀b o,b≠it->s.heap.get? b=P3 o->h'.get? b=P3 o)(hn:H it=l_)(hL:it≠X.env.locals)
  (h1:it∈X.ex\/X.s₀.heap.objs.size<=it) (h2:∀x c,X.env.cells.lookup x=P3 c->c≠it) (h3:∀p∈X.pn++zG,p.1≠it):Inv X zG Z H {s with heap:=h',toks:=t'}:=by
 have nit:∀b u,H b=P3 u->b≠it:=λb u e z=>by grind
 refine I.step (g':=s.gens) (d':=s.drawn) (ch:=[it]) (λb hb=>?_) (λb o _ _ hc e _=>k b o (λz=>hc^by simp[z]) e) (λb o _ _ hc e _=>#[o.slots,k b o (λz=>hc^by simp[z]) e]) (λ_ _ _ _ n=>n)
  (λb o hc e=>#[o,k b o (λz=>hc^by simp[z]) e]) (λ_ _ e=>e) (λ_ _ _ e=>e) (λb ps e=>#[#[],by rw[e];simp]) (λm hm=>?_) (λb u e=>?_) I.bare
 .have e:b=it:=by simpa using hb
  subst e;exact#[h1,hL,h2,h3]
 .let#[o,es,ep,ho,r]:=hm
  exact#[o,es,ep,k _ o (fL hL) ho,r]
 .refine(I.hok b u e).stay (λc v hc q=>k c v ?_ q) (λ_ q=>q) λ_ _ q=>q
  grind
theorem Inv.tok(I:Inv X zG Z H s)(t:Nat):Inv X zG Z H {s with toks:=t}:=I.un Un.refl I.hok
theorem Inv.kept{t':Nat}(I:Inv X zG Z H s)(k:∀b u,s.heap.get? b=P3 u->h'.get? b=P3 u):Inv X zG Z H {s with heap:=h',toks:=t'}:=I.un (Un.kept k)^I.hok.kept k
theorem Inv.laid{a:Ch}{o:HO}{t':Nat}(I:Inv X zG Z H s)(k:∀b u,s.heap.get? b=P3 u->h'.get? b=P3 u)(hp:s.heap.objs.size<=a)(new:ObjOk X.prog X.w (BF H a o) h' a o):
  Inv X zG Z (BF H a o) {s with heap:=h',toks:=t'}:=I.un (Un.laid k hp^I.hok.fresh hp)^I.hok.laid k hp new
theorem Inv.write{x e:Ch}{o:HO}{t':Nat}(I:Inv X zG Z H s)(mu:ag^H x)(he:e=x\/H e=P3^.own x)(k:∀b u,b≠e->s.heap.get? b=P3 u->h'.get? b=P3 u)(heo:∃u,h'.get? e=P3 u)
  (new:ObjOk X.prog X.w (BF H x o) h' x o):Inv X zG Z (BF H x o) {s with heap:=h',toks:=t'}:=I.un (Un.write mu he k heo)^I.hok.write mu he k heo new
theorem Inv.pins_of{pins':o_ (Ch×Obj)}(I:Inv X zG Z H s)(h:∀p∈pins',s.heap.get? p.1=P3 p.2/\H p.1=l_/\p.1≠X.env.locals/\p.1∉X.fs/\∀v,p.2.data≠.cell v):Inv X pins' Z H s:=
 #[I.ok,I.os,I.bare,I.base,I.loc,I.cell,I.free,I.freeC,λp hp=>(ZB.mp hp).elim (λz=>I.pin p^Tk _ z)^h p,I.hok,I.len]
theorem Ms{N:o_ Str}(hN:N.Nodup){i j:Nat}{x:Str}(a:N[i]?=P3 x)(b:N[j]?=P3 x):i=j:=by
 let#[h1,e1]:=de.mp a;let#[h2,e2]:=de.mp b;exact(List.getElem_inj hN).mp^e1.trans e2.symm
theorem KW{M:Model}{A:eh}{E:Db->Rs->Prop}{i:Nat}{x:Str}{v:V}{u:Db}{Q:Unit->Rs->Prop}(I:Inv X zG Z H s)(hN:X.N.Nodup)(hi:X.N[i]?=P3 x)(hx:Loc X.env.scope x)(r:RelV v u)
  (h:∀s',Inv X zG (Z.set i^P3 v) H s'->(∃a,ie a s.heap s'.heap/\(a=X.env.locals\/X.env.cells.lookup x=P3 a))->Q () s') (hf:X.fn x=m_\/X.env.scope.names.lookup x=P3 .local:=by first|exact .inl rfl|exact .inr rfl|assumption):wpAny M A (storeName X.env x u) Q E s:=by
 let#[m,hn,hl]:=id I.loc;have hcls:(X.env.scope.kind==.class||(X.env.scope.kind==.module&&X.env.locals !=X.env.globals))=n_:=by rw[I.ok.kind];rfl
 have hiσ:i<Z.length:=by rw[I.len];exact(de.mp hi).1
 have cne:=I.cne
 have tracked:∀{a:Ch}{h':eC},(∃o,s.heap.get? a=P3 o/\H a=l_)->ie a s.heap h'->HOk X.prog X.w H h':=λ{a h'} ha hs b ob e=>by
  let#[_,_,hfree]:=ha;refine(I.hok b ob e).stay (λc w' hc q=>(hs.2 c ?_).trans q) (λ_ q=>q) λ_ _ q=>q;rintro rfl
  rcases hc with rfl|hc
  .rw[hfree]at e;cases e
  .rw[hfree]at hc;cases hc
 rcases hx with hk|hk
 .refine wpAny_storeName_local hk hn (λh' hn' hs=>?_) hcls
  let#[oL,_,_,hoL,_]:=id hn;refine h _ #[I.ok,I.os,I.bare,#[λb o e n hb hx=>?_,λb o e n hb hx=>?_,I.base.free,λb o e hx=>?_,I.base.tups,I.base.frzs,I.base.tbls],#[_,hn',λj y v' e1 e2 e3=>?_],λy c e=>?_,I.free,I.freeC,λp hp=>?_,tracked #[oL,hoL,I.free] hs,by simpa using I.len] #[_,hs,.inl rfl]
  .exact(hs.2 b^eB^eW (Uf e) I.ok.above).trans^I.base.keep b o e n hb hx
  .let#[sl,e1]:=I.base.slot b o e n hb hx
   exact#[sl,(hs.2 b^eB^eW (Uf e) I.ok.above).trans e1]
  .let#[o',e1]:=I.base.there b o e hx
   exact#[o',(hs.2 b^eB^eW (Uf e) I.ok.above).trans e1]
  .by_cases hj:j=i
   .subst hj
    rw[hi]at e1;cases e1
    rw[kR hiσ]at e2;cases e2;exact#[u,r,.inl #[hk,by simp]]
   .rw[List.getElem?_set_ne^fL hj]at e2
    let#[u',r',q]:=hl j y v' e1 e2 e3;refine#[u',r',?_]
    rcases q with⟨k,e⟩|⟨k,c,e,z⟩
    .refine .inl #[k,?_]
     have:y≠x:=λe=>hj^Ms hN e1 (e▸hi)
     simp[this,e]
    .exact .inr #[k,c,e,z.sameBut hs^cne y c e]
  .let#[w',z]:=I.cell y c e
   exact#[w',z.sameBut hs^cne y c e]
  .let#[e,n,ne,nf,d]:=I.pin p hp
   exact#[(hs.2 p.1 ne).trans e,n,ne,nf,d]
 .have hfn:X.fn x=m_:=by
   rcases hf with z|z
   .exact z
   .rw[z]at hk;cases hk
  let#[c,hc]:=I.ok.has x^.inl hk;let#[w',z]:=I.cell x c hc;refine wpAny_storeName_cell I.ok.kind hk hc z λh' hc' hs=>?_;let#[oc,hoc,hocd]:=id z;refine h {s with heap:=h'} #[I.ok,I.os,I.bare,#[λb o e n hb hx=>?_,λb o e n hb hx=>?_,I.base.free,λb o e hx=>?_,I.base.tups,I.base.frzs,I.base.tbls],#[m,hn.sameBut hs^fL^cne x c hc,λj y v' e1 e2 e3=>?_],λy c' e=>?_,I.free,I.freeC,λp hp=>?_,tracked #[oc,hoc,I.freeC x c hc] hs,by simpa using I.len] #[c,hs,.inr hc]
  .exact(hs.2 b^eB^eW (Uf e)^I.ok.cab x c hfn hc).trans^I.base.keep b o e n hb hx
  .let#[sl,e1]:=I.base.slot b o e n hb hx
   exact#[sl,(hs.2 b^eB^eW (Uf e)^I.ok.cab x c hfn hc).trans e1]
  .let#[o',e1]:=I.base.there b o e hx
   exact#[o',(hs.2 b^eB^eW (Uf e)^I.ok.cab x c hfn hc).trans e1]
  .by_cases hj:j=i
   .subst hj
    rw[hi]at e1;cases e1
    rw[kR hiσ]at e2;cases e2;exact#[u,r,.inr #[.inl hk,c,hc,hc']]
   .rw[List.getElem?_set_ne^fL hj]at e2
    let#[u',r',q]:=hl j y v' e1 e2 e3;refine#[u',r',?_]
    rcases q with q|⟨k,c',e,z'⟩
    .exact .inl q
    .refine .inr #[k,c',e,z'.sameBut hs ?_]
     rintro rfl;exact hj^Ms hN e1 (I.ok.inj _ _ _ e hc▸hi)
  .by_cases hcc:c'=c
   .subst hcc;exact#[_,hc']
   .let#[w2,z2]:=I.cell y c' e
    exact#[w2,z2.sameBut hs hcc]
  .let#[e,n,ne,nf,d]:=I.pin p hp
   refine#[(hs.2 p.1 ?_).trans e,n,ne,nf,d];intro q;rw[q,hoc]at e;have q':oc=p.2:=d6 e;exact d w'^by rw[←q'];exact hocd
theorem Ir{M:Model}{A:eh}{E:Db->Rs->Prop}{i:Nat}{x:Str}{v:V}{u:Db}{Q:Unit->Rs->Prop}(I:Inv X zG Z H s)(hN:X.N.Nodup)(hi:X.N[i]?=P3 x)(hx:Loc X.env.scope x)(r:RelV v u)
  (h:∀s',Inv X zG (Z.set i^P3 v) H s'->Q () s') (hf:X.fn x=m_\/X.env.scope.names.lookup x=P3 .local:=by first|exact .inl rfl|exact .inr rfl|assumption):wpAny M A (storeName X.env x u) Q E s:=
 KW I hN hi hx r (λs' I' _=>h s' I') hf
theorem Inv.call'{s':Rs}{ch:o_ Ch}(I:Inv X zG Z H s)(ho:s'.os=s.os)(u:Un (PP X.stack) ch H H' s.heap s'.heap)(hok:HOk X.prog X.w H' s'.heap)(hg:ir s'.gens)
  (hch:∀b∈ch,(b∈X.ex\/X.s₀.heap.objs.size<=b)/\b≠X.env.locals/\(∀x c,X.env.cells.lookup x=P3 c->c≠b)/\∀p∈X.pn++zG,p.1≠b):Inv X zG Z H' s':=by
 let#[h',g',d',t',o']:=s';subst ho;exact I.call u hok hg hch
end
abbrev XK:=Db->p_ Ch->Hp->Prop
abbrev St:=o_^p_ V
abbrev VK:=V->Hp->Prop
abbrev TE:=St->Hp->VK->Prop
abbrev TT:=St->Hp->(Bool->Hp->Prop)->Prop
abbrev TA:=St->Hp->(o_ V->Hp->Prop)->Prop
structure Ends where
 nx:St->Hp->Prop
 rt:VK
 bk:St->Hp->Prop:=λ_ _=>False
 ct:St->Hp->Prop:=λ_ _=>False
abbrev TS:=Ends->St->Hp->Prop
def EP(X:Cx)(zG:o_ (Ch×Obj))(Z:St)(Q:VK)(u:Db)(s':Rs):Prop:=∃v H',Inv X zG Z H' s'/\RelV v u/\Q v H'
def TP(X:Cx)(zG:o_ (Ch×Obj))(Z:St)(Q:Bool->Hp->Prop)(b:Bool)(s':Rs):Prop:=∃H',Inv X zG Z H' s'/\Q b H'
def AP(X:Cx)(zG:o_ (Ch×Obj))(Z:St)(Q:o_ V->Hp->Prop)(us:o_ Db)(s':Rs):Prop:=∃vs H',Inv X zG Z H' s'/\Vals vs us/\Q vs H'
def SP(X:Cx)(zG:o_ (Ch×Obj))(D:Ends)(f:Flow)(s':Rs):Prop:=
 match f with
 |.next=>∃zZ H',Inv X zG zZ H' s'/\D.nx zZ H'
 |.brk=>∃zZ H',Inv X zG zZ H' s'/\D.bk zZ H'
 |.cont=>∃zZ H',Inv X zG zZ H' s'/\D.ct zZ H'
 |.ret u=>∃v zZ H',Inv X zG zZ H' s'/\RelV v u/\D.rt v H'
def PE(X:Cx)(e:eO)(t:TE):Prop:=
 ∀(zG:o_ (Ch×Obj)) (s:Rs) (Z:St) (H:Hp) (Q:VK),Inv X zG Z H s->t Z H Q->wpAny (model X.prog X.w) X.A (eval e X.env) (EP X zG Z Q) X.xe s
def PT(X:Cx)(e:eO)(t:TT):Prop:=
 ∀(zG:o_ (Ch×Obj)) (s:Rs) (Z:St) (H:Hp) (Q:Bool->Hp->Prop),Inv X zG Z H s->t Z H Q->wpAny (model X.prog X.w) X.A (isTrue e X.env^eval e X.env) (TP X zG Z Q) X.xe s
def PW(X:Cx)(e:eO)(t:TT):Prop:=
 ∀(whole:Sem Db) (zG:o_ (Ch×Obj)) (s:Rs) (Z:St) (H:Hp) (Q:Bool->Hp->Prop),Inv X zG Z H s->t Z H Q->wpAny (model X.prog X.w) X.A (isTrue e X.env whole) (TP X zG Z Q) X.xe s
theorem PW.pt{X:Cx}{e:eO}{t:TT}(h:PW X e t):PT X e t:=h _
def PA(X:Cx)(es:o_ eO)(t:TA):Prop:=
 ∀(pos:Pos) (zG:o_ (Ch×Obj)) (s:Rs) (Z:St) (H:Hp) (Q:o_ V->Hp->Prop),Inv X zG Z H s->t Z H Q->wpAny (model X.prog X.w) X.A (spliced^backTo pos^starEach es X.env) (AP X zG Z Q) X.xe s
def PS(X:Cx)(st:f8)(t:TS):Prop:=
 ∀(zG:o_ (Ch×Obj)) (s:Rs) (Z:St) (H:Hp) (D:Ends),Inv X zG Z H s->t D Z H->wpAny (model X.prog X.w) X.A (exec st X.env) (SP X zG D) X.xe s
def PSs(X:Cx)(st:o_ f8)(t:TS):Prop:=
 ∀(zG:o_ (Ch×Obj)) (s:Rs) (Z:St) (H:Hp) (D:Ends),Inv X zG Z H s->t D Z H->wpAny (model X.prog X.w) X.A (execs st X.env) (SP X zG D) X.xe s
theorem thn{α:Type}{t:Sem α}{Q Q':α->Rs->Prop}{M:Model}{A:eh}{E:Db->Rs->Prop}{s:Rs}(h:wpAny M A t Q E s)(hQ:∀a s,Q a s->Q' a s):wpAny M A t Q' E s:=fM h hQ λ_ _ x=>x
section
variable {X:Cx}
def CG(i:Nat):TE:=λZ H Q=>∃v,Z[i]?=P3^P3 v/\Q v H
def tC(v:V):TE:=λ_ H Q=>Q v H
theorem LX{i:Nat}{x:Str}{pos:Pos}(hN:X.N[i]?=P3 x)(hv:Wo X.env.scope x)(hd:(x==("__debug__":Str))=n_:=by decide)(hcd:(x==("__classdict__":Str))=n_:=by decide):PE X (.Name x pos)^CG i:=by
 intro zG s Z H Q I h;let#[v,e,h]:=h;let#[m,hn,hl]:=I.loc;let#[u,r,l]:=hl i x v hN e hv;have fin:EP X _ Z Q u s:=#[v,H,I,r,h]
 rcases l with⟨hk,hm⟩|⟨hk,c,hc,hcell⟩
 .exact wpAny_Name (wpAny_loadName_local I.ok.kind hk hn hm fin) hd
 .rcases hk with hk|hk
  .exact wpAny_Name (wpAny_loadName_cell I.ok.kind hk hc hcell fin) hd
  .exact wpAny_Name (wpAny_loadName_free I.ok.kind hk hc hcell fin hcd) hd
theorem A3{i j pos}:PE X (.Constant (.int i) j pos)^tC^.int i:=λ_ _ _ H _ I h=>wpAny_Constant_int #[.int i,H,I.tok _,#[_,rfl],h]
theorem Zf{b j pos}:PE X (.Constant (.bool b) j pos)^tC^.bl b:=λ_ _ _ H _ I h=>Constant_bool #[.bl b,H,I,rfl,h]
theorem Xh{j pos}:PE X (.Constant .none j pos)^tC .non:=λ_ _ _ H _ I h=>Constant_none #[.non,H,I,rfl,h]
theorem Xf{x j pos}:PE X (.Constant (.str x) j pos)^tC^.str x:=λ_ _ _ H _ I h=>Calls.Constant_str #[.str x,H,I.tok _,#[_,rfl],h]
def Gl(X:Cx)(x:Str):Prop:=X.env.kindOf x=P3 .globalImplicit
theorem Lp{E:Db->Rs->Prop}{zG:o_ (Ch×Obj)}{s:Rs}{Z:St}{H:Hp}{x:Str}{u:Db}{pos:Pos}{Q:Db->Rs->Prop}(I:Inv X zG Z H s)(hg:Gl X x)(hm:X.mg x=P3 u)(h:Q u s)
  (hd:(x==("__debug__":Str))=n_:=by decide):wpAny (model X.prog X.w) X.A (eval (.Name x pos) X.env) Q E s:=
 jj I.ok.kind hg (Calls.loadGlobal_global (by rw[I.ok.glob];exact I.mod.glob.keeps I.bk) hm h) hd
theorem Dg{E:Db->Rs->Prop}{zG:o_ (Ch×Obj)}{s:Rs}{Z:St}{H:Hp}{x:Str}{u:Db}{pos:Pos}{Q:Db->Rs->Prop}(I:Inv X zG Z H s)(hg:Gl X x)(hm:X.mg x=l_)(hv:bootBuiltins x=P3 u)(h:Q u s)
  (hn:x ≠ "__name__":=by decide) (hd:(x==("__debug__":Str))=n_:=by decide):wpAny (model X.prog X.w) X.A (eval (.Name x pos) X.env) Q E s:=by
 let#[mb,h1,h2]:=I.mod.blt;exact jj I.ok.kind hg (Calls.loadGlobal_builtin (by rw[I.ok.glob];exact I.mod.glob.keeps I.bk) hm (by rw[I.ok.blt];exact h1.keeps I.bk) ((h2 x hn).trans hv) h) hd
theorem U0{x:Str}{v:V}{u:Db}{pos:Pos}(hg:Gl X x)(hm:X.mg x=P3 u)(r:RelV v u)(hd:(x==("__debug__":Str))=n_:=by decide):PE X (.Name x pos)^tC v:=
 λ_ _ _ H _ I h=>Lp I hg hm #[v,H,I,r,h] hd
theorem U4{x:Str}{v:V}{u:Db}{pos:Pos}(hg:Gl X x)(hm:X.mg x=l_)(hv:bootBuiltins x=P3 u)(r:RelV v u)(hn:x ≠ "__name__":=by decide)(hd:(x==("__debug__":Str))=n_:=by decide):PE X (.Name x pos)^tC v:=
 λ_ _ _ H _ I h=>Dg I hg hm hv #[v,H,I,r,h] hn hd
variable {a b:Expr}{ta tb:TE}{pos:Pos}
def tB(t:TE):TT:=λZ H Q=>t Z H λx H1=>∃c,x=.bl c/\Q c H1
theorem XZ{e:eO}{t:TE}(h:PE X e t)(he:∀whole,isTrue e X.env whole=(do let v ←whole;standAt e.pos;holding [v]^truthy v):=by intro _;rfl):PT X e^tB t:=by
 intro zG s Z H Q I hw;refine isTrue_plain (thn (h _ s Z H _ I hw) λv s1 zz=>?_)^he _;let#[x,H1,I1,r1,q1]:=zz;let#[d,rfl,q]:=q1;cases r1;exact fo #[H1,I1,q]
variable {tA tB':TT}{rest:o_ Expr}
def ZE(t u:TT):TT:=λZ H Q=>t Z H λc H1=>if c=m_ then u Z H1 Q else Q n_ H1
def dG(t u:TT):TT:=λZ H Q=>t Z H λc H1=>if c=m_ then Q m_ H1 else u Z H1 Q
def bN(t:TT):TT:=λZ H Q=>t Z H λc H1=>Q (!c) H1
theorem O3(ha:PT X a tA):PW X (.BoolOp .And [a] pos) tA:=by
 intro wh zG s Z H Q I h;refine isTrue_and^thn (ha _ s Z H Q I h) λc s1 e=>?_;cases c with
 |true=>exact isTrue_and_nil e
 |false=>exact e
theorem XY(ha:PT X a tA):PW X (.BoolOp .Or [a] pos) tA:=by
 intro wh zG s Z H Q I h;refine isTrue_or^thn (ha _ s Z H Q I h) λc s1 e=>?_;cases c with
 |false=>exact isTrue_or_nil e
 |true=>exact e
theorem SI(ha:PT X a tA)(hb:PW X (.BoolOp .And (b::rest) pos) tB'):PW X (.BoolOp .And (a::b::rest) pos)^ZE tA tB':=by
 intro wh zG s Z H Q I h;refine isTrue_and^thn (ha _ s Z H _ I h) λc s1 #[H1,I1,q1]=>?_;cases c with
 |true=>exact hb wh _ s1 Z H1 Q I1 q1
 |false=>assumption
theorem Zb(ha:PT X a tA)(hb:PW X (.BoolOp .Or (b::rest) pos) tB'):PW X (.BoolOp .Or (a::b::rest) pos)^dG tA tB':=by
 intro wh zG s Z H Q I h;refine isTrue_or^thn (ha _ s Z H _ I h) λc s1 #[H1,I1,q1]=>?_;cases c with
 |true=>assumption
 |false=>exact hb wh _ s1 Z H1 Q I1 q1
theorem Xa(ha:PT X a tA):PT X (.UnaryOp .Not a pos)^bN tA:=λzG s Z H Q I h=>isTrue_not^ha _ s Z H _ I h
def ZD(ta tb:TE):TE:=λZ H Q=>ta Z H λx H1=>∃c,x=.bl c/\if c=m_ then tb Z H1 Q else Q (.bl n_) H1
def bM(ta tb:TE):TE:=λZ H Q=>ta Z H λx H1=>∃c,x=.bl c/\if c=m_ then Q (.bl m_) H1 else tb Z H1 Q
def Y8(ta:TE):TE:=λZ H Q=>ta Z H λx H1=>∃c,x=.bl c/\Q (.bl (!c)) H1
theorem Xi(ha:PE X a ta)(hb:PE X (.BoolOp .And (b::rest) pos) tb):PE X (.BoolOp .And (a::b::rest) pos)^ZD ta tb:=by
 intro zG s Z H Q I h;refine BoolOp_and^thn (ha _ s Z H _ I h) λv s1 zz=>?_;let#[x,H1,I1,r1,q1]:=zz;let#[c,rfl,q1]:=q1;cases r1;refine fo ?_;cases c with
 |true=>exact hb _ s1 Z H1 Q I1 q1
 |false=>exact#[.bl _,H1,I1,rfl,q1]
theorem Ze(ha:PE X a ta)(hb:PE X (.BoolOp .Or (b::rest) pos) tb):PE X (.BoolOp .Or (a::b::rest) pos)^bM ta tb:=by
 intro zG s Z H Q I h;refine BoolOp_or^thn (ha _ s Z H _ I h) λv s1 zz=>?_;let#[x,H1,I1,r1,q1]:=zz;let#[c,rfl,q1]:=q1;cases r1;refine fo ?_;cases c with
 |false=>exact hb _ s1 Z H1 Q I1 q1
 |true=>exact#[.bl _,H1,I1,rfl,q1]
theorem Xg(ha:PE X a ta):PE X (.UnaryOp .Not a pos)^Y8 ta:=by
 intro zG s Z H Q I h;refine UnaryOp_^thn (ha _ s Z H _ I h) λv s1 zz=>?_;let#[x,H1,I1,r1,q1]:=zz;let#[c,rfl,q1]:=q1;cases r1;exact not_of^fo #[.bl _,H1,I1,rfl,q1]
def dH(t:TT)(ta tb:TE):TE:=λZ H Q=>t Z H λc H1=>if c=m_ then ta Z H1 Q else tb Z H1 Q
theorem Mf{c:eO}(hc:PT X c tA)(ha:PE X a ta)(hb:PE X b tb):PE X (.IfExp c a b pos)^dH tA ta tb:=by
 intro zG s Z H Q I h;refine wpAny_IfExp^thn (hc _ s Z H _ I h) λd s1 zz=>?_;let#[H1,I1,q1]:=zz;cases d with
 |true=>exact ha _ s1 Z H1 Q I1 q1
 |false=>exact hb _ s1 Z H1 Q I1 q1
end
def SqL(K:Frag)(H:Hp)(a:Ch)(xs:o_ V):Prop:=
 Rd H a (.lst xs) \/
  ∃(o:Obj) (its:Array Db) (n:Nat),K.lookup a=P3 o/\o.cls=.type "list"/\o.dict=l_/\o.data=.seq its n/\its.size<=sizeLine/\Vals xs its.toList
def SqT(K:Frag)(H:Hp)(a:Ch)(xs:o_ V):Prop:=
 Rd H a (.tup xs) \/
  ∃(o:Obj) (its:Array Db) (n:Nat),K.lookup a=P3 o/\o.cls=.type "tuple"/\o.data=.seq its n/\its.size<=sizeLine/\Vals xs its.toList
def cG:Db->p_ V
 |.none=>P3 .non
 |.bool b=>P3^.bl b
 |.int i _=>P3^.int i
 |.str x _=>P3^.str x
 |.bytes b _=>P3^.byt b
 |.float b _=>P3^.flt b
 |.ref a=>P3^.ref a
 |.type n=>P3^.ty n
 |_=>l_
theorem RelV.abs{x:V}{u:Db}(r:RelV x u):cG u=P3 x:=by
 cases x with
 |non=>cases r;rfl
 |bl _=>cases r;rfl
 |int _=>let#[t,rfl]:=r;rfl
 |str _=>let#[t,rfl]:=r;rfl
 |byt _=>let#[t,rfl]:=r;rfl
 |flt _=>let#[t,rfl]:=r;rfl
 |ref _=>cases r;rfl
 |ty _=>cases r;rfl
theorem RelV.inj{x y:V}{u:Db}(r:RelV x u)(q:RelV y u):x=y:=d6^r.abs.symm.trans q.abs
theorem Vals.inj:∀{xs ys:o_ V}{us:o_ Db},Vals xs us->Vals ys us->xs=ys
 |_,_,_,.nil,.nil=>rfl
 |_,_,_,.cons r t,.cons r' t'=>by rw[r.inj r',Vals.inj t t']
section
variable {X:Cx}{zG:o_ (Addr×Obj)}{Z:St}{H:Hp}{s:Shared}{a:Addr}{xs ys:o_ V}
theorem SqL.of{K:Frag}(h:H a=P3^.lst xs):SqL K H a xs:=.inl^.inl h
theorem SqT.of{K:Frag}(h:H a=P3^.tup xs):SqT K H a xs:=.inl^.inl h
theorem Inv.list(I:Inv X zG Z H s)(h:SqL X.K H a xs):∃its:o_ Db,Vals xs its/\PlainL s.heap a its.toArray/\xs.length<=sizeLine:=by
 rcases h with h|⟨o,its,n,hk,hc,hd,hs,hz,r⟩
 .let#[z,its,n,r,e]:=h.ok I.hok
  exact#[_,r,#[_,n,e,rfl,rfl,rfl],z]
 .refine#[_,r,#[o,n,I.kIn a o hk,hc,hd,by lk],?_]
  have e:=r.length
  grind
theorem Inv.tuple(I:Inv X zG Z H s)(h:SqT X.K H a xs):∃its:o_ Db,Vals xs its/\IsTup s.heap a its.toArray/\xs.length<=sizeLine:=by
 rcases h with h|⟨o,its,n,hk,hc,hs,hz,r⟩
 .let#[z,its,r,p]:=h.ok I.hok
  exact#[_,r,p.tup,z]
 .refine#[_,r,#[o,I.kIn a o hk,hc,n,by lk],?_]
  have e:=r.length
  grind
theorem Inv.list_inj(I:Inv X zG Z H s)(h:SqL X.K H a xs)(h':SqL X.K H a ys):xs=ys:=by
 let#[its,r,#[o,n,e,_,_,d],_]:=I.list h;let#[its',r',#[o',n',e',_,_,d'],_]:=I.list h'
 have:its=its':=by grind
 subst this;exact r.inj r'
theorem Inv.tuple_inj(I:Inv X zG Z H s)(h:SqT X.K H a xs)(h':SqT X.K H a ys):xs=ys:=by
 let#[its,r,#[o,e,_,n,d],_]:=I.tuple h;let#[its',r',#[o',e',_,n',d'],_]:=I.tuple h'
 have:its=its':=by grind
 subst this;exact r.inj r'
end
abbrev Cx.wish(X:Cx)(E:Db->Rs->Prop):Cx:={X with xe:=E}
abbrev Cx.nox(X:Cx):Cx:=X.wish λ_ _=>False
theorem Cx.Ok.wish{X:Cx}(ok:X.Ok)(E:Db->Rs->Prop):(X.wish E).Ok:=
 #[ok.mod,ok.kind,ok.glob,ok.blt,ok.above,ok.inj,ok.has,ok.cab,ok.hd,ok.frames,ok.stk,ok.exf,ok.bs,ok.bsz,ok.noex,ok.exfs,ok.funs,ok.frf]
theorem Cx.Ok.unwish{X:Cx}{E:Db->Rs->Prop}(ok:(X.wish E).Ok):X.Ok:=
 #[ok.mod,ok.kind,ok.glob,ok.blt,ok.above,ok.inj,ok.has,ok.cab,ok.hd,ok.frames,ok.stk,ok.exf,ok.bs,ok.bsz,ok.noex,ok.exfs,ok.funs,ok.frf]
section
variable {X:Cx}{zG:o_ (Addr×Obj)}{Z:St}{H:Hp}{s:Shared}{E:Value->Shared->Prop}
theorem Inv.wish(I:Inv X zG Z H s)(E:Db->Rs->Prop):Inv (X.wish E) zG Z H s:=#[I.ok.wish E,I.os,I.bare,I.base,I.loc,I.cell,I.free,I.freeC,I.pin,I.hok,I.len]
theorem Inv.unwish(I:Inv (X.wish E) zG Z H s):Inv X zG Z H s:=#[I.ok.unwish,I.os,I.bare,I.base,I.loc,I.cell,I.free,I.freeC,I.pin,I.hok,I.len]
theorem SP.unwish{D:Ends}{f:Flow}{s':Rs}(h:SP (X.wish E) zG D f s'):SP X zG D f s':=by
 cases f with
 |next=>let#[zZ,H',I,q]:=h;exact#[_,H',I.unwish,q]
 |brk=>let#[zZ,H',I,q]:=h;exact#[_,H',I.unwish,q]
 |cont=>let#[zZ,H',I,q]:=h;exact#[_,H',I.unwish,q]
 |ret u=>let#[v,zZ,H',I,r,q]:=h;exact#[v,_,H',I.unwish,r,q]
theorem PSs.nox{st:o_ f8}{t:TS}(h:PSs X.nox st t):PSs X st t:=λzG s Z H D I hw=>
 fM (h _ s Z H D (I.wish _) hw) (λ_ _ q=>q.unwish) λ_ _ z=>gF z
end
section
variable {X:Cx}{st:Stmt}{rest:o_ Stmt}{t u:TS}{e:Expr}{te:TE}{pos:Pos}
def V_:TS:=λD Z H=>D.nx Z H
def P9(t u:TS):TS:=λD Z H=>t {D with nx:=u D} Z H
theorem LR:PSs X [] V_:=λ_ _ Z H _ I h=>jJ #[Z,H,I,h]
theorem Ba(h1:PS X st t)(h2:PSs X rest u):PSs X (st::rest)^P9 t u:=by
 intro zG s Z H D I h;refine wpAny_execs_cons^thn (h1 _ s Z H _ I h) λf s1 q=>?_;cases f with
 |next=>
  let#[zZ,H',I',q]:=q;exact h2 _ s1 _ H' D I' q
 |ret v=>exact q
 |brk=>exact q
 |cont=>exact q
theorem Dt(h1:PS X st t):PSs X [st] t:=by
 intro zG s Z H D I h;refine wpAny_execs_cons^thn (h1 _ s Z H D I h) λf s1 q=>?_;cases f with
 |next=>exact jJ q
 |ret v=>exact q
 |brk=>exact q
 |cont=>exact q
theorem Inv.quiet{zG:o_ (Ch×Obj)}{Z:St}{H:Hp}{s:Rs}(I:Inv X zG Z H s):interactive X.env=n_:=by simp[interactive,I.ok.kind]
def Y_(te:TE):TS:=λD Z H=>te Z H λ_ H1=>D.nx Z H1
theorem Ur(he:PE X e te)(hs:swapsWith e l_ pos.line X.env=pure n_:=by rfl):PS X (.Expr e pos)^Y_ te:=λzG s Z H D I h=>wpAny_Expr_any (thn (he _ s Z H _ I h) λv s1 #[x,H1,I1,r1,q1]=>#[Z,H1,I1,q1]) I.quiet hs
def Ui(te:TE):TS:=λD Z H=>te Z H D.rt
theorem F3(he:PE X e te):PS X (.Return (P3 e) pos)^Ui te:=λzG s Z H D I h=>wpAny_Return_some^thn (he _ s Z H _ I h) λv s1 #[x,H1,I1,r1,q1]=>#[x,Z,H1,I1,r1,q1]
def Y9(c:TT)(t u:TS):TS:=λD Z H=>c Z H λb H1=>if b=m_ then t D Z H1 else u D Z H1
theorem SO{c:eO}{a b:o_ f8}{tc:TT}(hc:PT X c tc)(ha:PSs X a t)(hb:PSs X b u):PS X (.If c a b pos)^Y9 tc t u:=by
 intro zG s Z H D I h;refine wpAny_If^thn (hc _ s Z H _ I h) λd s1 zz=>?_;let#[H1,I1,q1]:=zz;cases d with
 |true=>exact ha _ s1 Z H1 D I1 q1
 |false=>exact hb _ s1 Z H1 D I1 q1
end
abbrev TG:=V->St->Hp->(St->Hp->Prop)->Prop
abbrev Yi:=o_ V->St->Hp->(St->Hp->Prop)->Prop
def PG(X:Cx)(target:eO)(t:TG):Prop:=
 ∀(zG:o_ (Ch×Obj)) (s:Rs) (Z:St) (H:Hp) (v:V) (u:Db) (Q:St->Hp->Prop),Inv X zG Z H s->RelV v u->t v Z H Q->
  wpAny (model X.prog X.w) X.A (assign target X.env u) (λ_ s'=>∃zZ H',Inv X zG zZ H' s'/\Q zZ H') X.xe s
def ac(X:Cx)(ts:o_ eO)(t:Yi):Prop:=
 ∀(zG:o_ (Ch×Obj)) (s:Rs) (Z:St) (H:Hp) (vs:o_ V) (us:o_ Db) (Q:St->Hp->Prop),Inv X zG Z H s->Vals vs us->t vs Z H Q->
  wpAny (model X.prog X.w) X.A (assignInOrder ((assignEach ts X.env).map (·.2)) us) (λ_ s'=>∃zZ H',Inv X zG zZ H' s'/\Q zZ H') X.xe s
abbrev Yh:=V->V->V->Hp->(Hp->Prop)->Prop
def aY(X:Cx)(t:Yh):Prop:=
 ∀(zG:o_ (Ch×Obj)) (s:Rs) (Z:St) (H:Hp) (o i v:V) (ov iv u:Db) (Q:Hp->Prop),Inv X zG Z H s->RelV o ov->RelV i iv->RelV v u->t o i v H Q->
  wpAny (model X.prog X.w) X.A (setItem ov iv u) (λ_ s'=>∃H',Inv X zG Z H' s'/\Q H') X.xe s
abbrev ay:=V->V->Hp->VK->Prop
def c7(X:Cx)(op:Operator)(t:ay):Prop:=
 ∀(zG:o_ (Ch×Obj)) (s:Rs) (Z:St) (H:Hp) (x y:V) (v u:Db) (Q:VK),Inv X zG Z H s->RelV x v->RelV y u->t x y H Q->
  wpAny (model X.prog X.w) X.A (inplaceOp op v u) (EP X zG Z Q) X.xe s
section
variable {X:Cx}{pos:Pos}
def Hr(i:Nat):TG:=λv Z H Q=>Q (Z.set i^P3 v) H
theorem GZ{i:Nat}{x:Str}(hN:X.N.Nodup)(hi:X.N[i]?=P3 x)(hx:Loc X.env.scope x)(hf:X.fn x=m_\/X.env.scope.names.lookup x=P3 .local:=by first|exact .inl rfl|exact .inr rfl|assumption):PG X (.Name x pos)^Hr i:=λzG s Z H v u Q I r h=>wpAny_assign_Name^Ir I hN hi hx r (λs' I'=>#[_,H,I',h]) hf
def bv:Yi:=λvs Z H Q=>vs=[]/\Q Z H
def Zt(t:TG)(u:Yi):Yi:=λvs Z H Q=>∃v r,vs=v::r/\t v Z H λzZ H'=>u r zZ H' Q
theorem O8:ac X [] bv:=by
 intro zG s Z H vs us Q I r h;let#[e,h]:=h;exact assignInOrder_nil #[Z,H,I,h]
theorem GY{e:eO}{es:o_ eO}{t:TG}{u:Yi}(h1:PG X e t)(h2:ac X es u)
  (hs:(assignEach (e::es) X.env).map (·.2)=assign e X.env::(assignEach es X.env).map (·.2):=by rfl):ac X (e::es)^Zt t u:=by
 intro zG s Z H vs us Q I r h;let#[v,vr,e1,h]:=h;subst e1;cases r with
 |cons r rr=>
  rw[hs];refine assignInOrder_cons^thn (h1 _ s Z H _ _ _ I r h) λ_ s1 zz=>?_;let#[_,H1,I1,q1]:=zz;exact h2 _ s1 _ H1 _ _ Q I1 rr q1
def bu(K:Frag)(n:Nat)(t:Yi):TG:=λv Z H Q=>∃a xs,v=.ref a/\SqT K H a xs/\xs.length=n/\t xs Z H Q
theorem SX{es:o_ eO}{k:Nat}{t:Yi}{n:Nat}(hc:X.calm=m_)(h:ac X es t)
  (hn:(assignEach es X.env).length=n:=by rfl) (hst:(assignEach es X.env).findIdx? (·.1)=l_:=by rfl):PG X (.Tuple es k pos)^bu X.K n t:=by
 intro zG s Z H v u Q I r hw;let#[a,xs,e1,hq,hl,hw]:=hw;subst e1;cases r;let#[its,rv,ht,hz]:=I.tuple hq;exact assign_Tuple_tuple (I.ok.hd hc) ht (by simp[hn,←hl,rv.length]) hst λh' hx=>h _ _ Z H xs _ Q (I.kept λb o e=>hx b o (eB^Uf e) e) (by lk) hw
def Zs(to ti:TE)(t:Yh):TG:=λv Z H Q=>to Z H λo H1=>ti Z H1 λi H2=>t o i v H2 λH3=>Q Z H3
theorem N2{o i:eO}{to ti:TE}{t:Yh}(ho:PE X o to)(hi:PE X i ti)(hs:aY X t)
  (ha:∀v,assign (.Subscript o i pos) X.env v=(do
   let ov ←holding [v]^eval o X.env
   let iv ←holding [v,ov] (eval i X.env)
   standAt pos
   holding [v,ov,iv] (setItem ov iv v)
   release [v,ov,iv] []):=by intro _;rfl):PG X (.Subscript o i pos)^Zs to ti t:=λzG s Z H v u Q I r h=>Go^gE^thn (ho _ s Z H _ I h) λov s1 #[x,H1,I1,r1,q1]=>Go^gE^thn (hi _ s1 Z H1 _ I1 q1) λiv s2 #[y,H2,I2,r2,q2]=>Go^wpAny_standAt^Go^gE^thn (hs _ s2 Z H2 x y v ov iv u _ I2 r1 r2 r q2) λ_ s3 #[H3,I3,q3]=>wpAny_release #[Z,H3,I3,q3]
def MS(te:TE)(g:TG):TS:=λD Z H=>te Z H λx H1=>g x Z H1 D.nx
theorem LU{tg e:eO}{te:TE}{g:TG}(he:PE X e te)(hg:PG X tg g)(hs:swapsWithSole [tg] e pos.line X.env=pure n_:=by rfl)(hw:swappedStores [tg] e X.env=pure l_:=by rfl)
  (h1:(assignEach [tg] X.env).map (·.2)=[assign tg X.env]:=by rfl):PS X (.Assign [tg] e pos)^MS te g:=by
 intro zG s Z H D I h;refine wpAny_Assign_stores (thn (he _ s Z H _ I h) λv s1 #[x,H1,I1,r1,q1]=>?_) hs hw;rw[h1];exact thn (hg _ s1 Z H1 x v _ I1 r1 q1) λ_ s2 q=>q
theorem E5{i:Nat}{x:Str}{e:eO}{te:TE}{pos':Pos}(hN:X.N.Nodup)(hi:X.N[i]?=P3 x)(hx:Loc X.env.scope x)(he:PE X e te)(hs:swapsWith e (P3^.Name x pos') pos.line X.env=pure n_:=by rfl)(hf:X.fn x=m_\/X.env.scope.names.lookup x=P3 .local:=by first|exact .inl rfl|exact .inr rfl|assumption):
  PS X (.Assign [.Name x pos'] e pos) (MS te^Hr i):=λzG s Z H D I h=>wpAny_Assign_Name (thn (he _ s Z H _ I h) λv s1 #[y,H1,I1,r1,q1]=>Ir I1 hN hi hx r1 (λs2 I2=>#[_,H1,I2,q1]) hf) hs
def bR(i:Nat)(te:TE)(ti:ay):TS:=λD Z H=>∃x,Z[i]?=P3^P3 x/\te Z H λy H1=>ti x y H1 λz H2=>D.nx (Z.set i^P3 z) H2
theorem Xb{i:Nat}{x:Str}{e:eO}{te:TE}{op:Operator}{ti:ay}{pos':Pos}(hN:X.N.Nodup)(hi:X.N[i]?=P3 x)(hx:Loc X.env.scope x)(he:PE X e te)(ho:c7 X op ti)(hf:X.fn x=m_\/X.env.scope.names.lookup x=P3 .local:=by first|exact .inl rfl|exact .inr rfl|assumption):
  PS X (.AugAssign (.Name x pos') op e pos) (bR i te ti):=by
 intro zG s Z H D I h;let#[v,e1,h]:=h;let#[m,hn,hl]:=I.loc;have vis:Wo X.env.scope x:=by rcases hx with k|k;exact .inl k;exact .inr^.inl k
 let#[u,r,l]:=hl i x v hi e1 vis;refine wpAny_AugAssign_Name ?_
 have go:wpAny (model X.prog X.w) X.A (eval e X.env) (λw s₂=>wpAny (model X.prog X.w) X.A (inplaceOp op u w) (λr s₃=>wpAny (model X.prog X.w) X.A (storeName X.env x r) (λ_=>SP X zG D .next) X.xe s₃) X.xe s₂) X.xe s:=by
  refine thn (he zG s Z H _ I h) λw s1 zz=>?_;let#[y,H1,I1,r1,q1]:=zz;refine thn (ho zG s1 Z H1 v y u w _ I1 r r1 q1) λz s2 zz=>?_;let#[zv,H2,I2,r2,q2]:=zz;exact Ir I2 hN hi hx r2 (λs3 I3=>#[_,H2,I3,q2]) hf
 rcases l with⟨hk,hm⟩|⟨hk,c,hc,hcell⟩
 .exact wpAny_loadName_local I.ok.kind hk hn hm go
 .rcases hk with hk|hk
  .exact wpAny_loadName_cell I.ok.kind hk hc hcell go
  .rcases hx with k|k
   .have:X.env.scope.names.lookup x=P3 .free:=hk
    rw[k]at this;cases this
   .have:X.env.scope.names.lookup x=P3 .free:=hk
    rw[k]at this;cases this
def dL(f:Int->Int->Int):ay:=λx y H Q=>∃i j,x=.int i/\y=.int j/\Q (.int^f i j) H
theorem X3:c7 X .Add (dL λi j=>i+j):=by
 intro zG s Z H x y v u Q I r1 r2 h;let#[i,j,e1,e2,q]:=h;subst e1;subst e2
 let#[t,rfl]:=r1;let#[t',rfl]:=r2;exact iadd_int #[.int _,H,I.tok _,#[_,rfl],q]
end
section
variable {X:Cx}{pos:Pos}
def XG(c:TT)(tb:TS):TS:=λD Z H=>∃W:Nat->St->Hp->Prop,(∃m,W m Z H)/\∀m Z H,W m Z H->
 c Z H λb H1=>if b=m_ then ∃N:St->Hp->Prop,(∀zZ H',N zZ H'->∃m',m'<m/\W m' zZ H')/\tb {D with nx:=N,ct:=N,bk:=D.nx} Z H1 else D.nx Z H1
theorem SN{c:eO}{body:o_ f8}{tc:TT}{tb:TS}(hp:kL (model X.prog X.w) X.A X.env X.xe)(hc:PT X c tc)(hb:PSs X body tb):PS X (.While c body [] pos)^XG tc tb:=by
 intro zG s Z H D I h;let#[W,#[m0,w0],turn]:=h;refine wpAny_While^codeAny_whileLoop (λn s'=>∃zZ H',Inv X zG zZ H' s'/\W n zZ H') ?_ m0 #[Z,H,I,w0];rintro n s1 ⟨zK,H1,I1,w1⟩;refine gx hp^thn (hc zG s1 zK H1 _ I1^turn n zK H1 w1) λb s2 zz=>?_;let#[H2,I2,q2]:=zz;cases b with
 | true=>
  let#[N,hN,q2]:=q2;rw[if_pos rfl];refine gx hp^thn (hb zG s2 zK H2 _ I2 q2) λf s3 q3=>?_;cases f with
  |next=>
   let#[zV,H3,I3,n3]:=q3;let#[m',hm,w3]:=hN zV H3 n3;exact#[m',hm,zV,H3,I3,w3]
  |cont=>
   let#[zV,H3,I3,n3]:=q3;let#[m',hm,w3]:=hN zV H3 n3;exact#[m',hm,zV,H3,I3,w3]
  |brk=>exact q3
  |ret v=>exact q3
 |false=>
  rw[if_neg eN];exact jJ #[zK,H2,I2,q2]
end
structure It where
 go:Nat->Hp->Prop
 yld:Nat->Hp->V->Hp->Prop
 stop:Nat->Hp->Prop
def Fj(X:Cx)(zG:o_ (Ch×Obj))(H:Hp)(b:Ch):Prop:=
 H b=l_/\b≠X.env.locals/\b∉X.fs/\(b∈X.ex\/X.s₀.heap.objs.size<=b)/\(∀x c,X.env.cells.lookup x=P3 c->c≠b)/\∀p∈X.pn++zG,p.1≠b
theorem Inv.fpOk{X:Cx}{zG:o_ (Ch×Obj)}{Z:St}{H H':Hp}{s:Rs}{b:Ch}(I:Inv X zG Z H s)(hb:s.heap.objs.size<=b)(hn:H' b=l_):Fj X zG H' b:=by
 refine#[hn,ig^eW I.lt hb,I.nofs hb,.inr^eJ I.sz hb,λx c e z=>?_,λp hp z=>?_]
 .let#[v,q]:=I.cell x c e
  exact absurd (eW q.lt^by rw[z];exact hb)^fC _
 .exact absurd (eW (Uf (I.pin p hp).1)^by rw[z];exact hb)^fC _
structure Turn (P:eK) (w:eU) (K:Frag) (tg:eO) (J:It) (fp:List Ch) (it:Ch) (tn:Nat->eC->Prop):Prop where
 mem:it∈fp
 obj:∀i h,tn i h->∀b∈fp,∃o,h.get? b=P3 o/\∀v,o.data≠.cell v
 keep:∀i h h',tn i h->(∀b∈fp,∀o,h.get? b=P3 o->h'.get? b=P3 o)->tn i h'
 item:∀(X:Cx),X.prog=P->X.w=w->X.K=K->X.calm=m_->∀(i:Nat) (zG:List (Ch×Obj)) (s:Rs) (Z:St) (H:Hp) (E:Db->Rs->Prop),Inv X zG Z H s->(∀b∈fp,Fj X zG H b)->tn i s.heap->J.go i H->
  wpAny (model P w) X.A (pyNext^.ref it) (λr s1=>∃u,r=P3 u /\
   wpAny (model P w) X.A (letOwnedTupleGo tg (.ref it) u) (λ_ s2=>∃x H',Inv X zG Z H' s2/\RelV x u/\J.yld i H x H'/\tn (i+1) s2.heap/\∀b∈fp,H' b=l_) E s1) E s
 done:∀(X:Cx),X.prog=P->X.w=w->X.K=K->X.calm=m_->∀(i:Nat) (zG:List (Ch×Obj)) (s:Rs) (Z:St) (H:Hp) (E:Db->Rs->Prop),Inv X zG Z H s->(∀b∈fp,Fj X zG H b)->tn i s.heap->J.stop i H->
  wpAny (model P w) X.A (pyNext^.ref it) (λr s1=>r=l_/\Inv X zG Z H s1) E s
 self:∀(A:eh) (i:Nat) (s:Rs) (Q:Db->Rs->Prop) (E:Db->Rs->Prop),tn i s.heap->Q (.ref it) s->wpAny (model P w) A (pyIter^.ref it) Q E s
abbrev TI:=St->Hp->(It->Hp->Prop)->Prop
def c8(X:Cx)(zG:o_ (Ch×Obj))(Z:St)(tg:eO)(R:It->Hp->Prop)(itv:Db)(s2:Rs):Prop:=
 ∃(it:Ch) (fp:o_ Ch) (tn:Nat->eC->Prop) (J:It) (H':Hp),itv=.ref it/\Inv X zG Z H' s2/\Turn X.prog X.w X.K tg J fp it tn/\tn 0 s2.heap/\(∀b∈fp,Fj X zG H' b)/\R J H'
def PI(X:Cx)(tg iter:eO)(wi:TI):Prop:=
 ∀(zG:o_ (Ch×Obj)) (s:Rs) (Z:St) (H:Hp) (R:It->Hp->Prop),Inv X zG Z H s->wi Z H R->
  wpAny (model X.prog X.w) X.A (eval iter X.env) (λv s1=>wpAny (model X.prog X.w) X.A (pyIter v) (c8 X zG Z tg R) X.xe s1) X.xe s
theorem Kr {M:Model}{A:eh}{E:Db → Rs → Prop}{s:Rs}{tg:eO}{it:Ch}{u:Db}{o:Obj}{n:String}{vs:Array Db}{Q:Unit → Rs → Prop} (ho:s.heap.get? it=P3 o) (hc:o.cls=.type n) (hd:o.data=.fields vs)
    (hn:["enumerate","zip","dict_itemiterator","dict_reverseitemiterator","odict_iterator","itertools.zip_longest","itertools.pairwise"].contains n=n_) (hQ:Q () s):wpAny M A (letOwnedTupleGo tg (.ref it) u) Q E s:=by
  unfold letOwnedTupleGo
  cases tg <;>first
    |exact df hQ
    |(cases u <;>first
        |exact df hQ
        | (refine Go^wpAny_load ho ?_
           rw[hc,hd];show wpAny M A (if(["enumerate","zip","dict_itemiterator","dict_reverseitemiterator","odict_iterator","itertools.zip_longest","itertools.pairwise"].contains n && vs[0]?==P3^rawInt _)=m_ then _ else _) Q E s;rw[if_neg^by grind];exact df hQ))
def cU(K:Frag)(a:Ch):It:=
 #[λi H=>∃xs x,SqL K H a xs/\xs[i]?=P3 x,λi H x H'=>H'=H/\∀xs,SqL K H a xs->xs[i]?=P3 x,λi H=>∃xs,SqL K H a xs/\xs.length<=i]
def Yn(K:Frag)(a:Ch):It:=
 #[λi H=>∃xs x,SqT K H a xs/\xs[i]?=P3 x,λi H x H'=>H'=H/\∀xs,SqT K H a xs->xs[i]?=P3 x,λi H=>∃xs,SqT K H a xs/\xs.length<=i]
def ah(lo:Int)(n:Nat):It:=#[λi _=>i<n,λi H x H'=>H'=H/\x=.int (lo+i),λi _=>n<=i]
theorem P6{P:eK}{w:eU}{K:Frag}{tg:eO}(a it:Ch):Turn P w K tg (cU K a) [it] it (λi h=>h.IsListIter it a i) where
 mem:=by simp
 obj:=λi h st b hb=>by
  have e:b=it:=by simpa using hb
  subst e;let#[o,e,c,d]:=st;exact#[o,e,λv z=>by rw[d]at z;cases z]
 keep:=λi h h' st k=>st.at λo e=>k it (by simp) o e
 item:=by
  intro X hP hw hK hc i zG s Z H E I hf st hg;subst hP hw hK;let#[xs,x,hq,hx]:=hg;let#[its,rv,p,hz]:=I.list hq;let#[u,hu,ru]:=rv.get hx;let#[f0,f1,f2,f3,f4,f5]:=hf it (by simp);refine wpAny_pyNext_list_item st p.isList (x:=u) (by simpa using hu) λh' st' sb=>?_;have I1:Inv X zG Z H {s with heap:=h'}:=I.turned (t':=s.toks) (λb o hb e=>(sb.2 b hb).trans e) f0 f1 f3 f4 f5;let#[o,e,c,d]:=id st';exact#[u,rfl,Kr (s:={s with heap:=h'}) e c d (by cbv) #[x,H,I1,ru,#[rfl,λys hy=>by rw[I.list_inj hy hq];exact hx],st',λb hb=>(hf b hb).1]]
 done:=by
  intro X hP hw hK hc i zG s Z H E I hf st hg;subst hP hw hK;let#[xs,hq,hx]:=hg;let#[its,rv,p,hz]:=I.list hq;let#[f0,f1,f2,f3,f4,f5]:=hf it (by simp);have hl:=rv.length;exact wpAny_pyNext_list_end (I.ok.hd hc) st p.isList (by simp;lk) λh' eb=>#[rfl,I.turned (t':=s.toks) (λb o hb e=>eb b o hb e) f0 f1 f3 f4 f5]
 self:=λ_ _ _ _ _ st h=>wpAny_pyIter_listiter st h
theorem Ik{P:eK}{w:eU}{K:Frag}{tg:eO}(a it:Ch):Turn P w K tg (Yn K a) [it] it (λi h=>h.IsTupleIter it a i) where
 mem:=by simp
 obj:=λi h st b hb=>by
  have e:b=it:=by simpa using hb
  subst e;let#[o,e,c,d]:=st;exact#[o,e,λv z=>by rw[d]at z;cases z]
 keep:=λi h h' st k=>st.at λo e=>k it (by simp) o e
 item:=by
  intro X hP hw hK hc i zG s Z H E I hf st hg;subst hP hw hK;let#[xs,x,hq,hx]:=hg;let#[its,rv,p,hz]:=I.tuple hq;let#[u,hu,ru]:=rv.get hx;let#[f0,f1,f2,f3,f4,f5]:=hf it (by simp);refine wpAny_pyNext_tuple_item st (show s.heap.IsTuple a its.toArray from p) (x:=u) (by simpa using hu) λh' st' sb=>?_;have I1:Inv X zG Z H {s with heap:=h'}:=I.turned (t':=s.toks) (λb o hb e=>(sb.2 b hb).trans e) f0 f1 f3 f4 f5;let#[o,e,c,d]:=id st';exact#[u,rfl,Kr (s:={s with heap:=h'}) e c d (by cbv) #[x,H,I1,ru,#[rfl,λys hy=>by rw[I.tuple_inj hy hq];exact hx],st',λb hb=>(hf b hb).1]]
 done:=by
  intro X hP hw hK hc i zG s Z H E I hf st hg;subst hP hw hK;let#[xs,hq,hx]:=hg;let#[its,rv,p,hz]:=I.tuple hq;let#[f0,f1,f2,f3,f4,f5]:=hf it (by simp);have hl:=rv.length;exact wpAny_pyNext_tuple_end (I.ok.hd hc) st (show s.heap.IsTuple a its.toArray from p) (by simp;lk) λh' eb=>#[rfl,I.turned (t':=s.toks) (λb o hb e=>eb b o hb e) f0 f1 f3 f4 f5]
 self:=λ_ _ _ _ _ st h=>wpAny_pyIter_tupleiter st h
theorem Nj{P:eK}{w:eU}{K:Frag}{tg:eO}(it:Ch)(lo:Int)(n:Nat):Turn P w K tg (ah lo n) [it] it (λi h=>IsRangeIter h it (lo+(i:Nat)*1) ((n:Int) - (i:Nat)) 1) where
 mem:=by simp
 obj:=λi h st b hb=>by
  simp_all
 keep:=λi h h' st k=>k it (by simp) _ st
 item:=by
  intro X hP hw hK hc i zG s Z H E I hf st hg;subst hP hw hK;let#[f0,f1,f2,f3,f4,f5]:=hf it (by simp);have W:=Walks.range (prog:=X.prog) (w:=X.w) (I.ok.hd hc) it lo 1 n;refine W.item i s _ _ hg st λv h' tk hv st' kk=>?_;let#[t,rfl]:=hv;have I1:Inv X zG Z H {s with heap:=h',toks:=tk}:=I.turned (λb o hb e=>kk b o (by simpa using hb) e) f0 f1 f3 f4 f5;refine#[_,rfl,Kr (s:={s with heap:=h',toks:=tk}) (n:="range_iterator") st' rfl rfl (by cbv) #[.int (lo+i),H,I1,#[t,?_],#[rfl,rfl],st',λb hb=>(hf b hb).1]];rw[Int.mul_one]
 done:=by
  intro X hP hw hK hc i zG s Z H E I hf st hg;subst hP hw hK;let#[f0,f1,f2,f3,f4,f5]:=hf it (by simp);exact wpAny_pyNext_range_end (I.ok.hd hc) st (by have:n<=i:=hg;lk) λh' eb=>#[rfl,I.turned (t':=s.toks) (λb o hb e=>eb b o hb e) f0 f1 f3 f4 f5]
 self:=λ_ _ _ _ _ st h=>wpAny_pyIter_rangeiter st h
section
variable {X:Cx}{tg:Expr}
def bj(K:Frag)(tl:TE):TI:=λZ H R=>tl Z H λx H1=>∃a,x=.ref a/\(∃xs,SqT K H1 a xs)/\R (Yn K a) H1
theorem SV{l:eO}{tl:TE}(hl:PE X l tl):PI X tg l^bj X.K tl:=by
 intro zG s Z H R I h;refine thn (hl _ s Z H _ I h) λv s1 zz=>?_;let#[x,H1,I1,r1,q1]:=zz;let#[a,e,#[xs,hq],q]:=q1;subst e;cases r1;let#[its,rv,p,hz]:=I1.tuple hq;refine fg (p) ?_;refine#[_,_,_,_,H1,rfl,I1.kept λb o e=>No _ e,Ik a _,#[_,T0 _ rfl,rfl,rfl],λb hb=>?_,q];have e:b=s1.heap.objs.size:=by grind
 subst e;exact I1.fpOk (Re _)^I1.hok.fresh^Re _
theorem Mc{zG:o_ (Ch×Obj)}{Z:St}{H:Hp}{s:Rs}{R:It->Hp->Prop}{E:Db->Rs->Prop}{lo hi:Int}{t u v:Tok}{tk:Nat}(I:Inv X zG Z H s)(h1:-(2 ^ 62)<=lo)(h2:lo<2 ^ 62)(h3:-(2 ^ 62)<=hi)(h4:hi<2 ^ 62)
  (q:R (ah lo (hi - lo).toNat) H):wpAny (model X.prog X.w) X.A (pyIter^.ref s.heap.objs.size) (c8 X zG Z tg R) E {s with heap:=s.heap.push {cls:=.type "range",data:=.fields #[ .int lo t,.int hi u,.int 1 v]},toks:=tk}:=by
 refine wpAny_pyIter_range (IsRange.new ..) (small_one h1 h2 h3 h4) ?_;have I1:Inv X zG Z H {s with heap:=s.heap.push {cls:=.type "range",data:=.fields #[ .int lo t,.int hi u,.int 1 v]},toks:=tk}:=I.kept λb o e=>No _ e
 refine#[(s.heap.push {cls:=.type "range",data:=.fields #[ .int lo t,.int hi u,.int 1 v]}).objs.size,[(s.heap.push {cls:=.type "range",data:=.fields #[ .int lo t,.int hi u,.int 1 v]}).objs.size],_,_,H,rfl,
  I1.kept (t':=tk) λb o e=>No _ e,Nj _ lo (hi - lo).toNat,?_,λb hb=>?_,q]
 .have e1:lo+((0:Nat):Int)*1=lo:=by simp
  have e2:(((hi - lo).toNat:Nat):Int) - ((0:Nat):Int)=Builtin.Range.rangeSize lo hi 1:=by rw[rangeSize_one];grind
  show IsRangeIter _ _ (lo+((0:Nat):Int)*1) ((((hi - lo).toNat:Nat):Int) - ((0:Nat):Int)) 1;rw[e1,e2];exact T0 _ rfl
 .have e:b=(s.heap.push {cls:=.type "range",data:=.fields #[ .int lo t,.int hi u,.int 1 v]}).objs.size:=by simpa using hb
  subst e;exact I1.fpOk (Re _)^I1.hok.fresh^Re _
def Zo(ta:TA):TI:=λZ H R=>ta Z H λvs H1=>∃j:Int,vs=[.int j]/\-(2 ^ 62)<=j/\j<2 ^ 62/\R (ah 0 j.toNat) H1
def Zn(ta:TA):TI:=λZ H R=>ta Z H λvs H1=>∃i j:Int,vs=[.int i,.int j]/\(-(2 ^ 62)<=i/\i<2 ^ 62/\-(2 ^ 62)<=j/\j<2 ^ 62)/\R (ah i (j - i).toNat) H1
theorem QG{a:eO}{ta:TA}{p pos:Pos}(hg:Gl X "range")(hm:X.mg "range"=l_)(ha:PA X [a] ta)(hs:starEach [a] X.env=[(n_,eval a X.env)]:=by rfl):PI X tg (.Call (.Name "range" p) [a] [] pos)^Zo ta:=by
 intro zG s Z H R I h;refine Call_^Dg I hg hm boot_range (fI (thn (ha _ _ s Z H _ I h) λus s1 zz=>?_) hs rfl);let#[vs,H1,I1,r1,q1]:=zz;let#[j,e,q1,q2,q]:=q1;subst e;cases r1 with
 |cons r rr=>
  cases rr;let#[t,rfl]:=r;exact call_range_1^Mc I1 (by lk) (by lk) q1 q2^by simpa using q
theorem QF{a b:eO}{ta:TA}{p pos:Pos}(hg:Gl X "range")(hm:X.mg "range"=l_)(ha:PA X [a,b] ta)(hs:starEach [a,b] X.env=[(n_,eval a X.env),(n_,eval b X.env)]:=by rfl)(hs2:starEach [b] X.env=[(n_,eval b X.env)]:=by rfl):
  PI X tg (.Call (.Name "range" p) [a,b] [] pos) (Zn ta):=by
 intro zG s Z H R I h;refine Call_ (Dg I hg hm boot_range^fI (thn (ha _ _ s Z H _ I h) λus s1 zz=>?_) (by rw[hs,hs2])^by rw[hs2];rfl);let#[vs,H1,I1,r1,q1]:=zz;let#[i,j,e,#[q1,q2,q3,q4],q]:=q1;subst e;cases r1 with
 | cons r rr=>
  cases rr with
  |cons r' rr=>
   cases rr;let#[t,rfl]:=r;let#[t',rfl]:=r';exact call_range_2^Mc I1 q1 q2 q3 q4 q
def bQ(wi:TI)(g:TG)(tb:TS):TS:=λD Z H=>wi Z H λJ H1=>∃W:Nat->Nat->St->Hp->Prop,(∃m,W 0 m Z H1)/\∀i m Z H,W i m Z H->
 (J.stop i H/\D.nx Z H)\/(J.go i H/\∃N:St->Hp->Prop,(∀zZ H',N zZ H'->∃m',m'<m/\W (i+1) m' zZ H')/\∀x H',J.yld i H x H'->g x Z H' λzN H2=>tb {D with nx:=N,ct:=N,bk:=D.nx} zN H2)
def JE(fp:o_ Ch)(h:eC):o_ (Ch×Obj):=fp.filterMap λb=>(h.get? b).map λo=>(b,o)
theorem Ee{fp:o_ Ch}{h:eC}{b:Ch}{o:Obj}(hb:b∈fp)(e:h.get? b=P3 o):(b,o)∈JE fp h:=List.mem_filterMap.mpr #[b,hb,by rw[e];rfl]
theorem QN{fp:o_ Ch}{h:eC}{p:Ch×Obj}(hp:p∈JE fp h):p.1∈fp/\h.get? p.1=P3 p.2:=by
 let#[b,hb,e]:=List.mem_filterMap.mp hp;cases q:h.get? b with
 |none=>grind
 |some o=>
  rw[q]at e;have e':=d6 e;subst e'
  simp_all
theorem Inv.pinned{zG:o_ (Ch×Obj)}{Z:St}{H:Hp}{s:Rs}{fp:o_ Ch}(I:Inv X zG Z H s)(hf:∀b∈fp,Fj X zG H b)(ho:∀b∈fp,∃o,s.heap.get? b=P3 o/\∀v,o.data≠.cell v):Inv X (zG++JE fp s.heap) Z H s:=
 I.pins_of λp hp=>(ZB.mp hp).elim (λz=>I.pin p^TM _ z) λz=>by
  let#[hb,e]:=QN z;let#[f0,f1,f2,_]:=hf _ hb;let#[o,e',d]:=ho _ hb
  grind
theorem Inv.unpinned{zG pl:o_ (Ch×Obj)}{Z:St}{H:Hp}{s:Rs}(I:Inv X (zG++pl) Z H s):Inv X zG Z H s:=I.pins_of λp hp=>I.pin p^TM _^Tk _ hp
theorem LS{iter:eO}{body:o_ f8}{wi:TI}{g:TG}{tb:TS}{pos:Pos}(hp:kL (model X.prog X.w) X.A X.env X.xe)(hc:X.calm=m_)(hi:PI X tg iter wi)(hg:PG X tg g)(hb:PSs X body tb)
  (hs:∀x,foldedSetIterable iter X.env x=pure x:=by intro _;rfl):PS X (.For tg iter body [] pos)^bQ wi g tb:=by
 intro zG s Z H D I h;refine wpAny_For (thn (hi zG s Z H _ I h) λv s1 h1=>thn h1 λitv s2 h2=>?_) hs;let#[it,fp,tn,J,H2,e,I2,T,st2,f2,W,#[m0,w0],turn]:=h2;subst e;have stat:∀{H':Hp},(∀b∈fp,H' b=l_)->∀b∈fp,Fj X zG H' b:=λhn b hb=>#[hn b hb,(f2 b hb).2];refine codeAny_forLoop_any (λn s'=>∃i zZ H',Inv X zG zZ H' s'/\tn i s'.heap/\(∀b∈fp,H' b=l_)/\W i n zZ H') ?_ m0 #[0,Z,H2,I2,st2,λb hb=>(f2 b hb).1,w0];rintro n s3 ⟨i,zV,H3,I3,st3,fr3,w3⟩
 rcases turn i n zV H3 w3 with⟨stop,qn⟩|⟨go,N,hN,step⟩
 .refine gx hp^thn (T.done X rfl rfl rfl hc i zG s3 zV H3 X.xe I3 (stat fr3) st3 stop) λr s4 zz=>?_;let#[hr,I4]:=zz
  subst hr;exact jJ #[zV,H3,I4,qn]
 .refine gx hp^thn (T.item X rfl rfl rfl hc i zG s3 zV H3 X.xe I3 (stat fr3) st3 go) λr s4 zz=>?_;let#[u,hr,h4]:=zz
  subst hr;refine gx hp^thn h4 λ_ s5 zz=>?_;let#[x,H5,I5,r5,y5,st5,fr5]:=zz;have I5':=I5.pinned (stat fr5)^T.obj _ _ st5;refine gx hp^thn (hg _ s5 zV H5 x u _ I5' r5^step x H5 y5) λ_ s6 zz=>?_;let#[σ6,H6,I6,q6]:=zz;refine gx hp^thn (hb _ s6 σ6 H6 _ I6 q6) λf s7 q7=>?_
  have again:∀{zM:St}{H7:Hp},Inv X (zG++JE fp s5.heap) zM H7 s7->N zM H7->∃m,m<n/\∃i zZ H',Inv X zG zZ H' s7/\tn i s7.heap/\(∀b∈fp,H' b=l_)/\W i m zZ H':=λ{zM H7} I7 n7=>by
   let#[m',hm,w7]:=hN zM H7 n7;refine#[m',hm,i+1,zM,H7,I7.unpinned,T.keep _ _ _ st5 λb hb o e=>(I7.pin (b,o)^TM _^TM _^Ee hb e).1,λb hb=>?_,w7];let#[o,e,d]:=T.obj _ _ st5 b hb;exact(I7.pin (b,o)^TM _^TM _^Ee hb e).2.1
  cases f with
  |next=>let#[zM,H7,I7,n7]:=q7;exact again I7 n7
  |cont=>let#[zM,H7,I7,n7]:=q7;exact again I7 n7
  |brk=>let#[zM,H7,I7,q7]:=q7;exact#[zM,H7,I7.unpinned,q7]
  |ret v=>let#[x7,zM,H7,I7,r7,q7]:=q7;exact#[x7,zM,H7,I7.unpinned,r7,q7]
end
theorem PQ{K:Frag}{a:Ch}{xs:o_ V}{g:TG}{tb:TS}{D:Ends}{Z:St}{H:Hp}(Pv:Nat->St->Hp->Prop)(h0:Pv 0 Z H)(hl:∀i Z H,i<=xs.length->Pv i Z H->SqT K H a xs)
  (hs:∀i x Z H,xs[i]?=P3 x->Pv i Z H->g x Z H λzN H2=>tb {D with nx:=Pv (i+1),ct:=Pv (i+1),bk:=D.nx} zN H2) (hd:∀Z H,Pv xs.length Z H->D.nx Z H):
  ∃W:Nat->Nat->St->Hp->Prop,(∃m,W 0 m Z H)/\∀i m Z H,W i m Z H->
   ((Yn K a).stop i H/\D.nx Z H)\/((Yn K a).go i H/\∃N:St->Hp->Prop,(∀zZ H',N zZ H'->∃m',m'<m/\W (i+1) m' zZ H')/\∀x H',(Yn K a).yld i H x H'->g x Z H' λzN H2=>tb {D with nx:=N,ct:=N,bk:=D.nx} zN H2):=by
 refine#[λi m Z H=>m=xs.length - i/\i<=xs.length/\Pv i Z H,#[xs.length,by simp,dq _,h0],?_];rintro i m Z H ⟨rfl,hi,p⟩;have q:=hl i Z H hi p
 by_cases hlt:i<xs.length
 .refine .inr #[#[xs,xs[i],q,by simp],_,λzZ H' p'=>#[_,by lk,rfl,hlt,p'],λx H' y=>?_]
  let#[e,y]:=y;subst e;exact hs i x Z _ (y xs q) p
 .have e:i=xs.length:=by lk
  subst e;exact .inl #[#[xs,q,Re _],hd Z H p]
abbrev R2:=V->V->Hp->VK->Prop
def OpR(X:Cx)(f:Db->Db->Sem Db)(r:R2):Prop:=
 ∀(zG:o_ (Ch×Obj)) (s:Rs) (Z:St) (H:Hp) (x y:V) (v u:Db) (Q:VK),Inv X zG Z H s->RelV x v->RelV y u->r x y H Q->
  wpAny (model X.prog X.w) X.A (f v u) (EP X zG Z Q) X.xe s
def cO(X:Cx)(f:Db->Sem Db)(r:V->Hp->VK->Prop):Prop:=
 ∀(zG:o_ (Ch×Obj)) (s:Rs) (Z:St) (H:Hp) (x:V) (v:Db) (Q:VK),Inv X zG Z H s->RelV x v->r x H Q->
  wpAny (model X.prog X.w) X.A (f v) (EP X zG Z Q) X.xe s
def Cq(X:Cx)(f:Db)(r:o_ V->Hp->VK->Prop):Prop:=
 ∀(zG:o_ (Ch×Obj)) (s:Rs) (Z:St) (H:Hp) (xs:o_ V) (us:o_ Db) (Q:VK),Inv X zG Z H s->Vals xs us->r xs H Q->
  wpAny (model X.prog X.w) X.A (call f us) (EP X zG Z Q) X.xe s
def cP(X:Cx)(r:V->Hp->(Bool->Hp->Prop)->Prop):Prop:=
 ∀(zG:o_ (Ch×Obj)) (s:Rs) (Z:St) (H:Hp) (x:V) (v:Db) (Q:Bool->Hp->Prop),Inv X zG Z H s->RelV x v->r x H Q->
  wpAny (model X.prog X.w) X.A (truthy v) (TP X zG Z Q) X.xe s
def EC(r:R2)(ta tb:TE):TE:=λZ H Q=>ta Z H λx H1=>tb Z H1 λy H2=>r x y H2 Q
def dD(r:V->Hp->VK->Prop)(ta:TE):TE:=λZ H Q=>ta Z H λx H1=>r x H1 Q
def rI(C:Int->Int->Prop)(g:Int->Int->V):R2:=λx y H Q=>∃i j,x=.int i/\y=.int j/\C i j/\Q (g i j) H
def Hl(g:Int->Int->V):R2:=λx y H Q=>∃i j,x=.int i/\y=.int j/\Q (g i j) H
def rU(g:Int->V):V->Hp->VK->Prop:=λx H Q=>∃i,x=.int i/\Q (g i) H
section
variable {X:Cx}{a b:Expr}{ta tb:TE}{pos:Pos}
theorem YL(ha:PE X a ta)(hb:PE X b tb){zG:o_ (Ch×Obj)}{s:Rs}{Z:St}{H:Hp}{R:V->V->Hp->Prop}(I:Inv X zG Z H s)
  (h:ta Z H λx H1=>tb Z H1 λy H2=>R x y H2) {Q:Db->Rs->Prop}{f:Db->Db->Sem Db}
  (hf:∀v u s2 x y H2,Inv X zG Z H2 s2->RelV x v->RelV y u->R x y H2->wpAny (model X.prog X.w) X.A (f v u) Q X.xe s2):
  wpAny (model X.prog X.w) X.A (eval a X.env) (λv s₁=>wpAny (model X.prog X.w) X.A (eval b X.env) (λu s₂=>wpAny (model X.prog X.w) X.A (f v u) Q X.xe s₂) X.xe s₁) X.xe s:=thn (ha _ s Z H _ I h) λv s1 #[x,H1,I1,r1,q1]=>thn (hb _ s1 Z H1 _ I1 q1) λu s2 #[y,H2,I2,r2,q2]=>hf v u s2 x y H2 I2 r1 r2 q2
theorem B0{op:Operator}{r:R2}(ho:OpR X (binaryOp op) r)(ha:PE X a ta)(hb:PE X b tb):PE X (.BinOp a op b pos)^EC r ta tb:=λzG s Z H Q I h=>wpAny_BinOp^YL ha hb I h λv u s2 x y H2 I2 rx ry q=>ho _ s2 Z H2 x y v u Q I2 rx ry q
theorem Zd{op:UnaryOp}{r:V->Hp->VK->Prop}(ho:cO X (unaryOp op) r)(ha:PE X a ta):PE X (.UnaryOp op a pos)^dD r ta:=λzG s Z H Q I h=>UnaryOp_^thn (ha _ s Z H _ I h) λv s1 #[x,H1,I1,r1,q1]=>ho _ s1 Z H1 x v Q I1 r1 q1
theorem ar{f:Db->Db->Sem Db}{C:Int->Int->Prop}{g:Int->Int->Int}
  (rule:∀(i j:Int) (t u:Tok) (s:Rs) (Q:Db->Rs->Prop) (E:Db->Rs->Prop),C i j->Q (.int (g i j) s.toks) {s with toks:=s.toks+1}->wpAny (model X.prog X.w) X.A (f (.int i t)^.int j u) Q E s):
  OpR X f (rI C λi j=>.int^g i j):=by
 intro zG s Z H x y v u Q I rx ry h;let#[i,j,rfl,rfl,hc,q]:=h;let#[t,rfl]:=rx;let#[t',rfl]:=ry;exact rule i j t t' s _ _ hc #[.int _,H,I.tok _,#[_,rfl],q]
theorem Zh{f:Db->Db->Sem Db}{g:Int->Int->Int}
  (rule:∀(i j:Int) (t u:Tok) (s:Rs) (Q:Db->Rs->Prop) (E:Db->Rs->Prop),Q (.int (g i j) s.toks) {s with toks:=s.toks+1}->wpAny (model X.prog X.w) X.A (f (.int i t)^.int j u) Q E s):
  OpR X f (Hl λi j=>.int^g i j):=by
 intro zG s Z H x y v u Q I rx ry h;let#[i,j,rfl,rfl,q]:=h;let#[t,rfl]:=rx;let#[t',rfl]:=ry;exact rule i j t t' s _ _ #[.int _,H,I.tok _,#[_,rfl],q]
theorem U9{f:Db->Db->Sem Db}{g:Int->Int->Bool}
  (rule:∀(i j:Int) (t u:Tok) (s:Rs) (Q:Db->Rs->Prop) (E:Db->Rs->Prop),Q (.bool^g i j) s->wpAny (model X.prog X.w) X.A (f (.int i t)^.int j u) Q E s):
  OpR X f (Hl λi j=>.bl^g i j):=by
 intro zG s Z H x y v u Q I rx ry h;let#[i,j,rfl,rfl,q]:=h;let#[t,rfl]:=rx;let#[t',rfl]:=ry;exact rule i j t t' s _ _ #[.bl _,H,I,rfl,q]
def V6(i j:Int):Prop:=0<j/\j<1073741824
def Ys(i j:Int):Prop:=0<=j/\j<=1000000/\i.natAbs<2 ^ 64
def CMul(i j:Int):Prop:=(-(2 ^ 64)<i/\i<2 ^ 64)\/(-(2 ^ 64)<j/\j<2 ^ 64)
theorem CMul.ok{i j:Int}(h:CMul i j):IntMulOk i j:=by
 rcases h with⟨h1,h2⟩|⟨h1,h2⟩
 .exact .of_left^intBits_le_64 h1 h2
 .exact .of_right^intBits_le_64 h1 h2
theorem op_add:OpR X (binaryOp .Add) (Hl λi j=>.int (i+j)):=Zh λ_ _ _ _ _ _ _ q=>add_int q
theorem op_sub:OpR X (binaryOp .Sub) (Hl λi j=>.int (i - j)):=Zh λ_ _ _ _ _ _ _ q=>sub_int q
theorem op_mul:OpR X (binaryOp .Mult) (rI CMul λi j=>.int (i*j)):=ar λ_ _ _ _ _ _ _ hc q=>mul_int q hc.ok
theorem IP:OpR X (binaryOp .FloorDiv) (rI V6 λi j=>.int (i / j)):=ar λi j _ _ _ _ _ hc q=>by
 have h1:=hc.1;have h2:=hc.2;exact floordiv_int (by lk) (by grind)^.inl^PyProof.noPylong_small^by lk
theorem D6:OpR X (binaryOp .Mod) (rI (λ_ j=>0<j) λi j=>.int (i % j)):=ar λi j _ _ _ _ _ hc q=>mod_int' (by lk)^by rw[Int.fmod_eq_emod_of_nonneg i^by lk];exact q
theorem HI:OpR X (binaryOp .Pow) (rI Ys λi j=>.int (i ^ j.toNat)):=ar λ_ _ _ _ _ _ _ hc q=>pow_int_small hc.1 hc.2.1 hc.2.2 q
theorem dB{f:Db->Sem Db}{g:Int->Int}
  (rule:∀(i:Int) (t:Tok) (s:Rs) (Q:Db->Rs->Prop) (E:Db->Rs->Prop),Q (.int (g i) s.toks) {s with toks:=s.toks+1}->wpAny (model X.prog X.w) X.A (f^.int i t) Q E s):
  cO X f (rU λi=>.int^g i):=by
 intro zG s Z H x v Q I rx h;let#[i,rfl,q]:=h;let#[t,rfl]:=rx;exact rule i t s _ _ #[.int _,H,I.tok _,#[_,rfl],q]
theorem W8:cO X (unaryOp .USub) (rU λi=>.int (-i)):=dB λ_ _ _ _ _ q=>neg_int q
end
def ZF:V->V->Bool
 |.non,.non=>m_|.non,.int _=>m_|.int _,.non=>m_|.non,.bl _=>m_|.bl _,.non=>m_|.non,.str _=>m_|.str _,.non=>m_
 |.int _,.int _=>m_|.bl _,.bl _=>m_|.str _,.str _=>m_|.byt _,.byt _=>m_
 |.int _,.str _=>m_|.str _,.int _=>m_|.bl _,.str _=>m_|.str _,.bl _=>m_
 |_,_=>n_
def cj:R2:=λx y H Q=>ZF x y=m_/\Q (.bl (decide (x=y))) H
def ce:R2:=λx y H Q=>ZF x y=m_/\Q (.bl (!decide (x=y))) H
theorem IZ{i j:Int}:decide (V.int i=V.int j)=(i==j):=by
 rw[e9];simp
theorem Lx{i j:Bool}:decide (V.bl i=V.bl j)=(i==j):=by
 rw[e9];simp
theorem IY{i j:Str}:decide (V.str i=V.str j)=(i==j):=by
 rw[e9];simp
theorem Pc{i j:Array UInt8}:decide (V.byt i=V.byt j)=(i.toList==j.toList):=by
 rw[e9]
 simp_all
section
variable {X:Cx}{a b c:Expr}{ta tb tc:TE}{pos:Pos}
theorem Ay{zG:o_ (Ch×Obj)}{Z:St}{H:Hp}{s:Rs}{Q:VK}{k k':Bool}(I:Inv X zG Z H s)(q:Q (.bl k) H)(e:k=k'):EP X zG Z Q (.bool k') s:=by
 subst e;exact#[.bl k,H,I,rfl,q]
theorem Cc:OpR X (compareOp .Eq) cj:=by
 intro zG s Z H x y v u Q I rx ry h;let#[hs,q]:=h;cases x with
 |non=>
  cases rx;cases y with
  |non=>cases ry;exact PySem.EqNone.eq_none_none^Ay I q^by simp
  |bl j=>cases ry;exact PySem.EqNone.eq_none_bool^Ay I q^by simp
  |int j=>let#[t',rfl]:=ry;exact PySem.EqNone.eq_none_int^Ay I q^by simp
  |str j=>let#[t',rfl]:=ry;exact PySem.EqNone.eq_none_str^Ay I q^by simp
  |_=>exact absurd (show n_=m_ from hs) eN
 |bl i=>
  cases rx;cases y with
  |non=>cases ry;exact PySem.EqNone.eq_bool_none^Ay I q^by simp
  |bl j=>cases ry;exact eq_bool^Ay I q Lx
  |str j=>let#[t',rfl]:=ry;exact PySem.EqMixed.eq_bool_str^Ay I q^by simp
  |_=>exact absurd (show n_=m_ from hs) eN
 |int i=>
  let#[t,rfl]:=rx;cases y with
  |non=>cases ry;exact PySem.EqNone.eq_int_none^Ay I q^by simp
  |int j=>let#[t',rfl]:=ry;exact eq_int^Ay I q IZ
  |str j=>let#[t',rfl]:=ry;exact PySem.EqMixed.eq_int_str^Ay I q^by simp
  |_=>exact absurd (show n_=m_ from hs) eN
 |str i=>
  let#[t,rfl]:=rx;cases y with
  |non=>cases ry;exact PySem.EqNone.eq_str_none^Ay I q^by simp
  |bl j=>cases ry;exact PySem.EqMixed.eq_str_bool^Ay I q^by simp
  |int j=>let#[t',rfl]:=ry;exact PySem.EqMixed.eq_str_int^Ay I q^by simp
  |str j=>let#[t',rfl]:=ry;exact eq_str^Ay I q IY
  |_=>exact absurd (show n_=m_ from hs) eN
 |byt i=>
  let#[t,rfl]:=rx;cases y with
  |byt j=>let#[t',rfl]:=ry;exact PySem.W.eq_bytes^Ay I q Pc
  |_=>exact absurd (show n_=m_ from hs) eN
 |_=>cases y <;>exact absurd (show n_=m_ from hs) eN
theorem Kg:OpR X (compareOp .NotEq) ce:=by
 intro zG s Z H x y v u Q I rx ry h;let#[hs,q]:=h;cases x with
 |non=>
  cases rx;cases y with
  |non=>cases ry;exact PySem.EqNone.ne_none_none^Ay I q^by simp
  |bl j=>cases ry;exact PySem.EqNone.ne_none_bool^Ay I q^by simp
  |int j=>let#[t',rfl]:=ry;exact PySem.EqNone.ne_none_int^Ay I q^by simp
  |str j=>let#[t',rfl]:=ry;exact PySem.EqNone.ne_none_str^Ay I q^by simp
  |_=>exact absurd (show n_=m_ from hs) eN
 |bl i=>
  cases rx;cases y with
  |non=>cases ry;exact PySem.EqNone.ne_bool_none^Ay I q^by simp
  |bl j=>cases ry;exact ne_bool^Ay I q^congrArg not Lx
  |str j=>let#[t',rfl]:=ry;exact PySem.EqMixed.ne_bool_str^Ay I q^by simp
  |_=>exact absurd (show n_=m_ from hs) eN
 |int i=>
  let#[t,rfl]:=rx;cases y with
  |non=>cases ry;exact PySem.EqNone.ne_int_none^Ay I q^by simp
  |int j=>let#[t',rfl]:=ry;exact ne_int^Ay I q^congrArg not IZ
  |str j=>let#[t',rfl]:=ry;exact PySem.EqMixed.ne_int_str^Ay I q^by simp
  |_=>exact absurd (show n_=m_ from hs) eN
 |str i=>
  let#[t,rfl]:=rx;cases y with
  |non=>cases ry;exact PySem.EqNone.ne_str_none^Ay I q^by simp
  |bl j=>cases ry;exact PySem.EqMixed.ne_str_bool^Ay I q^by simp
  |int j=>let#[t',rfl]:=ry;exact PySem.EqMixed.ne_str_int^Ay I q^by simp
  |str j=>let#[t',rfl]:=ry;exact ne_str^Ay I q^congrArg not IY
  |_=>exact absurd (show n_=m_ from hs) eN
 |byt i=>
  let#[t,rfl]:=rx;cases y with
  |byt j=>let#[t',rfl]:=ry;exact PySem.W.ne_bytes^Ay I q^congrArg not Pc
  |_=>exact absurd (show n_=m_ from hs) eN
 |_=>cases y <;>exact absurd (show n_=m_ from hs) eN
theorem op_lt:OpR X (compareOp .Lt) (Hl λi j=>.bl (decide (i<j))):=U9 λ_ _ _ _ _ _ _ q=>kT q
theorem op_le:OpR X (compareOp .LtE) (Hl λi j=>.bl (decide (i<=j))):=U9 λ_ _ _ _ _ _ _ q=>le_int q
theorem WS:OpR X (compareOp .Gt) (Hl λi j=>.bl (decide (j<i))):=U9 λ_ _ _ _ _ _ _ q=>gt_int q
theorem WT:OpR X (compareOp .GtE) (Hl λi j=>.bl (decide (j<=i))):=U9 λ_ _ _ _ _ _ _ q=>ge_int q
theorem QL:OpR X (compareOp .Lt) (λx y H Q=>∃i j,x=.str i/\y=.str j/\Q (.bl (decide (i.cps.toList<j.cps.toList))) H):=by
 intro zG s Z H x y v u Q I rx ry h;let#[i,j,rfl,rfl,q]:=h;let#[t,rfl]:=rx;let#[t',rfl]:=ry;exact lt_str (Ay I q rfl)
theorem B3:OpR X (compareOp .Is) (λx y H Q=>y=.non/\Q (.bl (decide (x=.non))) H):=by
 intro zG s Z H x y v u Q I rx ry h;let#[rfl,q]:=h;cases ry;refine is_none_gen^Ay I q ?_
 cases x <;>first
  |omega
  |(let#[t,rfl]:=rx;rfl)
theorem DJ:OpR X (compareOp .IsNot) (λx y H Q=>y=.non/\Q (.bl (!decide (x=.non))) H):=by
 intro zG s Z H x y v u Q I rx ry h;let#[rfl,q]:=h;cases ry;refine isnot_none_gen^Ay I q ?_
 cases x <;>first
  |omega
  |(let#[t,rfl]:=rx;rfl)
theorem OpR.or{f:Db->Db->Sem Db}{r r':R2}(h:OpR X f r)(h':OpR X f r'):OpR X f (λx y H Q=>r x y H Q\/r' x y H Q):=by
 intro zG s Z H x y v u Q I rx ry q
 rcases q with q|q
 .exact h _ s Z H x y v u Q I rx ry q
 .exact h' _ s Z H x y v u Q I rx ry q
theorem Bg(b:eO){op:CmpOp}(h:op≠.In:=by decide)(h2:op≠.NotIn:=by decide):behindInMarks op b=n_:=by
 have e1:(op==CmpOp.In)=n_:=by grind
 have e2:(op==CmpOp.NotIn)=n_:=by grind
 cases b <;>simp[behindInMarks,e1,e2]
theorem U3{op:CmpOp}{r:R2}(ho:OpR X (compareOp op) r)(ha:PE X a ta)(hb:PE X b tb)(hm:behindInMarks op b=n_):PE X (.Compare a [op] [b] pos)^EC r ta tb:=λzG s Z H Q I h=>wpAny_Compare1 (YL ha hb I h λv u s2 x y H2 I2 rx ry q=>ho _ s2 Z H2 x y v u Q I2 rx ry q) hm
def Ou(t:TE):TT:=λZ H Q=>t Z H λx H'=>∃k,x=.bl k/\Q k H'
theorem GX{op:CmpOp}{r:R2}(ho:OpR X (compareOp op) r)(ha:PE X a ta)(hb:PE X b tb)(hm:behindInMarks op b=n_):PT X (.Compare a [op] [b] pos)^Ou^EC r ta tb:=by
 intro zG s Z H Q I h
 refine wpAny_isTrue_Compare1 (thn (ha _ s Z H _ I h) λv s1 #[x,H1,I1,r1,q1]=>thn (hb _ s1 Z H1 _ I1 q1) λu s2 #[y,H2,I2,r2,q2]=>
  thn (ho _ s2 Z H2 x y v u _ I2 r1 r2 q2) λc s3 #[z,H3,I3,r3,k,e,q3]=>?_) hm
 subst e;cases r3;exact fo #[H3,I3,q3]
def Ru(r r':R2)(ta tb tc:TE):TE:=λZ H Q=>ta Z H λx H1=>tb Z H1 λy H2=>r x y H2 λz H3=>∃k,z=.bl k /\
 (if k=m_ then tc Z H3 λw' H4=>r' y w' H4 Q else Q (.bl n_) H3)
theorem SM{op op':CmpOp}{r r':R2}(ho:OpR X (compareOp op) r)(ho':OpR X (compareOp op') r')(ha:PE X a ta)(hb:PE X b tb)(hc:PE X c tc)
  (hm:lastMarks [op,op'] [b,c]=n_:=by with_unfolding_all rfl):PT X (.Compare a [op,op'] [b,c] pos)^Ou^Ru r r' ta tb tc:=by
 intro zG s Z H Q I h
 refine isTrue_chain (thn (ha _ s Z H _ I h) λv s1 #[x,H1,I1,r1,q1]=>test_link (thn (hb _ s1 Z H1 _ I1 q1) λu s2 #[y,H2,I2,r2,q2]=>
  thn (ho _ s2 Z H2 x y v u _ I2 r1 r2 q2) λd s3 #[z,H3,I3,r3,k,e,q3]=>?_)) hm
 subst e;cases r3;refine fo ?_;cases k with
 |false=>
  let#[k',e',q']:=q3;cases e';exact ite_ff #[H3,I3,q']
 |true=>
  refine ite_tt^test_last^thn (hc _ s3 Z H3 _ I3 q3) λw' s4 zz=>?_;let#[z',H4,I4,r4,q4]:=zz;refine thn (ho' _ s4 Z H4 y z' u w' _ I4 r2 r4 q4) λd' s5 zz=>?_;let#[z2,H5,I5,r5,k2,e2,q5]:=zz;subst e2;cases r5;exact fo #[H5,I5,q5]
def Yg(K:Frag)(x:V)(H:Hp)(k:Bool):Prop:=
 match x with
 |.non=>k=n_
 |.bl b=>k=b
 |.int i=>k=(i !=0)
 |.str y=>y.length<=sizeLine/\k=((y.length:Int) !=0)
 |.byt y=>y.size<=sizeLine/\k=((y.size:Int) !=0)
 |.ref p=>(∃xs,SqL K H p xs/\k=!xs.isEmpty)\/(∃xs,SqT K H p xs/\k=!xs.isEmpty)\/∃kvs,H p=P3^.dK kvs/\k=!kvs.isEmpty
 |_=>False
theorem OM{κ:Type}{kvs:o_ (κ×V)}{vs:o_ (κ×Db)}(r:KV kvs vs):(!vs.isEmpty)=!kvs.isEmpty:=by
 cases r <;>rfl
theorem Jc{xs:o_ V}{its:o_ Db}(r:Vals xs its):(!its.toArray.isEmpty)=!xs.isEmpty:=by
 cases r <;>simp
theorem HQ:(sizeLine:Nat)<2 ^ 63:=by cbv
theorem XA:cP X (λx H Q=>∃k,Yg X.K x H k/\Q k H):=by
 intro zG s Z H x v Q I rx h;let#[k,e,q]:=h;have hl:=HQ;have hs:sizeLine=16777216:=fA;cases x with
 |non=>
  cases rx;have e':k=n_:=e;subst e';exact truthy_none #[H,I,q]
 |bl b=>
  cases rx;have e':k=b:=e;subst e';exact fo #[H,I,q]
 |int i=>
  let#[t,rfl]:=rx;have e':k=(i !=0):=e;subst e';exact PySem.P.truthy_int #[H,I,q]
 |str y=>
  let#[t,rfl]:=rx;obtain⟨hy,e'⟩:y.length<=sizeLine/\k=((y.length:Int) !=0):=e;subst e';exact PySem.P.truthy_str (by lk) #[H,I.tok _,q]
 |byt y=>
  let#[t,rfl]:=rx;obtain⟨hy,e'⟩:y.size<=sizeLine/\k=((y.size:Int) !=0):=e;subst e';exact PySem.W.truthy_bytes (by lk) #[H,I.tok _,q]
 | ref p=>
  cases rx;have e':(∃xs,SqL X.K H p xs/\k=!xs.isEmpty)\/(∃xs,SqT X.K H p xs/\k=!xs.isEmpty)\/∃kvs,H p=P3^.dK kvs/\k=!kvs.isEmpty:=e
  rcases e' with⟨xs,hx,e'⟩|⟨xs,hx,e'⟩|⟨kvs,hx,e'⟩
  .subst e'
   let#[its,r,pl,hz]:=I.list hx;have hlen:=r.length;exact wpAny_truthy_list pl.isList (by simp only[dn];lk) #[H,I.tok _,by rw[Jc r];exact q]
  .subst e'
   let#[its,r,pl,hz]:=I.tuple hx;have hlen:=r.length;exact truthy_tuple pl (by simp only[dn];lk) #[H,I.tok _,by rw[Jc r];exact q]
  .subst e'
   obtain⟨hz,hS,vs,r,m⟩:kvs.length<=sizeLine/\(p==sysModules)=n_/\∃vs,KV kvs vs/\s.heap.DictOf (A_ X.prog X.w) p vs:=I.hok p _ hx;have hlen:kvs.length=vs.length:=Paired.length r;exact wpAny_truthy_dict hS m (by lk) #[H,I.tok _,by rw[OM r];exact q]
 |_=>exact(show False from e).elim
theorem SK(ha:PE X a ta)(he:∀whole,isTrue a X.env whole=(do let v ←whole;standAt a.pos;holding [v]^truthy v)):
  PT X a (λZ H Q=>ta Z H λx H'=>∃k,Yg X.K x H' k/\Q k H'):=λzG s Z H Q I h=>isTrue_plain (thn (ha _ s Z H _ I h) λv s1 #[x,H1,I1,r1,q1]=>XA _ s1 Z H1 x v Q I1 r1 q1)^he _
theorem N6:OpR X (binaryOp .Add) (λx y H Q=>∃i j,x=.str i/\y=.str j/\i.length+j.length<=sizeLine/\Q (.str (i++j)) H):=by
 intro zG s Z H x y v u Q I rx ry h;let#[i,j,rfl,rfl,hz,q]:=h;let#[t,rfl]:=rx;let#[t',rfl]:=ry;exact add_str (λt' tk=>#[.str _,H,I.tok _,#[_,rfl],q]) hz
theorem vals1{x:V}{us:o_ Db}(r:Vals [x] us):∃u,us=[u]/\RelV x u:=by
 cases r with
 |cons r1 r2=>cases r2;grind
theorem vals2{x y:V}{us:o_ Db}(r:Vals [x,y] us):∃u w',us=[u,w']/\RelV x u/\RelV y w':=by
 cases r with
 |cons r1 r2=>
  cases r2 with
  |cons r3 r4=>cases r4;exact#[_,_,rfl,r1,r3]
theorem Tr:Cq X (.builtin "abs") (λxs H Q=>∃i,xs=[.int i]/\Q (.int (if i<0 then -i else i)) H):=by
 intro zG s Z H xs us Q I r h;let#[i,rfl,q]:=h;let#[u,rfl,t,rfl]:=vals1 r;exact call_abs_int λu tk=>#[.int _,H,I.tok _,#[_,rfl],q]
theorem Q7(hc:X.calm=m_):Cq X (.builtin "min") (λxs H Q=>∃i j,xs=[.int i,.int j]/\Q (.int (if j<i then j else i)) H):=by
 intro zG s Z H xs us Q I r h;let#[i,j,rfl,q]:=h;let#[u,w',rfl,#[t,rfl],#[t',rfl]]:=vals2 r;refine min_two_ints (I.ok.hd hc) λh' tk k=>#[_,H,I.kept k,?_,q]
 by_cases hj:j<i
 .rw[if_pos hj,if_pos hj];exact#[_,rfl]
 .rw[if_neg hj,if_neg hj];exact#[_,rfl]
def Ym(K:Frag)(x:V)(H:Hp)(n:Nat):Prop:=
 match x with
 |.str y=>y.length<=sizeLine/\n=y.length
 |.byt y=>y.size<=sizeLine/\n=y.size
 |.ref p=>(∃xs,SqL K H p xs/\n=xs.length)\/∃xs,SqT K H p xs/\n=xs.length
 |_=>False
theorem Ju:Cq X (.builtin "len") (λxs H Q=>∃x n,xs=[x]/\Ym X.K x H n/\Q (.int n) H):=by
 intro zG s Z H xs us Q I r h;let#[x,n,rfl,e,q]:=h;let#[u,rfl,rx]:=vals1 r;have hl:=HQ;have hs:sizeLine=16777216:=fA;cases x with
 |str y=>
  let#[t,rfl]:=rx;obtain⟨hy,e'⟩:y.length<=sizeLine/\n=y.length:=e;subst e';exact len_str (by lk) #[.int _,H,I.tok _,#[_,rfl],q]
 |byt y=>
  let#[t,rfl]:=rx;obtain⟨hy,e'⟩:y.size<=sizeLine/\n=y.size:=e;subst e';exact PySem.W.len_bytes (by lk) #[.int _,H,I.tok _,#[_,rfl],q]
 | ref p=>
  cases rx;have e':(∃xs,SqL X.K H p xs/\n=xs.length)\/∃xs,SqT X.K H p xs/\n=xs.length:=e
  rcases e' with⟨xs,hx,e'⟩|⟨xs,hx,e'⟩
  .subst e'
   let#[its,r',pl,hz]:=I.list hx;have hlen:=r'.length;exact Calls.call_len_list pl.isList (by simp only[dn];lk) #[.int xs.length,H,I.tok _,#[_,by simp only[dn];rw[hlen]],q]
  .subst e'
   let#[its,r',pl,hz]:=I.tuple hx;have hlen:=r'.length;exact len_tuple pl (by simp only[dn];lk) #[.int xs.length,H,I.tok _,#[_,by simp only[dn];rw[hlen]],q]
 |_=>exact(show False from e).elim
end
structure ObjM (h:eC) (x dx C:Ch) (mA:Str->Option Db):Prop where
 obj:h.get? x=P3 (PySem.W.instObj C dx)
 ns:h.Ns1 dx mA
 ne:dx≠x
theorem Qd{h:eC}{dx:Ch}{mA:Str->p_ Db}(n:h.Ns1 dx mA):∃od,h.get? dx=P3 od/\∀name,PySem.W.lookIn name od=P3^mA name:=by
 let#[o,es,ep,ho,hd,hk,_,hm]:=n;refine#[o,ho,λname=>?_];have e:=hm name;unfold nsFind findBy at e;unfold PySem.W.lookIn;rw[hd]
 dsimp only
 split
 .simp_all
 .have a:es.toList.any (·.refKey)=n_:=by
   rw[List.any_eq_false];intro y hy;let#[z,t,hkey]:=hk y^Array.mem_toList_iff.mp hy;simp[DictEntry.refKey,hkey]
  grind
theorem ObjM.look{h:eC}{x dx C:Ch}{mA:Str->p_ Db}(I:ObjM h x dx C mA):∃od,PySem.W.InstAt h x (PySem.W.instObj C dx) C^P3 od/\∀name,PySem.W.lookIn name od=P3^mA name:=
 let #[od,ho,hl]:=Qd I.ns
 #[od,#[I.obj,rfl,rfl,ho],hl]
theorem RelO.some_of{v:V}{o:p_ Db}(r:RelO (P3 v) o):∃u,o=P3 u/\RelV v u:=by
 cases o with
 |none=>exact(r).elim
 |some u=>exact#[u,rfl,r]
section
variable {P:Program}{w:World}{H:Hp}{h:Heap}{a C dx:Addr}{fs:o_ (Str×V)}
theorem VO(hok:HOk P w H h)(e:H a=P3^.ins C dx fs):∃mA,ObjM h a dx C mA/\(∀f,RelO (fs.lookup f)^mA f)/\PySem.Within mA (fs.map (·.1))/\fs.length<=1000/\H dx=P3^.own a:=by
 let#[d,z,ne,ob,mA,n,r,q]:=(hok a _ e);exact#[mA,#[ob,n,ne],r,q,z,d]
end
structure Cls (K:Frag) (C:Ch):Prop where
 pg:PySem.W.plainGet K C Str.empty=m_
 hd:PySem.W.hasDictIn K C=m_
 po:PySem.W.plainOver K C=m_
 sa:PySem.W.findIn K (.ref C) "__setattr__"=P3^P3^.builtin "object.__setattr__"
theorem Cls.get{K:Frag}{C:Ch}(c:Cls K C)(f:Str):PySem.W.plainGet K C f=m_:=c.pg
structure dY (K:Frag) (C:Ch) (f:Str) (v:V) (u:Db):Prop where
 at_:PySem.W.findIn K (.ref C) f=P3 (P3 u)
 rel:RelV v u
 get:PySem.W.specialIn K u "__get__"=P3 l_
 cp:PySem.W.copiedNames.contains f=n_
structure dS (K:Frag) (C:Ch) (m:Str) (f:Ch):Prop where
 at_:PySem.W.findIn K (.ref C) m=P3 (P3^.ref f)
 fn:PySem.W.isFn K^.ref f=m_
 kp:keepIn K^.ref f=m_
section
variable {X:Cx}{zG:o_ (Addr×Obj)}{Z:St}{H:Hp}{s:Shared}{A:Around}{E:Value->Shared->Prop}{Q:Value->Shared->Prop}{c:Value}{b:Bool}
inductive GI (K:Frag) (H:Hp):V->Db->Prop where
 |non:GI K H .non^.type "NoneType"
 |bl (x:Bool):GI K H (.bl x)^.type "bool"
 |int (i:Int):GI K H (.int i)^.type "int"
 |str (x:Str):GI K H (.str x)^.type "str"
 |flt (x:UInt64):GI K H (.flt x)^.type "float"
 |lst {a:Ch}{xs:List V} (e:H a=P3^.lst xs):GI K H (.ref a)^.type "list"
 |frz {a:Ch}{o:Obj}{xs:List V} (e:H a=P3^.frz o^.lst xs):GI K H (.ref a)^.type "list"
 |tup {a:Ch}{xs:List V} (e:H a=P3^.tup xs):GI K H (.ref a)^.type "tuple"
 |dF {a:Ch}{o:Obj}{kvs:List (Key×V)} (e:H a=P3^.frz o^.dK kvs):GI K H (.ref a)^.type "dict"
 |dK {a:Ch}{kvs:List (Key×V)} (e:H a=P3^.dK kvs):GI K H (.ref a)^.type "dict"
 |dT {a:Ch}{kvs:List (List Key×V)} (e:H a=P3^.dT kvs):GI K H (.ref a)^.type "dict"
 | ins {a C dx:Ch}{fs:List (Str×V)} (e:H a=P3^.ins C dx fs) (cl:Cls K C) (ha:PySem.W.findIn K (.ref C) "__class__"=P3^P3^.builtin "object.__class__")
   (hn:PySem.W.specialIn K (.builtin "object.__class__") "__get__"=P3^P3^.builtin "getset_descriptor.__get__") (htk:PySem.W.takesIn K^.builtin "object.__class__"=P3 m_)
   (hm:PySem.W.mroIn K C^.type "object"=P3 m_):GI K H (.ref a)^.ref C
theorem Ql{x:V}{u t:Db}(I:Inv X zG Z H s)(rx:RelV x u)(ty:GI X.K H x t)(e:PySem.W.kitOne X.K t c=P3 b)(h:∀tk,Q (.bool b) {s with toks:=tk}):
  wpAny (model X.prog X.w) A (call (.builtin "isinstance") [u,c]) Q E s:=by
 cases ty with
 |non=>cases(show u=fB from rx);exact PySem.W.kia_one PySem.W.kitx_none I.kIn gu e (λz=>nomatch z) h
 |bl y=>cases(show u=jI y from rx);exact PySem.W.kia_one PySem.W.kitx_bool I.kIn gu e (λz=>nomatch z) h
 |int i=>let#[t,q]:=(show ∃t,u=kq i t from rx);cases q;exact PySem.W.kia_one PySem.W.kitx_int I.kIn gu e (λz=>nomatch z) h
 |str y=>let#[t,q]:=(show ∃t,u=hV y t from rx);cases q;exact PySem.W.kia_one PySem.W.kitx_str I.kIn gu e (λz=>nomatch z) h
 |flt y=>let#[t,q]:=(show ∃t,u=Value.float y t from rx);cases q;exact PySem.W.kia_one PySem.W.kitx_float I.kIn gu e (λz=>nomatch z) h
 |@lst a xs ea=>
  cases(show u=fR a from rx);let#[_,_,n,_,h1]:=(show ObjOk X.prog X.w H s.heap a^.lst xs from I.hok a _ ea);exact PySem.W.kia_one PySem.W.kitx_list I.kIn #[_,h1,rfl] e (λz=>nomatch z) h
 |@frz a ob xs ea=>
  cases(show u=fR a from rx);let#[_,_,_,n,_,h1]:=(show ObjOk X.prog X.w H s.heap a^.frz ob^.lst xs from I.hok a _ ea);exact PySem.W.kia_one PySem.W.kitx_list I.kIn #[_,h1,rfl] e (λz=>nomatch z) h
 |@tup a xs ea=>
  cases(show u=fR a from rx);let#[_,_,_,p]:=(show ObjOk X.prog X.w H s.heap a^.tup xs from I.hok a _ ea);let#[o,h1,h2,_]:=p;exact PySem.W.kia_one PySem.W.kitx_tuple I.kIn #[o,h1,h2] e (λz=>nomatch z) h
 |@dF a ob kvs ea=>
  cases(show u=fR a from rx);let#[_,_,_,vs,_,p]:=(show ObjOk X.prog X.w H s.heap a^.frz ob^.dK kvs from I.hok a _ ea);let#[o,es,ep,h1,h2,_]:=p;exact PySem.W.kia_one PySem.W.kitx_dict I.kIn #[o,h1,h2.1] e (λz=>nomatch z) h
 |@dK a kvs ea=>
  cases(show u=fR a from rx);let#[_,_,vs,_,p]:=(show ObjOk X.prog X.w H s.heap a^.dK kvs from I.hok a _ ea);let#[o,es,ep,h1,h2,_]:=p;exact PySem.W.kia_one PySem.W.kitx_dict I.kIn #[o,h1,h2.1] e (λz=>nomatch z) h
 |@dT a kvs ea=>
  cases(show u=fR a from rx);let#[_,_,xs,_,o,es,ep,h1,h2,_]:=(show ObjOk X.prog X.w H s.heap a^.dT kvs from I.hok a _ ea);exact PySem.W.kia_one PySem.W.kitx_dict I.kIn #[o,h1,h2.1] e (λz=>nomatch z) h
 |@ins a C dx fs ea cl ha hn htk hm=>
  cases(show u=fR a from rx);let#[mA,O,_]:=VO I.hok ea;let#[od,J,_]:=O.look;exact PySem.W.kia_one (PySem.W.kitx_own (cl.get _) cl.hd ha hn htk hm) I.kIn J e (λz=>nomatch z) h
end
structure Room (k:Nat) (A:eh):Prop where
 hd:A.handled=l_
 dp:A.depth+3*k+5<recursionLimit
 un:A.units+16*k+200<cLine
 gd:A.guards=P3 []
theorem Room.mono{j k:Nat}{A:eh}(r:Room k A)(h:j<=k):Room j A:=#[r.hd,by have:=r.dp;lk,by have:=r.un;lk,by first|exact r.gd|grind|grind]
theorem Room.deeper{k:Nat}{A:eh}(r:Room (k+1) A)(env:Env):Room k^A.deeper env:=
 #[r.hd,by have:=r.dp;show A.depth+1+3*k+5<_;lk,by have:=r.un;show A.units+3+16*k+200<_;lk,by first|exact r.gd|omega|grind]
theorem Room.in1{k:Nat}{A:eh}(r:Room (k+1) A):Room k A.in1:=
 #[r.hd,by have:=r.dp;grind,by have:=r.un;grind,by first|exact r.gd|omega|grind]
theorem Room.depth{k:Nat}{A:eh}(r:Room k A):A.depth<recursionLimit:=by have:=r.dp;lk
theorem Room.units{k:Nat}{A:eh}(r:Room k A):A.units+64<cLine:=by have:=r.un;lk
theorem Room.units0{k:Nat}{A:eh}(r:Room k A):A.units<cLine:=by have:=r.un;lk
def Uk:TA:=λ_ H Q=>Q [] H
def Ov(ta:TE)(tr:TA):TA:=λZ H Q=>ta Z H λx H1=>tr Z H1 λxs H2=>Q (x::xs) H2
section
variable {X:Cx}{e:Expr}{es:o_ Expr}{te:TE}{t:TA}{pos:Pos}
theorem De:PA X [] Uk:=λ_ _ _ _ H Q I h=>g_ #[[],H,I,.nil,h]
theorem B_(ha:PE X e te)(hr:PA X es t)(hs:starEach (e::es) X.env=(n_,eval e X.env)::starEach es X.env:=by rfl):PA X (e::es)^Ov te t:=by
 intro pos zG s Z H Q I h;rw[hs];refine gR^thn (ha _ s Z H _ I h) λu s1 zz=>?_;let#[x,H1,I1,r1,q1]:=zz;refine thn (hr _ _ s1 Z H1 _ I1 q1) λus s2 zz=>?_;let#[xs,H2,I2,r2,q2]:=zz;exact #[_,H2,I2,.cons r1 r2,q2]
def bK(t:TA):TE:=λZ H Q=>t Z H λxs H1=>xs.length<=sizeLine/\∀p,H1 p=l_->Q (.ref p)^BF H1 p^.tup xs
def bO(t:TA):TE:=λZ H Q=>t Z H λxs H1=>xs.length<=sizeLine/\∀p,H1 p=l_->Q (.ref p)^BF H1 p^.lst xs
theorem Xd{x1}(h:PA X es t):PE X (.Tuple es x1 pos)^bK t:=by
 intro zG s Z H Q I hq;refine wpAny_Tuple_spliced^thn (h pos zG s Z H _ I hq) λus s1 zz=>?_;let#[xs,H1,I1,r,z,q]:=zz;refine #[by rw[←r.length];exact z,?_];have hf:H1 s1.heap.objs.size=l_:=I1.hok.fresh^Re _;refine#[.ref s1.heap.objs.size,BF H1 s1.heap.objs.size^.tup xs,I1.laid (t':=s1.toks) (λb u e=>No _ e) (Re _) ?_,rfl,q _ hf];exact#[z,us,r,IsTupN.new _ _]
theorem N3(h:PA X es t):PE X (.List es pos)^bO t:=by
 intro zG s Z H Q I hq;refine wpAny_List_spliced^thn (h pos zG s Z H _ I hq) λus s1 zz=>?_;let#[xs,H1,I1,r,z,q]:=zz;refine #[by rw[←r.length];exact z,?_];have hf:H1 s1.heap.objs.size=l_:=I1.hok.fresh^Re _;refine#[.ref s1.heap.objs.size,BF H1 s1.heap.objs.size^.lst xs,I1.laid (t':=s1.toks) (λb u e=>No _ e) (Re _) ?_,rfl,q _ hf];exact#[z,us,0,r,T0 _ rfl]
end
abbrev Sp:=o_ V->Hp->VK->XK->Prop
abbrev RT:=o_ Env->Hp->Rs->XK->Db->Rs->Prop
structure Env0 (P:eK) (w:eU) (K:Frag) (mg:Str->Option Db) (base:eC) (A:eh) (outer:List Env) (s:Rs) (H:Hp):Prop where
 frames:A.frames=P3 outer
 mod:Mod K mg base
 bs:∀b o,base.get? b=P3 o->s.heap.get? b=P3 o/\H b=l_
 bsz:base.objs.size<=s.heap.objs.size
 funs:s.heap.FunFrames base outer
 frf:∀b∈PP outer,H b=l_
 hok:HOk P w H s.heap
 bare:ir s.gens
def CE(outer:o_ Env)(P:eK)(w:eU)(H:Hp)(s:Rs)(Q:VK)(u:Db)(s':Rs):Prop:=
 ∃v H',s'.os=s.os/\ir s'.gens/\Un (PP outer) [] H H' s.heap s'.heap/\HOk P w H' s'.heap/\RelV v u/\Q v H'
def CR(CX:RT)(outer:o_ Env)(P:eK)(w:eU)(H:Hp)(s:Rs)(Q:VK)(E:XK)(r:Result)(s':Rs):Prop:=
 match r with
 |.ok (.ret u)=>CE outer P w H s Q u s'
 |.ok _=>False
 |.error e=>CX outer H s E e s'
structure FnOk (P:eK) (w:eU) (K:Frag) (mg:Str->Option Db) (base:eC) (CX:RT) (k:Nat) (f:Ch) (fd:fJ) (ps:List Str) (sp:Sp):Prop where
 len:∀vs H Q E,sp vs H Q E->vs.length=ps.length
 run:∀(A:eh) (outer:List Env) (s:Rs) (H:Hp) (args:Args) (us:List Db) (vs:List V) (Q:VK) (E:XK),Room k A->Env0 P w K mg base A outer s H->jX s fd args^ps.zip us->Vals vs us->sp vs H Q E->
  codeAny (model P w) A (.call (.ref f) args) (CR CX outer P w H s Q E) s
theorem FnOk.imp{P:eK}{w:eU}{K:Frag}{mg:Str->p_ Db}{base:eC}{CX:RT}{k:Nat}{f:Ch}{fd:fJ}{ps:o_ Str}{sp sp':Sp}(F:FnOk P w K mg base CX k f fd ps sp)
  (h:∀vs H Q E,sp' vs H Q E->sp vs H Q E):FnOk P w K mg base CX k f fd ps sp':=
 #[λvs H Q E q=>F.len vs H Q E^h _ _ _ _ q,λA outer s H args us vs Q E hr he hb hv hs=>F.run A _ s H _ us vs Q E hr he hb hv^h _ _ _ _ hs]
theorem Env0.in1{P:eK}{w:eU}{K:Frag}{mg:Str->p_ Db}{base:eC}{A:eh}{outer:o_ Env}{s:Rs}{H:Hp}(e:Env0 P w K mg base A outer s H):
  Env0 P w K mg base A.in1 outer s H:=#[e.frames,e.mod,e.bs,e.bsz,e.funs,e.frf,e.hok,e.bare]
section
variable {X:Cx}{zG:o_ (Addr×Obj)}{Z:St}{H:Hp}{s s':Shared}
theorem Inv.env0(I:Inv X zG Z H s):Env0 X.prog X.w X.K X.mg X.base X.A X.stack s H:=
 #[I.ok.frames,I.ok.mod,I.bs,eJ I.ok.bsz I.sz,I.stack,I.stkFree,I.hok,I.bare]
theorem Inv.after{Q:VK}{u:Db}(I:Inv X zG Z H s)(h:CE X.stack X.prog X.w H s Q u s'):EP X zG Z Q u s':=by
 let#[v,H',os,bare,un,hok,r,q]:=h;let#[hh,g,d,t,os']:=s';obtain rfl:os'=s.os:=os;exact#[v,H',I.call un hok bare λb z=>absurd z^by simp,r,q]
end
def Rv(sp:Sp)(dvs:o_ V)(E:XK)(t:TA):TE:=λZ H Q=>t Z H λvs H1=>sp (vs++dvs) H1 Q E
def Binds(K:Frag)(fd:fJ)(ps:o_ Str)(ds:o_ Db):Prop:=
 ∀(s:Rs) (us:o_ Db),K.In s.heap->(us++ds).length=ps.length->jX s fd #[us,[]]^ps.zip (us++ds)
theorem Binds.all{K:Frag}{fd:fJ}{ps:o_ Str}(h:∀us:o_ Db,us.length=ps.length->bindArgs fd #[us,[]]=pure^ps.zip us):Binds K fd ps []:=λs us _ hl=>by
 rw[dk]at hl ⊢;exact .of_eq^h us hl
def Od(CX:RT)(X:Cx)(E:XK):Prop:=∀(zG:o_ (Ch×Obj)) (Z:St) (H:Hp) (s:Rs) (e:Db) (s':Rs),Inv X zG Z H s->CX X.stack H s E e s'->X.xe e s'
section
variable {X:Cx}{CX:RT}{k:Nat}{f C:Addr}{fd:FuncData}{ps:o_ Str}{sp:Sp}{dvs:o_ V}{ds:o_ Value}{E:XK}{x:Str}{p pos:Pos}{e:Expr}{es:o_ Expr}{t:TA}
theorem XQ{zG:o_ (Ch×Obj)}{Z:St}{H:Hp}{s:Rs}{Q:VK}{us:o_ Db}{vs:o_ V}(F:FnOk X.prog X.w X.K X.mg X.base CX k f fd ps sp)(hr:Room k X.A)(hb:Binds X.K fd ps ds)(hd:Vals dvs ds)(hx:Od CX X E)
  (I:Inv X zG Z H s) (r:Vals vs us) (h:sp (vs++dvs) H Q E):wpAny (model X.prog X.w) X.A (call (.ref f) us) (EP X zG Z Q) X.xe s:=by
 have r2:Vals (vs++dvs) (us++ds):=r.append hd;have hl:(us++ds).length=ps.length:=by rw[←r2.length];exact F.len _ _ _ _ h
 refine wpAny_call^j_ (F.run X.A X.stack s H #[us,[]] (us++ds) (vs++dvs) Q E hr I.env0 (hb s us I.kIn hl) r2 h) λr s' hq=>?_;cases r with
 |error e=>exact hx zG Z H s e s' I hq
 |ok fl=>
  cases fl with
  |ret u=>exact I.after hq
  |next=>exact gF hq
  |brk=>exact gF hq
  |cont=>exact gF hq
theorem O9(F:FnOk X.prog X.w X.K X.mg X.base CX k f fd ps sp)(hr:Room k X.A)(hg:Gl X x)(hm:X.mg x=P3^.ref f)(hk:keepIn X.K^.ref f=m_)(hb:Binds X.K fd ps ds)(hd:Vals dvs ds)(hx:Od CX X E)
  (ha:PA X (e::es) t) (hdb:(x==("__debug__":Str))=n_:=by decide) (he:starEach (e::es) X.env=(n_,eval e X.env)::starEach es X.env:=by rfl) (hpl:(backTo pos^starEach es X.env).any (·.1)=n_:=by rfl):
  PE X (.Call (.Name x p) (e::es) [] pos) (Rv sp dvs E t):=λzG s Z H Q I h=>gC^Lp I hg hm (PySem.W.callWith_K I.ok.mod.kin hk (thn (ha _ _ s Z H _ I h) λus s1 #[vs,H1,I1,r,q]=>#[I1.kIn,XQ F hr hb hd hx I1 r q]) he hpl) hdb
structure Mk (K:Frag) (C f:Ch):Prop where
 makes:PySem.W.makesIn K C=m_
 init:PySem.W.findIn K (.ref C) "__init__"=P3 (P3^.ref f)
 fn:PySem.W.isFn K^.ref f=m_
 kp:keepIn K^.ref C=m_
end
section
variable {fd:FuncData}{ps ks:o_ Str}
structure cS (K:Frag) (fd:fJ) (ps ks:List Str) (g:List Db->List Db->List Db) (gV:List V->List V->List V):Prop where
 to:∀(s:Rs) (us ws:List Db),K.In s.heap->(g us ws).length=ps.length->jX s fd #[us,ks.zip ws] (ps.zip^g us ws)
 rel:∀{vs:List V}{us:List Db}{zs:List V}{ws:List Db},Vals vs us->Vals zs ws->Vals (gV vs zs)^g us ws
end
structure BU (N P:List Str) (sc:gs):Prop where
 kind:sc.kind=.function
 co:sc.isCoroutine=n_
 gen:sc.isGenerator=n_
 nd:N.Nodup
 pre:N.take P.length=P
 par:∀x∈P,sc.names.lookup x=P3 .local\/sc.names.lookup x=P3 .cell
 nofree:∀y∈sc.names,y.2≠.free
theorem K0{kindOf:Str->p_ gl}{x:Str}:∀{binds:o_ (Str×Db)}{m:Str->p_ Db},(∀v,(x,v)∉binds)->bindL kindOf binds m x=m x
 |[],_,_=>rfl
 |(n,v)::r,m,h=>by
  unfold bindL;rw[K0 λw hw=>h w^Sc _ hw]
  split
  .grind
  .rfl
theorem K4{kindOf:Str->p_ gl}{x:Str}:∀{binds:o_ (Str×Db)}{m:Str->p_ Db},(∀v,(x,v)∉binds)->bindC kindOf binds m x=m x
 |[],_,_=>rfl
 |(n,v)::r,m,h=>by
  unfold bindC;rw[K4 λw hw=>h w^Sc _ hw]
  split
  .rfl
  grind
theorem K3{kindOf:Str->p_ gl}{x:Str}{v:Db}:∀{P:o_ Str}{vs:o_ Db}{i:Nat}{m:Str->p_ Db},P.Nodup->P[i]?=P3 x->vs[i]?=P3 v->kindOf x=P3 .local->
  bindL kindOf (P.zip vs) m x=P3 v
 |[],_,_,_,_,h,_,_=>by simp at h
 |_::_,[],_,_,_,_,h,_=>by simp at h
 |p::P,w::vs,0,m,nd,h1,h2,hk=>by
  simp at h1 h2;subst h1;subst h2
  show bindL kindOf ((p,w)::P.zip vs) m p=_;unfold bindL;rw[K0 λv hv=>(eI.mp nd).1 (iX hv).1,if_pos hk];simp
 |p::P,w::vs,i+1,m,nd,h1,h2,hk=>by
  unfold bindL;exact K3 (i:=i) (eI.mp nd).2 (by simp_all) (by simp_all) hk
theorem K5{kindOf:Str->p_ gl}{x:Str}{v:Db}:∀{P:o_ Str}{vs:o_ Db}{i:Nat}{m:Str->p_ Db},P.Nodup->P[i]?=P3 x->vs[i]?=P3 v->kindOf x≠P3 .local->
  bindC kindOf (P.zip vs) m x=P3 v
 |[],_,_,_,_,h,_,_=>by simp at h
 |_::_,[],_,_,_,_,h,_=>by simp at h
 |p::P,w::vs,0,m,nd,h1,h2,hk=>by
  simp at h1 h2;subst h1;subst h2
  show bindC kindOf ((p,w)::P.zip vs) m p=_;unfold bindC;rw[K4 λv hv=>(eI.mp nd).1 (iX hv).1,if_neg hk];simp
 |p::P,w::vs,i+1,m,nd,h1,h2,hk=>by
  unfold bindC;exact K5 (i:=i) (eI.mp nd).2 (by simp_all) (by simp_all) hk
def start(N:o_ Str)(vs:o_ V):St:=vs.map P3++fN (N.length - vs.length) l_
def Hb(CX:RT)(P:eK)(w:eU)(K:Frag)(mg:Str->p_ Db)(base:eC)(N:o_ Str)(qual:Str)(scope:gs)(f:Ch)(cd:Db)(A:eh)(outer:o_ Env)(s:Rs)(H:Hp)(E:XK):Cx where
 prog:=P
 w:=w
 K:=K
 mg:=mg
 base:=base
 A:=A.deeper (envOfC qual scope s.heap.objs.size f cd)
 N:=N
 s₀:=s
 H₀:=H
 env:=envOfC qual scope s.heap.objs.size f cd
 outer:=outer
 stack:=envOfC qual scope s.heap.objs.size f cd::outer
 ex:=[]
 calm:=m_
 fn:=λ_=>m_
 pn:=[]
 xe:=λe s'=>wpAny (model P w) (A.deeper^envOfC qual scope s.heap.objs.size f cd) (leaving (envOfC qual scope s.heap.objs.size f cd) e) (λ_ s''=>CX outer H s E e s'') (λe' s''=>CX outer H s E e' s'') s'
theorem NS{sc:gs}{n:Nat}{x:Str}(h:sc.names.lookup x=P3 .cell):∃c,(cellsFrom n sc.names []).lookup x=P3 c:=by
 have q:=PySem.W.cellsFrom_some sc.names n []^.inl h;exact Option.isSome_iff_exists.mp q
theorem Qn{CX:RT}{P:eK}{w:eU}{K:Frag}{mg:Str->p_ Db}{base:eC}{N ps:o_ Str}{qual:Str}{scope:gs}{f:Ch}{cd:Db}{A:eh}{outer:o_ Env}{s s1:Rs}{H:Hp}{E:XK}{us:o_ Db}{vs:o_ V}
  (S:BU N ps scope) (hd:A.handled=l_) (e0:Env0 P w K mg base A outer s H) (hl:vs.length=ps.length) (r:Vals vs us)
  (x:InCallC s s.heap.objs.size (bindL (envOfC qual scope s.heap.objs.size f cd).kindOf (ps.zip us) λ_=>l_) (cellsFrom (s.heap.objs.size+1) scope.names []) (bindC (envOfC qual scope s.heap.objs.size f cd).kindOf (ps.zip us) λ_=>l_) s1):
  Inv (Hb CX P w K mg base N qual scope f cd A outer s H E) [] (start N vs) H s1:=by
 have hpl:ps.length<=N.length:=by have:=congrArg iI S.pre;rw[gP]at this;lk
 let#[h1,tk,rfl,hk]:=x.done;have noA:∀b:Ch,b∉(Hb CX P w K mg base N qual scope f cd A outer s H E).ex:=λb z=>absurd (show b∈([]:o_ Ch)from z)^by simp
 refine#[#[e0.mod,S.kind,rfl,rfl,Re _,λy z c h1 h2=>?_,λy hy=>?_,λy c _ h=>?_,λ_=>hd,Around.frames_deeper e0.frames,.inr #[rfl,rfl],λb z=>absurd z^noA b,e0.bs,e0.bsz,λb _ _=>noA b,λb z=>absurd z^noA b,e0.funs,e0.frf],
  rfl,e0.bare,Un.kept hk,#[_,x.toInCall.ns,λi y v h1 h2 h3=>?_],λy c h=>#[_,x.cell y c h],e0.hok.fresh^Re _,λy c h=>?_,λp hp=>absurd (show p∈([]:o_ (Ch×Obj))from hp)^by simp,e0.hok.kept hk,?_]
 .exact name_of_addr x.apart (PySem.mem_of_lookup h1)^PySem.mem_of_lookup h2
 .have hy:scope.names.lookup y=P3 .cell\/scope.names.lookup y=P3 .free:=hy
  rcases hy with hy|hy
  .exact NS hy
  .exact absurd rfl (S.nofree _^PySem.mem_of_lookup hy)
 .exact j9^x.above y c^PySem.mem_of_lookup h
 .have hi:i<vs.length:=by
   unfold start at h2
   by_cases hi:i<vs.length
   .exact hi
   .rw[eT^by simpa using hi]at h2
    rw[iz]at h2
    split at h2 <;>cases h2
  have ha:vs[i]?=P3 v:=by
   unfold start at h2;rw[gW (by simpa using hi),di]at h2;cases e:vs[i]? with
   |none=>rw[e]at h2;cases h2
   |some a=>rw[e]at h2;cases h2;rfl
  let#[u,hu,rv]:=r.get ha
  have hp:ps[i]?=P3 y:=by
   rw[←S.pre,List.getElem?_take_of_lt^by lk];exact h1
  have ndP:ps.Nodup:=by rw[←S.pre];exact S.nd.sublist^List.take_sublist _ _
  refine#[u,rv,?_]
  rcases S.par y^fD hp with k|k
  .exact .inl #[k,K3 ndP hp hu k]
  .let#[c,e]:=NS (n:=s.heap.objs.size+1) k
   refine .inr #[.inl k,c,e,?_];have q:=x.cell y c e;rw[K5 ndP hp hu^by show scope.names.lookup y≠_;rw[k];decide]at q;exact q
 .exact e0.hok.fresh^j9^x.above y c^PySem.mem_of_lookup h
 .unfold start
  show _=N.length;rw[XV,Ev,jF];lk
theorem Zu{CX:RT}{P:eK}{w:eU}{K:Frag}{mg:Str->p_ Db}{base:eC}{k:Nat}{f:Ch}{name qual:Str}{params:Arguments}{body:o_ f8}{scope:gs}{dV kV doc pm cdv ct oc:Db}{an od:p_ Ch}
  {osl:Array^p_ Db}{N ps:o_ Str}{sp:Sp} (lk:K.lookup f=P3 #[oc,od,.func^fnOf name qual params body scope dV kV doc pm an cdv ct,osl]) (hcd:codeIn K cdv qual=m_) (S:BU N ps scope)
  (len:∀vs H Q E,sp vs H Q E->vs.length=ps.length)
  (hbody:∀(A:eh) (outer:o_ Env) (s:Rs) (H:Hp) (vs:o_ V) (Q:VK) (E:XK),Room k^A.deeper^envOfC qual scope s.heap.objs.size f cdv->sp vs H Q E->
   ∃t,PSs (Hb CX P w K mg base N qual scope f cdv A outer s H E) body t/\t {nx:=λ_ H'=>Q .non H',rt:=Q} (start N vs) H):
  FnOk P w K mg base CX (k+1) f (fnOf name qual params body scope dV kV doc pm an cdv ct) ps sp:=by
 refine#[len,λA outer s H args us vs Q E hr e0 hb r hsp=>?_];have hl:=len _ _ _ _ hsp;have KX:K.In s.heap:=e0.mod.kin.keeps λb o e=>(e0.bs b o e).1;have lim:s.heap.NoLimit:=e0.mod.nolimit.keeps λb o e=>(e0.bs b o e).1
 have hkind:∀y∈ps.zip us,scope.names.lookup y.1=P3 .local\/(scope.names.lookup y.1=P3 .cell/\((cellsFrom (s.heap.objs.size+1) scope.names []).lookup y.1).isSome=m_):=fun#[n,v] hy=>by
  rcases S.par n (iX hy).1 with q|q
  .exact .inl q
  .exact .inr #[q,PySem.W.cellsFrom_some _ _ _^.inl q]
 refine codeAny_call_function hr.depth (KX _ _ lk) rfl S.co S.gen rfl (PySem.W.codeRec_of KX hcd) (hb _ _ _ _ ?_);refine wpAny_newFunctionEnv_cells S.kind hkind λenv he s1 x=>?_;subst he;refine#[lim.keeps x.toInCall.keep,codeAny_func ?_];let#[t,ht,hq]:=hbody A outer s H vs Q E (hr.deeper _) hsp;have I:Inv (Hb CX P w K mg base N qual scope f cdv A outer s H E) [] (start N vs) H s1:=Qn S hr.hd e0 hl r x;refine fM (ht [] s1 (start N vs) H _ I hq) (λfl s' hs=>?_) λe s' hs=>hs
 have fin:∀{zZ:St}{H':Hp}{v:V}{u:Db},Inv (Hb CX P w K mg base N qual scope f cdv A outer s H E) [] zZ H' s'->RelV v u->Q v H'->CE outer P w H s Q u s':=
  λ{zZ H' v u} J rv q=>#[v,H',J.os,J.bare,J.base,J.hok,rv,q]
 cases fl with
 |ret u=>
  let#[v,zZ,H',J,rv,q]:=hs;exact fin J rv q
 |next=>
  let#[zZ,H',J,q]:=hs;exact fin (v:=V.non) (u:=fB) J rfl q
 |brk=>
  let#[_,_,_,q]:=hs;exact gF q
 |cont=>
  let#[_,_,_,q]:=hs;exact gF q
section
variable {X:Cx}{x:Str}{p pos:Pos}{e:Expr}{es:o_ Expr}{t:TA}{id T:String}{r:o_ V->Hp->VK->Prop}
def ao(r:o_ V->Hp->VK->Prop)(t:TA):TE:=λZ H Q=>t Z H λvs H1=>r vs H1 Q
theorem Ga(hc:Cq X (.builtin id) r)(hg:Gl X x)(hm:X.mg x=l_)(hv:bootBuiltins x=P3^.builtin id)(ha:PA X (e::es) t)(hn:x ≠ "__name__":=by decide)(hdb:(x==("__debug__":Str))=n_:=by decide)
  (he:starEach (e::es) X.env=(n_,eval e X.env)::starEach es X.env:=by rfl) (hpl:(backTo pos^starEach es X.env).any (·.1)=n_:=by rfl):PE X (.Call (.Name x p) (e::es) [] pos)^ao r t:=λzG s Z H Q I h=>gC^Dg I hg hm hv (PyProof.Rows.callWith_builtin1 (thn (ha _ _ s Z H _ I h) λus s1 #[vs,H1,I1,r1,q1]=>hc _ s1 Z H1 vs us Q I1 r1 q1) he hpl) hn hdb
theorem Ke(hc:Cq X (.type T) r)(hg:Gl X x)(hm:X.mg x=l_)(hv:bootBuiltins x=P3^.type T)(ha:PA X (e::es) t)(hn:x ≠ "__name__":=by decide)(hdb:(x==("__debug__":Str))=n_:=by decide)
  (he:starEach (e::es) X.env=(n_,eval e X.env)::starEach es X.env:=by rfl) (hpl:(backTo pos^starEach es X.env).any (·.1)=n_:=by rfl):PE X (.Call (.Name x p) (e::es) [] pos)^ao r t:=λzG s Z H Q I h=>gC^Dg I hg hm hv (fI (thn (ha _ _ s Z H _ I h) λus s1 #[vs,H1,I1,r1,q1]=>hc _ s1 Z H1 vs us Q I1 r1 q1) he hpl) hn hdb
end
end L2
namespace HT
section
variable {prog:Program}{w:World}{A:Around}{E:Value->Shared->Prop}{s:Shared}
theorem cat_tup{t b:Ch}{vs ws:o_ Db}{Q:Db->Rs->Prop}(ht:IsTup s.heap t vs.toArray)(hb:IsTup s.heap b ws.toArray)(hv:vs≠[])
  (h1:ws=[]->Q (.ref t) s) (h2:ws≠[]->Q (.ref s.heap.objs.size) {s with heap:=s.heap.push {cls:=.type "tuple",data:=.seq (vs++ws).toArray}})
  (hsz:vs.length+ws.length<=sizeLine):wpAny (model prog w) A (binaryOp .Add (.ref t)^.ref b) Q E s:=by
 let#[#[cls,dd,data,sl],ho,hc,n,hd]:=id ht;let#[#[cls2,dd2,data2,sl2],ho2,hc2,n2,hd2]:=id hb;simp only at hc hd hc2 hd2;subst hc hd hc2 hd2
 by_cases hw:ws=[]
 .exact concat_meets #[_,ho,rfl] #[_,ho2,rfl] kA seq_tuple_add PySem.F.slot_tuple_add PySem.F.entry_tuple_add (PySem.F.args_tuple_add_2 _ _)
   (tuple_addW1 t b vs.toArray ws.toArray n n2 dd dd2 sl sl2 (by simp_all)^by simp[hw]) #[ho,ho2,h1 hw]
 .refine concat_meets #[_,ho,rfl] #[_,ho2,rfl] kA seq_tuple_add PySem.F.slot_tuple_add PySem.F.entry_tuple_add (PySem.F.args_tuple_add_2 _ _)
   (tuple_addW2 t b vs.toArray ws.toArray n n2 dd dd2 sl sl2 (by grind) (by grind)^by lk) #[ho,ho2,?_]
  simp_all
def sIx(n d:Nat):p_ Int->Nat
 |none=>d
 |some v=>if v<0 then(v+(n:Int)).toNat else min v.toNat n
theorem sIx_none(n d:Nat):sIx n d l_=d:=rfl
theorem sIx_nat(n d k:Nat):sIx n d^P3 (k:Int)=min k n:=by
 show(if k<0 then((k:Int)+n).toNat else min _ n)=min k n;rw[if_neg^by lk,iM]
theorem XO(n d:Nat)(hd:d<=n)(o:p_ Int):sIx n d o<=n:=by
 cases o with
 |none=>exact hd
 |some v=>
  show(if v<0 then(v+n).toNat else min _ n)<=n
  grind
theorem Pf(v:Int)(n d:Nat):(if v<0 then max (v+(n:Int)) 0 else min v (n:Int))=((sIx n d^P3 v:Nat):Int):=by
 show(if v<0 then max _ 0 else min v _)=(if v<0 then(v+n).toNat else min _ n)
 grind
theorem Oa(lo hi:p_ Int)(n:Nat):jy lo hi 1 (n:Int)=(((sIx n 0 lo:Nat):Int),((sIx n n hi:Nat):Int)):=by
 refine Prod.ext ?_ ?_
 .cases lo with
  |none=>rfl
  |some v=>exact Pf v n 0
 .cases hi with
  |none=>rfl
  |some v=>exact Pf v n n
theorem Nz(i j:Nat):iY (i:Int) (j:Int) 1=j - i:=by
 unfold iY
 grind
theorem Iv{v:Db}{o:p_ Int}{Q:p_ Int->Rs->Prop}(p:jK v o)(h:Q o s):wpAny (model prog w) A (Builtin.Slice.slicePartIndex v) Q E s:=by
 cases p with
 |none=>exact slicePart_none h
 |int i t=>exact slicePart_int h
theorem sliceApplied_gen{sl:Ch}{vl vu:Db}{lo hi:p_ Int}{n:Nat}{Q:Int×Int×Nat->Rs->Prop}(hs:s.heap.IsSliceOf sl vl vu .none)(pl:jK vl lo)(pu:jK vu hi)
  (h:Q (((sIx n 0 lo:Nat):Int),1,sIx n n hi - sIx n 0 lo) s):wpAny (model prog w) A (Builtin.Slice.sliceApplied (.ref sl)^pure (n:Int)) Q E s:=by
 let#[os,hos,hcs,hds]:=id hs;refine Go^Go (fz hos hds (x:=vl) rfl (Go (fz hos hds (x:=vu) rfl (Go (fz hos hds (x:=.none) rfl (df ?_))))));refine Go^slicePart_none ?_;refine Go^Iv pl^Go^Iv pu^Go^df ?_;show wpAny _ _ (match jy lo hi 1 (n:Int)with|(lo,hi)=>pure (lo,(1:Int),iY lo hi 1)) _ _ s;rw[Oa lo hi n];show wpAny _ _ (pure _) _ _ s;rw[Nz];exact df h
theorem SS(xs:Array Db)(i k:Nat):((eZ k).filterMap fun(m:Nat)=>xs[((i:Int)+(m:Int)*1).toNat]?).toArray=((xs.toList.drop i).take k).toArray:=by
 have e:(fun(m:Nat)=>xs[((i:Int)+(m:Int)*1).toNat]?)=λm=>xs[i+m]?:=by
  grind
 rw[e]
 have:=pick_run xs i k
 rw[List.filterMap_map]at this;have e2:((λx=>xs[x]?)∘λx=>i+x)=λm=>xs[i+m]?:=rfl
 grind
theorem getItem_tuple_cut{t sl:Ch}{items:Array Db}{vl vu:Db}{lo hi:p_ Int}{Q:Db->Rs->Prop}(ht:IsTup s.heap t items)(hs:s.heap.IsSliceOf sl vl vu .none)(pl:jK vl lo)(pu:jK vu hi)
  (hw:¬(sIx items.size 0 lo=0/\sIx items.size items.size hi=items.size))
  (h:Q (.ref s.heap.objs.size) {s with heap:=s.heap.push {cls:=.type "tuple",data:=.seq ((items.toList.drop^sIx items.size 0 lo).take (sIx items.size items.size hi - sIx items.size 0 lo)).toArray}})
  (hsz:items.size<=sizeLine):wpAny (model prog w) A (getItem (.ref t)^.ref sl) Q E s:=by
 have htake:sizeOk^.seq ((items.toList.drop^sIx items.size 0 lo).take (sIx items.size items.size hi - sIx items.size 0 lo)).toArray:=by
  show((items.toList.drop^sIx items.size 0 lo).take (sIx items.size items.size hi - sIx items.size 0 lo)).toArray.size<=sizeLine;rw[dn,gP,List.length_drop,fQ];lk
 have hj:sIx items.size items.size hi<=items.size:=XO _ _ (Re _) hi;let#[os,hos,hcs,hds]:=id hs;have hTs:s.TypeIs (.ref sl) "slice":=#[os,hos,hcs];unfold getItem
 try with_reducible refine gE ?_
 first|refine Go^df ?_|skip
 refine Go^wpAny_sequenceKey ht.typeIs (by cbv) ?_
 refine Go (gI (name:=fu "__getitem__") ht.typeIs fT
  (h7 fT ht.typeIs entry_tuple_getitem ?_^args_tuple_getitem _ _))
 show wpAny _ _ (jk^.ref t >>=_) _ _ s;refine Go^tupleItemsOf_ ht ?_;refine Go^ii hTs ?_;rw[if_pos^by cbv];refine Go^sliceApplied_gen hs pl pu ?_
 have hno:¬((((sIx items.size 0 lo:Nat):Int)==0&&(1:Int)==1&&(sIx items.size items.size hi - sIx items.size 0 lo)==items.size)=m_):=by
  grind
 show wpAny _ _ (if(((sIx items.size 0 lo:Nat):Int)==0&&(1:Int)==1&&(sIx items.size items.size hi - sIx items.size 0 lo)==items.size)=m_ then _ else _) _ _ s;rw[if_neg hno,SS]
 first
  |exact Go (m:=ij _)^gg (df #[_,rfl,df h]) htake
  |grind
  |grind
  |grind
end
end HT
namespace L2
abbrev TO:=St->Hp->(p_ Int->Hp->Prop)->Prop
def PO(X:Cx)(e:p_ eO)(t:TO):Prop:=
 ∀(zG:o_ (Ch×Obj)) (s:Rs) (Z:St) (H:Hp) (Q:p_ Int->Hp->Prop),Inv X zG Z H s->t Z H Q->
  wpAny (model X.prog X.w) X.A (evalPart e X.env) (λu s'=>∃o H',Inv X zG Z H' s'/\jK u o/\Q o H') X.xe s
def Uj:TO:=λ_ H Q=>Q l_ H
def Y7(t:TE):TO:=λZ H Q=>t Z H λx H1=>∃i,x=.int i/\Q (P3 i) H1
section
variable {X:Cx}{e:Expr}{te:TE}{lo hi:p_ Expr}{tl th:TO}{pos p2:Pos}
theorem O7:PO X l_ Uj:=λzG s Z H Q I h=>df #[_,H,I,.none,h]
theorem O6(h:PE X e te):PO X (P3 e)^Y7 te:=by
 intro zG s Z H Q I hw;refine thn (h _ s Z H _ I hw) λu s1 zz=>?_;let#[x,H1,I1,r1,q1]:=zz;let#[i,rfl,q]:=q1;let#[t,rfl]:=r1;exact#[_,H1,I1,.int i t,q]
def SlR(X:Cx)(r:V->p_ Int->p_ Int->Hp->VK->Prop):Prop:=
 ∀(zG:o_ (Ch×Obj)) (s:Rs) (Z:St) (H:Hp) (x:V) (v vl vu:Db) (lo hi:p_ Int) (sl:Ch) (Q:VK),Inv X zG Z H s->RelV x v->s.heap.IsSliceOf sl vl vu .none->jK vl lo->jK vu hi->r x lo hi H Q->
  ∃T id,typeLookup (.type T) "__getitem__"=pure^P3^.builtin id/\s.TypeIs v T/\wpAny (model X.prog X.w) X.A (getItem v^.ref sl) (EP X zG Z Q) X.xe s
theorem SlR.or{r r':V->p_ Int->p_ Int->Hp->VK->Prop}(h:SlR X r)(h':SlR X r'):SlR X (λx lo hi H Q=>r x lo hi H Q\/r' x lo hi H Q):=by
 intro zG s Z H x v vl vu lo hi sl Q I rx hs pl pu q
 rcases q with q|q
 .exact h _ s Z H x v vl vu lo hi sl Q I rx hs pl pu q
 .exact h' _ s Z H x v vl vu lo hi sl Q I rx hs pl pu q
def dE(r:V->p_ Int->p_ Int->Hp->VK->Prop)(te:TE)(tl th:TO):TE:=λZ H Q=>te Z H λx H1=>tl Z H1 λl H2=>th Z H2 λu H3=>r x l u H3 Q
theorem Me{r:V->p_ Int->p_ Int->Hp->VK->Prop}(hr:SlR X r)(he:PE X e te)(hl:PO X lo tl)(hu:PO X hi th):PE X (.Subscript e (.Slice lo hi l_ p2) pos)^dE r te tl th:=by
 intro zG s Z H Q I h;refine Subscript_^thn (he zG s Z H _ I h) λv s1 zz=>?_;let#[x,H1,I1,r1,q1]:=zz;refine wpAny_Slice^thn (hl zG s1 Z H1 _ I1 q1) λvl s2 zz=>?_;let#[l,H2,I2,pl,q2]:=zz;refine thn (hu zG s2 Z H2 _ I2 q2) λvu s3 zz=>?_;let#[u,H3,I3,pu,q3]:=zz;rw[evalPart_none];refine df ?_;have I4:Inv X zG Z H3 {s3 with heap:=s3.heap.push {cls:=.type "slice",data:=.fields #[ vl,vu,.none]}}:=I3.kept (t':=s3.toks) λb ob q=>No _ q;let#[T,id,hT,ht,hg]:=hr zG {s3 with heap:=s3.heap.push {cls:=.type "slice",data:=.fields #[ vl,vu,.none]}} Z H3 x v vl vu l u s3.heap.objs.size Q I4 r1 (Heap.IsSliceOf.new ..) pl pu q3;show wpAny (model X.prog X.w) X.A (subscriptTail e (.Slice lo hi l_ p2) v^.ref s3.heap.objs.size) (EP X zG Z Q) X.xe {s3 with heap:=s3.heap.push {cls:=.type "slice",data:=.fields #[ vl,vu,.none]}};exact tail_any (ops:=[.ref s3.heap.objs.size,v]) ht hT hg^by with_unfolding_all rfl
def NO(xs:o_ V)(lo hi:p_ Int):o_ V:=(xs.drop^HT.sIx xs.length 0 lo).take (HT.sIx xs.length xs.length hi - HT.sIx xs.length 0 lo)
theorem Hx(xs:o_ V)(lo hi:p_ Int):(NO xs lo hi).length<=xs.length:=by
 unfold NO
 grind
def ZK(K:Frag):V->p_ Int->p_ Int->Hp->VK->Prop:=λx lo hi H Q=>∃a xs,x=.ref a/\SqT K H a xs /\
 ¬(HT.sIx xs.length 0 lo=0/\HT.sIx xs.length xs.length hi=xs.length)/\∀p,H p=l_->Q (.ref p)^BF H p^.tup^NO xs lo hi
theorem sl_tup:SlR X^ZK X.K:=by
 intro zG s Z H x v vl vu lo hi sl Q I rx hs pl pu h;let#[a,xs,rfl,hx,hw,q]:=h;cases rx;let#[its,r,ht,hz]:=I.tuple hx;have hlen:its.toArray.size=xs.length:=by exact r.length.symm
 refine#[_,_,fT.lookup,ht.typeIs,?_];refine HT.getItem_tuple_cut ht hs pl pu (by grind) ?_ (by simp_all);rw[hlen];refine#[.ref _,_,I.laid (λb ob q=>No _ q) (Re _) ?_,rfl,q _^I.hok.fresh^Re _];exact#[eJ (Hx xs lo hi) hz,_,(r.drop _).take _,IsTupN.new _ _]
def SG(K:Frag):R2:=λx y H Q=>∃a b xs ys,x=.ref a/\y=.ref b/\SqT K H a xs/\SqT K H b ys/\xs≠[]/\xs.length+ys.length<=sizeLine /\
 (ys=[]->Q (.ref a) H)/\(ys≠[]->∀p,H p=l_->Q (.ref p)^BF H p^.tup (xs++ys))
theorem Vals.nil_iff{xs:o_ V}{us:o_ Db}(r:Vals xs us):us=[]↔xs=[]:=by
 cases r with
 |nil=>simp
 |cons _ _=>simp
theorem op_catT:OpR X (binaryOp .Add)^SG X.K:=by
 intro zG s Z H x y v u Q I rx ry h;let#[a,b,xs,ys,rfl,rfl,ha,hb,hx,hz,q1,q2]:=h;cases rx;cases ry;let#[its,r1,p1,_]:=I.tuple ha;let#[its2,r2,p2,_]:=I.tuple hb;refine HT.cat_tup p1 p2 (λz=>hx^r1.nil_iff.mp z) (λz=>#[.ref a,H,I,rfl,q1^r2.nil_iff.mp z]) (λz=>?_) (by rw[←r1.length,←r2.length];exact hz);refine#[.ref _,_,I.laid (λb ob q=>No _ q) (Re _) ?_,rfl,q2 (λw=>z^r2.nil_iff.mpr w) _^I.hok.fresh^Re _];exact#[by simp_all,_,r1.append r2,IsTupN.new _ _]
end
def UR(n:Nat)(i:Int):p_ Nat:=if 0<=i then(if i<n then P3 i.toNat else l_)else if -(n:Int)<=i then P3 (i+n).toNat else l_
def atI{α:Type}(xs:o_ α)(i:Int):p_ α:=(UR xs.length i).bind λj=>xs[j]?
theorem PL{n:Nat}{i:Int}{j:Nat}(h:UR n i=P3 j):seqIndex? i n=P3 j/\j<n/\-(n:Int)<=i/\i<n:=by
 unfold UR at h
 by_cases h0:0<=i
 .rw[if_pos h0]at h
  by_cases h1:i<n
  .rw[if_pos h1]at h
   have e:i.toNat=j:=d6 h;exact#[by rw[seqIndex_of h0 h1,e],by lk,by lk,h1]
  grind
 .rw[if_neg h0]at h
  by_cases h1:-(n:Int)<=i
  .rw[if_pos h1]at h
   have e:(i+n).toNat=j:=d6 h;exact#[by rw[seqIndex_neg (by lk) h1,e],by lk,h1,by lk]
  grind
theorem L5{α:Type}{xs:o_ α}{i:Int}{v:α}(h:atI xs i=P3 v):∃j,seqIndex? i xs.length=P3 j/\xs[j]?=P3 v/\j<xs.length/\-(xs.length:Int)<=i/\i<xs.length:=by
 unfold atI at h;cases e:UR xs.length i with
 |none=>simp_all
 |some j=>
  let#[h1,h2,h3,h4]:=PL e
  simp_all
theorem AE{α:Type}{xs:o_ α}{j:Nat}{v:α}(h:xs[j]?=P3 v):atI xs (j:Int)=P3 v:=by
 have hj:=(de.mp h).1
 have e:UR xs.length j=P3 j:=by
  unfold UR
  simp_all
 unfold atI;grind
theorem Tu{α:Type}(xs:o_ α)(v:α):atI (xs++[v]) (-1)=P3 v:=by
 have e:UR (xs++[v]).length (-1)=P3 xs.length:=by
  unfold UR
  grind
 unfold atI
 grind
def MD(b:eO):Prop:=∀o i,subscripted b n_ o i=operate [o,i]^getItem o i
def IxR(X:Cx)(r:R2):Prop:=
 ∀(value slice:eO) (zG:o_ (Ch×Obj)) (s:Rs) (Z:St) (H:Hp) (x y:V) (v u:Db) (Q:VK),Inv X zG Z H s->RelV x v->RelV y u->r x y H Q->
  subscripted slice n_ v u=operate [v,u]^getItem v u->wpAny (model X.prog X.w) X.A (subscriptTail value slice v u) (EP X zG Z Q) X.xe s
def Yl(X:Cx)(id:String)(r:V->o_ V->Hp->VK->Prop):Prop:=
 ∀(zG:o_ (Ch×Obj)) (s:Rs) (Z:St) (H:Hp) (x:V) (xs:o_ V) (v:Db) (us:o_ Db) (Q:VK),Inv X zG Z H s->RelV x v->Vals xs us->r x xs H Q->
  wpAny (model X.prog X.w) X.A (call (.builtin id) (v::us)) (EP X zG Z Q) X.xe s
section
variable {X:Cx}{a b:Expr}{ta tb:TE}{pos:Pos}
theorem IxR.or{r r':R2}(h:IxR X r)(h':IxR X r'):IxR X (λx y H Q=>r x y H Q\/r' x y H Q):=by
 intro value slice zG s Z H x y v u Q I rx ry q hs
 rcases q with q|q
 .exact h _ _ _ s Z H x y v u Q I rx ry q hs
 .exact h' _ _ _ s Z H x y v u Q I rx ry q hs
theorem En{r:R2}(hr:IxR X r)(ha:PE X a ta)(hb:PE X b tb)(hs:MD b):PE X (.Subscript a b pos)^EC r ta tb:=λzG s Z H Q I h=>Subscript_^YL ha hb I h λv u s2 x y H2 I2 rx ry q=>hr a b _ s2 Z H2 x y v u Q I2 rx ry q^hs _ _
def XW(K:Frag):R2:=λx y H Q=>∃p xs i v,x=.ref p/\y=.int i/\SqL K H p xs/\atI xs i=P3 v/\Q v H
def ZR(K:Frag):R2:=λx y H Q=>∃p xs i v,x=.ref p/\y=.int i/\SqT K H p xs/\atI xs i=P3 v/\Q v H
def ZS:R2:=λx y H Q=>∃z i c,x=.str z/\y=.int i/\z.length<=sizeLine/\atI z.cps.toList i=P3 c/\Q (.str #[#[ c]]) H
theorem ix_list:IxR X^XW X.K:=by
 intro value slice zG s Z H x y v u Q I rx ry h hs;let#[p,xs,i,z,rfl,rfl,hq,he,q]:=h;cases rx;let#[t,rfl]:=ry;let#[its,r,pl,hz]:=I.list hq;let#[j,h1,h2,h3,h4,h5]:=L5 he;let#[w,ew,rw']:=r.get h2;have hl:=r.length;have hn:=HQ;have fin:EP X zG Z Q w s:=#[z,H,I,rw',q]
 by_cases h0:0<=i
 .have hj:i.toNat=j:=by
   rw[seqIndex_of h0 h5]at h1
   grind
  exact item_listR pl.isList h0 (by lk) (by rw[hj];simpa using ew) fin hs
 .have hj:(i+(its.toArray.size:Int)).toNat=j:=by
   rw[seqIndex_neg (by lk) h4]at h1
   grind
  exact subscriptTail_builtinR (x:=w) pl.isList.typeIs slot_list_getitem.lookup
   (wpAny_getItem_list_neg (Q:=λr s'=>r=w/\EP X zG Z Q r s') pl.isList (by lk) (by grind) (by lk) (by grind) #[rfl,fin]) hs
theorem ix_tup:IxR X^ZR X.K:=by
 intro value slice zG s Z H x y v u Q I rx ry h hs;let#[p,xs,i,z,rfl,rfl,hq,he,q]:=h;cases rx;let#[t,rfl]:=ry;let#[its,r,pl,hz]:=I.tuple hq;let#[j,h1,h2,h3,h4,h5]:=L5 he;let#[w,ew,rw']:=r.get h2;have hl:=r.length;have hn:=HQ
 exact subscriptTail_builtinR pl.typeIs fT.lookup
  (getItem_tuple (j:=j) pl (by lk) (by lk) (by grind) (by grind) #[rfl,#[z,H,I,rw',q]]) hs
theorem Xy:IxR X ZS:=by
 intro value slice zG s Z H x y v u Q I rx ry h hs;let#[z,i,c,rfl,rfl,hz,he,q]:=h;let#[t,rfl]:=rx;let#[t',rfl]:=ry;let#[j,h1,h2,h3,h4,h5]:=L5 he;have hl:z.cps.toList.length=z.length:=by simp[Str.length]
 have hn:=HQ
 exact tail_any (iu s z t) slot_str_getitem.lookup (getItem_str (by
  grind) (by grind) #[.str _,H,I.tok _,#[_,rfl],q]) hs
def cf(K:Frag):R2:=λx y H Q=>XW K x y H Q\/ZR K x y H Q\/ZS x y H Q
theorem Xz:IxR X^cf X.K:=ix_list.or^ix_tup.or Xy
theorem OE(its:o_ Db)(n j:Nat)(u:Db):fG (·.setIfInBounds j u) {cls:=.type "list",data:=.seq its.toArray n}={cls:=.type "list",data:=.seq (its.set j u).toArray n}:=by
 simp[fG]
theorem Inv.lst{zG:o_ (Ch×Obj)}{Z:St}{H:Hp}{s:Rs}{p:Ch}{xs:o_ V}(I:Inv X zG Z H s)(h:H p=P3^.lst xs):
  ∃(its:o_ Db) (n:Nat),Vals xs its/\s.heap.get? p=P3 {cls:=.type "list",data:=.seq its.toArray n}/\xs.length<=sizeLine:=by
 let#[z,its,n,r,e]:=I.hok p _ h;exact#[_,n,r,e,z]
theorem Inv.lstUpd{zG:o_ (Ch×Obj)}{Z:St}{H:Hp}{s:Rs}{p:Ch}{xs ys:o_ V}{its its':o_ Db}{n n':Nat}{f:Obj->Obj}(I:Inv X zG Z H s)(h:H p=P3^.lst xs)
  (ho:s.heap.get? p=P3 {cls:=.type "list",data:=.seq its.toArray n}) (hf:f {cls:=.type "list",data:=.seq its.toArray n}={cls:=.type "list",data:=.seq its'.toArray n'}) (r:Vals ys its') (hz:ys.length<=sizeLine) (t:Nat):
  Inv X zG Z (BF H p^.lst ys) {s with heap:=s.heap.update p f,toks:=t}:=by
 have e:(s.heap.update p f).get? p=P3 {cls:=.type "list",data:=.seq its'.toArray n'}:=by
  rw[gS f ho (by rw[hf] <;>rfl),hf]
 exact I.write (by rw[h];trivial) (.inl rfl) (λb u hb q=>(d_ _ _^fL hb).trans q) #[_,e] #[hz,_,n',r,e]
def WG:V->V->V->Hp->(Hp->Prop)->Prop:=λo i v H Q=>∃p xs k j,o=.ref p/\i=.int k/\H p=P3^.lst xs/\UR xs.length k=P3 j/\Q^BF H p^.lst^xs.set j v
theorem set_list:aY X WG:=by
 intro zG s Z H o i v ov iv u Q I ro ri rv h;let#[p,xs,k,j,rfl,rfl,hp,hj,q]:=h;cases ro;let#[t,rfl]:=ri;let#[its,n,r,ho,hz]:=I.lst hp;let#[h1,h2,h3,h4]:=PL hj;have hl:=r.length;have hn:=HQ
 have I':Inv X zG Z (BF H p^.lst^xs.set j v) {s with heap:=s.heap.update p (fG (·.setIfInBounds j u))}:=
  I.lstUpd hp ho (OE its n j u) (r.set rv j) (by simp_all) s.toks
 by_cases h0:0<=k
 .have hk:k.toNat=j:=by
   rw[seqIndex_of h0 h4]at h1
   grind
  exact PySem.W.ki_setAt ho h0 (by lk) (by grind)^by rw[hk];exact#[_,I',q]
 .have hk:(k+(its.toArray.size:Int)).toNat=j:=by
   rw[seqIndex_neg (by lk) h3]at h1
   grind
  exact PySem.W.ki_setBack ho (by lk) (by grind) (by lk)^by rw[hk];exact#[_,I',q]
theorem LK(lo hi:p_ Int)(n:Nat):(sliceBounds lo hi l_ n).1=((HT.sIx n 0 lo:Nat):Int)/\(sliceBounds lo hi l_ n).2.1=((HT.sIx n n hi:Nat):Int)/\(sliceBounds lo hi l_ n).2.2=1:=by
 refine#[?_,?_,rfl]
 .cases lo with
  |none=>simp[sliceBounds,HT.sIx]
  |some i=>
   simp only[sliceBounds,HT.sIx,Option.getD_none,show(1:Int) > 0 by cbv,if_true]
   by_cases h:i<0
   .grind
   .simp only[h,if_false] <;>lk
 .cases hi with
  |none=>simp[sliceBounds,HT.sIx]
  |some i=>
   simp only[sliceBounds,HT.sIx,Option.getD_none,show(1:Int) > 0 by cbv,if_true]
   by_cases h:i<0
   .grind
   .simp only[h,if_false] <;>lk
theorem J0(its:o_ Db)(lo hi:p_ Int):slicePick its.toArray lo hi l_=((its.drop^HT.sIx its.length 0 lo).take (HT.sIx its.length its.length hi - HT.sIx its.length 0 lo)).toArray:=by
 let#[h1,h2,h3]:=LK lo hi _;unfold slicePick;rw[h1,h2,h3];simp only[sliceRange_one,pick_run] <;>rfl
def ZL(K:Frag):V->p_ Int->p_ Int->Hp->VK->Prop:=λx lo hi H Q=>∃a xs,x=.ref a/\SqL K H a xs/\∀p,H p=l_->Q (.ref p)^BF H p^.lst^NO xs lo hi
theorem sl_list:SlR X^ZL X.K:=by
 intro zG s Z H x v vl vu lo hi sl Q I rx hs pl pu h;let#[a,xs,rfl,hx,q]:=h;cases rx;let#[its,r,ht,hz]:=I.list hx;have hlen:=r.length;refine#[_,_,slot_list_getitem.lookup,ht.isList.typeIs,?_];refine wpAny_getItem_list_slice ht.isList hs pl pu .none (by simp) ?_ (by grind);rw[J0,←hlen];refine#[.ref _,_,I.laid (λb ob q=>No _ q) (Re _) ?_,rfl,q _^I.hok.fresh^Re _];exact#[eJ (Hx xs lo hi) hz,_,0,(r.drop _).take _,T0 _ rfl]
def WW:V->Bool
 |.non=>m_
 |.bl _=>m_
 |.int _=>m_
 |.str _=>m_
 |_=>n_
def Z5:V->V->Bool
 |.non,.non=>m_
 |.bl a,.bl b=>a==b
 |.bl a,.int b=>(if a then 1 else 0)==b
 |.int a,.bl b=>a==(if b then 1 else 0)
 |.int a,.int b=>a==b
 |.str a,.str b=>a==b
 |_,_=>n_
theorem Lw{A:eh}{s:Rs}{y x:V}{u v:Db}(ry:RelV y u)(rx:RelV x v)(fy:WW y=m_)(fx:WW x=m_):SeqAt.EqAt A s u v^Z5 y x:=by
 cases y with
 |non=>
  cases ry;cases x with
  |non=>cases rx;exact SeqAt.EqAt.same _
  |bl b=>cases rx;exact SeqAt.EqAt.none_bool b
  |int b=>let#[t,rfl]:=rx;exact SeqAt.EqAt.none_int b t
  |str b=>let#[t,rfl]:=rx;exact SeqAt.EqAt.none_str b t
  |_=>exact absurd (show n_=m_ from fx) eN
 |bl a=>
  cases ry;cases x with
  |non=>cases rx;exact SeqAt.EqAt.bool_none a
  |bl b=>cases rx;exact SeqAt.EqAt.bool_bool a b
  |int b=>let#[t,rfl]:=rx;exact SeqAt.EqAt.bool_int a b t
  |str b=>let#[t,rfl]:=rx;exact SeqAt.EqAt.bool_str a b t
  |_=>exact absurd (show n_=m_ from fx) eN
 |int a=>
  let#[t',rfl]:=ry;cases x with
  |non=>cases rx;exact SeqAt.EqAt.int_none a t'
  |bl b=>cases rx;exact SeqAt.EqAt.int_bool a t' b
  |int b=>let#[t,rfl]:=rx;exact SeqAt.EqAt.int_int a t' b t
  |str b=>let#[t,rfl]:=rx;exact kr a t' b t
  |_=>exact absurd (show n_=m_ from fx) eN
 |str a=>
  let#[t',rfl]:=ry;cases x with
  |non=>cases rx;exact SeqAt.EqAt.str_none a t'
  |bl b=>cases rx;exact SeqAt.EqAt.str_bool a t' b
  |int b=>let#[t,rfl]:=rx;exact ku a t' b t
  |str b=>let#[t,rfl]:=rx;exact SeqAt.EqAt.str_str a t' b t
  |_=>exact absurd (show n_=m_ from fx) eN
 |_=>exact absurd (show n_=m_ from fy) eN
theorem L4:Cq X (.type "list") (λxs H Q=>∃p ys,xs=[.ref p]/\(SqL X.K H p ys\/SqT X.K H p ys)/\∀l,H l=l_->Q (.ref l)^BF H l^.lst ys):=by
 intro zG s Z H xs us Q I r h;let#[p,ys,rfl,hq,q]:=h;let#[u,rfl,rx]:=vals1 r;cases rx
 have fin:∀(its:o_ Db),Vals ys its->ys.length<=sizeLine->∀(h':eC) (c':Nat),(∀b o',s.heap.get? b=P3 o'->h'.get? b=P3 o')->
   h'.get? s.heap.objs.size=P3 _->EP X zG Z Q (.ref s.heap.objs.size) {s with heap:=h'}:=λits r' hz h' c' kp e=>
  #[.ref s.heap.objs.size,_,I.laid (t':=s.toks) kp (Re _) (show ObjOk X.prog X.w _ h' _^.lst ys from#[hz,its,c',r',e]),rfl,q _^I.hok.fresh^Re _]
 rcases hq with hq|hq
 .let#[its,r',pl,hz]:=I.list hq
  have hlen:=r'.length;let#[o,ho,hc,n,hd]:=pl.isList;exact call_list_seq p (.inl rfl) ho hc hd (λh' c' kp e=>fin its r' hz h' c' kp e)^by grind
 .let#[its,r',pl,hz]:=I.tuple hq
  have hlen:=r'.length;let#[o,ho,hc,n,hd]:=pl;exact call_list_seq p (.inr rfl) ho hc hd (λh' c' kp e=>fin its r' hz h' c' kp e)^by grind
theorem KH:Cq X (.type "tuple") (λxs H Q=>∃p ys,xs=[.ref p]/\((SqL X.K H p ys/\∀l,H l=l_->Q (.ref l)^BF H l^.tup ys)\/(SqT X.K H p ys/\Q (.ref p) H))):=by
 intro zG s Z H xs us Q I r h;let#[p,ys,rfl,h]:=h;let#[u,rfl,rx]:=vals1 r;cases rx
 rcases h with⟨hq,q⟩|⟨hq,q⟩
 .let#[its,r',pl,hz]:=I.list hq
  have hlen:=r'.length;refine call_tuple_list pl.isList (λh' kp=>?_) (by grind);have I1:=I.kept (t':=s.toks) kp;exact#[.ref _,_,I1.laid (t':=s.toks) (λb o e=>No _ e) (Re _) (show ObjOk _ _ _ _ _^.tup ys from#[hz,_,r',IsTupN.new _ _]),rfl,q _^I1.hok.fresh^Re _]
 .let#[its,r',pl,hz]:=I.tuple hq
  exact call_tuple_same pl #[.ref p,H,I,rfl,q]
def bG(K:Frag)(T:String)(x:V)(H:Hp):Prop:=match x with
 |.str _=>T="str"
 |.int _=>T="int"
 | .ref p=>(T="list"/\∃xs,SqL K H p xs)\/(T="tuple"/\∃o,K.lookup p=P3 o/\o.cls=.type "tuple"/\o.dict=l_) \/
   (T="dict"/\((∃kvs,H p=P3^.dK kvs)\/∃kvs,H p=P3^.dT kvs))\/(T="set"/\∃S n,H p=P3^.set S n)
 |_=>False
theorem W9{zG:o_ (Ch×Obj)}{Z:St}{H:Hp}{s:Rs}{T:String}{x:V}{v:Db}(I:Inv X zG Z H s)(r:RelV x v)(ty:bG X.K T x H):
  s.TypeIs v T/\∀a,v=.ref a->∃ob,s.heap.get? a=P3 ob/\ob.dict=l_:=by
 cases x with
 |str z=>
  let#[t,rfl]:=r;cases(show T="str" from ty);exact#[iu s z t,λ_ e=>nomatch e]
 |int i=>
  let#[t,rfl]:=r;cases(show T="int" from ty);exact#[typeIs_int s i t,λ_ e=>nomatch e]
 | ref p=>
  cases r
  rcases ty with⟨rfl,xs,hq⟩|⟨rfl,o,hk,hc,hd⟩|⟨rfl,hk⟩|⟨rfl,S,n,hk⟩
  .let#[its,_,pl,_]:=I.list hq
   refine#[pl.isList.typeIs,λa e=>?_];cases e;let#[o,n,e,c,hd,_]:=pl;exact#[o,e,hd]
  .refine#[#[o,I.kIn p o hk,hc],λa e=>?_]
   cases e;exact#[o,I.kIn _ o hk,hd]
  .have z:∃o,s.heap.get? p=P3 o/\o.ExactDict:=by
    rcases hk with⟨kvs,hk⟩|⟨kvs,hk⟩
    .let#[_,_,_,_,o,_,_,e,ex,_]:=I.hok p _ hk
     exact#[o,e,ex]
    .let#[_,_,_,_,o,_,_,e,ex,_]:=I.hok p _ hk
     exact#[o,e,ex]
   let#[o,e,ex]:=z;refine#[#[o,e,ex.1],λa e2=>?_];cases e2;exact#[o,e,ex.2.1]
  .let#[o,_,_,_,e,ex,_]:=I.hok p _ hk
   refine#[#[o,e,ex.1],λa e2=>?_];cases e2;exact#[o,e,ex.2.1]
 |_=>exact gF ty
def dI(K:Frag)(T:String)(r:V->o_ V->Hp->VK->Prop)(to:TE)(t:TA):TE:=λZ H Q=>to Z H λx H1=>bG K T x H1/\t Z H1 λxs H2=>r x xs H2 Q
variable {o e:Expr}{es:o_ Expr}{to:TE}{t:TA}{name:Str}{apos cpos:Pos}{T id:String}{r:V->o_ V->Hp->VK->Prop}
theorem WQ(pa:PlainAttrs T)(slot:Slot T name id)(hty:typeOf^.builtin id=pure^.type "method_descriptor")(hm:Yl X id r)(ho:PE X o to)(ha:PA X (e::es) t)
  (hbase:attributeBase o name X.env^eval o X.env=eval o X.env:=by rfl)
  (hfew:((backTo cpos^starEach (e::es) X.env).all (λx=>!x.1)&&(backToKw cpos^keywordEach [] X.env).all (λx=>x.1.isSome)
   && decide ((e::es).length+([]:o_ hZ).length+(if([]:o_ hZ).isEmpty then 0 else 1)<30))=m_:=by rfl)
  (hline:(apos.endLine==cpos.line)=m_:=by rfl) (hs:starEach (e::es) X.env=(n_,eval e X.env)::starEach es X.env:=by rfl) (hplain:(backTo cpos^starEach es X.env).any (·.1)=n_:=by rfl):
  PE X (.Call (.Attribute o name apos) (e::es) [] cpos) (dI X.K T r to t):=by
 intro zG s Z H Q I h;refine wpAny_Call_method_late hbase hfew hline rfl (thn (ho _ s Z H _ I h) λv s1 zz=>?_);let#[x,H1,I1,r1,ty,q1]:=zz;let#[h1,h2]:=W9 I1 r1 ty;refine#[T,id,pa,slot,hty,h1,h2,?_];have hA:=ha cpos _ s1 Z H1 _ I1 q1;rw[hs]at hA ⊢;refine iJ (by simp_all)^jL ?_;refine thn hA λus s2 zz=>?_;let#[vs,H2,I2,r2,q2]:=zz;exact hm _ s2 Z H2 x vs v us Q I2 r1 r2 q2
end
def c9(X:Cx)(id:String)(r:V->o_ V->Hp->VK->Prop):Prop:=
 ∀(zG:o_ (Ch×Obj)) (s:Rs) (Z:St) (H:Hp) (x:V) (xs:o_ V) (v:Db) (us:o_ Db) (Q:VK),Inv X zG Z H s->RelV x v->Vals xs us->r x xs H Q->
  wpAny (model X.prog X.w) X.A (call (.builtin id) (v::us)) (EP X zG Z Q) X.xe s
theorem Vals.one:∀{x:V}{us:o_ Db},Vals [x] us->∃u,us=[u]/\RelV x u
 |_,_,.cons r .nil=>#[_,rfl,r]
theorem Vals.eraseIdx:∀{xs:o_ V}{us:o_ Db} (i:Nat),Vals xs us->Vals (xs.eraseIdx i)^us.eraseIdx i
 |_,_,_,.nil=>.nil
 |_,_,0,.cons _ t=>t
 |_,_,i+1,.cons r t=>.cons r^Vals.eraseIdx i t
theorem Vals.reverse{xs:o_ V}{us:o_ Db}(h:Vals xs us):Vals xs.reverse us.reverse:=by
 induction h with
 |nil=>exact .nil
 |cons r t ih=>rw[i7,i7];exact Vals.append ih^.cons r .nil
theorem Kj{α:Type}:∀(l:o_ α) (i:Nat),(l.eraseIdx i).length<=l.length
 |[],_=>Re _
 |_::_,0=>fj _
 |_::r,i+1=>gm^Kj r i
section
variable {X:Cx}{zG:o_ (Addr×Obj)}{Z:St}{H:Hp}{s:Shared}{l:Addr}{xs ys:o_ V}
theorem Inv.lset{its its':o_ Db}{n:Nat}{f:Array Db->Array Db}{t':Nat}(I:Inv X zG Z H s)(hH:H l=P3^.lst xs)
  (e:s.heap.get? l=P3 {cls:=.type "list",data:=.seq its.toArray n}) (hf:f its.toArray=its'.toArray) (hv:Vals ys its') (hz:ys.length<=sizeLine):
  Inv X zG Z (BF H l^.lst ys) {s with heap:=s.heap.update l^fG f,toks:=t'}:=by
 have q:=PySem.IsL.update e f;rw[hf]at q;exact I.write (by rw[hH];exact trivial) (.inl rfl) (λb' u hb hu=>(d_ _ _^fL hb).trans hu) #[_,q] #[hz,_,_,hv,q]
theorem Inv.lnew{its:o_ Db}{t':Nat}(I:Inv X zG Z H s)(hv:Vals ys its)(hz:ys.length<=sizeLine):
  Inv X zG Z (BF H s.heap.objs.size^.lst ys) {s with heap:=s.heap.push {cls:=.type "list",data:=.seq its.toArray},toks:=t'}:=
 I.laid (λ_ _ q=>No _ q) (Re _) #[hz,_,0,hv,T0 _ rfl]
theorem Inv.fresh(I:Inv X zG Z H s):H s.heap.objs.size=l_:=I.hok.fresh^Re _
theorem Inv.lstM(I:Inv X zG Z H s)(hH:H l=P3^.lst xs):xs.length<=sizeLine/\∃(its:o_ Db) (n:Nat),Vals xs its/\xs.length=its.length/\s.heap.get? l=P3 {cls:=.type "list",data:=.seq its.toArray n}:=by
 let#[z,its,n,r,e]:=I.hok l _ hH;exact#[z,_,n,r,r.length,e]
theorem Si{n:Nat}(h:n<=sizeLine):ik n=n_:=by
 unfold ik
 grind
end
section
variable {X:Cx}
def O2:V->o_ V->Hp->VK->Prop:=λx vs H Q=>∃l xs y,x=.ref l/\vs=[y]/\H l=P3^.lst xs/\xs.length<sizeLine/\Q .non^BF H l^.lst (xs++[y])
theorem BG:c9 X "list.append" O2:=by
 intro zG s Z H x vs v us Q I rx rv h;let#[l,xs,y,rfl,rfl,hH,hz,q]:=h;cases rx;let#[u,rfl,ru]:=rv.one;let#[z,its,n,r,hl,e]:=I.lstM hH;refine call_meets F.slot_list_append #[_,e,rfl] F.entry_list_append (F.args_list_append_2 _ _) (PySem.list_append l _ n u^by grind) #[e,?_];refine#[.non,_,I.lset hH e (by simp) (r.append^.cons ru .nil) ?_,rfl,q]
 grind
def O1:V->o_ V->Hp->VK->Prop:=λx vs H Q=>∃l b xs zs,x=.ref l/\vs=[.ref b]/\H l=P3^.lst xs/\H b=P3^.lst zs/\xs.length+zs.length<=sizeLine/\Q .non^BF H l^.lst (xs++zs)
theorem QV:c9 X "list.extend" O1:=by
 intro zG s Z H x vs v us Q I rx rv h;let#[l,b,xs,zs,rfl,rfl,hH,hB,hz,q]:=h;cases rx;let#[u,rfl,ru]:=rv.one;cases ru;let#[z,its,n,r,hl,e]:=I.lstM hH;let#[z2,its2,n2,r2,hl2,e2]:=I.lstM hB;have hsz:its.toArray.size+its2.toArray.size<=sizeLine:=by grind
 have hlong:¬(!its.toArray.isEmpty&&ik (its.toArray.size+its2.toArray.size))=m_:=by
  rw[Si hsz]
  grind
 refine call_meets F.slot_list_extend #[_,e,rfl] F.entry_list_extend (F.args_list_extend_2 _ _)
  (AutoSeq1.list_extend_list_list_0 l its.toArray n b _ n2 hlong (by grind)^by lk) #[e,e2,?_]
 refine#[.non,_,I.lset hH e (by simp) (r.append r2) ?_,rfl,q]
 grind
end
end L2
namespace Att
open PySem.W PySem.Calls
theorem IG{P:Params}{h:eC}:∀(ns:o_ Int) (vs:o_ Db),WellAll P h vs^ns.map WData.int->IntsAre vs ns:=by
 intro ns
 induction ns with
 |nil=>
  intro vs w;cases w;exact .nil
 | cons n ns ih=>
  intro vs w;cases w with
  |cons a b=>
   cases a;exact .cons _ _^ih _ b
theorem QA{l:OpenLaw}{n:Nat}(hn:l.most=P3 n){P:Params}{h:eC}{args:o_ WData}{vals:o_ Db}
  (hpre:l.row.toRowW.claim.pre args=m_) (hwl:WellAll P h vals args):
  ∃a vs ns,vals=[fR a]/\args=[WData.list^ns.map WData.int]/\h.get? a=P3 {cls:=.type "list",data:=.seq vs.toArray}/\IntsAre vs ns/\ns.length<=n:=by
 have hsh:WShape.hasAll [] args [.list .int]=m_:=(pre_splitW hpre).1;have hc:l.pre.holds [] {args:=args}=m_:=(pre_splitW hpre).2;let#[d,r,rfl,h1,h2]:=hasAllW_cons hsh;obtain rfl:=hasAllW_nil h2;let#[xs,rfl,h3]:=hasW_list h1;let#[ns,rfl]:=items_int h3
 have hlen:ns.length<=n:=by
  unfold OpenLaw.pre at hc
  have h4:(WTm.not^.lt (.lit^.int (n:Int))^.len^.arg 0).holds [] {args:=[.list^ns.map .int]}=m_:=by
   have h4:=(holds_andW hc).1
   grind
  have h5:=condW_of h4^w_not^w_lt w_lit^w_len_list (w_arg rfl)
  grind
 cases hwl with
 |cons w1 w2=>
  cases w2;cases w1 with
  |list ho hall=>exact#[_,_,ns,rfl,rfl,ho,IG ns _ hall,hlen]
theorem QE(l:OpenLaw)(args:o_ WData):l.row.toRowW.claim.post args (.bool m_) args=m_:=
 postW_of
  (show WShape.has [] _ _=m_ by first|rfl|decide|omega)
  (w_eq_bool (w_res rfl) w_lit) rfl
theorem attach_call{l:OpenLaw}{n:Nat}{q:eK}{loose:o_ Str}{XP:(Str->p_ Db)->eC->Prop}{YP:eU->eC->Prop}{d:DefRec}
  (hn:l.most=P3 n) (hdf:d.params.defaults=[])
  (call:∀(w:eU) (s₀ s₁:Rs) (mg mb:Str->p_ Db) (fa:Ch) (o:Obj) (pm cd doc:Db) (a:Ch) (vs:o_ Db) (ns:o_ Int),
   Ground q loose [] XP w s₀ mg mb s₁.heap->YP w s₁.heap->
   s₁.heap.get? fa=P3 o->o.data=.func^docDef d.name d.params d.body d.scope pm cd doc->s₁.heap.CodeRec cd d.name->mg d.name=P3^.ref fa->
   s₁.heap.get? a=P3 {cls:=.type "list",data:=.seq vs.toArray}->IntsAre vs ns->ns.length<=n->s₁.gens=#[]->
   codeAny (model l.prog w) callerA (.call (.ref fa) #[[.ref a],[]]) (λr s'=>r=.ok^.ret^.bool m_/\OldK s₁.heap s'.heap/\s'.os=s₁.os/\ir s'.gens) s₁):
  WalkO q loose XP YP l.row.toRowW d [] (λf vs=>PySem.call f vs):=by
 intro w s₀ s₁ mg mb G Y fa o pm cd doc dV kV ho hd hcd hD hmg hg args vals as hpre hlay hrd hwl hlo;obtain rfl:dV=.none:=Dflts.none hD hdf;obtain rfl:kV=.none:=Dflts.noKw hD;let#[a,vs,ns,rfl,rfl,hobj,hints,hlen]:=QA hn hpre hwl;refine enter_call^j_ (call w s₀ s₁ mg mb fa o pm cd doc a vs ns G Y ho (fd_plain hd) hcd hmg hobj hints hlen hg) λr s' hq=>?_;let#[rfl,h2,h3,h4]:=hq;exact#[.inl #[.bool m_,.bool m_,[],rfl,λ_=>rfl,.bool m_,QE l _,λ_=>#[kz,λ_ hm=>(nomatch hm)]],h2,h3,h4]
end Att
namespace L2
theorem KO:∀{vs:o_ Db}{ns:o_ Int},IntsAre vs ns->Vals (ns.map V.int) vs
 |_,_,.nil=>.nil
 |_,_,.cons n t h=>.cons #[t,rfl]^KO h
def Yj(H:Hp):Prop:=∀b,H b=l_\/∃o xs,H b=P3^.frz o^.lst xs
theorem Sw{P:eK}{w:eU}{K:Frag}{mg mb:Str->p_ Db}{CX:RT}{k:Nat}{fa a:Ch}{fd:fJ}{x:Str}{sp:Sp}{s₁:Rs}{vs:o_ Db}{ns:o_ Int}
  (KX:K.In s₁.heap) (hns:s₁.heap.Ns mainGlobals mg) (hb:s₁.heap.Ns builtinsNs mb) (hbb:∀x:Str,x ≠ "__name__"->mb x=bootBuiltins x) (hlim:s₁.heap.NoLimit) (hg:s₁.gens=#[])
  (ha:s₁.heap.get? a=P3 {cls:=.type "list",data:=.seq vs.toArray}) (hi:IntsAre vs ns) (hl:ns.length<=sizeLine) (hr:Room k callerA)
  (F:∀base:eC,K.In base->base.Ns mainGlobals mg->FnOk P w K mg base CX k fa fd [x] sp) (hbind:∀(s:Rs) (u:Db),jX s fd #[[u],[]] [(x,u)])
  (hsp:∀H:Hp,Yj H->SqL K H a^ns.map V.int->sp [.ref a] H (λv _=>v=.bl m_) λ_ _ _=>False)
  (hCX:∀H e s',CX [] H s₁ (λ_ _ _=>False) e s'->False):
  codeAny (model P w) callerA (.call (.ref fa) #[[.ref a],[]]) (λr s'=>r=.ok^.ret^.bool m_/\OldK s₁.heap s'.heap/\s'.os=s₁.os/\ir s'.gens) s₁:=by
 have rv:=KO hi;have lenV:=hi.length
 have core:∀H:Hp,Yj H->SqL K H a^ns.map V.int->HOk P w H s₁.heap->(∀b,H b≠l_->b=a)->(H a≠l_->K.lookup a=l_)->
   codeAny (model P w) callerA (.call (.ref fa) #[[.ref a],[]]) (λr s'=>r=.ok^.ret^.bool m_/\OldK s₁.heap s'.heap/\s'.os=s₁.os/\ir s'.gens) s₁:=by
  intro H hO hS hok hA hK;have base_of:∀{b:Ch}{o:Obj},s₁.heap.get? b=P3 o->H b=l_->(Lr s₁.heap H).get? b=P3 o:=λe n=>TD e n
  have noA:∀{b:Ch}{o:Obj}{es:Array DictEntry}{ep:Nat},s₁.heap.get? b=P3 o->o.data=.dict es ep->H b=l_:=λ{b o es ep} e d=>by
   cases q:H b with
   |none=>rfl
   |some u=>
    have e':b=a:=hA b (by rw[q];simp);subst e';rw[ha]at e;cases e
    have d':Data.seq vs.toArray _=Data.dict es ep:=d;cases d'
  have nsK:∀{b:Ch}{m:Str->p_ Db},s₁.heap.Ns b m->(Lr s₁.heap H).Ns b m:=λ{b m} #[o,es,ep,e,d,r]=>#[o,es,ep,base_of e^noA e d,d,r]
  have hKb:K.In^Lr s₁.heap H:=λb o e=>base_of (KX b o e) (by
   cases q:H b with
   |none=>rfl
   |some u=>
    have e':b=a:=hA b (by rw[q];simp);subst e';rw[hK^by rw[q];simp]at e;cases e)
  have hM:Mod K mg^Lr s₁.heap H:=#[hKb,nsK hns,#[mb,nsK hb,hbb],let #[mc,h1,h2]:=hlim;#[mc,nsK h1,h2]];have e0:Env0 P w K mg (Lr s₁.heap H) callerA [] s₁ H:=#[rfl,hM,λb o e=>VB e,jM^Qp _ _,trivial,λb hb=>absurd (show b∈([]:o_ Ch)from hb)^by simp,hok,.of_eq hg];refine j_ ((F _ hKb^nsK hns).run callerA [] s₁ H #[[.ref a],[]] [.ref a] [.ref a] _ _ hr e0 (hbind s₁^.ref a) (.cons rfl .nil)^hsp H hO hS) λr s' h=>?_;cases r with
  |error e=>exact(hCX H e s' h).elim
  | ok fl=>
   cases fl with
   |next=>exact gF h
   |brk=>exact gF h
   |cont=>exact gF h
   | ret u=>
    let#[v,H',os,bare,un,hok',r',q]:=h;have q':v=.bl m_:=q;subst q';obtain rfl:u=jI m_:=r';refine#[rfl,OldK.of_keep λb o e=>?_,os,bare];cases q:H b with
    |none=>exact un.keep b o e q (by intro z;exact absurd (show b∈([]:o_ Ch)from z)^by simp)^by simp
    | some u=>
     rcases hO b with z|⟨ob,xs,z⟩
     .rw[q]at z;cases z
     .have z2:=un.frzs b ob _ z
      let#[e1,_]:=hok b _ z;let#[e2,_]:=hok' b _ z2;rw[e]at e1;cases e1
      exact e2
 cases hk:K.lookup a with
 |some o=>
  have e:=KX a o hk;rw[ha]at e;cases e;refine core (λ_=>l_) (λ_=>.inl rfl) (.inr #[_,vs.toArray,_,hk,rfl,rfl,rfl,by rw[dn,lenV];exact hl,by simpa using rv]) (λb u z=>by have z':(l_:p_ HO)=P3 u:=z;cases z') (λb z=>absurd rfl z) λz=>absurd rfl z
 | none=>
  refine core (λb=>if b=a then P3^.frz {cls:=.type "list",data:=.seq vs.toArray}^.lst^ns.map V.int else l_) (λb=>?_) (.inl^.inr #[{cls:=.type "list",data:=.seq vs.toArray},if_pos rfl]) (λb u z=>?_) (λb z=>?_) λ_=>hk
  .by_cases hb:b=a
   .exact .inr #[_,_,if_pos hb]
   .exact .inl^if_neg hb
  .by_cases hb:b=a
   .have z':=(if_pos hb).symm.trans z
    cases z';subst hb;exact#[ha,by rw[Ev];exact hl,vs,_,rv,ha]
   .have z':=(if_neg hb).symm.trans z
    cases z'
  .by_cases hb:b=a
   .exact hb
   .exact absurd (if_neg hb) z
theorem Of{l:PySem.W.OpenLaw}{n k:Nat}{q:eK}{loose:o_ Str}{XP:(Str->p_ Db)->eC->Prop}{YP:eU->eC->Prop}{d:DefRec}{K:Params->Frag}{CX:eU->RT}{sp:eU->Sp}{x:Str}
  (hn:l.most=P3 n) (hn2:n<=sizeLine) (hdf:d.params.defaults=[]) (hr:Room k callerA)
  (hY:∀(w:eU) (h:eC),YP w h->(K w.params).In h)
  (F:∀(w:eU) (mg:Str->p_ Db) (fa:Ch) (h:eC),(K w.params).In h->h.Ns mainGlobals mg->mg d.name=P3^.ref fa->
   ∃fd:fJ,(∀(s:Rs) (u:Db),jX s fd #[[u],[]] [(x,u)]) /\
    ∀base:eC,(K w.params).In base->base.Ns mainGlobals mg->FnOk l.prog w (K w.params) mg base (CX w) k fa fd [x]^sp w)
  (hsp:∀(w:eU) (H:Hp) (a:Ch) (ns:o_ Int),ns.length<=n->Yj H->SqL (K w.params) H a^ns.map V.int->sp w [.ref a] H (λv _=>v=.bl m_) λ_ _ _=>False)
  (hCX:∀(w:eU) (H:Hp) (s:Rs) (e:Db) (s':Rs),CX w [] H s (λ_ _ _=>False) e s'->False):
  PySem.W.WalkO q loose XP YP l.row.toRowW d [] (λf vs=>PySem.call f vs):=by
 refine Att.attach_call hn hdf λw s₀ s₁ mg mb fa o pm cd doc a vs ns G Y ho hd hcd hmg hobj hints hlen hg=>?_;have KX:=hY w _ Y;let#[fd,hb,hF]:=F w mg fa _ KX G.T.g hmg;exact Sw KX G.T.g G.T.b G.T.builtins G.T.nolimit hg hobj hints (eJ hlen hn2) hr hF hb (λH hO hS=>hsp w H a ns hlen hO hS) λH e s'=>hCX w H _ e s'
end L2
/- THE LAST THEOREM (shape;LID,My.* are yours):
   My.Adr:a structure of the addresses that your layer names (classes,functions);My.Txt K t:a structure (Prop) of the equations over K;
   My.txt_mk:{K}{implicit addresses ..} (e1:nsIn K mainGlobals "law"=P3^P3^.ref f) (e2:K.lookup f=P3 #[oc,od,.func^fnOf "law" "law" params body scope dV kV doc pm an cdv ct,sl]) (e3:codeIn K cdv "law"=m_) ..:∃ t,My.Txt K t
set_option maxRecDepth 100000 in
set_option maxHeartbeats 0 in
theorem PySem.Challenge.cw_LID_holds:PySem.Challenge.rw_LID.Holds:=by
 w_on;o_law;k_head;(case hw=>w_witness2)
 k_fill
 refine L2.Of (l:=PySem.Challenge.rw_LID) (n:=63) (k:=40) (x:="script") (CX:=λw=>..) (sp:=λ_=>My.sp_law) rfl (by cbv) rfl #[rfl,by cbv,by cbv] (λw h Y=>PySem.W.kIn_of Y) ?F ?S ?C
 case F=>
  intro w mg fa h KX G hmg
  have T:∃t,My.Txt (L2.KOf KX) t:=by
   dsimp only[L2.KOf] -- K must stand as «<heap const> w.params» for k_is
   refine' My.txt_mk ?e1 ?e2 ?e3 ..
   (case e1=>PySem.W.k_is) -- in the order:a name->its address->its object->its parts
   (case e2=>PySem.W.k_is)
   ..
  let#[t,T]:=T;have e0:=hmg.symm.trans^mg_of KX G T.law;cases e0 -- fa is the law's own address;exact#[_,λs u=>.of_eq rfl,λbase kb nb=>My.law_fn T kb nb] -- if «.of_eq rfl» comes too early:refine' #[_,?b,λbase kb nb=>My.law_fn T kb nb];exact λs u=>.of_eq rfl
 case S=>exact λw H a ns hl hO hS=>..
 case C=>exact ..
(the tactic k_is has no namespace:write k_is) -/
namespace L2
def DN(s:f8):Arguments:=match s with
 |.FunctionDef _ a _ _ _ _ _ _ _ _=>a
 |_=>{posonlyargs:=[],args:=[],vararg:=l_,kwonlyargs:=[],kw_defaults:=[],kwarg:=l_,defaults:=[]}
def Bp(s:f8):o_ f8:=match s with
 |.FunctionDef _ _ b _ _ _ _ _ _ _=>b
 |_=>[]
def AS(s:f8):gs:=match s with
 |.FunctionDef _ _ _ _ _ _ sc _ _ _=>sc
 |_=>{kind:=.function,names:=[],isGenerator:=n_,isCoroutine:=n_}
abbrev G6:RT:=λ_ _ _ _ _ _=>False
abbrev E0:XK:=λ_ _ _=>False
theorem WR{X:Cx}:Od G6 X E0:=λ_ _ _ _ _ _ _ h=>h.elim
structure Fun (K:Frag) (x qual:Str) (st:f8) (f:Ch) (fd:fJ):Prop where
 ex:∃(oc:Db) (od:Option Ch) (kV doc pm:Db) (an:Option Ch) (cdv ct:Db) (osl:Array^Option Db),
  fd=fnOf x qual (DN st) (Bp st) (AS st) .none kV doc pm an cdv ct/\K.lookup f=P3 #[oc,od,.func fd,osl]/\codeIn K cdv qual=m_
 kp:keepIn K^.ref f=m_
section
variable {P:Program}{w:World}{K:Frag}{mg:Str->p_ Value}{base:Heap}
theorem Fun.ok{x qual:Str}{st:f8}{f:Ch}{fd:fJ}{N ps:o_ Str}{k:Nat}{sp:Sp}(F:Fun K x qual st f fd)(S:BU N ps^AS st)(len:∀vs H Q E,sp vs H Q E->vs.length=ps.length)
  (hbody:∀(cdv:Db) (A:eh) (outer:o_ Env) (s:Rs) (H:Hp) (vs:o_ V) (Q:VK) (E:XK),Room k^A.deeper^envOfC qual (AS st) s.heap.objs.size f cdv->sp vs H Q E->
   ∃t,PSs (Hb G6 P w K mg base N qual (AS st) f cdv A outer s H E).nox (Bp st) t/\t {nx:=λ_ H'=>Q .non H',rt:=Q} (start N vs) H):FnOk P w K mg base G6 (k+1) f fd ps sp:=by
 let#[oc,od,kV,doc,pm,an,cdv,ct,osl,rfl,lk,hcd]:=F.ex;refine Zu lk hcd S len λA outer s H vs Q E hr hsp=>?_;let#[t,h,q]:=hbody _ A _ s H vs Q E hr hsp;exact#[t,h.nox,q]
theorem Fun.binds{x qual:Str}{st:f8}{f:Ch}{fd:fJ}{ps:o_ Str}(F:Fun K x qual st f fd)
  (h:∀(kV doc pm:Db) (an:p_ Ch) (cdv ct:Db) (us:o_ Db),us.length=ps.length->bindArgs (fnOf x qual (DN st) (Bp st) (AS st) .none kV doc pm an cdv ct) #[us,[]]=pure^ps.zip us):Binds K fd ps []:=by
 let#[oc,od,kV,doc,pm,an,cdv,ct,osl,rfl,lk,hcd]:=F.ex;exact .all^h kV _ pm an _ ct
theorem TJ{x qual:Str}{st:f8}{f:Ch}{oc:Db}{od an:p_ Ch}{osl:Array^p_ Db}{kV doc pm cdv ct:Db}(l:K.lookup f=P3 #[oc,od,.func^fnOf x qual (DN st) (Bp st) (AS st) .none kV doc pm an cdv ct,osl])
  (c:codeIn K cdv qual=m_) (k:keepIn K^.ref f=m_):Fun K x qual st f^fnOf x qual (DN st) (Bp st) (AS st) .none kV doc pm an cdv ct:=#[#[oc,od,kV,_,pm,an,_,ct,_,rfl,l,c],k]
end
theorem Kq{A:eh}{k:Nat}(hr:Room k A):A.units+1<cLine:=jd (Nat.add_le_add_left (by cbv) _) hr.units
section
variable {X:Cx}
theorem pv(i:Nat){x:Str}{pos:Pos}(hN:X.N[i]?=P3 x:=by rfl)(hv:Wo X.env.scope x:=by first|exact fh rfl|exact iC (fh rfl)|exact iC (iC rfl))(hd:(x==("__debug__":Str))=n_:=by decide)
  (hcd:(x==("__classdict__":Str))=n_:=by decide):PE X (.Name x pos)^CG i:=LX hN hv hd hcd
end
theorem A1{A B:Prop}(h:B):if n_=m_ then A else B:=by
 grind
theorem Ci{A B:Prop}(h:A):if m_=m_ then A else B:=by
 grind
theorem B8{c A B:Prop}[Decidable c](h1:c->A)(h2:¬c->B):if c then A else B:=by
 grind
section
variable {κ:Type}[DecidableEq κ]
def Es(kvs:o_ (κ×V))(k:κ):p_ V:=(kvs.find? λkv=>decide (kv.1=k)).map (·.2)
def putK(kvs:o_ (κ×V))(k:κ)(v:V):o_ (κ×V):=
 if(kvs.any λkv=>decide (kv.1=k))=m_ then kvs.map (λkv=>if kv.1=k then(kv.1,v)else kv)else kvs++[(k,v)]
theorem Ez{p:κ×V}{r:o_ (κ×V)}{k:κ}(e:p.1=k):Es (p::r) k=P3 p.2:=by simp[Es,e]
theorem E3{p:κ×V}{r:o_ (κ×V)}{k:κ}(e:¬p.1=k):Es (p::r) k=Es r k:=by simp[Es,e]
theorem MJ(k:κ):∀kvs:o_ (κ×V),(kvs.any λkv=>decide (kv.1=k))=(Es kvs k).isSome
 |[]=>rfl
 |p::r=>by
  rw[jm]
  by_cases e:p.1=k
  .simp[Ez e,decide_eq_true e,Bool.true_or]
  .rw[E3 e,decide_eq_false e];exact MJ k r
theorem E8(kvs:o_ (κ×V))(k:κ)(v:V):(putK kvs k v).length<=kvs.length+1:=by
 unfold putK
 grind
theorem RelO.isSome_eq{o:p_ V}{u:p_ Db}(r:RelO o u):o.isSome=u.isSome:=by
 cases o with
 |none=>cases u with
  |none=>rfl
  |some _=>exact(r).elim
 |some _=>cases u with
  |none=>exact(r).elim
  |some _=>rfl
theorem RelO.getD{o:p_ V}{u:p_ Db}{d:V}{d':Db}(r:RelO o u)(rd:RelV d d'):RelV (o.getD d)^u.getD d':=by
 cases o with
 |none=>cases u with
  |none=>exact rd
  |some _=>exact(r).elim
 |some _=>cases u with
  |none=>exact(r).elim
  |some _=>exact r
theorem KV.val{kvs:o_ (κ×V)}{vs:o_ (κ×Db)}(r:KV kvs vs)(k:κ):RelO (Es kvs k)^valueAt vs k:=by
 induction r with
 |nil=>exact gu
 | @cons p q ps qs h t ih=>
  let#[h1,h2]:=h
  by_cases e:p.1=k
  .have e':=h1.symm.trans e
   have b:valueAt (q::qs) k=P3 q.2:=by simp[valueAt,e']
   rw[Ez e,b];exact h2
  .have e':¬q.1=k:=λz=>e^h1.trans z
   have b:valueAt (q::qs) k=valueAt qs k:=by simp[valueAt,e']
   rw[E3 e,b];exact ih
theorem KV.any{kvs:o_ (κ×V)}{vs:o_ (κ×Db)}(r:KV kvs vs)(k:κ):(kvs.any λkv=>decide (kv.1=k))=vs.any λkv=>decide (kv.1=k):=by
 induction r with
 |nil=>rfl
 |cons h t ih=>simp_all
theorem KV.repl{kvs:o_ (κ×V)}{vs:o_ (κ×Db)}(r:KV kvs vs)(k:κ){y:V}{u:Db}(ry:RelV y u):
  KV (kvs.map λkv=>if kv.1=k then(kv.1,y)else kv) (vs.map λkv=>if kv.1=k then(kv.1,u)else kv):=by
 induction r with
 |nil=>exact .nil
 |@cons p q ps qs h t ih=>
  refine .cons ?_ ih
  by_cases e:p.1=k
  .simp_all
  simp_all
theorem KV.put{kvs:o_ (κ×V)}{vs:o_ (κ×Db)}(r:KV kvs vs)(k:κ){y:V}{u:Db}(ry:RelV y u):KV (putK kvs k y)^stored vs k u:=by
 unfold putK stored;rw[r.any k]
 by_cases e:(vs.any λkv=>decide (kv.1=k))=m_
 .rw[if_pos e,if_pos e];exact r.repl k ry
 .rw[if_neg e,if_neg e];exact Paired.snoc r #[rfl,ry]
theorem KV.length{kvs:o_ (κ×V)}{vs:o_ (κ×Db)}(r:KV kvs vs):kvs.length=vs.length:=Paired.length r
end
theorem Ja{P:eK}{w:eU}{k:Key}{u:Db}(r:RelV (kV k) u):(A_ P w).is k u=m_:=by
 cases k with
 |inl i=>let#[t,e]:=(r);subst e;exact Mw P w i t
 |inr x=>let#[t,e]:=(r);subst e;exact Mv P w x t
theorem Kp{P:eK}{w:eU}:∀{ks:o_ Key}{us:o_ Db},Vals (ks.map kV) us->ItemsAre (A_ P w) ks us
 |[],_,r=>by cases r;exact .nil
 |k::ks,_,r=>by
  cases r with
  |cons h t=>exact .cons (Ja h)^Kp t
abbrev KT(H:Hp):o_ (o_ Key×V)->o_ (o_ Key×Ch×Db)->Prop:=Paired λp q=>p.1=q.1/\H q.2.1=P3^.tup^p.1.map kV/\RelV p.2 q.2.2
theorem KT.val{H:Hp}{kvs:o_ (o_ Key×V)}{xs:o_ (o_ Key×Ch×Db)}(r:KT H kvs xs)(k:o_ Key):RelO (Es kvs k) ((atKey xs k).map (·.2)):=by
 induction r with
 |nil=>exact gu
 | @cons p q ps qs h t ih=>
  let#[h1,_,h2]:=h
  by_cases e:p.1=k
  .have e':=h1.symm.trans e
   have b:atKey (q::qs) k=P3 q.2:=by simp[atKey,e']
   rw[Ez e,b];exact h2
  .have e':¬q.1=k:=λz=>e^h1.trans z
   have b:atKey (q::qs) k=atKey qs k:=by simp[atKey,e']
   rw[E3 e,b];exact ih
theorem KT.repl{H:Hp}{kvs:o_ (o_ Key×V)}{xs:o_ (o_ Key×Ch×Db)}(r:KT H kvs xs)(k:o_ Key){y:V}{u:Db}(ry:RelV y u):
  KT H (kvs.map λkv=>if kv.1=k then(kv.1,y)else kv) (xs.map^putAt k u):=by
 induction r with
 |nil=>exact .nil
 |@cons p q ps qs h t ih=>
  refine .cons ?_ ih;unfold putAt
  by_cases e:p.1=k
  .simp_all
  simp_all
theorem KT.put{H:Hp}{kvs:o_ (o_ Key×V)}{xs:o_ (o_ Key×Ch×Db)}(r:KT H kvs xs)(k:o_ Key){b:Ch}{y:V}{u:Db}(hb:H b=P3^.tup^k.map kV)(ry:RelV y u):
  KT H (putK kvs k y) (storedH xs k b u):=by
 have e:(kvs.any λkv=>decide (kv.1=k))=(atKey xs k).isSome:=by
  rw[MJ,(r.val k).isSome_eq,ju]
 unfold putK storedH;rw[e]
 by_cases q:(atKey xs k).isSome=m_
 .rw[if_pos q,if_pos q];exact r.repl k ry
 .rw[if_neg q,if_neg q];exact Paired.snoc r #[rfl,hb,ry]
theorem KT.keeps{H H':Hp}{kvs:o_ (o_ Key×V)}{xs:o_ (o_ Key×Ch×Db)}(r:KT H kvs xs)(ht:∀b ys,H b=P3^.tup ys->H' b=P3^.tup ys):KT H' kvs xs:=
 Paired.mapP r λ_ _ z=>#[z.1,ht _ _ z.2.1,z.2.2]
section
variable {P:Program}{w:World}{H:Hp}{h:Heap}{a:Addr}
theorem WB{u:HO}(ok:HOk P w H h)(e:Rd H a u):ObjOk P w H h a u:=e.ok ok
theorem Fv{kvs:o_ (Key×V)}(ok:HOk P w H h)(e:Rd H a^.dK kvs):kvs.length<=sizeLine/\(a==sysModules)=n_/\∃vs,KV kvs vs/\h.DictOf (A_ P w) a vs:=
 WB ok e
theorem Wf{kvs:o_ (Key×V)}(ok:HOk P w H h)(e:H a=P3^.dK kvs):kvs.length<=sizeLine/\(a==sysModules)=n_/\∃vs,KV kvs vs/\h.DictOf (A_ P w) a vs:=Fv ok^.inl e
theorem HU{ks:o_ Key}(ok:HOk P w H h)(e:H a=P3^.tup^ks.map kV):(tupleKind^A_ P w).is h ks a:=by
 let#[_,its,r,o,h1,h2,n,h3,_]:=(ok a _ e);exact#[o,_,n,h1,h2,h3,by simpa using Kp r]
theorem Jk{kvs:o_ (o_ Key×V)}(ok:HOk P w H h)(e:Rd H a^.dT kvs):kvs.length<=sizeLine/\(a==sysModules)=n_ /\
  ∃xs,KT H kvs xs/\h.DictOfH (tupleKind^A_ P w) a xs:=by
 let#[z,y,xs,r,o,es,ep,h1,h2,h3,h4,h5]:=(WB ok e);refine#[z,y,xs,r,o,es,ep,h1,h2,h3,h4,λx hx=>?_,h5]
 have all:∀{l:o_ _}{m:o_ _},KT H l m->∀x∈m,(tupleKind^A_ P w).is h x.1 x.2.1:=by
  intro l m q
  induction q with
  |nil=>grind
  |@cons p q ps qs hq t ih=>
   intro x hx
   rcases UF.mp hx with e|hx
   .exact HU ok^by grind
   .exact ih x hx
 exact all r x hx
theorem Z7{kvs:o_ (o_ Key×V)}(ok:HOk P w H h)(e:H a=P3^.dT kvs):kvs.length<=sizeLine/\(a==sysModules)=n_ /\
  ∃xs,KT H kvs xs/\h.DictOfH (tupleKind^A_ P w) a xs:=Jk ok^.inl e
end
def DGet(H:Hp)(a:Ch)(y:V)(r:p_ V):Prop:=
 (∃kvs k,Rd H a^.dK kvs/\y=kV k/\r=Es kvs k)\/∃kvs k b,Rd H a^.dT kvs/\y=.ref b/\H b=P3^.tup^k.map kV/\r=Es kvs k
def DPut(H:Hp)(a:Ch)(y v:V)(H':Hp):Prop:=
 (∃kvs k,H a=P3^.dK kvs/\y=kV k/\kvs.length<sizeLine/\H'=BF H a^.dK^putK kvs k v) \/
 ∃kvs k b,H a=P3^.dT kvs/\y=.ref b/\H b=P3^.tup^k.map kV/\kvs.length<sizeLine/\H'=BF H a^.dT^putK kvs k v
theorem DGet.k{H:Hp}{a:Ch}{kvs:o_ (Key×V)}{k:Key}(e:H a=P3^.dK kvs):DGet H a (kV k)^Es kvs k:=.inl #[_,k,.inl e,rfl,rfl]
theorem DPut.k{H:Hp}{a:Ch}{kvs:o_ (Key×V)}{k:Key}{v:V}(e:H a=P3^.dK kvs)(hl:kvs.length<sizeLine):DPut H a (kV k) v^BF H a^.dK^putK kvs k v:=.inl #[_,k,e,rfl,hl,rfl]
section
variable {X:Cx}{zG:o_ (Addr×Obj)}{Z:St}{H:Hp}{s:Shared}{a:Addr}{y v:V}{u r:Value}{o:p_ V}{A:Around}{E:Value->Shared->Prop}
theorem Inv.big(I:Inv X zG Z H s):sysModules<s.heap.objs.size:=Nat.lt_trans (by cbv) (I.mod.glob.keeps I.bk).lt
theorem Q1{Q:Db->Rs->Prop}(hu:A.units+1<cLine)(I:Inv X zG Z H s)(g:DGet H a y^P3 v)(ry:RelV y u)(h:∀w' s',Inv X zG Z H s'->RelV v w'->Q w' s'):
  wpAny (model X.prog X.w) A (getItem (.ref a) u) Q E s:=by
 rcases g with⟨kvs,k,e,ey,l⟩|⟨kvs,k,b,e,ey,eb,l⟩
 .subst ey
  let#[z,hd,vs,rel,dd]:=Fv I.hok e;let#[w',hw,rw']:=RelO.some_of (v:=v) (o:=valueAt vs k) (by rw[l];exact rel.val k);exact wpAny_getItem_of (Ja ry) dd.mapOf hw^h w' _ (I.tok _) rw'
 .subst ey
  cases(show u=fR b from ry);let#[z,hd,xs,rel,dd]:=Jk I.hok e;let#[w',hw,rw']:=RelO.some_of (v:=v) (o:=(atKey xs k).map (·.2)) (by rw[l];exact rel.val k);let#[p,hp,hp2]:=eq.mp hw;refine wpAny_getItem_heap (iD hu) (HU I.hok eb) dd hp ?_;rw[hp2];exact h w' _ (I.tok _) rw'
theorem cD{Q:Db->Rs->Prop}(hu:A.units+1<cLine)(I:Inv X zG Z H s)(g:DGet H a y o)(ry:RelV y u)(h:∀s',Inv X zG Z H s'->Q (.bool o.isSome) s'):
  wpAny (model X.prog X.w) A (compareOp .In u^.ref a) Q E s:=by
 rcases g with⟨kvs,k,e,ey,l⟩|⟨kvs,k,b,e,ey,eb,l⟩
 .subst ey
  let#[z,hd,vs,rel,dd]:=Fv I.hok e;refine wpAny_in_of (Ja ry) hd dd.mapOf ?_;rw[←(rel.val k).isSome_eq,←l];exact h _^I.tok _
 .subst ey
  cases(show u=fR b from ry);let#[z,hd,xs,rel,dd]:=Jk I.hok e;refine wpAny_in_heap (iD hu) (HU I.hok eb) hd dd ?_;have q:=(rel.val k).isSome_eq;rw[ju]at q;rw[←q,←l];exact h _^I.tok _
theorem Vj{Q:Db->Rs->Prop}(hu:A.units+1<cLine)(I:Inv X zG Z H s)(g:DGet H a y o)(ry:RelV y u)(h:∀s',Inv X zG Z H s'->Q (.bool (!o.isSome)) s'):
  wpAny (model X.prog X.w) A (compareOp .NotIn u^.ref a) Q E s:=by
 rcases g with⟨kvs,k,e,ey,l⟩|⟨kvs,k,b,e,ey,eb,l⟩
 .subst ey
  let#[z,hd,vs,rel,dd]:=Fv I.hok e;refine wpAny_notIn_of (Ja ry) hd dd.mapOf ?_;rw[←(rel.val k).isSome_eq,←l];exact h _^I.tok _
 .subst ey
  cases(show u=fR b from ry);let#[z,hd,xs,rel,dd]:=Jk I.hok e;refine wpAny_notIn_heap (iD hu) (HU I.hok eb) hd dd ?_;have q:=(rel.val k).isSome_eq;rw[ju]at q;rw[←q,←l];exact h _^I.tok _
theorem Lz{h':eC}{t':Nat}{ob:HO}(I:Inv X zG Z H s)(mu:ag^H a)(hs:ie a s.heap h')(he:∃q,h'.get? a=P3 q)(new:ObjOk X.prog X.w (BF H a ob) h' a ob):
  Inv X zG Z (BF H a ob) {s with heap:=h',toks:=t'}:=
 I.write mu (.inl rfl) (λb q hb z=>(hs.2 b hb).trans z) he new
theorem TY{P:eK}{w:eU}{H':Hp}{h':eC}{kvs:o_ (Key×V)}{vs:o_ (Key×Db)}(z:kvs.length<=sizeLine)(hd:(a==sysModules)=n_)(rel:KV kvs vs)(dd:h'.DictOf (A_ P w) a vs):
  ObjOk P w H' h' a (.dK kvs):=#[z,hd,vs,rel,dd]
theorem Q0{H':Hp}{Q:Unit->Rs->Prop}(hu:A.units+1<cLine)(I:Inv X zG Z H s)(g:DPut H a y v H')(ry:RelV y u)(rv:RelV v r)(h:∀s',Inv X zG Z H' s'->Q () s'):
  wpAny (model X.prog X.w) A (setItem (.ref a) u r) Q E s:=by
 rcases g with⟨kvs,k,e,ey,l,eH⟩|⟨kvs,k,b,e,ey,eb,l,eH⟩
 .subst ey eH
  let#[z,hd,vs,rel,dd]:=Wf I.hok e;have hz:vs.length<=sizeLine:=by rw[←rel.length];exact z
  have hl:(putK kvs k v).length<=sizeLine:=by have:=E8 kvs k v;lk
  refine wpAny_setItem_pairs (hsz:=hz) (Ja ry) dd λh' dd' hs=>h _ ?_;have he:∃q,h'.get? a=P3 q:=let #[q,_,_,hq,_]:=dd';#[q,hq]
  exact Lz I (by rw[e];exact gu) hs he^TY hl hd (rel.put k rv) dd'
 .subst ey eH
  cases(show u=fR b from ry);let#[z,hd,xs,rel,dd]:=Z7 I.hok e;have hz:xs.length<=sizeLine:=by rw[←Paired.length rel];exact z
  have hl:(putK kvs k v).length<=sizeLine:=by have:=E8 kvs k v;lk
  refine wpAny_setItem_heap (hsz:=hz) (iD hu) (HU I.hok eb) dd λh' dd' hs=>h _ ?_;let#[q,es,ep,hq,h2,h3,h4,_,h5]:=dd';refine Lz I (by rw[e];exact gu) hs #[q,hq] #[hl,hd,_,(rel.put k eb rv).keeps λc ys ec=>?_,q,es,ep,hq,h2,h3,h4,h5];rw[AO^Zi ec e λz=>nomatch z];exact ec
end
def Yk(i:eO):Prop:=∀ov iv,subscripted i n_ ov iv=operate [ov,iv]^getItem ov iv
theorem Ul{prog:eK}{w:eU}{A:eh}{E:Db->Rs->Prop}{s:Rs}{env:Env}{value slice:eO}{pos:Pos}{T id:String}{Q:Db->Rs->Prop}
  (hl:typeLookup (.type T) "__getitem__"=pure^P3^.builtin id) (hs:Yk slice)
  (h:wpAny (model prog w) A (eval value env) (λo s₁=>wpAny (model prog w) A (eval slice env) (λi s₂=>s₂.TypeIs o T/\wpAny (model prog w) A (getItem o i) Q E s₂) E s₁) E s):
  wpAny (model prog w) A (eval (.Subscript value slice pos) env) Q E s:=by
 refine Subscript_^fM h (λo s₁ h₁=>fM h₁ (λi s₂ h₂=>?_) λ_ _ x=>x) λ_ _ x=>x;let#[hT,h₂]:=h₂;refine Go ?_;refine Go^kM hT hl ?_
 first
  |exact df (Go (by
  rw[hs o i];exact wpAny_operating^fM h₂ (λr s₃ h₃=>Go^wpAny_letTemporaryGo^df h₃) λ_ _ x=>x))
  |grind
  |grind
theorem NM{X:Cx}{zG:o_ (Ch×Obj)}{Z:St}{H:Hp}{s:Rs}{a:Ch}{y:V}{o:p_ V}(I:Inv X zG Z H s)(g:DGet H a y o):s.TypeIs (.ref a) "dict":=by
 rcases g with⟨kvs,k,e,_,_⟩|⟨kvs,k,b,e,_,_,_⟩
 .let#[_,_,vs,_,dd]:=Fv I.hok e
  exact dd.typeIs
 .let#[_,_,xs,_,dd]:=Jk I.hok e
  exact dd.typeIs
def ZC(td ty:TE):TE:=λZ H Q=>td Z H λx H1=>ty Z H1 λy H2=>∃a v,x=.ref a/\DGet H2 a y^P3 v/\Q v H2
def ZG(td ty tv:TE):TS:=λD Z H=>tv Z H λv H1=>td Z H1 λx H2=>ty Z H2 λy H3=>∃a H4,x=.ref a/\DPut H3 a y v H4/\D.nx Z H4
section
variable {X:Cx}{o i value:Expr}{pos pos':Pos}{td ty tv:TE}
theorem LY(hu:X.A.units+1<cLine)(ho:PE X o td)(hi:PE X i ty)(hs:Yk i):PE X (.Subscript o i pos)^ZC td ty:=by
 intro zG s Z H Q I h;refine Ul PySem.F.slot_dict_getitem.lookup hs^thn (ho _ s Z H _ I h) λu s1 zz=>?_;let#[x,H1,I1,rx,q1]:=zz;refine thn (hi _ s1 Z H1 _ I1 q1) λiv s2 zz=>?_;let#[y,H2,I2,ry,a,v,ex,g,q2]:=zz;subst ex;obtain rfl:u=fR a:=rx;exact#[NM I2 g,Q1 hu I2 g ry λw' s3 I3 rw'=>#[v,H2,I3,rw',q2]]
theorem IM(hu:X.A.units+1<cLine)(ho:PE X o td)(hi:PE X i ty)(hv:PE X value tv)(hs:swapsWith value (P3^.Subscript o i pos') pos.line X.env=pure n_):
  PS X (.Assign [.Subscript o i pos'] value pos) (ZG td ty tv):=by
 intro zG s Z H D I h;refine wpAny_Assign_Subscript (thn (hv _ s Z H _ I h) λr s1 zz=>?_) hs;let#[v,H1,I1,rv,q1]:=zz;refine thn (ho _ s1 Z H1 _ I1 q1) λu s2 zz=>?_;let#[x,H2,I2,rx,q2]:=zz;refine thn (hi _ s2 Z H2 _ I2 q2) λiv s3 zz=>?_;let#[y,H3,I3,ry,a,H4,ex,g,q3]:=zz;subst ex;obtain rfl:u=fR a:=rx;exact Q0 hu I3 g ry rv λs4 I4=>#[Z,H4,I4,q3]
end
theorem NL{P:eK}{w:eU}{H:Hp}(h:eC)(hb:sysModules<h.objs.size):ObjOk P w H (h.push {cls:=.type "dict",data:=.dict #[]}) h.objs.size^.dK []:=
 #[dq _,beq_eq_false_iff_ne.mpr^fL^eB hb,[],.nil,Heap.DictOf.new h]
def XI:TE:=λ_ H Q=>∀p,H p=l_->Q (.ref p)^BF H p^.dK []
section
variable {X:Cx}{pos:Pos}
theorem JG:PE X (.Dict [] [] pos) XI:=λzG s Z H Q I h=>
 wpAny_Dict_empty #[.ref _,_,I.laid (λ_ _ q=>No _ q) (Re _)^NL _ I.big,rfl,h _^I.hok.fresh^Re _]
end
def Nm:o_ (TE×TE)->St->Hp->(o_ (V×V)->Hp->Prop)->Prop
 |[],_,H,Q=>Q [] H
 |(tk,tv)::r,Z,H,Q=>tk Z H λx H1=>tv Z H1 λy H2=>Nm r Z H2 λps H3=>Q ((x,y)::ps) H3
abbrev VV:o_ (V×V)->o_ (Db×Db)->Prop:=Paired λp q=>RelV p.1 q.1/\RelV p.2 q.2
def az(X:Cx)(pos:Pos)(keys:o_^p_ eO)(values:o_ eO)(trs:o_ (TE×TE)):Prop:=
 ∀(zG:o_ (Ch×Obj)) (s:Rs) (Z:St) (H:Hp) (Q:o_ (V×V)->Hp->Prop),Inv X zG Z H s->Nm trs Z H Q->
  wpAny (model X.prog X.w) X.A (evalPairs^pairTrees keys values X.env pos) (λvs s'=>∃ps H',Inv X zG Z H' s'/\VV ps vs/\Q ps H') X.xe s
theorem Uu{X:Cx}{pos:Pos}:az X pos [] [] []:=λzG s Z H Q I h=>pairTrees_nil_walk #[[],H,I,.nil,h]
theorem SR{X:Cx}{pos:Pos}{k v:eO}{ks:o_^p_ eO}{vs:o_ eO}{tk tv:TE}{trs:o_ (TE×TE)}(hk:PE X k tk)(hv:PE X v tv)(hr:az X pos ks vs trs):
  az X pos (P3 k::ks) (v::vs) ((tk,tv)::trs):=λzG s Z H Q I h=>
 pairTrees_cons_walk (thn (hk _ s Z H _ I h) λu s1 #[x,H1,I1,rx,q1]=>thn (hv _ s1 Z H1 _ I1 q1) λw2 s2 #[y,H2,I2,ry,q2]=>
  thn (hr _ s2 Z H2 _ I2 q2) λws s3 #[ps,H3,I3,rel,q3]=>#[_,H3,I3,.cons #[rx,ry] rel,q3])
def JU(kvs more:o_ (Key×V)):o_ (Key×V):=more.foldl (λacc kv=>putK acc kv.1 kv.2) kvs
theorem KV.merge:∀{more:o_ (Key×V)}{rs:o_ (Key×Db)}{kvs:o_ (Key×V)}{vs:o_ (Key×Db)},KV more rs->KV kvs vs->KV (JU kvs more)^merged vs rs:=by
 intro more rs kvs vs r
 induction r generalizing kvs vs with
 |nil=>intro q;exact q
 | @cons p q ps qs h t ih=>
  intro r0
  exact ih (by
   have:=r0.put p.1 h.2
   simp_all)
theorem Fq:∀(more kvs:o_ (Key×V)),(JU kvs more).length<=kvs.length+more.length
 |[],kvs=>by show kvs.length<=kvs.length+0;lk
 |p::r,kvs=>by
  have h1:=Fq r^putK kvs p.1 p.2;have h2:=E8 kvs p.1 p.2;show(JU _ r).length<=_
  grind
theorem Jq{P:eK}{w:eU}:∀{kvs:o_ (Key×V)}{ws:o_ (Db×Db)},VV (kvs.map λkv=>(kV kv.1,kv.2)) ws->∃rs,Carries (A_ P w) ws rs/\KV kvs rs
 |[],_,r=>by cases r;exact#[[],gu,.nil]
 | p::kvs,_,r=>by
  cases r with
  |@cons a b as bs h t=>
   let#[rs,c,q]:=Jq t;let#[b1,b2]:=b;exact#[(p.1,b2)::rs,#[Ja h.1,rfl,c],.cons #[rfl,h.2] q]
def ZA(trs:o_ (TE×TE)):TE:=λZ H Q=>∀p,H p=l_->Nm trs Z (BF H p^.dK []) λps H2=>H2 p=P3^.dK []/\∃kvs:o_ (Key×V),ps=kvs.map (λkv=>(kV kv.1,kv.2))/\kvs.length<=15/\Q (.ref p)^BF H2 p^.dK^JU [] kvs
theorem U1{X:Cx}{pos:Pos}{keys:o_^p_ eO}{values:o_ eO}{trs:o_ (TE×TE)}(h:az X pos keys values trs)(hall:keys.all (·.isSome)=m_)(hl:keys.length=values.length)(h0:keys≠[])
  (h15:keys.length<=15):PE X (.Dict keys values pos)^ZA trs:=by
 intro zG s Z H Q I q;have hn:=I.hok.fresh^Re s.heap.objs.size;have I1:=I.laid (a:=s.heap.objs.size) (o:=.dK []) (h':=s.heap.push {cls:=.type "dict",data:=.dict #[]}) (t':=s.toks) (λ_ _ q=>No _ q) (Re _)^NL s.heap I.big;refine wpAny_Dict_walk (knd:=A_ X.prog X.w) hall hl h0 h15^thn (h zG _ Z _ _ I1^q _ hn) λws s2 zz=>?_;let#[ps,H2,I2,rel,e,kvs,ep,lk,q2]:=zz;subst ep;let#[rs,c,rk]:=Jq (P:=X.prog) (w:=X.w) rel;let#[z,hd,vs0,r0,dd]:=Wf I2.hok e;cases r0;refine#[rs,c,dd,λh' dd' hs=>#[.ref s.heap.objs.size,_,?_,rfl,q2]]
 have hz:(JU [] kvs).length<=sizeLine:=by
  have h1:=Fq kvs [];rw[f6]at h1;rw[fA];lk
 have he:∃q,h'.get? s.heap.objs.size=P3 q:=let #[q,_,_,hq,_]:=dd';#[q,hq]
 exact Lz I2 (by rw[e];exact gu) hs he^TY hz hd (rk.merge .nil) dd'
structure M1 (X:Cx) (o:eO) (m:Str) (apos:Pos) (e:eO) (cpos:Pos):Prop where
 base:attributeBase o m X.env^eval o X.env=eval o X.env
 few:((backTo cpos^starEach [e] X.env).all (λx=>!x.1)&&(backToKw cpos^keywordEach [] X.env).all (λx=>x.1.isSome)
  && decide (([e]:List eO).length+([]:List hZ).length+(if([]:List hZ).isEmpty then 0 else 1)<30))=m_
 line:(apos.endLine==cpos.line)=m_
 trees:backTo cpos^starEach [e] X.env=[(n_,eval e X.env)]
structure M2 (X:Cx) (o:eO) (m:Str) (apos:Pos) (e f:eO) (cpos:Pos):Prop where
 base:attributeBase o m X.env^eval o X.env=eval o X.env
 few:((backTo cpos^starEach [e,f] X.env).all (λx=>!x.1)&&(backToKw cpos^keywordEach [] X.env).all (λx=>x.1.isSome)
  && decide (([e,f]:List eO).length+([]:List hZ).length+(if([]:List hZ).isEmpty then 0 else 1)<30))=m_
 line:(apos.endLine==cpos.line)=m_
 trees:backTo cpos^starEach [e,f] X.env=[(n_,eval e X.env),(n_,eval f X.env)]
def cX(H:Hp)(a:Ch):Prop:=(∃kvs,Rd H a^.dK kvs)\/∃kvs,Rd H a^.dT kvs
theorem S7{X:Cx}{zG:o_ (Ch×Obj)}{Z:St}{H:Hp}{s:Rs}{a:Ch}(I:Inv X zG Z H s)(d:cX H a):
  s.TypeIs (.ref a) "dict"/\(∀b,fR a=.ref b->∃ob,s.heap.get? b=P3 ob/\ob.dict=l_)/\(a==sysModules)=n_:=by
 rcases d with⟨kvs,e⟩|⟨kvs,e⟩
 .let#[_,hd,vs,_,dd]:=Fv I.hok e
  refine#[dd.typeIs,λb q=>?_,hd];cases q;let#[ob,_,_,h1,h2,_]:=dd;exact#[ob,h1,h2.2.1]
 .let#[_,hd,xs,_,dd]:=Jk I.hok e
  refine#[dd.typeIs,λb q=>?_,hd];cases q;let#[ob,_,_,h1,h2,_]:=dd;exact#[ob,h1,h2.2.1]
section
variable {X:Cx}{zG:o_ (Addr×Obj)}{Z:St}{H:Hp}{s:Shared}{a:Addr}{y d:V}{u r:Value}{o:p_ V}{A:Around}{E:Value->Shared->Prop}
theorem YH{Q:Db->Rs->Prop}(hu:A.units+1<cLine)(I:Inv X zG Z H s)(g:DGet H a y o)(ry:RelV y u)(rd:RelV d r)(h:∀w' s',Inv X zG Z H s'->RelV (o.getD d) w'->Q w' s'):
  wpAny (model X.prog X.w) A (call (.builtin "dict.get") [.ref a,u,r]) Q E s:=by
 rcases g with⟨kvs,k,e,ey,l⟩|⟨kvs,k,b,e,ey,eb,l⟩
 .subst ey
  let#[z,hd,vs,rel,dd]:=Fv I.hok e;refine call_meetsIn PySem.F.slot_dict_get dd.typeIs PySem.F.entry_dict_get (PySem.F.args_dict_get_3 _ _ _) (meets_dict_get_default (A_ X.prog X.w) a (Ja ry) hd r) #[_,dd.mapOf,h _ _ (I.tok _) ?_];rw[l];exact(rel.val k).getD rd
 .subst ey
  cases(ry);let#[z,hd,xs,rel,dd]:=Jk I.hok e;refine call_meetsIn PySem.F.slot_dict_get dd.typeIs PySem.F.entry_dict_get (PySem.F.args_dict_get_3 _ _ _) (meetsH_dict_get_default _ a b hd r) #[iD hu,k,xs,HU I.hok eb,dd,h _ _ (I.tok _) ?_];rw[l];exact(rel.val k).getD rd
end
def XJ(td ty tx:TE):TE:=λZ H Q=>td Z H λx H1=>∃a,x=.ref a/\cX H1 a/\ty Z H1 λy H2=>tx Z H2 λz H3=>∃o,DGet H3 a y o/\Q (o.getD z) H3
section
variable {X:Cx}{o e f:Expr}{apos cpos:Pos}{td ty tx:TE}
theorem Sb(hu:X.A.units+1<cLine)(ho:PE X o td)(he:PE X e ty)(hf:PE X f tx)(m:M2 X o "get" apos e f cpos):PE X (.Call (.Attribute o "get" apos) [e,f] [] cpos)^XJ td ty tx:=by
 intro zG s Z H Q I h;refine wpAny_Call_method m.base m.few m.line PySem.F.plainAttrs_dict PySem.F.slot_dict_get PySem.F.type_dict_get^thn (ho _ s Z H _ I h) λu s1 zz=>?_;let#[x,H1,I1,rx,a,ex,d,q1]:=zz;subst ex;obtain rfl:u=fR a:=rx;let#[t1,t2,_]:=S7 I1 d;refine#[t1,t2,?_];rw[m.trees]
 exact iJ rfl (jL (gR (thn (he _ s1 Z H1 _ I1 q1) λiv s2 #[y,H2,I2,ry,q2]=>
  gR (thn (hf _ s2 Z H2 _ I2 q2) λfv s3 #[z,H3,I3,rz,ov,g,q3]=>g_^YH hu I3 g ry rz λw' s4 I4 rw'=>#[_,H3,I4,rw',q3]))))
end
end L2
set_option maxHeartbeats 4000000
namespace L2
section
theorem OV{env:Env}:∀(names:o_ (Str×gl)) (cs:o_ (Str×Ch)),(∀x,(x,fH)∈names->∃c,env.cells.lookup x=P3 c)->(∀x c,cs.lookup x=P3 c->env.cells.lookup x=P3 c)->
  ∃cl,(forIn names cs fun(x:Str×gl) (r:o_ (Str×Ch))=>(if(x.2==fH)=m_ then do let a ←cellOf env x.1;pure^gZ ((x.1,a)::r) else pure^gZ r:Sem^ForInStep^o_ (Str×Ch)))=(pure cl:Sem _) /\
   (∀x c,cl.lookup x=P3 c->env.cells.lookup x=P3 c)/\(∀x,((x,fH)∈names\/∃c,cs.lookup x=P3 c)->∃c,cl.lookup x=P3 c):=by
 intro names
 induction names with
 |nil=>
  intro cs _ h2;exact#[cs,rfl,h2,λx hx=>hx.elim (λz=>absurd z^by simp) λz=>z]
 | cons p r ih=>
  intro cs h1 h2;let#[n,k]:=p
  by_cases hk:k=fH
  .subst hk
   let#[c,hc]:=h1 n FM;have hcell:cellOf env n=pure c:=by simp only[cellOf,hc]
   let#[cl,e,a,b]:=ih ((n,c)::cs) (λx hx=>h1 x^Sc _ hx) (λx c' hx=>by
    rw[h8]at hx;cases hb:x==n with
    |true=>
     rw[hb]at hx;have hx':P3 c=P3 c':=hx;cases hx'
     have:x=n:=by simpa using hb
     rw[this];exact hc
    |false=>rw[hb]at hx;exact h2 x c' hx)
   refine#[cl,?_,a,λx hx=>b x ?_]
   .rw[iZ]
    simp only[beq_self_eq_true,if_true,hcell,pure_bind];exact e
   .by_cases hxn:x=n
    .subst hxn
     exact .inr #[c,by simp[h8]]
    .rcases hx with hx|⟨c',hx⟩
     .rcases UF.mp hx with hx|hx
      .cases hx;exact absurd rfl hxn
      .exact .inl hx
     .refine .inr #[c',?_]
      have:(x==n)=n_:=by simpa using hxn
      rw[h8,this];exact hx
  .have hk':(k==fH)=n_:=by simpa using hk
   let#[cl,e,a,b]:=ih cs (λx hx=>h1 x^Sc _ hx) h2;refine#[cl,?_,a,λx hx=>b x ?_]
   .rw[iZ]
    simp only[hk',gT,if_false,pure_bind];exact e
   .rcases hx with hx|hx
    .rcases UF.mp hx with hx|hx
     .cases hx;exact absurd rfl hk
     .exact .inl hx
    .exact .inr hx
theorem Jp{scope:gs}{env:Env}(h:∀x,(x,fH)∈scope.names->∃c,env.cells.lookup x=P3 c):
  ∃cl,closureFor scope env=pure cl/\(∀x c,cl.lookup x=P3 c->env.cells.lookup x=P3 c)/\(∀x,(x,fH)∈scope.names->∃c,cl.lookup x=P3 c):=by
 let#[cl,e,a,b]:=OV _ [] h (λx c hx=>by simp at hx);refine#[cl,?_,a,λx hx=>b x^.inl hx];simp[closureFor]
 simp_all
variable {prog:Program}{w:World}{A:Around}{R:Result->Shared->Prop}{s:Shared}
theorem L0{elt target iter:eO}{ifs:o_ eO}{scope:gs}{pos:Pos}{it acc:Db}{env:Env}(I:Nat->Rs->Prop)
  (turn:∀n s,I n s->wpAny (model prog w) A (pyNext it) (λr s₁=>match r with
   |none=>R (.ok .next) s₁
   | some v=>wpAny (model prog w) A (letOwnedTupleGo target it v) (λ_ s₁'=>wpAny (model prog w) A (assign target env v) (λ_ s₂=>
     wpAny (model prog w) A (forIn ifs m_ λc r=>if r=m_ then do let ok ←isTrue c env^eval c env;pure^gZ ok else pure^gZ r) (λok s₃=>
      if ok=m_ then wpAny (model prog w) A (eval elt env) (λx s₄=>
       wpAny (model prog w) A (call (.builtin "list.append") [acc,x]) (λ_ s₅=>∃m,m<n/\I m s₅) (λ_ _=>False) s₄) (λ_ _=>False) s₃
      else ∃m,m<n/\I m s₃) (λ_ _=>False) s₂) (λ_ _=>False) s₁') (λ_ _=>False) s₁) (λ_ _=>False) s)
  (n:Nat) (h:I n s):
  codeAny (model prog w) A (.compLoop (.ListComp elt [#[target,iter,ifs,0]] scope pos) 0 it acc env) R s:=by
 refine codeAny_loop rfl I (λn s hI=>?_) n h;refine wpAny_noted ?_;refine Go^wpAny_standAt^Go^fM (turn n s hI) (λr s₁ h₁=>?_) λ_ _ h'=>h'.elim;cases r with
 |none=>exact df h₁
 | some v=>
  refine Go^fM h₁ (λ_ s₁' h₁'=>?_) λ_ _ h'=>h'.elim;refine Go^fM h₁' (λ_ s₂ h₂=>Go^fM h₂ (λok s₃ h₃=>?_) λ_ _ h'=>h'.elim) λ_ _ h'=>h'.elim;cases ok with
  |false=>exact df #[rfl,h₃]
  |true=>
   exact Go^Go^fM h₃ (λx s₄ h₄=>Go^fM h₄ (λ_ s₅ h₅=>df^df #[rfl,h₅]) λ_ _ h'=>h'.elim) λ_ _ h'=>h'.elim
end
def Aw(X:Cx)(sc:gs)(N':o_ Str)(cl:o_ (Str×Ch))(C:Ch)(s:Rs)(H:Hp)(ex:o_ Ch):Cx where
 prog:=X.prog
 w:=X.w
 K:=X.K
 mg:=X.mg
 base:=X.base
 A:=X.A
 N:=N'
 s₀:=s
 H₀:=H
 env:=compEnvC sc cl C X.env
 outer:=X.stack
 stack:=X.stack
 ex:=ex
 fn:=λ_=>n_
 calm:=m_
 pn:=[]
 xe:=λ_ _=>False
def Cv(js:o_^p_ Nat)(Z:St):St:=js.map λo=>match o with
 |some i=>(Z[i]?).getD l_
 |none=>l_
def VN(o:p_ gl):Bool:=match o with
 |some .cell=>m_
 |some .free=>m_
 |_=>n_
theorem PM{o:p_ gl}(h:VN o=m_):o=P3 .cell\/o=P3 .free:=by
 unfold VN at h
 split at h
 .grind
 .grind
 .cases h
def isFree(o:p_ gl):Bool:=match o with
 |some .free=>m_
 |_=>n_
theorem Qm{o:p_ gl}(h:isFree o=m_):o=P3 .free:=by
 unfold isFree at h
 split at h
 .rfl
 .cases h
def S4(o:p_ gl):Bool:=match o with
 |some .local=>m_
 |_=>n_
theorem S3{o:p_ gl}(h:S4 o=m_):o=P3 .local:=by
 unfold S4 at h
 split at h
 .rfl
 .cases h
def S6(k:ScopeKind):Bool:=match k with
 |.function=>m_
 |_=>n_
theorem S5{k:ScopeKind}(h:S6 k=m_):k=.function:=by
 unfold S6 at h
 split at h
 .rfl
 .cases h
def bV(sc esc:gs)(p:Str×gl):Bool:=match p.2 with
 |.cell=>n_
 |.free=>VN^esc.names.lookup p.1
 |.local=>S4^sc.names.lookup p.1
 |_=>m_
def cC(x:p_ Str)(y:Str):Bool:=match x with
 |some z=>z==y
 |none=>n_
theorem X_{x:p_ Str}{y:Str}(h:cC x y=m_):x=P3 y:=by
 unfold cC at h
 split at h
 .grind
 .cases h
def Jr(sc esc:gs)(N:o_ Str):o_ Str->o_^p_ Nat->Bool
 |[],[]=>m_
 |x::xs,P3 j::js=>isFree^sc.names.lookup x&&cC (N[j]?) x&&VN^esc.names.lookup x&&Jr sc esc N xs js
 |_::xs,l_::js=>Jr sc esc N xs js
 |_,_=>n_
def G0(sc esc:gs)(N N':o_ Str)(js:o_^p_ Nat):Bool:=S6 sc.kind&&sc.names.all^bV sc esc&&Jr sc esc N N' js
theorem FI{sc esc:gs}{N:o_ Str}:∀{N':o_ Str}{js:o_^p_ Nat},Jr sc esc N N' js=m_->js.length=N'.length
 |[],[],_=>rfl
 |x::xs,P3 j::js,h=>by
  unfold Jr at h;rw[dh]at h;rw[dg,dg,FI h.2]
 |x::xs,l_::js,h=>by
  unfold Jr at h;rw[dg,dg,FI h]
 |[],P3 _::_,h=>by cases h
 |[],l_::_,h=>by cases h
 |_::_,[],h=>by cases h
theorem L1{sc esc:gs}{N:o_ Str}:∀{N':o_ Str}{js:o_^p_ Nat},Jr sc esc N N' js=m_->∀{k:Nat}{x:Str}{j:Nat},N'[k]?=P3 x->js[k]?=P3^P3 j->
  sc.names.lookup x=P3 .free/\N[j]?=P3 x/\(esc.names.lookup x=P3 .cell\/esc.names.lookup x=P3 .free)
 |[],_,_,k,x,j,h1,_=>by simp at h1
 |_::_,[],h,_,_,_,_,_=>by unfold Jr at h;cases h
 | y::ys,P3 i::js,h,k,x,j,h1,h2=>by
  unfold Jr at h;rw[dh,dh,dh]at h;cases k with
  |zero=>
   simp at h1 h2;subst h1 h2;exact#[Qm h.1.1.1,X_ h.1.1.2,PM h.1.2]
  |succ k=>exact L1 h.2 (k:=k) (by simpa using h1)^by simpa using h2
 |y::ys,l_::js,h,k,x,j,h1,h2=>by
  unfold Jr at h;cases k with
  |zero=>simp at h2
  |succ k=>exact L1 h (k:=k) (by simpa using h1)^by simpa using h2
theorem Qe{js:o_^p_ Nat}{Z:St}{k:Nat}{v:V}(h:(Cv js Z)[k]?=P3^P3 v):∃j,js[k]?=P3^P3 j/\Z[j]?=P3^P3 v:=by
 unfold Cv at h;rw[di]at h;cases e:js[k]? with
 |none=>simp_all
 | some o=>
  rw[e]at h;cases o with
  |none=>cases h
  |some j=>
   cases q:Z[j]? with
   |none=>simp_all
   |some w=>simp_all
theorem DB{env:Env}:∀{names:o_ (Str×gl)}{x:Str},names.lookup x=P3 .free->
  (names.map fun(n,k)=>if(k==fH&&env.scope.kind==.function&&env.kindOf n==P3 .cell)then(n,jB)else(n,k)).lookup x=P3 .cell \/
  (names.map fun(n,k)=>if(k==fH&&env.scope.kind==.function&&env.kindOf n==P3 .cell)then(n,jB)else(n,k)).lookup x=P3 .free
 |[],_,h=>by simp at h
 | (n,k)::r,x,h=>by
  have ih:=@DB env r x;show List.lookup x ((if(k==fH&&env.scope.kind==.function&&env.kindOf n==P3 .cell)=m_ then(n,jB)else(n,k))::_)=_\/List.lookup x ((if(k==fH&&env.scope.kind==.function&&env.kindOf n==P3 .cell)=m_ then(n,jB)else(n,k))::_)=_
  by_cases hc:(k==fH&&env.scope.kind==.function&&env.kindOf n==P3 .cell)=m_
  .rw[if_pos hc]
   cases hx:x==n with
   |true=>exact .inl^by simp only[h8,hx]
   |false=>
    simp only[h8,hx]at h ⊢;exact ih h
  .rw[if_neg hc]
   cases hx:x==n with
   |true=>
    simp_all
   |false=>
    simp only[h8,hx]at h ⊢;exact ih h
theorem Nx{env:Env}{sc:gs}(hcell:∀y∈sc.names,y.2≠.cell){x:Str}(h:(relabel sc env).names.lookup x=P3 .cell\/(relabel sc env).names.lookup x=P3 .free):(x,fH)∈sc.names:=by
 have hm:(x,jB)∈(relabel sc _).names\/(x,fH)∈(relabel sc _).names:=h.elim (λz=>.inl^PySem.mem_of_lookup z) λz=>.inr^PySem.mem_of_lookup z
 have go:∀k,(k=.cell\/k=.free)->(x,k)∈(relabel sc env).names->(x,fH)∈sc.names:=by
  intro k hk hmem;unfold relabel at hmem
  grind
 exact hm.elim (go _ (.inl rfl))^go _ (.inr rfl)
section
variable {X:Cx}{zG:o_ (Addr×Obj)}{Z:St}{H:Hp}{s:Shared}
structure CompOk (X:Cx) (sc:gs) (N':List Str) (js:List^Option Nat):Prop where
 kind:sc.kind=.function
 cell:∀y∈sc.names,y.2≠.cell
 free:∀x,(x,fH)∈sc.names->X.env.scope.names.lookup x=P3 .cell\/X.env.scope.names.lookup x=P3 .free
 names:∀y∈sc.names,y.2=.local->sc.names.lookup y.1=P3 .local
 cap:Jr sc X.env.scope X.N N' js=m_
theorem CompOk.of{sc:gs}{N':o_ Str}{js:o_^p_ Nat}(h:G0 sc X.env.scope X.N N' js=m_):CompOk X sc N' js:=by
 unfold G0 at h;rw[dh,dh,fX]at h;let#[#[h1,h2],h3]:=h;refine#[S5 h1,λy hy e=>?_,λx hx=>?_,λy hy e=>?_,h3]
 .have q:=h2 y hy
  unfold bV at q
  simp_all
 .have q:=h2 _ hx
  exact PM q
 .have q:=h2 y hy
  unfold bV at q;rw[e]at q;exact S3 q
theorem ND{sc:gs}{N':o_ Str}{js:o_^p_ Nat}{cl:o_ (Str×Ch)}{fp:o_ Ch}{h₁:eC}{tk:Nat}(I:Inv X zG Z H s)(hc:X.calm=m_)(O:CompOk X sc N' js)
  (hcl:∀x c,cl.lookup x=P3 c->X.env.cells.lookup x=P3 c) (hcl2:∀x,(x,fH)∈sc.names->∃c,cl.lookup x=P3 c)
  (hf:∀b∈fp,Fj X zG H b) (ho:∀b∈fp,∃o,s.heap.get? b=P3 o)
  (hns:h₁.Ns (s.heap.objs.size+1) λ_=>l_) (hk:∀b o,s.heap.get? b=P3 o->h₁.get? b=P3 o) (hD:∃n,h₁.get? s.heap.objs.size=P3 {cls:=.type "list",data:=.seq #[] n}):
  Inv (Aw X sc N' cl (s.heap.objs.size+1) s H fp) [] (Cv js Z) (BF H s.heap.objs.size^.lst []) {s with heap:=h₁,toks:=tk}:=by
 have fr:∀a,s.heap.objs.size<=a->H a=l_:=λa ha=>I.hok.fresh ha
 have cellLt:∀x c,cl.lookup x=P3 c->c<s.heap.objs.size:=λx c e=>by
  let#[v,q]:=I.cell x c^hcl x c e;exact q.lt
 have ok:(Aw X sc N' cl (s.heap.objs.size+1) s H fp).Ok:=by
  refine#[I.ok.mod,O.kind,I.ok.glob,I.ok.blt,fj _,λx y c h1 h2=>I.ok.inj x y c (hcl x c h1)^hcl y c h2,λx hx=>?_,λx c hx=>?_,λ_=>I.ok.hd hc,I.ok.frames,.inl rfl,λb hb=>#[?_,λx c e=>?_],I.bs,eJ I.ok.bsz I.sz,λb o e hb=>?_,λb hb hb2=>?_,I.stack,I.stkFree]
  .exact hcl2 x^Nx (env:=X.env) O.cell hx
  .exact absurd (show n_=m_ from hx) eN
  .let#[o,e]:=ho b hb
   exact eB^f_^Uf e
  .exact(hf b hb).2.2.2.2.1 x c^hcl x c e
  .rcases(hf b hb).2.2.2.1 with z|z
   .exact I.ok.noex b o e z
   .have h1:b<X.base.objs.size:=Uf e
    exact absurd (eW h1^eJ I.ok.bsz z)^fC _
  .rcases UF.mp^I.stkSub b hb2 with z|z
   .exact(hf b hb).2.1 z
   .exact(hf b hb).2.2.1 z
 refine#[ok,rfl,I.bare,?_,#[_,hns,λi x v h1 h2 h3=>?_],λx c e=>?_,?_,λx c e=>?_,λp hp=>absurd (show p∈([]:o_ (Ch×Obj))from hp)^by simp,?_,?_]
 .exact Un.laid hk (Re _)^fr _^Re _
 .let#[j,e1,e2]:=Qe h2
  let#[c1,c2,c3]:=L1 O.cap h1 e1;let#[m,_,hl]:=I.loc;let#[u,r,l]:=hl j x v c2 e2^.inr c3;refine#[u,r,.inr #[DB c1,?_]]
  rcases l with⟨l1,_⟩|⟨_,c,l2,l3⟩
  .have l1':X.env.scope.names.lookup x=P3 .local:=l1
   rcases c3 with c3|c3 <;>(rw[l1']at c3;cases c3)
  .let#[c',e']:=hcl2 x^PySem.mem_of_lookup c1
   have:c'=c:=d6^(hcl x c' e').symm.trans l2
   subst this;let#[oc,hoc,hocd]:=id l3;exact#[c',e',oc,hk _ _ hoc,hocd]
 .let#[v,oc,hoc,hocd]:=I.cell x c^hcl x c e
  exact#[v,oc,hk _ _ hoc,hocd]
 .show BF H s.heap.objs.size (.lst []) (s.heap.objs.size+1)=l_
  rw[AO^Nat.succ_ne_self _];exact fr _^fj _
 .show BF H s.heap.objs.size (.lst []) c=l_
  rw[AO^eB^cellLt x c e];exact I.freeC x c^hcl x c e
 .refine I.hok.laid hk (Re _) ?_
  let#[n,e]:=hD;exact#[dq _,[],n,.nil,e]
 .unfold Cv
  show(js.map _).length=N'.length;rw[Ev];exact FI O.cap
theorem Un.but{fs ex:o_ Ch}{H H1:Hp}{h h1 h':eC}{C:Ch}(u:Un fs ex H H1 h h1)(hC:h.get? C=l_)(hs:∀b,b≠C->h'.get? b=h1.get? b):Un fs ex H H1 h h':=by
 have ne:∀{b:Ch}{o:Obj},h.get? b=P3 o->b≠C:=λ{b o} e z=>by grind
 refine#[λb o e n h1 h2=>(hs b^ne e).trans^u.keep b o e n h1 h2,λb o e n h1 h2=>?_,u.free,λb o e h1=>?_,u.tups,u.frzs,u.tbls]
 .let#[sl,q]:=u.slot b o e n h1 h2
  exact#[sl,(hs b^ne e).trans q]
 .let#[o',q]:=u.there b o e h1
  simp_all
theorem Jd{sc:gs}{N':o_ Str}{cl:o_ (Str×Ch)}{C:Ch}{fp:o_ Ch}{pins':o_ (Ch×Obj)}{zZ:St}{H':Hp}{s':Rs}{h':eC}(I:Inv X zG Z H s)(hf:∀b∈fp,Fj X zG H b)(hC:s.heap.objs.size<=C)
  (J:Inv (Aw X sc N' cl C s H fp) pins' zZ H' s') (hs:∀b,b≠C->h'.get? b=s'.heap.get? b):Inv X zG Z H' {s' with heap:=h'}:=by
 have hC':H' C=l_:=J.free
 refine I.call' J.os (Un.but J.base (by
  cases e:s.heap.get? C with
  |none=>rfl
  |some o=>exact absurd (Uf e)^iw.mpr hC) hs) (λa o e=>(J.hok a o e).stay (λb u hb q=>(hs b (λz=>by
   grind)).trans q) (λ_ q=>q) λ_ _ q=>q) J.bare λb hb=>?_
 .let#[f0,f1,f2,f3,f4,f5]:=hf b hb
  exact#[f3,f1,f4,f5]
end
def aZ(X:Cx)(ifs:o_ eO)(t:TT):Prop:=
 ∀(zG:o_ (Ch×Obj)) (s:Rs) (Z:St) (H:Hp) (Q:Bool->Hp->Prop),Inv X zG Z H s->t Z H Q->
  wpAny (model X.prog X.w) X.A (forIn ifs m_ λc r=>if r=m_ then do let ok ←isTrue c X.env^eval c X.env;pure^gZ ok else pure^gZ r) (TP X zG Z Q) X.xe s
def bJ:TT:=λ_ H Q=>Q m_ H
theorem Uw{X:Cx}:aZ X [] bJ:=λzG s Z H Q I h=>wpAny_tests_nil #[H,I,h]
theorem Uv{X:Cx}{c:eO}{t:TT}(h:PT X c t):aZ X [c] t:=λzG s Z H Q I q=>wpAny_tests_one^h _ s Z H Q I q
def Rt(X:Cx)(sc:gs)(N':o_ Str)(js:o_^p_ Nat)(tg elt:eO)(ifs:o_ eO)(wi:TI):TE:=λZ H Q=>wi Z H λJ H1=>∀l,H1 l=l_->X.K.lookup l=l_->∀cl C s H0 fp,∃(g:TG) (tt:TT) (te:TE) (W:Nat->Nat->St->Hp->Prop),
 PG (Aw X sc N' cl C s H0 fp) tg g/\aZ (Aw X sc N' cl C s H0 fp) ifs tt/\PE (Aw X sc N' cl C s H0 fp) elt te/\(∃m,W 0 m (Cv js Z)^BF H1 l^.lst [])/\∀i m zZ H',W i m zZ H'->
 (J.stop i H'/\Q (.ref l) H')\/(J.go i H'/\∀x H2,J.yld i H' x H2->g x zZ H2 λzV H3=>tt zV H3 λb H4=>if b=m_ then te zV H4 λy H5=>∃ys,H5 l=P3^.lst ys/\ys.length<sizeLine/\∃m',m'<m/\W (i+1) m' zV^BF H5 l^.lst (ys++[y]) else ∃m',m'<m/\W (i+1) m' zV H4)
section
variable {X:Cx}{tg elt iter:Expr}{ifs:o_ Expr}{sc:Scope}{pos:Pos}{N':o_ Str}{js:o_^p_ Nat}{wi:TI}{g:TG}{tt:TT}{te:TE}
theorem Kz{zG:o_ (Ch×Obj)}{Z:St}{H:Hp}{s:Rs}{cl:o_ (Str×Ch)}{C l it:Ch}{fp:o_ Ch}{tn:Nat->eC->Prop}{J:It}{s3:Rs}{Q:VK}{R:Result->Rs->Prop}{W:Nat->Nat->St->Hp->Prop}{m0:Nat}{zI:St}{H0:Hp}
  (I:Inv X zG Z H s) (hf:∀b∈fp,Fj X zG H b) (hlt:∀b∈fp,b<s.heap.objs.size) (hC:s.heap.objs.size<=C)
  (T:Turn X.prog X.w X.K tg J fp it tn)
  (hg:PG (Aw X sc N' cl C s H fp) tg g) (ht:aZ (Aw X sc N' cl C s H fp) ifs tt) (he:PE (Aw X sc N' cl C s H fp) elt te)
  (hW:∀i m zZ H',W i m zZ H'->
   (J.stop i H'/\Q (.ref l) H')\/(J.go i H'/\∀x H2,J.yld i H' x H2->g x zZ H2 λzV H3=>tt zV H3 λb H4=>if b=m_ then te zV H4 λy H5=>∃ys,H5 l=P3^.lst ys/\ys.length<sizeLine/\∃m',m'<m/\W (i+1) m' zV^BF H5 l^.lst (ys++[y]) else ∃m',m'<m/\W (i+1) m' zV H4))
  (hR:∀zZ H' s',Inv (Aw X sc N' cl C s H fp) [] zZ H' s'->Q (.ref l) H'->R (.ok .next) s')
  (I3:Inv (Aw X sc N' cl C s H fp) [] zI H0 s3) (t3:tn 0 s3.heap) (f3:∀b∈fp,H0 b=l_) (w0:W 0 m0 zI H0):
  codeAny (model X.prog X.w) X.A (.compLoop (.ListComp elt [#[tg,iter,ifs,0]] sc pos) 0 (.ref it) (.ref l)^compEnvC sc cl C X.env) R s3:=by
 have stat:∀{H':Hp},(∀b∈fp,H' b=l_)->∀b∈fp,Fj (Aw X sc N' cl C s H fp) [] H' b:=λhn b hb=>by
  have q:=I3.ok.exf b hb;refine#[hn b hb,q.1,I3.ok.exfs b hb,.inl hb,q.2,λp hp=>absurd (show p∈([]:o_ (Ch×Obj))from hp)^by simp]
 refine L0 (λn s'=>∃i zZ H',Inv (Aw X sc N' cl C s H fp) [] zZ H' s'/\tn i s'.heap/\(∀b∈fp,H' b=l_)/\W i n zZ H') ?_ m0 #[0,zI,H0,I3,t3,f3,w0];rintro n s4 ⟨i,zQ,H4,I4,st4,fr4,w4⟩
 rcases hW i n zQ H4 w4 with⟨stop,qn⟩|⟨go,step⟩
 .refine thn (T.done (Aw X sc N' cl C s H fp) rfl rfl rfl rfl i [] s4 zQ H4 (λ_ _=>False) I4 (stat fr4) st4 stop) λr s5 zz=>?_;let#[hr,I5]:=zz
  subst hr;exact hR zQ H4 s5 I5 qn
 .refine thn (T.item (Aw X sc N' cl C s H fp) rfl rfl rfl rfl i [] s4 zQ H4 (λ_ _=>False) I4 (stat fr4) st4 go) λr s5 zz=>?_;let#[u,hr,h5]:=zz
  subst hr;refine thn h5 λ_ s6 zz=>?_;let#[x,H6,I6,r6,y6,st6,fr6]:=zz;have I6':=I6.pinned (stat fr6)^T.obj _ _ st6;refine thn (hg _ s6 zQ H6 x u _ I6' r6^step x H6 y6) λ_ s7 zz=>?_;let#[zM,H7,I7,q7]:=zz
  have again:∀{zJ:St}{H9:Hp}{s9:Rs}{m':Nat},Inv (Aw X sc N' cl C s H fp) ([]++JE fp s6.heap) zJ H9 s9->m'<n->W (i+1) m' zJ H9->∃m,m<n/\∃i zZ H',Inv (Aw X sc N' cl C s H fp) [] zZ H' s9/\tn i s9.heap/\(∀b∈fp,H' b=l_)/\W i m zZ H':=λ{zJ H9 s9 m'} I9 hm w9=>by
   refine#[m',hm,i+1,zJ,H9,I9.unpinned,T.keep _ _ _ st6 λb hb o e=>(I9.pin (b,o)^TM _^TM _^Ee hb e).1,λb hb=>?_,w9];let#[o,e,d]:=T.obj _ _ st6 b hb;exact(I9.pin (b,o)^TM _^TM _^Ee hb e).2.1
  refine thn (ht _ s7 zM H7 _ I7 q7) λok s8 zz=>?_;let#[H8,I8,q8]:=zz;cases ok with
  |false=>
   have q8':∃m',m'<n/\W (i+1) m' zM H8:=q8;let#[m',hm,w8]:=q8';show ∃m,m<n/\_;exact again I8 hm w8
  |true=>
   refine thn (he _ s8 zM H8 _ I8 q8) λy s9 zz=>?_;let#[yv,H9,I9,ry,q9]:=zz;let#[ys,hl,hz,m',hm,w9]:=q9;refine thn (BG (X:=Aw X sc N' cl C s H fp) _ s9 zM H9 (.ref l) [yv] (.ref l) [y] (λv H'=>v=.non/\H'=BF H9 l^.lst (ys++[yv])) I9 rfl (.cons ry .nil) #[l,ys,yv,rfl,rfl,hl,hz,rfl,rfl]) λ_ sa zz=>?_;let#[v,Ha,Ia,_,_,eH]:=zz;subst eH;exact again Ia hm w9
theorem U2(hc:X.calm=m_)(N':o_ Str)(js:o_^p_ Nat)(hi:PI X tg iter wi)
  (hB:G0 sc X.env.scope X.N N' js=m_)
  (hs:∀x,foldedSetIterable iter X.env x=pure x:=by intro _;rfl):
  PE X (.ListComp elt [#[tg,iter,ifs,0]] sc pos) (Rt X sc N' js tg elt ifs wi):=by
 intro zG s Z H Q I h;have O:CompOk X sc N' js:=CompOk.of hB;let#[cl,hclos,hcl,hcl2]:=Jp (scope:=sc) (env:=X.env) λx hx=>I.ok.has x^O.free x hx;rw[eval_ListComp];refine wpAny_comprehension_free (use:=l_) rfl hs hclos O.kind O.names (thn (hi zG s Z H _ I h) λv s1 h1=>thn h1 λitv s2 h2=>?_);let#[it,fp,tn,J,H2,e,I2,T,st2,f2,hq]:=h2;subst e
 have kfree:X.K.lookup s2.heap.objs.size=l_:=by
  cases q:X.K.lookup s2.heap.objs.size with
  |none=>rfl
  |some o=>exact absurd (Uf^I2.kIn _ _ q)^fC _
 let#[g,tt,te,W,hg,ht,he,#[m0,w0],hW]:=hq s2.heap.objs.size (I2.hok.fresh^Re _) kfree cl (s2.heap.objs.size+1) s2 H2 fp;refine gg^wpAny_newFunctionEnv O.cell (by intro y hy;simp at hy) (λh₁ hns₁ hsb₁=>?_) O.kind
 dsimp only at hns₁ hsb₁ ⊢
 generalize hH2:s2.heap.push {cls:=.type "list",dict:=l_,data:=.seq ([]:o_ Db).toArray}=Hh at hns₁ hsb₁ ⊢;have hCe:Hh.objs.size=s2.heap.objs.size+1:=by rw[←hH2,fe]
 have hlt:∀b∈fp,b<s2.heap.objs.size:=λb hb=>by
  let#[o,e,_]:=T.obj _ _ st2 b hb;exact Uf e
 have old:∀b o,s2.heap.get? b=P3 o->h₁.get? b=P3 o:=λb o e=>hsb₁.extBut b o (by rw[hCe];exact eB^f_^Uf e)^No _ (hH2▸No _ e);have hD:∃n,h₁.get? s2.heap.objs.size=P3 {cls:=.type "list",data:=.seq #[] n}:=#[_,hsb₁.extBut _ _ (by rw[hCe];exact eB^iS _)^No _ (hH2▸T0 _ rfl)]
 have I3:∀tk,Inv (Aw X sc N' cl (s2.heap.objs.size+1) s2 H2 fp) [] (Cv js Z) (BF H2 s2.heap.objs.size^.lst []) {s2 with heap:=h₁,toks:=tk}:=λtk=>
  ND I2 hc O hcl hcl2 f2 (λb hb=>let #[o,e,_]:=T.obj _ _ st2 b hb;#[o,e]) (by rw[←hCe];exact hns₁) old hD
 have st3:tn 0 h₁:=T.keep _ _ _ st2 λb hb o e=>old b o e
 have fr3:∀b∈fp,BF H2 s2.heap.objs.size (.lst []) b=l_:=λb hb=>by
  rw[AO^eB^hlt b hb];exact(f2 b hb).1
 have loop:∀tk,codeAny (model X.prog X.w) X.A (.compLoop (.ListComp elt [#[tg,iter,ifs,0]] sc pos) 0 (.ref it) (.ref s2.heap.objs.size)^compEnvC sc cl (s2.heap.objs.size+1) X.env)
   (compPost (model X.prog X.w) X.A X.xe l_ (EP X zG Z Q) (.ref s2.heap.objs.size) (s2.heap.objs.size+1)) {s2 with heap:=h₁,toks:=tk}:=λtk=>by
  refine Kz (W:=W) (m0:=m0) (Q:=Q) I2 f2 hlt (fj _) T hg ht he hW (λzZ H' s' J' q'=>?_) (I3 tk) st3 fr3 w0;let#[m,hn,_]:=J'.loc;exact#[m,hn,λh' hs'=>#[.ref _,H',Jd I2 f2 (fj _) J' λb hb=>hs'.2 b hb,rfl,q']]
 rw[show(newEnv sc Hh.objs.size X.env.globals cl X.env.qual l_ .none (P3 X.env) builtinsNs).locals=s2.heap.objs.size+1 from hCe];show codeAny (model X.prog X.w) X.A (.compStart (.ListComp elt [#[tg,iter,ifs,0]] sc pos) 0 (.ref it) (.ref s2.heap.objs.size)^compEnvC sc cl (s2.heap.objs.size+1) X.env) _ _;exact codeAny_compStart_list (loop _)^T.self _ 0 _ _ _ st3^loop _
end
structure dU (B:eC) (l:List Env) (a C:Ch) (dx:Option Ch) (h:eC):Prop where
 stays:B.StaysIn h
 new:B.get? a=l_
 frames:h.FunFrames B l
 obj:∃vs sl tb,h.get? a=P3 #[.ref C,dx,.fields vs,sl]/\vs[2]?=P3 .none/\vs[1]?=P3 tb/\(tb=.none\/∃T oT ts,tb=.ref T/\B.get? T=l_/\T≠a/\h.get? T=P3 oT/\oT.data=.fields ts/\3<ts.size)
def aC:o_ Db:=[.type "ValueError",.type "Exception",.type "BaseException",.type "object"]
structure XC (K:Frag) (nm:Str) (C U:Ch):Prop where
 obj:∃q N bs sn sub ab col dd k0 k1 k2 k3 k5,K.lookup C=P3 (excClassObj nm q C N bs (.ref U::aC) m_ sn sub ab col dd k0 k1 k2 k3 k5 "ValueError.__new__")
 up:∃q N bs sn sub ab col dd k0 k1 k2 k3 k5 hd,K.lookup U=P3 (excClassObj "ThinError" q U N bs aC hd sn sub ab col dd k0 k1 k2 k3 k5 "ValueError.__new__")
 kp:keepIn K^.ref C=m_
 ga:PySem.W.findIn K (.ref C) "__getattribute__"=P3 (P3^.builtin "BaseException.__getattribute__")
 gt:PySem.W.findIn K (.ref C) "__getattr__"=P3 l_
 sa:PySem.W.findIn K (.ref C) "__setattr__"=P3 (P3^.builtin "object.__setattr__")
 at_:nsIn K mainGlobals nm=P3 (P3^.ref C)
 atU:nsIn K mainGlobals "ThinError"=P3 (P3^.ref U)
 ca:PySem.W.findIn K (.ref C) "__class__"=P3 (P3^.builtin "object.__class__")
 nw:PySem.W.findIn K (.ref C) "word"=P3 l_
 nn:PySem.W.findIn K (.ref C) "number"=P3 l_
 nr:PySem.W.findIn K (.ref C) "row"=P3 l_
structure dZ (P:eK) (w:eU) (outer:List Env) (H:Hp) (s:Rs) (a C:Ch) (dx:Option Ch) (B:eC) (H':Hp) (s':Rs):Prop where
 os:s'.os=s.os
 bare:ir s'.gens
 un:Un (PP outer) [] H H' s.heap s'.heap
 hok:HOk P w H' B
 all:∀b o o',s.heap.get? b=P3 o->b∉PP outer->s'.heap.get? b=P3 o'->B.get? b=P3 o'
 fly:dU B outer a C dx s'.heap
 new:s.heap.objs.size<=a
 free:H' a=l_
def XF(d:Ch)(fs:o_ (Str×V))(h:eC):Prop:=∃mA,h.Ns1 d mA/\(∀f,RelO (fs.lookup f)^mA f)/\PySem.Within mA (fs.map (·.1))/\fs.length<=1000
def XT(C:Ch)(dx:p_ Ch)(a:Ch)(u:HO):Prop:=∃vs sl,u=.frz #[.ref C,dx,.fields vs,sl]^.own a/\vs[2]?=P3 .none
end L2
namespace Dp
open L2
inductive D where
 |non|bl (b:Bool)|int (i:Int)|str (x:Str)|tup (xs:List D)|lst (xs:List D)|dic (ks:List Key) (xs:List D)|fdi (ks:List Key) (xs:List D)|dit (ks:List^List Key) (xs:List D)
 deriving Inhabited
def NdT(M:Ch->Prop)(H:Hp)(a:Ch)(vs:o_ V):Prop:=H a=P3^.tup vs
def NdL(M:Ch->Prop)(H:Hp)(a:Ch)(vs:o_ V):Prop:=¬M a/\H a=P3^.lst vs
def NdD(M:Ch->Prop)(H:Hp)(a:Ch)(ks:o_ Key)(vs:o_ V):Prop:=¬M a/\H a=P3^.dK^ks.zip vs
def NdF(M:Ch->Prop)(H:Hp)(a:Ch)(ks:o_ Key)(vs:o_ V):Prop:=∃o,¬M a/\H a=P3^.frz o^.dK^ks.zip vs
def NdU(M:Ch->Prop)(H:Hp)(a:Ch)(ks:o_^o_ Key)(vs:o_ V):Prop:=¬M a/\H a=P3^.dT^ks.zip vs
mutual
def At(K:Frag)(M:Ch->Prop)(H:Hp):D->V->Prop
 |.non,v=>v=.non
 |.bl b,v=>v=.bl b
 |.int i,v=>v=.int i
 |.str x,v=>v=.str x/\x.length<=sizeLine
 |.tup ds,v=>∃a vs,v=.ref a/\NdT M H a vs/\Ats K M H ds vs
 |.lst ds,v=>∃a vs,v=.ref a/\NdL M H a vs/\Ats K M H ds vs
 |.dic ks ds,v=>∃a vs,v=.ref a/\NdD M H a ks vs/\ks.length=ds.length/\Ats K M H ds vs
 |.fdi ks ds,v=>∃a vs,v=.ref a/\NdF M H a ks vs/\ks.length=ds.length/\Ats K M H ds vs
 |.dit ks ds,v=>∃a vs,v=.ref a/\NdU M H a ks vs/\ks.length=ds.length/\Ats K M H ds vs
def Ats(K:Frag)(M:Ch->Prop)(H:Hp):o_ D->o_ V->Prop
 |[],vs=>vs=[]
 |d::ds,vs=>∃v r,vs=v::r/\At K M H d v/\Ats K M H ds r
end
section
variable {K:Frag}{M M':Addr->Prop}{H H':Hp}{a:Addr}{vs:o_ V}{ks:o_ Key}
theorem NdT.sq(h:NdT M H a vs):SqT K H a vs:=.inl^.inl h
theorem NdL.sq(h:NdL M H a vs):SqL K H a vs:=.inl^.inl h.2
def Pres(M:Ch->Prop)(H:Hp)(M':Ch->Prop)(H':Hp):Prop:=(∀b o,H b=P3 o->¬M b->H' b=P3 o)/\(∀b,M' b->M b\/H b=l_)/\∀b vs,H b=P3^.tup vs->H' b=P3^.tup vs
theorem Pres.nd{u:HO}(p:Pres M H M' H')(n:¬M a)(h:H a=P3 u):¬M' a/\H' a=P3 u:=by
 refine#[λz=>?_,p.1 _ _ h n]
 rcases p.2.1 a z with z|z
 .exact n z
 grind
theorem NdT.pres(p:Pres M H M' H')(h:NdT M H a vs):NdT M' H' a vs:=p.2.2 _ _ h
theorem NdL.pres(p:Pres M H M' H')(h:NdL M H a vs):NdL M' H' a vs:=p.nd h.1 h.2
theorem NdD.pres(p:Pres M H M' H')(h:NdD M H a ks vs):NdD M' H' a ks vs:=p.nd h.1 h.2
theorem NdU.pres{ks:o_^o_ Key}(p:Pres M H M' H')(h:NdU M H a ks vs):NdU M' H' a ks vs:=p.nd h.1 h.2
theorem NdF.pres(p:Pres M H M' H')(h:NdF M H a ks vs):NdF M' H' a ks vs:=let #[o,h1,h2]:=h;#[o,p.nd h1 h2]
mutual
theorem At.pres(p:Pres M H M' H'):∀{d:D}{v:V},At K M H d v->At K M' H' d v
 |.non,v,h=>h
 |.bl b,v,h=>h
 |.int i,v,h=>h
 |.str x,v,h=>h
 |.tup ds,v,h=>by
  let#[a,vs,e,hn,hs]:=h;exact#[a,vs,e,hn.pres p,Ats.pres p hs]
 |.lst ds,v,h=>by
  let#[a,vs,e,hn,hs]:=h;exact#[a,vs,e,hn.pres p,Ats.pres p hs]
 |.dic ks ds,v,h=>by
  let#[a,vs,e,hn,hl,hs]:=h;exact#[a,vs,e,hn.pres p,hl,Ats.pres p hs]
 |.fdi ks ds,v,h=>by
  let#[a,vs,e,hn,hl,hs]:=h;exact#[a,vs,e,hn.pres p,hl,Ats.pres p hs]
 |.dit ks ds,v,h=>by
  let#[a,vs,e,hn,hl,hs]:=h;exact#[a,vs,e,hn.pres p,hl,Ats.pres p hs]
theorem Ats.pres(p:Pres M H M' H'):∀{ds:o_ D}{vs:o_ V},Ats K M H ds vs->Ats K M' H' ds vs
 |[],vs,h=>h
 |d::ds,vs,h=>by
  let#[v,r,e,h1,h2]:=h;exact#[v,r,e,At.pres p h1,Ats.pres p h2]
end
theorem Pres.trans{M1 M2 M3:Ch->Prop}{H1 H2 H3:Hp}(p:Pres M1 H1 M2 H2)(q:Pres M2 H2 M3 H3):Pres M1 H1 M3 H3:=by
 refine#[λb o e n=>?_,λb z=>?_,λb vs e=>q.2.2 b vs^p.2.2 b vs e]
 .refine q.1 b o (p.1 b o e n) λz=>?_
  rcases p.2.1 b z with z|z
  .exact n z
  grind
 .rcases q.2.1 b z with z|z
  .exact p.2.1 b z
  .cases e:H1 b with
   |none=>grind
   |some o=>
    by_cases n:M1 b
    .exact .inl n
    .rw[p.1 b o e n]at z;cases z
theorem Pres.refl(M:Ch->Prop)(H:Hp):Pres M H M H:=#[λ_ _ e _=>e,λ_ z=>.inl z,λ_ _ e=>e]
theorem Pres.less(h:∀b,M' b->M b):Pres M H M' H:=#[λ_ _ e _=>e,λb z=>.inl^h b z,λ_ _ e=>e]
theorem Ats.length:∀{ds:o_ D}{vs:o_ V},Ats K M H ds vs->vs.length=ds.length
 |[],vs,h=>by cases h;rfl
 |d::ds,vs,h=>by
  let#[v,r,e,h1,h2]:=h;subst e;rw[dg,dg,Ats.length h2]
theorem Ats.get:∀{ds:o_ D}{vs:o_ V}{i:Nat}{d:D},Ats K M H ds vs->ds[i]?=P3 d->∃v,vs[i]?=P3 v/\At K M H d v
 |[],vs,i,d,h,e=>by simp at e
 |d0::ds,vs,0,d,h,e=>by
  let#[v,r,e1,h1,h2]:=h
  simp_all
 |d0::ds,vs,i+1,d,h,e=>by
  let#[v,r,e1,h1,h2]:=h;let#[u,e2,h3]:=Ats.get h2^by simpa using e
  simp_all
theorem Ats.append:∀{ds es:o_ D}{vs us:o_ V},Ats K M H ds vs->Ats K M H es us->Ats K M H (ds++es) (vs++us)
 |[],es,vs,us,h,g=>by cases h;exact g
 |d::ds,es,vs,us,h,g=>by
  let#[v,r,e,h1,h2]:=h;subst e;exact#[v,_,rfl,h1,Ats.append h2 g]
theorem Ats.drop:∀{ds:o_ D}{vs:o_ V} (n:Nat),Ats K M H ds vs->Ats K M H (ds.drop n)^vs.drop n
 |ds,vs,0,h=>h
 |[],vs,n+1,h=>by cases h;exact rfl
 |d::ds,vs,n+1,h=>by
  let#[v,r,e,h1,h2]:=h;subst e;exact Ats.drop n h2
theorem Ats.take:∀{ds:o_ D}{vs:o_ V} (n:Nat),Ats K M H ds vs->Ats K M H (ds.take n)^vs.take n
 |ds,vs,0,h=>rfl
 |[],vs,n+1,h=>by cases h;exact rfl
 |d::ds,vs,n+1,h=>by
  let#[v,r,e,h1,h2]:=h;subst e;exact#[v,_,rfl,h1,Ats.take n h2]
theorem Ats.one{d:D}{v:V}(h:At K M H d v):Ats K M H [d] [v]:=#[v,[],rfl,h,rfl]
theorem Ats.eraseIdx:∀{ds:o_ D}{vs:o_ V} (i:Nat),Ats K M H ds vs->Ats K M H (ds.eraseIdx i)^vs.eraseIdx i
 |[],vs,i,h=>by cases h;exact rfl
 |d0::ds,vs,0,h=>by
  let#[u,r,e1,h1,h2]:=h
  grind
 |d0::ds,vs,i+1,h=>by
  let#[u,r,e1,h1,h2]:=h;subst e1;exact#[u,_,rfl,h1,Ats.eraseIdx i h2]
theorem Ats.reverse:∀{ds:o_ D}{vs:o_ V},Ats K M H ds vs->Ats K M H ds.reverse vs.reverse
 |[],vs,h=>by cases h;exact rfl
 |d::ds,vs,h=>by
  let#[v,r,e,h1,h2]:=h;subst e;rw[i7,i7];exact Ats.append (Ats.reverse h2)^Ats.one h1
end
inductive Kd where
 |sh|tp|fr
def Tops(K:Frag)(M:Ch->Prop)(H:Hp)(a:Ch):D->Prop
 |.lst ds=>∃vs,H a=P3^.lst vs/\Ats K M H ds vs
 |.dic ks ds=>∃vs,H a=P3^.dK^ks.zip vs/\ks.length=ds.length/\Ats K M H ds vs
 |.dit ks ds=>∃vs,H a=P3^.dT^ks.zip vs/\ks.length=ds.length/\Ats K M H ds vs
 |_=>False
theorem Tops.notT{K:Frag}{M:Ch->Prop}{H:Hp}{a:Ch}{d:D}(h:Tops K M H a d){vs:o_ V}:H a≠P3^.tup vs:=λq=>by
 cases d with
 |lst ds=>let#[us,e,_]:=h;grind
 |dic ks ds=>let#[us,e,_]:=h;grind
 |dit ks ds=>let#[us,e,_]:=h;grind
 |_=>exact h.elim
theorem Tops.pres{K:Frag}{M M':Ch->Prop}{H H':Hp}{a:Ch}{d:D}(h:Tops K M H a d)(p:Pres M H M' H')(e:∀o,H a=P3 o->H' a=P3 o):Tops K M' H' a d:=by
 cases d with
 |lst ds=>let#[vs,h1,h2]:=h;exact#[vs,e _ h1,h2.pres p]
 |dic ks ds=>let#[vs,h1,h2,h3]:=h;exact#[vs,e _ h1,h2,h3.pres p]
 |dit ks ds=>let#[vs,h1,h2,h3]:=h;exact#[vs,e _ h1,h2,h3.pres p]
 |_=>assumption
theorem Tops.at{K:Frag}{M:Ch->Prop}{H:Hp}{a:Ch}{d:D}(h:Tops K M H a d)(n:¬M a):At K M H d^.ref a:=by
 cases d with
 |lst ds=>let#[vs,h1,h2]:=h;exact#[a,vs,rfl,#[n,h1],h2]
 |dic ks ds=>let#[vs,h1,h2,h3]:=h;exact#[a,vs,rfl,#[n,h1],h2,h3]
 |dit ks ds=>let#[vs,h1,h2,h3]:=h;exact#[a,vs,rfl,#[n,h1],h2,h3]
 |_=>exact(h).elim
def AtT(K:Frag)(U:Ch->Prop)(M:Ch->Prop)(H:Hp):D->V->Prop
 |.lst ds,v=>∃a vs,v=.ref a/\¬U a/\Rd H a^.lst vs/\Ats K M H ds vs
 |.dic ks ds,v=>∃a vs,v=.ref a/\¬U a/\H a=P3^.dK^ks.zip vs/\ks.length=ds.length/\Ats K M H ds vs
 |.dit ks ds,v=>∃a vs,v=.ref a/\¬U a/\H a=P3^.dT^ks.zip vs/\ks.length=ds.length/\Ats K M H ds vs
 |d,v=>At K M H d v
theorem Tops.att{K:Frag}{U M:Ch->Prop}{H:Hp}{a:Ch}{d:D}(h:Tops K M H a d)(n:¬U a):AtT K U M H d^.ref a:=by
 cases d with
 |lst ds=>let#[vs,h1,h2]:=h;exact#[a,vs,rfl,n,.inl h1,h2]
 |dic ks ds=>let#[vs,h1,h2,h3]:=h;exact#[a,vs,rfl,n,h1,h2,h3]
 |dit ks ds=>let#[vs,h1,h2,h3]:=h;exact#[a,vs,rfl,n,h1,h2,h3]
 |_=>exact(h).elim
def VR(K:Frag)(U:Ch->Prop)(M:Ch->Prop)(H H':Hp):Kd->V->D->Prop
 |.sh,v,d=>At K M H' d v
 |.tp,v,d=>AtT K U M H' d v
 |.fr,v,d=>∃a,v=.ref a/\H a=l_/\Tops K (λb=>M b\/b=a) H' a d
def FeedOk(K:Frag)(M:Ch->Prop)(H:Hp)(f:Ch×Ch)(n:Nat):Prop:=
 ∃(at_ rest:Int) (cells:o_ Int),H f.1=P3^.lst [.ref f.2,.int at_,.int rest]/\f.2≠f.1/\NdL M H f.2^cells.map V.int/\cells.length<=63/\0<=at_/\at_+n<=2 ^ 60
def FeedC(K:Frag)(F:p_ (Ch×Ch))(M:Ch->Prop)(H:Hp)(n:Nat):Prop:=∀f,F=P3 f->FeedOk K M H f n
def Ext(U:Ch->Prop)(H H':Hp):Prop:=∀b o,H b=P3 o->∃o',H' b=P3 o'/\(¬U b->o'=o)/\∀vs,o=.tup vs->o'=o
theorem Ext.keep{U:Ch->Prop}{H H':Hp}(p:Ext U H H'){b:Ch}{o:HO}(e:H b=P3 o)(n:¬U b):H' b=P3 o:=by
 let#[o',q,r,_]:=p b o e;rw[q,r n]
theorem Ext.tup{U:Ch->Prop}{H H':Hp}(p:Ext U H H'){b:Ch}{vs:o_ V}(e:H b=P3^.tup vs):H' b=P3^.tup vs:=by
 let#[o',q,_,r]:=p b _ e
 grind
theorem Ext.free{U:Ch->Prop}{H H':Hp}(p:Ext U H H'){b:Ch}(e:H' b=l_):H b=l_:=by
 cases q:H b with
 |none=>rfl
 |some o=>
  let#[o',z,_]:=p b o q
  grind
theorem Ext.refl(U:Ch->Prop)(H:Hp):Ext U H H:=λ_ o e=>#[o,e,λ_=>rfl,λ_ _=>rfl]
theorem Ext.trans{U:Ch->Prop}{H1 H2 H3:Hp}(p:Ext U H1 H2)(q:Ext U H2 H3):Ext U H1 H3:=λb o e=>by
 let#[o',e1,r1,t1]:=p b o e;let#[o2,e2,r2,t2]:=q b o' e1;exact#[o2,e2,λn=>(r2 n).trans^r1 n,λvs z=>(t2 vs^(t1 vs z).trans z).trans^t1 vs z]
def Grow(H H':Hp):Prop:=H'=H\/∃p o,H p=l_/\H'=BF H p o
theorem Grow.all{H H':Hp}(g:Grow H H'):∀b o,H b=P3 o->H' b=P3 o:=by
 intro b o e
 rcases g with rfl|⟨p,u,n,rfl⟩
 .exact e
 .rw[AO^Aq e n];exact e
theorem Grow.refl{H:Hp}:Grow H H:=.inl rfl
theorem Grow.ext{U:Ch->Prop}{H H':Hp}(g:Grow H H'):Ext U H H':=λb o e=>#[o,g.all b o e,λ_=>rfl,λ_ _=>rfl]
theorem Grow.pres{M:Ch->Prop}{H H':Hp}(g:Grow H H'):Pres M H M H':=#[λb o e _=>g.all b o e,λ_ z=>.inl z,λb vs e=>g.all b _ e]
theorem FeedOk.pres{K:Frag}{M M':Ch->Prop}{H H':Hp}{f:Ch×Ch}{n:Nat}(h:FeedOk K M H f n)(p:Pres M H M' H')(e:∀o,H f.1=P3 o->H' f.1=P3 o):FeedOk K M' H' f n:=by
 let#[a,r,cs,h1,h2,h3,h4]:=h;exact#[a,r,cs,e _ h1,h2,h3.pres p,h4]
theorem FeedC.pres{K:Frag}{F:p_ (Ch×Ch)}{M M':Ch->Prop}{H H':Hp}{n:Nat}(h:FeedC K F M H n)(p:Pres M H M' H')(e:∀f o,F=P3 f->H f.1=P3 o->H' f.1=P3 o):FeedC K F M' H' n:=λf hf=>(h f hf).pres p λo q=>e f o hf q
theorem FeedC.grow{K:Frag}{F:p_ (Ch×Ch)}{M:Ch->Prop}{H H':Hp}{n:Nat}(h:FeedC K F M H n)(g:Grow H H'):FeedC K F M H' n:=h.pres g.pres λf o _ e=>g.all _ o e
theorem FeedC.more{K:Frag}{F:p_ (Ch×Ch)}{M:Ch->Prop}{H:Hp}{n:Nat}(h:FeedC K F M H n)(a:Ch)(ha:∀f,F=P3 f->f.2≠a):FeedC K F (λb=>M b\/b=a) H n:=λf hf=>by
 let#[x,r,cs,h1,h2,h3,h4]:=h f hf;exact#[x,r,cs,h1,h2,#[λz=>z.elim h3.1^ha f hf,h3.2],h4]
def AtX(K:Frag)(M:Ch->Prop)(H:Hp)(a:Ch)(nm:Str)(ks:o_ Str)(ds:o_ D):Prop:=∃C U dx u vs,XC K nm C U/\(¬M a/\H a=P3 u)/\XT C dx a u/\(dx=l_/\ks=[]/\vs=[]\/∃d,dx=P3 d/\¬M d/\H d=P3^.ext^XF d^ks.zip vs)/\ks.length=ds.length/\Ats K M H ds vs
theorem AtX.pres{K:Frag}{M M':Ch->Prop}{H H':Hp}{a:Ch}{nm:Str}{ks:o_ Str}{ds:o_ D}(h:AtX K M H a nm ks ds)(p:Pres M H M' H'):AtX K M' H' a nm ks ds:=by
 let#[C,U,dx,u,vs,c,#[n,ha],x,hd,hl,hs]:=h;refine#[C,U,dx,u,vs,c,p.nd n ha,x,?_,hl,hs.pres p]
 rcases hd with z|⟨d,e1,n1,h1⟩
 .exact .inl z
 .exact .inr #[d,e1,p.nd n1 h1]
inductive Slot where
 |no|sh (d:D)|br (d:D)|fd|ow (d:D)|lt (a:Ch) (d:D)|ex (a:Ch) (nm:Str) (ks:List Str) (ds:List D)
def Slot.owns:Slot->Bool
 |.ow _=>m_
 |.lt _ _=>m_
 |_=>n_
def SlotOk(K:Frag)(F:p_ (Ch×Ch))(U:Ch->Prop)(M:Ch->Prop)(H:Hp):Slot->p_ V->Prop
 |.no,_=>True
 |.sh d,o=>∃v,o=P3 v/\At K M H d v
 |.br d,o=>∃v,o=P3 v/\AtT K U M H d v
 |.fd,o=>∃f,o=P3^.ref f.1/\F=P3 f
 |.ow d,o=>∃a,o=P3^.ref a/\M a/\¬U a/\Tops K M H a d
 |.lt a d,o=>o=P3^.ref a/\M a/\¬U a/\Tops K M H a d
 |.ex a nm ks ds,o=>o=P3^.ref a/\AtX K M H a nm ks ds
structure Fm where
 M0:Ch->Prop
 F:Option (Ch×Ch)
 U:Ch->Prop
 V:Ch->Prop
 H0:Hp
 zG:List ((Ch->Prop)×Hp)
 kp:List (Ch×HO)
def Apart(ρ:o_ Slot)(Z:L2.St):Prop:=∀(i j:Nat) (s t:Slot) (a:Ch),ρ[i]?=P3 s->s.owns=m_->ρ[j]?=P3 t->t.owns=m_->(Z[i]?).getD l_=P3^.ref a->(Z[j]?).getD l_=P3^.ref a->i=j
structure Rel (K:Frag) (C:Fm) (M:Ch->Prop) (H:Hp) (n:Nat) (ρ:List Slot) (Z:L2.St):Prop where
 len:ρ.length=Z.length
 sub:∀a,C.M0 a->M a
 dom:∀a,M a->∃o,H a=P3 o
 ext:Ext C.U C.H0 H
 fU:∀f,C.F=P3 f->C.U f.1
 uV:∀a,C.U a->C.V a
 vM:∀a,C.V a->M a
 feed:FeedC K C.F M H n
 sl:∀(i:Nat) (s:Slot),ρ[i]?=P3 s->SlotOk K C.F C.V M H s ((Z[i]?).getD l_)
 pin:∀p∈C.zG,Pres p.1 p.2 M H
 br0:∀(i:Nat) (d:D) (a:Ch),ρ[i]?=P3^.br d->(Z[i]?).getD l_=P3^.ref a->∃o,C.H0 a=P3 o
 new:∀(i:Nat) (s:Slot) (a:Ch),ρ[i]?=P3 s->s.owns=m_->(Z[i]?).getD l_=P3^.ref a->¬C.M0 a/\C.H0 a=l_
 two:Apart ρ Z
 kept:∀p∈C.kp,H p.1=P3 p.2/\M p.1/\¬C.V p.1/\∀(i:Nat) (d:D),ρ[i]?=P3^.ow d->(Z[i]?).getD l_≠P3^.ref p.1
section
variable {K:Frag}{C:Fm}{M:Addr->Prop}{H H':Hp}{n n':Nat}{ρ:o_ Slot}{Z:L2.St}{d:D}{v:V}{κ:Kd}
theorem Rel.pres(R:Rel K C M H n ρ Z)(e:Ext C.U H H'):Pres M H M H':=#[λb o q nb=>e.keep q λz=>nb^R.vM b^R.uV b z,λ_ z=>.inl z,λb vs q=>e.tup q]
theorem AtT.pres{U V':Ch->Prop}{M':Ch->Prop}(h:AtT K V' M H d v)(p:Pres M H M' H')(e:Ext U H H')(uV:∀a,U a->V' a):AtT K V' M' H' d v:=by
 cases d with
 |lst ds=>
  let#[a,vs,e1,n1,hq,hs]:=h;refine#[a,vs,e1,n1,?_,hs.pres p]
  rcases hq with hq|⟨o,hq⟩
  .exact .inl^e.keep hq λz=>n1^uV a z
  .exact .inr #[o,e.keep hq λz=>n1^uV a z]
 |dic ks ds=>
  let#[a,vs,e1,n1,hq,hl,hs]:=h;exact#[a,vs,e1,n1,e.keep hq λz=>n1^uV a z,hl,hs.pres p]
 |dit ks ds=>
  let#[a,vs,e1,n1,hq,hl,hs]:=h;exact#[a,vs,e1,n1,e.keep hq λz=>n1^uV a z,hl,hs.pres p]
 |non=>assumption
 |bl b=>assumption
 |int i=>assumption
 |str x=>assumption
 |tup ds=>exact At.pres p h
 |fdi ks ds=>exact At.pres p h
theorem AtT.same{U V':Ch->Prop}{M':Ch->Prop}(h:AtT K U M H d v)(p:Pres M H M' H')(e:∀a o,v=.ref a->H a=P3 o->H' a=P3 o)(nv:∀a,v=.ref a->¬U a->¬V' a):AtT K V' M' H' d v:=by
 cases d with
 |lst ds=>
  let#[a,vs,e1,n1,hq,hs]:=h;refine#[a,vs,e1,nv a e1 n1,?_,hs.pres p]
  rcases hq with hq|⟨o,hq⟩
  .exact .inl^e a _ e1 hq
  .exact .inr #[o,e a _ e1 hq]
 |dic ks ds=>
  let#[a,vs,e1,n1,hq,hl,hs]:=h;exact#[a,vs,e1,nv a e1 n1,e a _ e1 hq,hl,hs.pres p]
 |dit ks ds=>
  let#[a,vs,e1,n1,hq,hl,hs]:=h;exact#[a,vs,e1,nv a e1 n1,e a _ e1 hq,hl,hs.pres p]
 |non=>assumption
 |bl b=>assumption
 |int i=>assumption
 |str x=>assumption
 |tup ds=>exact At.pres p h
 |fdi ks ds=>exact At.pres p h
theorem AtT.lies{U:Ch->Prop}{a:Ch}(h:AtT K U M H d^.ref a):∃o,H a=P3 o:=by
 cases d with
 |lst ds=>
  let#[b,vs,e,_,hq,_]:=h;cases e
  rcases hq with hq|⟨o,hq⟩
  .exact#[_,hq]
  grind
 |dic ks ds=>
  let#[b,vs,e,_,hq,_]:=h
  grind
 |dit ks ds=>
  let#[b,vs,e,_,hq,_]:=h
  grind
 |non=>cases(h)
 |bl b=>cases(h)
 |int i=>cases(h)
 |str x=>cases(h).1
 |tup ds=>
  let#[b,vs,e,hq,_]:=h;cases e;exact#[_,hq]
 |fdi ks ds=>
  let#[b,vs,e,#[o,_,hq],_]:=h
  simp_all
theorem SlotOk.pres{F:p_ (Ch×Ch)}{U V' M':Ch->Prop}{s:Slot}{o:p_ V}(h:SlotOk K F V' M H s o)(p:Pres M H M' H')(m:∀a,M a->M' a)(e:Ext U H H')(uV:∀a,U a->V' a):SlotOk K F V' M' H' s o:=by
 cases s with
 |no=>trivial
 |sh d=>let#[v,e1,h1]:=h;exact#[v,e1,h1.pres p]
 |ex a nm ks ds=>let#[e1,h1]:=h;exact#[e1,h1.pres p]
 |br d=>let#[v,e1,h1]:=h;exact#[v,e1,h1.pres p e uV]
 |fd=>exact h
 |ow d=>let#[a,e1,h1,h2,h3]:=h;exact#[a,e1,m a h1,h2,h3.pres p λo q=>e.keep q λz=>h2^uV a z]
 |lt a d=>let#[e1,h1,h2,h3]:=h;exact#[e1,m a h1,h2,h3.pres p λo q=>e.keep q λz=>h2^uV a z]
theorem Rel.step(R:Rel K C M H n ρ Z)(e:Ext C.U H H')(f:FeedC K C.F M H' n'):Rel K C M H' n' ρ Z:=by
 have p:=R.pres e;refine#[R.len,R.sub,λa z=>?_,R.ext.trans e,R.fU,R.uV,R.vM,f,λi s q=>(R.sl i s q).pres p (λ_ z=>z) e R.uV,λq hq=>(R.pin q hq).trans p,R.br0,R.new,R.two,λq hq=>?_]
 .let#[o,h1]:=R.dom a z
  let#[o',h2,_]:=e a o h1
  grind
 .let#[h1,h2,h3,h4]:=R.kept q hq
  exact#[e.keep h1 λz=>h3^R.uV _ z,h2,h3,h4]
theorem Rel.udom(R:Rel K C M H n ρ Z):∀a,C.U a->∃o,H a=P3 o:=λa z=>R.dom a^R.vM a^R.uV a z
theorem At.tp{U:Ch->Prop}(uM:∀a,U a->M a)(h:At K M H d v):AtT K U M H d v:=by
 cases d with
 |lst ds=>
  let#[a,vs,e,hn,hs]:=h;exact#[a,vs,e,λz=>hn.1^uM a z,.inl hn.2,hs]
 |dic ks ds=>
  let#[a,vs,e,hn,hl,hs]:=h;exact#[a,vs,e,λz=>hn.1^uM a z,hn.2,hl,hs]
 |dit ks ds=>
  let#[a,vs,e,hn,hl,hs]:=h;exact#[a,vs,e,λz=>hn.1^uM a z,hn.2,hl,hs]
 |non=>exact h
 |bl b=>exact h
 |int i=>exact h
 |str x=>exact h
 |tup ds=>exact h
 |fdi ks ds=>exact h
theorem VR.back{U V':Ch->Prop}{H1:Hp}(e:Ext U H H1)(h:VR K V' M H1 H' κ v d):VR K V' M H H' κ v d:=by
 cases κ with
 |sh=>exact h
 |tp=>exact h
 |fr=>
  let#[a,e1,h1,h2]:=h;exact#[a,e1,e.free h1,h2]
theorem VR.shOf{U:Ch->Prop}(dom:∀a,M a->∃o,H a=P3 o)(h:VR K U M H H' κ v d)(hk:κ≠.tp):At K M H' d v:=by
 cases κ with
 |sh=>exact h
 |tp=>grind
 |fr=>
  let#[a,rfl,h1,h2]:=h;refine(h2.pres (Pres.less λ_ z=>.inl z) λ_ z=>z).at λz=>?_
  grind
theorem VR.tpOf{U:Ch->Prop}(dom:∀a,M a->∃o,H a=P3 o)(uM:∀a,U a->M a)(h:VR K U M H H' κ v d):AtT K U M H' d v:=by
 cases κ with
 |sh=>exact At.tp uM h
 |tp=>exact h
 |fr=>exact At.tp uM^VR.shOf dom h^by grind
theorem Iy{α:Type}{l:o_ α}{i j:Nat}{x y:α}(h:(l.set i x)[j]?=P3 y):(j=i/\i<l.length/\y=x)\/(j≠i/\l[j]?=P3 y):=by
 rw[List.getElem?_set]at h
 by_cases e:i=j
 .simp_all
 .rw[if_neg e]at h
  exact .inr #[λz=>e z.symm,h]
theorem LM{l:L2.St}{i j:Nat}{x:p_ V}(h:j≠i):((l.set i x)[j]?).getD l_=(l[j]?).getD l_:=by
 rw[List.getElem?_set,if_neg λz=>h z.symm]
theorem R6{l:L2.St}{i:Nat}{x:p_ V}(h:i<l.length):((l.set i x)[i]?).getD l_=x:=by
 simp_all
theorem Rel.set(R:Rel K C M H n ρ Z){i:Nat}(h:At K M H d v):Rel K C M H n (ρ.set i^.sh d)^Z.set i^P3 v:=by
 have two:∀(j:Nat) (s:Slot),(ρ.set i^.sh d)[j]?=P3 s->s.owns=m_->ρ[j]?=P3 s/\((Z.set i^P3 v)[j]?).getD l_=(Z[j]?).getD l_:=λj s q o=>by
  rcases Iy q with⟨_,_,rfl⟩|⟨hj,q⟩
  .cases o
  .exact#[q,LM hj]
 refine#[by rw[ia,ia];exact R.len,R.sub,R.dom,R.ext,R.fU,R.uV,R.vM,R.feed,λj s q=>?_,R.pin,λj e a q q2=>?_,λj s a q o q2=>?_,λj k s t a q1 o1 q2 o2 z1 z2=>?_,λp hp=>?_]
 .rcases Iy q with⟨rfl,hl,rfl⟩|⟨hj,q⟩
  .rw[R6^by rw[←R.len];exact hl]
   exact#[v,rfl,h]
  .rw[LM hj]
   exact R.sl j s q
 .rcases Iy q with⟨_,_,e⟩|⟨hj,q⟩
  .cases e
  .rw[LM hj]at q2
   exact R.br0 j e a q q2
 .let#[q1,e]:=two j s q o
  rw[e]at q2;exact R.new j s a q1 o q2
 .let#[p1,e1]:=two j s q1 o1
  let#[p2,e2]:=two k t q2 o2;rw[e1]at z1;rw[e2]at z2;exact R.two j k s t a p1 o1 p2 o2 z1 z2
 .let#[h1,h2,h3,h4]:=R.kept p hp
  refine#[h1,h2,h3,λj e q=>?_];let#[q1,e2]:=two j _ q rfl;rw[e2];exact h4 j e q1
theorem Rel.owner(R:Rel K C M H n ρ Z){i:Nat}{s:Slot}(h:ρ[i]?=P3 s)(o:s.owns=m_):∃a e,(Z[i]?).getD l_=P3^.ref a/\M a/\¬C.V a/\Tops K M H a e/\¬C.M0 a/\C.H0 a=l_:=by
 have q:=R.sl i s h;cases s with
 |ow d=>let#[a,e1,h1,h2,h3]:=q;exact#[a,d,e1,h1,h2,h3,R.new i _ a h o e1]
 |lt a d=>let#[e1,h1,h2,h3]:=q;exact#[a,d,e1,h1,h2,h3,R.new i _ a h o e1]
 |_=>cases o
theorem Rel.setOw(R:Rel K C M H n ρ Z){i:Nat}{a:Ch}(e:Ext C.U H H')(f:FeedC K C.F M H' n')(ha:H a=l_)(h:Tops K (λb=>M b\/b=a) H' a d):
  Rel K C (λb=>M b\/b=a) H' n' (ρ.set i^.ow d) (Z.set i^P3^.ref a):=by
 have R1:=R.step e f
 have ne:∀b,M b->b≠a:=λb z q=>by
  let#[o,w]:=R.dom b z;rw[q,ha]at w;cases w
 have a0:¬C.M0 a/\C.H0 a=l_:=#[λz=>ne a (R.sub a z) rfl,R.ext.free ha];have pr:Pres M H (λb=>M b\/b=a) H':=#[λb o q nb=>e.keep q λz=>nb^R.vM b^R.uV b z,λb z=>z.elim .inl λz=>.inr (by rw[z];exact ha),λb vs q=>e.tup q]
 have two:∀(j:Nat) (s:Slot),(ρ.set i^.ow d)[j]?=P3 s->(j=i/\s=.ow d/\((Z.set i^P3^.ref a)[j]?).getD l_=P3^.ref a)\/(j≠i/\ρ[j]?=P3 s/\((Z.set i^P3^.ref a)[j]?).getD l_=(Z[j]?).getD l_):=λj s q=>by
  rcases Iy q with⟨rfl,hl,rfl⟩|⟨hj,q⟩
  .exact .inl #[rfl,rfl,R6^by rw[←R.len];exact hl]
  .exact .inr #[hj,q,LM hj]
 have old:∀(j:Nat) (s:Slot) (b:Ch),ρ[j]?=P3 s->s.owns=m_->(Z[j]?).getD l_=P3^.ref b->b≠a:=λj s b q o z=>by
  let#[c,_,e1,m,_]:=R.owner q o;rw[e1]at z;cases z;exact ne _ m
 have hd:∃o,H' a=P3 o:=by
  cases d with
  |lst ds=>let#[vs,q,_]:=h;exact#[_,q]
  |dic ks ds=>let#[vs,q,_]:=h;exact#[_,q]
  |dit ks ds=>let#[vs,q,_]:=h;exact#[_,q]
  |_=>exact(show False from h).elim
 refine#[by rw[ia,ia];exact R.len,λb z=>.inl^R.sub b z,λb z=>?_,R1.ext,R.fU,R.uV,λb z=>.inl^R.vM b z,f.more a λg hg q=>?_,λj s q=>?_,λq hq=>(R.pin q hq).trans pr,λj e2 b q q2=>?_,λj s b q o q2=>?_,λj k s t b q1 o1 q2 o2 z1 z2=>?_,λp hp=>?_]
 .rcases z with z|z
  .exact R1.dom b z
  .rw[z];exact hd
 .let#[_,_,_,_,_,h3,_]:=R.feed g hg
  have:=h3.2
  rw[q,ha]at this;cases this
 .rcases two j s q with⟨rfl,rfl,e1⟩|⟨hj,q1,e1⟩
  .rw[e1]
   exact#[a,rfl,.inr rfl,λz=>ne a (R.vM a z) rfl,h]
  .rw[e1]
   exact(R.sl j s q1).pres pr (λ_ z=>.inl z) e R.uV
 .rcases two j _ q with⟨_,e1,_⟩|⟨hj,q1,e1⟩
  .cases e1
  .rw[e1]at q2
   exact R.br0 j e2 b q1 q2
 .rcases two j s q with⟨_,_,e1⟩|⟨hj,q1,e1⟩
  .rw[e1]at q2
   cases q2;exact a0
  .rw[e1]at q2
   exact R.new j s b q1 o q2
 .rcases two j s q1 with⟨rfl,_,e1⟩|⟨hj,p1,e1⟩
  .rw[e1]at z1
   cases z1
   rcases two k t q2 with⟨rfl,_,_⟩|⟨hk,p2,e2⟩
   .rfl
   .rw[e2]at z2
    exact absurd rfl (old k t a p2 o2 z2)
  .rw[e1]at z1
   rcases two k t q2 with⟨rfl,_,e2⟩|⟨hk,p2,e2⟩
   .rw[e2]at z2
    cases z2;exact absurd rfl (old j s a p1 o1 z1)
   .rw[e2]at z2
    exact R.two j k s t b p1 o1 p2 o2 z1 z2
 .let#[h1,h2,h3,h4]:=R1.kept p hp
  refine#[h1,.inl h2,h3,λj e2 q=>?_]
  rcases two j _ q with⟨_,_,e1⟩|⟨hj,q1,e1⟩
  .rw[e1]
   intro z;cases z;exact ne _ h2 rfl
  .rw[e1]
   exact h4 j e2 q1
theorem Rel.mut(R:Rel K C M H n ρ Z){i:Nat}{a:Ch}{e:D}{o:HO}(hi:ρ[i]?=P3^.ow d)(ha:(Z[i]?).getD l_=P3^.ref a)(h:Tops K M (BF H a o) a e):
  Rel K C M (BF H a o) n (ρ.set i^.ow e) Z:=by
 let#[b,_,e1,m,nv,t,n0,h0]:=R.owner hi rfl;rw[ha]at e1;cases e1;have pr:Pres M H M^BF H a o:=#[λb o' q nb=>by rw[AO λz=>nb^by rw[z];exact m];exact q,λ_ z=>.inl z,λb vs q=>by rw[AO λz=>t.notT^by rw[←z];exact q];exact q]
 have old:∀(j:Nat) (s:Slot),(ρ.set i^.ow e)[j]?=P3 s->(j=i/\s=.ow e)\/(j≠i/\ρ[j]?=P3 s):=λj s q=>by
  rcases Iy q with⟨rfl,hl,rfl⟩|⟨hj,q⟩
  .exact .inl #[rfl,rfl]
  .exact .inr #[hj,q]
 have far:∀(j:Nat) (s:Slot) (b:Ch),j≠i->ρ[j]?=P3 s->s.owns=m_->(Z[j]?).getD l_=P3^.ref b->b≠a:=λj s b hj q o z w=>by
  subst w;exact hj (R.two j i s _ b q o hi rfl z ha)
 refine#[by rw[ia];exact R.len,R.sub,λb z=>?_,λb o' q=>?_,R.fU,R.uV,R.vM,R.feed.pres pr λf o' hf q=>?_,λj s q=>?_,λq hq=>(R.pin q hq).trans pr,λj e2 b q q2=>?_,λj s b q o2 q2=>?_,λj k s t b q1 o1 q2 o2 z1 z2=>?_,λp hp=>?_]
 .by_cases hb:b=a
  .exact#[o,by rw[hb,AW]]
  .let#[o',q]:=R.dom b z
   exact#[o',by rw[AO hb];exact q]
 .let#[o2,q2,r]:=R.ext b o' q
  have hb:b≠a:=λz=>by rw[z,h0]at q;cases q
  exact#[o2,by rw[AO hb];exact q2,r]
 .have hb:f.1≠a:=λz=>nv^by rw[←z];exact R.uV _^R.fU f hf
  rw[AO hb];exact q
 .rcases old j s q with⟨rfl,rfl⟩|⟨hj,q1⟩
  .rw[ha]
   exact#[a,rfl,m,nv,h]
  .have q2:=R.sl j s q1
   cases s with
   |no=>trivial
   |sh d=>let#[v,e1,h1]:=q2;exact#[v,e1,h1.pres pr]
   |ex a nm ks ds=>let#[e1,h1]:=q2;exact#[e1,h1.pres pr]
   |br d=>
    let#[v,e1,h1]:=q2;refine#[v,e1,h1.same pr (λb o' z q=>?_) λ_ _ z=>z];subst z;let#[o3,w]:=R.br0 j d b q1 e1;rw[AO λz=>by rw[z,h0]at w;cases w];exact q
   |fd=>exact q2
   |ow d=>
    let#[b,e1,h1,h2,h3]:=q2;exact#[b,e1,h1,h2,h3.pres pr λo' w=>by rw[AO (far j _ b hj q1 rfl e1)];exact w]
   |lt b d=>
    let#[e1,h1,h2,h3]:=q2;exact#[e1,h1,h2,h3.pres pr λo' w=>by rw[AO (far j _ b hj q1 rfl e1)];exact w]
 .rcases old j _ q with⟨_,e1⟩|⟨hj,q1⟩
  .cases e1
  .exact R.br0 j e2 b q1 q2
 .rcases old j s q with⟨rfl,_⟩|⟨hj,q1⟩
  .exact R.new j _ b hi rfl q2
  .exact R.new j s b q1 o2 q2
 .rcases old j s q1 with⟨rfl,rfl⟩|⟨hj,p1⟩
  .rcases old k t q2 with⟨rfl,_⟩|⟨hk,p2⟩
   .rfl
   .exact R.two j k _ t b hi rfl p2 o2 z1 z2
  .rcases old k t q2 with⟨rfl,rfl⟩|⟨hk,p2⟩
   .exact R.two j k s _ b p1 o1 hi rfl z1 z2
   .exact R.two j k s t b p1 o1 p2 o2 z1 z2
 .let#[h1,h2,h3,h4]:=R.kept p hp
  have hb:p.1≠a:=λz=>h4 i d hi (by rw[ha,z]);refine#[by rw[AO hb];exact h1,h2,h3,λj e2 q=>?_]
  rcases old j _ q with⟨rfl,_⟩|⟨hj,q1⟩
  .exact h4 j d hi
  .exact h4 j e2 q1
end
abbrev DW:=Nat->o_ Slot->(D->Nat->Prop)->Prop
abbrev GJ:=Nat->o_ Slot->(Bool->Nat->Prop)->Prop
abbrev Dq:=Nat->o_ Slot->(o_ D->Nat->Prop)->Prop
abbrev V5:=Nat->o_ Slot->(o_ Slot->Nat->Prop)->Prop
section
variable (X:Cx)
def DE(e:eO)(κ:Kd)(w:DW):Prop:=∃t,PE X e t/\∀(C:Fm) (M:Ch->Prop) (H:Hp) (n:Nat) (ρ:o_ Slot) (Z:L2.St) (P:D->Nat->Prop) (Q:VK),Rel X.K C M H n ρ Z->w n ρ P->
 (∀v H' d n',Ext C.U H H'->FeedC X.K C.F M H' n'->VR X.K C.V M H H' κ v d->P d n'->Q v H')->t Z H Q
def DT(e:eO)(w:GJ):Prop:=∃t,PT X e t/\∀(C:Fm) (M:Ch->Prop) (H:Hp) (n:Nat) (ρ:o_ Slot) (Z:L2.St) (P:Bool->Nat->Prop) (Q:Bool->Hp->Prop),Rel X.K C M H n ρ Z->w n ρ P->
 (∀b H' n',Ext C.U H H'->FeedC X.K C.F M H' n'->P b n'->Q b H')->t Z H Q
def DTW(e:eO)(w:GJ):Prop:=∃t,PW X e t/\∀(C:Fm) (M:Ch->Prop) (H:Hp) (n:Nat) (ρ:o_ Slot) (Z:L2.St) (P:Bool->Nat->Prop) (Q:Bool->Hp->Prop),Rel X.K C M H n ρ Z->w n ρ P->
 (∀b H' n',Ext C.U H H'->FeedC X.K C.F M H' n'->P b n'->Q b H')->t Z H Q
def UU(es:o_ eO)(w:Dq):Prop:=∃t,PA X es t/\∀(C:Fm) (M:Ch->Prop) (H:Hp) (n:Nat) (ρ:o_ Slot) (Z:L2.St) (P:o_ D->Nat->Prop) (Q:o_ V->Hp->Prop),Rel X.K C M H n ρ Z->w n ρ P->
 (∀vs H' ds n',Ext C.U H H'->FeedC X.K C.F M H' n'->Paired (λv d=>AtT X.K C.V M H' d v) vs ds->P ds n'->Q vs H')->t Z H Q
def Yr(es:o_ eO)(w:Dq):Prop:=∃t,PA X es t/\∀(C:Fm) (M:Ch->Prop) (H:Hp) (n:Nat) (ρ:o_ Slot) (Z:L2.St) (P:o_ D->Nat->Prop) (Q:o_ V->Hp->Prop),Rel X.K C M H n ρ Z->w n ρ P->
 (∀vs H' ds n',Ext C.U H H'->FeedC X.K C.F M H' n'->Ats X.K M H' ds vs->P ds n'->Q vs H')->t Z H Q
def LC(K:Frag)(F:p_ (Ch×Ch))(V' M:Ch->Prop)(H:Hp)(v:V)(s:Slot):Prop:=SlotOk K F V' M H s^P3 v/\s.owns=n_
def a9(e:eO)(w:Nat->o_ Slot->(Slot->Nat->Prop)->Prop):Prop:=∃t,PE X e t/\∀(C:Fm) (M:Ch->Prop) (H:Hp) (n:Nat) (ρ:o_ Slot) (Z:L2.St) (P:Slot->Nat->Prop) (Q:VK),Rel X.K C M H n ρ Z->w n ρ P->
 (∀v H' s n',Ext C.U H H'->FeedC X.K C.F M H' n'->LC X.K C.F C.V M H' v s->P s n'->Q v H')->t Z H Q
def UT(es:o_ eO)(w:V5):Prop:=∃t,PA X es t/\∀(C:Fm) (M:Ch->Prop) (H:Hp) (n:Nat) (ρ:o_ Slot) (Z:L2.St) (P:o_ Slot->Nat->Prop) (Q:o_ V->Hp->Prop),Rel X.K C M H n ρ Z->w n ρ P->
 (∀vs H' ss n',Ext C.U H H'->FeedC X.K C.F M H' n'->Paired (LC X.K C.F C.V M H') vs ss->P ss n'->Q vs H')->t Z H Q
end
def AI(i:Nat):DW:=λn ρ P=>match ρ[i]? with
 |some (.sh d)=>P d n
 |_=>False
def Bn(i:Nat):DW:=λn ρ P=>match ρ[i]? with
 |some (.sh d)=>P d n
 |some (.br d)=>P d n
 |some (.ow d)=>P d n
 |some (.lt _ d)=>P d n
 |_=>False
def wC(d:D):DW:=λn _ P=>P d n
section
variable {X:Cx}{a b c e:Expr}{κ zU zO:Kd}{wa wb wc:DW}{pos:Pos}
theorem getD_some{Z:L2.St}{i:Nat}{v:V}(h:(Z[i]?).getD l_=P3 v):Z[i]?=P3^P3 v:=by
 cases q:Z[i]? with
 |none=>simp_all
 |some o=>simp_all
theorem Vf{i:Nat}(h:PE X e^CG i):DE X e .sh^AI i:=by
 refine#[_,h,λC M H n ρ Z P Q R w q=>?_];unfold AI at w
 split at w
 .rename_i d hd
  let#[v,e1,h1]:=R.sl i _ hd;exact#[v,getD_some e1,q v H d n (Ext.refl _ _) R.feed h1 w]
 grind
theorem Tf{i:Nat}(h:PE X e^CG i):DE X e .tp^Bn i:=by
 refine#[_,h,λC M H n ρ Z P Q R w q=>?_];unfold Bn at w
 split at w
 .rename_i d hd
  let#[v,e1,h1]:=R.sl i _ hd;exact#[v,getD_some e1,q v H d n (Ext.refl _ _) R.feed (At.tp R.vM h1) w]
 .rename_i d hd
  let#[v,e1,h1]:=R.sl i _ hd;exact#[v,getD_some e1,q v H d n (Ext.refl _ _) R.feed h1 w]
 .rename_i d hd
  let#[a,e1,_,h2,h3]:=R.sl i _ hd;exact#[.ref a,getD_some e1,q _ H d n (Ext.refl _ _) R.feed (h3.att h2) w]
 .rename_i a d hd
  let#[e1,_,h2,h3]:=R.sl i _ hd;exact#[.ref a,getD_some e1,q _ H d n (Ext.refl _ _) R.feed (h3.att h2) w]
 .exact w.elim
theorem dv(i:Nat){x:Str}{pos:Pos}(hN:X.N[i]?=P3 x:=by rfl)(hv:Wo X.env.scope x:=by first|exact fh rfl|exact iC (fh rfl)|exact iC (iC rfl))(hd:(x==("__debug__":Str))=n_:=by decide)
  (hcd:(x==("__classdict__":Str))=n_:=by decide):DE X (.Name x pos) .sh^AI i:=Vf^LX hN hv hd hcd
theorem G8(i:Nat){x:Str}{pos:Pos}(hN:X.N[i]?=P3 x:=by rfl)(hv:Wo X.env.scope x:=by first|exact fh rfl|exact iC (fh rfl)|exact iC (iC rfl))(hd:(x==("__debug__":Str))=n_:=by decide)
  (hcd:(x==("__classdict__":Str))=n_:=by decide):DE X (.Name x pos) .tp^Bn i:=Tf^LX hN hv hd hcd
theorem FH{d:D}{v:V}(h:PE X e^tC v)(hd:∀M H,At X.K M H d v):DE X e .sh^wC d:=
 #[_,h,λC M H n ρ Z P Q R w q=>q v H d n (Ext.refl _ _) R.feed (hd M H) w]
theorem AC{i:Int}{j pos}:DE X (.Constant (.int i) j pos) .sh^wC^.int i:=FH A3 λ_ _=>rfl
theorem BE{b:Bool}{j pos}:DE X (.Constant (.bool b) j pos) .sh^wC^.bl b:=FH Zf λ_ _=>rfl
theorem Af{j pos}:DE X (.Constant .none j pos) .sh^wC .non:=FH Xh λ_ _=>rfl
theorem Ak{x:Str}{j pos}(hx:decide (x.length<=1000)=m_:=by rfl):DE X (.Constant (.str x) j pos) .sh^wC^.str x:=
 FH Xf λ_ _=>#[rfl,eJ (of_decide_eq_true hx)^by cbv]
theorem Ly{x:Str}{i:Int}{t:Tok}{pos:Pos}(hg:Gl X x)(hm:X.mg x=P3^.int i t)(hd:(x==("__debug__":Str))=n_:=by decide):DE X (.Name x pos) .sh^wC^.int i:=
 FH (U0 hg hm (v:=.int i) #[t,rfl] hd) λ_ _=>rfl
theorem DE.sh(h:DE X e κ wa)(hk:κ≠.tp:=by intro z;cases z):DE X e .sh wa:=by
 let#[t,h1,h2]:=h;exact#[t,h1,λC M H n ρ Z P Q R w q=>h2 C M H n ρ Z P Q R w λv H' d n' e f r p=>q v H' d n' e f (r.shOf R.dom hk) p]
def Er(K:Frag)(κ:Kd)(r:R2)(f:D->D->(D->Prop)->Prop):Prop:=∀(U:Ch->Prop) (M:Ch->Prop) (H:Hp) (d e:D) (x y:V) (P:D->Prop) (Q:VK),(∀a,M a->∃o,H a=P3 o)->(∀a,U a->M a)->
 AtT K U M H d x->AtT K U M H e y->f d e P->(∀v H' z,Grow H H'->VR K U M H H' κ v z->P z->Q v H')->r x y H Q
def BC(f:D->D->(D->Prop)->Prop)(wa wb:DW):DW:=λn ρ P=>wa n ρ λx n1=>wb n1 ρ λy n2=>f x y λz=>P z n2
theorem FJ{r:R2}{f:D->D->(D->Prop)->Prop}(hA:Er X.K κ r f){ta tb:TE}(ha:∀(C:Fm) (M:Ch->Prop) (H:Hp) (n:Nat) (ρ:o_ Slot) (Z:L2.St) (P:D->Nat->Prop) (Q:VK),Rel X.K C M H n ρ Z->wa n ρ P->
   (∀v H' d n',Ext C.U H H'->FeedC X.K C.F M H' n'->VR X.K C.V M H H' zU v d->P d n'->Q v H')->ta Z H Q)
  (hb:∀(C:Fm) (M:Ch->Prop) (H:Hp) (n:Nat) (ρ:o_ Slot) (Z:L2.St) (P:D->Nat->Prop) (Q:VK),Rel X.K C M H n ρ Z->wb n ρ P->
   (∀v H' d n',Ext C.U H H'->FeedC X.K C.F M H' n'->VR X.K C.V M H H' zO v d->P d n'->Q v H')->tb Z H Q)
  (C:Fm) (M:Ch->Prop) (H:Hp) (n:Nat) (ρ:o_ Slot) (Z:L2.St) (P:D->Nat->Prop) (Q:VK) (R:Rel X.K C M H n ρ Z) (w:BC f wa wb n ρ P)
  (q:∀v H' d n',Ext C.U H H'->FeedC X.K C.F M H' n'->VR X.K C.V M H H' κ v d->P d n'->Q v H'):EC r ta tb Z H Q:=by
 refine ha C M H n ρ Z _ _ R w λx H1 d n1 e1 f1 r1 w1=>?_;have R1:=R.step e1 f1;refine hb C M H1 n1 ρ Z _ _ R1 w1 λy H2 e n2 e2 f2 r2 w2=>?_;have R2':=R1.step e2 f2;exact hA _ M H2 d e x y _ _ R2'.dom R2'.vM ((r1.tpOf R.dom R.vM).pres (R1.pres e2) e2 R.uV) (r2.tpOf R1.dom R1.vM) w2 λv H3 z g vr p=>q v H3 z n2 ((e1.trans e2).trans g.ext) (f2.grow g) (VR.back (e1.trans e2) vr) p
theorem As{op:Operator}{r:R2}{f:D->D->(D->Prop)->Prop}(ho:OpR X (binaryOp op) r)(hA:Er X.K κ r f)(ha:DE X a zU wa)(hb:DE X b zO wb):DE X (.BinOp a op b pos) κ^BC f wa wb:=by
 let#[ta,ha1,ha2]:=ha;let#[tb,hb1,hb2]:=hb;exact#[_,B0 ho ha1 hb1,λC M H n ρ Z P Q R w q=>FJ hA ha2 hb2 C M H n ρ Z P Q R w q]
theorem Z9{r:R2}{f:D->D->(D->Prop)->Prop}(ho:IxR X r)(hA:Er X.K κ r f)(ha:DE X a zU wa)(hb:DE X b zO wb)(hs:MD b:=by intro _ _;rfl):DE X (.Subscript a b pos) κ^BC f wa wb:=by
 let#[ta,ha1,ha2]:=ha;let#[tb,hb1,hb2]:=hb;exact#[_,En ho ha1 hb1 hs,λC M H n ρ Z P Q R w q=>FJ hA ha2 hb2 C M H n ρ Z P Q R w q]
theorem BN{op:CmpOp}{r:R2}{f:D->D->(D->Prop)->Prop}(ho:OpR X (compareOp op) r)(hA:Er X.K .sh r f)(ha:DE X a zU wa)(hb:DE X b zO wb)(hm:behindInMarks op b=n_):DE X (.Compare a [op] [b] pos) .sh^BC f wa wb:=by
 let#[ta,ha1,ha2]:=ha;let#[tb,hb1,hb2]:=hb;exact#[_,U3 ho ha1 hb1 hm,λC M H n ρ Z P Q R w q=>FJ hA ha2 hb2 C M H n ρ Z P Q R w q]
def A8(w:DW):GJ:=λn ρ P=>w n ρ λd n1=>match d with
 |.bl b=>P b n1
 |_=>False
theorem GS{U:Ch->Prop}{K:Frag}{M:Ch->Prop}{H H':Hp}{v:V}{b:Bool}(h:VR K U M H H' κ v^.bl b):v=.bl b:=by
 cases κ with
 |sh=>exact h
 |tp=>exact h
 |fr=>let#[a,_,_,t]:=h;exact(t).elim
theorem YB{op:CmpOp}{r:R2}{f:D->D->(D->Prop)->Prop}(ho:OpR X (compareOp op) r)(hA:Er X.K .sh r f)(ha:DE X a zU wa)(hb:DE X b zO wb)(hm:behindInMarks op b=n_):DT X (.Compare a [op] [b] pos)^A8^BC f wa wb:=by
 let#[ta,ha1,ha2]:=ha;let#[tb,hb1,hb2]:=hb;refine#[_,GX ho ha1 hb1 hm,λC M H n ρ Z P Q R w q=>?_];refine FJ hA ha2 hb2 C M H n ρ Z _ _ R w λv H' d n' e f r p=>?_;cases d with
 |bl b=>exact#[b,GS r,q b H' n' e f p]
 |_=>exact p.elim
theorem AZ(h:DE X e κ wa)(he:∀whole,isTrue e X.env whole=(do let v ←whole;standAt e.pos;holding [v]^truthy v):=by intro _;rfl):DT X e^A8 wa:=by
 let#[t,h1,h2]:=h;refine#[_,XZ h1 he,λC M H n ρ Z P Q R w q=>?_];refine h2 C M H n ρ Z _ _ R w λv H' d n' e f r p=>?_;cases d with
 |bl b=>exact#[b,GS r,q b H' n' e f p]
 |_=>exact p.elim
def Rf(f g:D->D->(D->Prop)->Prop)(wa wb wc:DW):DW:=λn ρ P=>wa n ρ λx n1=>wb n1 ρ λy n2=>f x y λz=>match z with
 |.bl m_=>wc n2 ρ λu n3=>g y u λr=>P r n3
 |.bl n_=>P (.bl n_) n2
 |_=>False
theorem To{r r':R2}{f g:D->D->(D->Prop)->Prop}(hA:Er X.K .sh r f)(hB:Er X.K .sh r' g){ta tb tc:TE}{zH:Kd}(ha:∀(C:Fm) (M:Ch->Prop) (H:Hp) (n:Nat) (ρ:o_ Slot) (Z:L2.St) (P:D->Nat->Prop) (Q:VK),Rel X.K C M H n ρ Z->wa n ρ P->
   (∀v H' d n',Ext C.U H H'->FeedC X.K C.F M H' n'->VR X.K C.V M H H' zU v d->P d n'->Q v H')->ta Z H Q)
  (hb:∀(C:Fm) (M:Ch->Prop) (H:Hp) (n:Nat) (ρ:o_ Slot) (Z:L2.St) (P:D->Nat->Prop) (Q:VK),Rel X.K C M H n ρ Z->wb n ρ P->
   (∀v H' d n',Ext C.U H H'->FeedC X.K C.F M H' n'->VR X.K C.V M H H' zO v d->P d n'->Q v H')->tb Z H Q)
  (hc:∀(C:Fm) (M:Ch->Prop) (H:Hp) (n:Nat) (ρ:o_ Slot) (Z:L2.St) (P:D->Nat->Prop) (Q:VK),Rel X.K C M H n ρ Z->wc n ρ P->
   (∀v H' d n',Ext C.U H H'->FeedC X.K C.F M H' n'->VR X.K C.V M H H' zH v d->P d n'->Q v H')->tc Z H Q)
  (C:Fm) (M:Ch->Prop) (H:Hp) (n:Nat) (ρ:o_ Slot) (Z:L2.St) (P:D->Nat->Prop) (Q:VK) (R:Rel X.K C M H n ρ Z) (w:Rf f g wa wb wc n ρ P)
  (q:∀v H' d n',Ext C.U H H'->FeedC X.K C.F M H' n'->VR X.K C.V M H H' .sh v d->P d n'->Q v H'):Ru r r' ta tb tc Z H Q:=by
 refine ha C M H n ρ Z _ _ R w λx H1 d n1 e1 f1 r1 w1=>?_;have R1:=R.step e1 f1;refine hb C M H1 n1 ρ Z _ _ R1 w1 λy H2 e n2 e2 f2 r2 w2=>?_;have R2':=R1.step e2 f2;have ty:AtT X.K C.V M H2 e y:=r2.tpOf R1.dom R1.vM;refine hA C.V M H2 d e x y _ _ R2'.dom R2'.vM ((r1.tpOf R.dom R.vM).pres (R1.pres e2) e2 R.uV) ty w2 λv H3 z gr vr p=>?_;have R3:=R2'.step gr.ext^f2.grow gr;cases z with
 | bl k=>
  refine#[k,vr,?_];cases k with
  |false=>exact q _ H3 (.bl n_) n2 ((e1.trans e2).trans gr.ext) (f2.grow gr) (show VR X.K C.V M H H3 .sh (.bl n_)^.bl n_ from rfl) p
  |true=>
   show tc Z H3 _;refine hc C M H3 n2 ρ Z _ _ R3 p λu H4 d4 n4 e4 f4 r4 w4=>?_;have R4:=R3.step e4 f4;refine hB C.V M H4 e d4 y u _ _ R4.dom R4.vM ((ty.pres gr.pres (gr.ext (U:=C.U)) R.uV).pres (R3.pres e4) e4 R.uV) (r4.tpOf R3.dom R3.vM) w4 λv5 H5 z5 g5 vr5 p5=>?_;exact q v5 H5 z5 n4 ((((e1.trans e2).trans gr.ext).trans e4).trans g5.ext) (f4.grow g5) vr5 p5
 |_=>exact p.elim
theorem TX{op op':CmpOp}{r r':R2}{f g:D->D->(D->Prop)->Prop}{zH:Kd}(ho:OpR X (compareOp op) r)(hA:Er X.K .sh r f)(ho':OpR X (compareOp op') r')(hB:Er X.K .sh r' g)(ha:DE X a zU wa)(hb:DE X b zO wb)(hc:DE X c zH wc)
  (hm:lastMarks [op,op'] [b,c]=n_:=by with_unfolding_all rfl):DT X (.Compare a [op,op'] [b,c] pos)^A8^Rf f g wa wb wc:=by
 let#[ta,ha1,ha2]:=ha;let#[tb,hb1,hb2]:=hb;let#[tc,hc1,hc2]:=hc;refine#[_,SM ho ho' ha1 hb1 hc1 hm,λC M H n ρ Z P Q R w q=>?_];refine To hA hB ha2 hb2 hc2 C M H n ρ Z _ _ R w λv H' d n' e f r p=>?_;cases d with
 |bl b=>exact#[b,r,q b H' n' e f p]
 |_=>exact p.elim
def V8(u v:GJ):GJ:=λn ρ P=>u n ρ λc n1=>if c=m_ then v n1 ρ P else P n_ n1
def W4(u v:GJ):GJ:=λn ρ P=>u n ρ λc n1=>if c=m_ then P m_ n1 else v n1 ρ P
def KL(u:GJ):GJ:=λn ρ P=>u n ρ λc n1=>P (!c) n1
variable {wA wB:GJ}{rest:o_ Expr}
theorem Gv(h:DT X a wA):DTW X (.BoolOp .And [a] pos) wA:=by
 let#[t,h1,h2]:=h;exact#[t,O3 h1,h2]
theorem BV(h:DT X a wA):DTW X (.BoolOp .Or [a] pos) wA:=by
 let#[t,h1,h2]:=h;exact#[t,XY h1,h2]
theorem Jj(ha:DT X a wA)(hb:DTW X (.BoolOp .And (b::rest) pos) wB):DTW X (.BoolOp .And (a::b::rest) pos)^V8 wA wB:=by
 let#[t,h1,h2]:=ha;let#[u,g1,g2]:=hb;refine#[_,SI h1 g1,λC M H n ρ Z P Q R w q=>?_];refine h2 C M H n ρ Z _ _ R w λc H1 n1 e1 f1 p=>?_;cases c with
 |false=>exact q _ H1 n1 e1 f1 p
 |true=>exact g2 C M H1 n1 ρ Z P Q (R.step e1 f1) p λb H2 n2 e2 f2 p2=>q b H2 n2 (e1.trans e2) f2 p2
theorem Bk(ha:DT X a wA)(hb:DTW X (.BoolOp .Or (b::rest) pos) wB):DTW X (.BoolOp .Or (a::b::rest) pos)^W4 wA wB:=by
 let#[t,h1,h2]:=ha;let#[u,g1,g2]:=hb;refine#[_,Zb h1 g1,λC M H n ρ Z P Q R w q=>?_];refine h2 C M H n ρ Z _ _ R w λc H1 n1 e1 f1 p=>?_;cases c with
 |true=>exact q _ H1 n1 e1 f1 p
 |false=>exact g2 C M H1 n1 ρ Z P Q (R.step e1 f1) p λb H2 n2 e2 f2 p2=>q b H2 n2 (e1.trans e2) f2 p2
theorem DTW.dt(h:DTW X e wA):DT X e wA:=by
 let#[t,h1,h2]:=h;exact#[t,h1.pt,h2]
theorem Aj(ha:DT X a wA):DT X (.UnaryOp .Not a pos)^KL wA:=by
 let#[t,h1,h2]:=ha;exact#[_,Xa h1,λC M H n ρ Z P Q R w q=>h2 C M H n ρ Z _ _ R w λc H1 n1 e1 f1 p=>q _ H1 n1 e1 f1 p]
def bE(u v:DW):DW:=λn ρ P=>u n ρ λc n1=>match c with
 |.bl m_=>v n1 ρ P
 |.bl n_=>P (.bl n_) n1
 |_=>False
def cY(u v:DW):DW:=λn ρ P=>u n ρ λc n1=>match c with
 |.bl m_=>P (.bl m_) n1
 |.bl n_=>v n1 ρ P
 |_=>False
def bA(u:DW):DW:=λn ρ P=>u n ρ λc n1=>match c with
 |.bl b=>P (.bl (!b)) n1
 |_=>False
theorem CF{op}(h:DE X a κ wa):DE X (.BoolOp op [a] pos) κ wa:=by
 assumption
theorem Bs(ha:DE X a zU wa)(hb:DE X (.BoolOp .And (b::rest) pos) .sh wb):DE X (.BoolOp .And (a::b::rest) pos) .sh^bE wa wb:=by
 let#[t,h1,h2]:=ha;let#[u,g1,g2]:=hb;refine#[_,Xi h1 g1,λC M H n ρ Z P Q R w q=>?_];refine h2 C M H n ρ Z _ _ R w λc H1 d n1 e1 f1 r1 p=>?_;cases d with
 | bl k=>
  refine#[k,GS r1,?_];cases k with
  |false=>exact q _ H1 _ n1 e1 f1 (show VR _ _ M H H1 _ _^.bl _ from rfl) p
  |true=>
   exact g2 C M H1 n1 ρ Z P Q (R.step e1 f1) p λv H2 d n2 e2 f2 r2 p2=>q v H2 d n2 (e1.trans e2) f2 r2 p2
 |_=>exact p.elim
theorem Z8(ha:DE X a zU wa)(hb:DE X (.BoolOp .Or (b::rest) pos) .sh wb):DE X (.BoolOp .Or (a::b::rest) pos) .sh^cY wa wb:=by
 let#[t,h1,h2]:=ha;let#[u,g1,g2]:=hb;refine#[_,Ze h1 g1,λC M H n ρ Z P Q R w q=>?_];refine h2 C M H n ρ Z _ _ R w λc H1 d n1 e1 f1 r1 p=>?_;cases d with
 | bl k=>
  refine#[k,GS r1,?_];cases k with
  |true=>exact q _ H1 _ n1 e1 f1 (show VR _ _ M H H1 _ _^.bl _ from rfl) p
  |false=>
   exact g2 C M H1 n1 ρ Z P Q (R.step e1 f1) p λv H2 d n2 e2 f2 r2 p2=>q v H2 d n2 (e1.trans e2) f2 r2 p2
 |_=>exact p.elim
theorem Te(ha:DE X a zU wa):DE X (.UnaryOp .Not a pos) .sh^bA wa:=by
 let#[t,h1,h2]:=ha;refine#[_,Xg h1,λC M H n ρ Z P Q R w q=>?_];refine h2 C M H n ρ Z _ _ R w λc H1 d n1 e1 f1 r1 p=>?_;cases d with
 |bl k=>exact#[k,GS r1,q _ H1 _ n1 e1 f1 (show VR _ _ M H H1 _ _^.bl _ from rfl) p]
 |_=>exact p.elim
def cZ(t:GJ)(u v:DW):DW:=λn ρ P=>t n ρ λc n1=>if c=m_ then u n1 ρ P else v n1 ρ P
theorem FG(hc:DT X c wA)(ha:DE X a κ wa)(hb:DE X b κ wb):DE X (.IfExp c a b pos) κ^cZ wA wa wb:=by
 let#[t,h1,h2]:=hc;let#[u,g1,g2]:=ha;let#[u',k1,k2]:=hb;refine#[_,Mf h1 g1 k1,λC M H n ρ Z P Q R w q=>?_];refine h2 C M H n ρ Z _ _ R w λc H1 n1 e1 f1 p=>?_;cases c with
 |true=>exact g2 C M H1 n1 ρ Z P Q (R.step e1 f1) p λv H2 d n2 e2 f2 r2 p2=>q v H2 d n2 (e1.trans e2) f2 (VR.back e1 r2) p2
 |false=>exact k2 C M H1 n1 ρ Z P Q (R.step e1 f1) p λv H2 d n2 e2 f2 r2 p2=>q v H2 d n2 (e1.trans e2) f2 (VR.back e1 r2) p2
def BZ:Dq:=λn _ P=>P [] n
def Ao(w:DW)(ws:Dq):Dq:=λn ρ P=>w n ρ λd n1=>ws n1 ρ λds n2=>P (d::ds) n2
variable {es:o_ Expr}{ws:Dq}
theorem Ab:UU X [] BZ:=#[_,De,λC M H n ρ Z P Q R w q=>q [] H [] n (Ext.refl _ _) R.feed .nil w]
theorem AJ:Yr X [] BZ:=#[_,De,λC M H n ρ Z P Q R w q=>q [] H [] n (Ext.refl _ _) R.feed rfl w]
theorem AR(ha:DE X e κ wa)(hr:UU X es ws)(hs:starEach (e::es) X.env=(n_,eval e X.env)::starEach es X.env:=by rfl):UU X (e::es)^Ao wa ws:=by
 let#[t,h1,h2]:=ha;let#[u,g1,g2]:=hr;refine#[_,B_ h1 g1 hs,λC M H n ρ Z P Q R w q=>?_];refine h2 C M H n ρ Z _ _ R w λv H1 d n1 e1 f1 r1 p=>?_;have R1:=R.step e1 f1;exact g2 C M H1 n1 ρ Z _ _ R1 p λvs H2 ds n2 e2 f2 r2 p2=>q _ H2 _ n2 (e1.trans e2) f2 (.cons ((r1.tpOf R.dom R.vM).pres (R1.pres e2) e2 R.uV) r2) p2
theorem AF(ha:DE X e κ wa)(hr:Yr X es ws)(hk:κ≠.tp:=by intro z;cases z)(hs:starEach (e::es) X.env=(n_,eval e X.env)::starEach es X.env:=by rfl):Yr X (e::es)^Ao wa ws:=by
 let#[t,h1,h2]:=ha;let#[u,g1,g2]:=hr;refine#[_,B_ h1 g1 hs,λC M H n ρ Z P Q R w q=>?_];refine h2 C M H n ρ Z _ _ R w λv H1 d n1 e1 f1 r1 p=>?_;have R1:=R.step e1 f1;exact g2 C M H1 n1 ρ Z _ _ R1 p λvs H2 ds n2 e2 f2 r2 p2=>q _ H2 (d::ds) n2 (e1.trans e2) f2 #[v,vs,rfl,(r1.shOf R.dom hk).pres^R1.pres e2,r2] p2
def MG(ws:Dq):DW:=λn ρ P=>ws n ρ λds n1=>ds.length<=sizeLine/\P (.tup ds) n1
def H_(ws:Dq):DW:=λn ρ P=>ws n ρ λds n1=>ds.length<=sizeLine/\P (.lst ds) n1
theorem GA{M:Ch->Prop}{H:Hp}{p:Ch}{o:HO}(h:H p=l_):Pres M H (λb=>M b\/b=p)^BF H p o:=#[λb u e _=>by rw[AO^Aq e h];exact e,λb z=>z.elim .inl λz=>.inr^by grind,λb vs e=>by rw[AO^Aq e h];exact e]
theorem A2{H:Hp}{p:Ch}{o:HO}(h:H p=l_):Grow H^BF H p o:=.inr #[p,o,h,rfl]
theorem Ap{x1}(h:Yr X es ws):DE X (.Tuple es x1 pos) .sh^MG ws:=by
 let#[t,h1,h2]:=h;refine#[_,Xd h1,λC M H n ρ Z P Q R w q=>?_];refine h2 C M H n ρ Z _ _ R w λvs H1 ds n1 e1 f1 r1 p=>?_;refine#[by rw[r1.length];exact p.1,λa ha=>?_];have g:Grow H1^BF H1 a^.tup vs:=A2 ha;refine q _ _ (.tup ds) n1 (e1.trans g.ext) (f1.grow g) #[a,vs,rfl,AW,r1.pres g.pres] p.2
theorem A4(h:Yr X es ws):DE X (.List es pos) .fr^H_ ws:=by
 let#[t,h1,h2]:=h;refine#[_,N3 h1,λC M H n ρ Z P Q R w q=>?_];refine h2 C M H n ρ Z _ _ R w λvs H1 ds n1 e1 f1 r1 p=>?_;refine#[by rw[r1.length];exact p.1,λa ha=>?_];have g:Grow H1^BF H1 a^.lst vs:=A2 ha;exact q _ _ (.lst ds) n1 (e1.trans g.ext) (f1.grow g) (VR.back e1 #[a,rfl,ha,vs,AW,r1.pres^GA ha]) p.2
def DD(K:Frag)(κ:Kd)(r:o_ V->Hp->VK->Prop)(f:o_ D->(D->Prop)->Prop):Prop:=∀(U:Ch->Prop) (M:Ch->Prop) (H:Hp) (ds:o_ D) (vs:o_ V) (P:D->Prop) (Q:VK),(∀a,M a->∃o,H a=P3 o)->(∀a,U a->M a)->
 Paired (λv d=>AtT K U M H d v) vs ds->f ds P->(∀v H' z,Grow H H'->VR K U M H H' κ v z->P z->Q v H')->r vs H Q
def RP(f:o_ D->(D->Prop)->Prop)(ws:Dq):DW:=λn ρ P=>ws n ρ λds n1=>f ds λz=>P z n1
theorem Wh{r:o_ V->Hp->VK->Prop}{f:o_ D->(D->Prop)->Prop}{t:TA}(hA:DD X.K κ r f)(h2:∀(C:Fm) (M:Ch->Prop) (H:Hp) (n:Nat) (ρ:o_ Slot) (Z:L2.St) (P:o_ D->Nat->Prop) (Q:o_ V->Hp->Prop),Rel X.K C M H n ρ Z->ws n ρ P->
   (∀vs H' ds n',Ext C.U H H'->FeedC X.K C.F M H' n'->Paired (λv d=>AtT X.K C.V M H' d v) vs ds->P ds n'->Q vs H')->t Z H Q)
  (C:Fm) (M:Ch->Prop) (H:Hp) (n:Nat) (ρ:o_ Slot) (Z:L2.St) (P:D->Nat->Prop) (Q:VK) (R:Rel X.K C M H n ρ Z) (w:RP f ws n ρ P)
  (q:∀v H' d n',Ext C.U H H'->FeedC X.K C.F M H' n'->VR X.K C.V M H H' κ v d->P d n'->Q v H'):ao r t Z H Q:=by
 refine h2 C M H n ρ Z _ _ R w λvs H1 ds n1 e1 f1 r1 p=>?_;have R1:=R.step e1 f1;exact hA _ M H1 ds vs _ _ R1.dom R1.vM r1 p λv H2 z g vr pz=>q v H2 z n1 (e1.trans g.ext) (f1.grow g) (VR.back e1 vr) pz
theorem Ar{x:Str}{id:String}{p:Pos}{r:o_ V->Hp->VK->Prop}{f:o_ D->(D->Prop)->Prop}(hc:Cq X (.builtin id) r)(hA:DD X.K κ r f)(hg:Gl X x)(hm:X.mg x=l_)(hv:bootBuiltins x=P3^.builtin id)(ha:UU X (e::es) ws)
  (hn:x ≠ "__name__":=by decide) (hdb:(x==("__debug__":Str))=n_:=by decide)
  (he:starEach (e::es) X.env=(n_,eval e X.env)::starEach es X.env:=by rfl) (hpl:(backTo pos^starEach es X.env).any (·.1)=n_:=by rfl):DE X (.Call (.Name x p) (e::es) [] pos) κ^RP f ws:=by
 let#[t,h1,h2]:=ha;exact#[_,Ga hc hg hm hv h1 hn hdb he hpl,λC M H n ρ Z P Q R w q=>Wh hA h2 C M H n ρ Z P Q R w q]
theorem Qz{x:Str}{T:String}{p:Pos}{r:o_ V->Hp->VK->Prop}{f:o_ D->(D->Prop)->Prop}(hc:Cq X (.type T) r)(hA:DD X.K κ r f)(hg:Gl X x)(hm:X.mg x=l_)(hv:bootBuiltins x=P3^.type T)(ha:UU X (e::es) ws)
  (hn:x ≠ "__name__":=by decide) (hdb:(x==("__debug__":Str))=n_:=by decide)
  (he:starEach (e::es) X.env=(n_,eval e X.env)::starEach es X.env:=by rfl) (hpl:(backTo pos^starEach es X.env).any (·.1)=n_:=by rfl):DE X (.Call (.Name x p) (e::es) [] pos) κ^RP f ws:=by
 let#[t,h1,h2]:=ha;exact#[_,Ke hc hg hm hv h1 hn hdb he hpl,λC M H n ρ Z P Q R w q=>Wh hA h2 C M H n ρ Z P Q R w q]
end
end Dp
namespace L2
def cT(z:Str):It:=#[λi _=>i<z.cps.size,λi H x H'=>H'=H/\∃c,z.cps[i]?=P3 c/\x=.str #[#[ c]],λi _=>z.cps.size<=i]
theorem MM{P:eK}{w:eU}{K:Frag}{tg:eO}(it:Ch)(z:Str)(t:Tok)(ty:String)(hty:ty="str_ascii_iterator"\/ty="str_iterator")
  (W:∀A':eh,A'.handled=l_->Walks P w A' it [it] [it] z.cps.size (SignAt z) λi h=>h.IsStrIter it ty z t i):Turn P w K tg (cT z) [it] it (λi h=>h.IsStrIter it ty z t i) where
 mem:=by simp
 obj:=λi h st b hb=>by
  have e:b=it:=by simpa using hb
  subst e;let#[o,e,c,d]:=st;exact#[o,e,λv z=>by rw[d]at z;cases z]
 keep:=λi h h' st k=>let #[o,ho,r]:=st;#[o,k it (by simp) o ho,r]
 item:=by
  intro X hP hw hK hc i zG s Z H E I hf st hg;subst hP hw hK;let#[f0,f1,f2,f3,f4,f5]:=hf it (by simp);refine(W X.A^I.ok.hd hc).item i s _ _ hg st λv h' tk hv st' kk=>?_;let#[c,u,hcu,rfl]:=hv;have I1:Inv X zG Z H {s with heap:=h',toks:=tk}:=I.turned (λb o hb e=>kk b o (by simpa using hb) e) f0 f1 f3 f4 f5;let#[o,e,cc,d]:=id st';exact#[_,rfl,Kr (s:={s with heap:=h',toks:=tk}) e cc d (by rcases hty with rfl|rfl <;>decide) #[.str #[#[ c]],H,I1,#[_,rfl],#[rfl,c,hcu,rfl],st',λb hb=>(hf b hb).1]]
 done:=by
  intro X hP hw hK hc i zG s Z H E I hf st hg;subst hP hw hK;let#[f0,f1,f2,f3,f4,f5]:=hf it^by simp
  have hx:z.cps[i]?=l_:=by
   have:z.cps.size<=i:=hg
   simp[this]
  rcases hty with rfl|rfl
  .exact wpAny_pyNext_ascii_end (I.ok.hd hc) st hx λh' eb=>#[rfl,I.turned (t':=s.toks) (λb o hb e=>eb b o hb e) f0 f1 f3 f4 f5]
  .exact wpAny_pyNext_wide_end (I.ok.hd hc) st hx λh' eb=>#[rfl,I.turned (t':=s.toks) (λb o hb e=>eb b o hb e) f0 f1 f3 f4 f5]
 self:=λA i s Q E st h=>by
  rcases hty with rfl|rfl
  .exact wpAny_pyIter_striter_ascii st h
  .exact wpAny_pyIter_striter_wide st h
section
variable {X:Cx}{tg:Expr}
def bp(K:Frag)(tl:TE):TI:=λZ H R=>tl Z H λx H1=>
 (∃a,x=.ref a/\(∃xs,SqL K H1 a xs)/\R (cU K a) H1)\/(∃a,x=.ref a/\(∃xs,SqT K H1 a xs)/\R (Yn K a) H1)\/∃z,x=.str z/\R (cT z) H1
theorem N1{l:eO}{tl:TE}(hl:PE X l tl):PI X tg l^bp X.K tl:=by
 intro zG s Z H R I h;refine thn (hl zG s Z H _ I h) λv s1 zz=>?_;let#[x,H1,I1,r1,q1]:=zz
 have hne:∀b,b∈[s1.heap.objs.size]->Fj X zG H1 b:=λb hb=>by
  have e:b=s1.heap.objs.size:=by simpa using hb
  subst e;exact I1.fpOk (Re _)^I1.hok.fresh^Re _
 rcases q1 with⟨a,e,⟨xs,hq⟩,q⟩|⟨a,e,⟨xs,hq⟩,q⟩|⟨z,e,q⟩
 .subst e
  cases r1;let#[its,rv,p,hz]:=I1.list hq;refine fq p.isList ?_;exact#[s1.heap.objs.size,[s1.heap.objs.size],_,_,H1,rfl,I1.kept (t':=s1.toks) λb o e=>No _ e,P6 a _,#[_,T0 _ rfl,rfl,rfl],hne,q]
 .subst e
  cases r1;let#[its,rv,p,hz]:=I1.tuple hq;refine fg (show s1.heap.IsTuple a its.toArray from p) ?_;exact#[s1.heap.objs.size,[s1.heap.objs.size],_,_,H1,rfl,I1.kept (t':=s1.toks) λb o e=>No _ e,Ik a _,#[_,T0 _ rfl,rfl,rfl],hne,q]
 .subst e
  let#[t,rfl]:=r1;cases ha:z.cps.all (·<128)
  .refine wpAny_pyIter_wide ha ?_
   exact#[s1.heap.objs.size,[s1.heap.objs.size],_,_,H1,rfl,I1.kept (t':=s1.toks) λb o e=>No _ e,MM _ z t "str_iterator" (.inr rfl) λA' hA=>Walks.strWide hA _ z t,#[_,T0 _ rfl,rfl,rfl],hne,q]
  .refine wpAny_pyIter_ascii ha ?_
   exact#[s1.heap.objs.size,[s1.heap.objs.size],_,_,H1,rfl,I1.kept (t':=s1.toks) λb o e=>No _ e,MM _ z t "str_ascii_iterator" (.inl rfl) λA' hA=>Walks.strAscii hA _ z t,#[_,T0 _ rfl,rfl,rfl],hne,q]
end
section
variable {X:Cx}
theorem J1(bs:o_ Bool):((eZ bs.length).all λi=>(bs[i]?).getD m_)=bs.all id:=by
 induction bs with
 |nil=>rfl
 |cons b r ih=>
  rw[dg,List.range_succ_eq_map,jn,List.all_map]
  congr 1
theorem Co(hc:X.calm=m_):Cq X (.builtin "all") (λxs H Q=>∃(p:Ch) (bs:o_ Bool),xs=[.ref p]/\SqL X.K H p^bs.map V.bl/\Q (.bl^bs.all id) H):=by
 intro zG s Z H xs us Q I r h;let#[p,bs,rfl,hq,q]:=h;let#[u,rfl,rx]:=vals1 r;cases rx;let#[its,r',pl,hz]:=I.list hq;have hlen:=r'.length;have hl:s.heap.IsList p its.toArray:=pl.isList;have hlt:p<s.heap.objs.size:=by let#[_,e,_]:=id hl;exact Uf e
 refine call_all_walk^fq hl ?_
 refine#[s.heap.objs.size,[s.heap.objs.size,p],[s.heap.objs.size],its.toArray.size,_,_,λi=>(bs[i]?).getD m_,rfl,Walks.list (A:=X.A.in1) (I.ok.hd hc) _ p (eB hlt) its.toArray,
  #[#[_,T0 _ rfl,rfl,rfl],hl.push _],λi v s' Q' E' hP hQ=>?_,λh' tk hk=>?_]
 .have hv:its[i]?=P3 v:=by simpa using hP
  have hb:∃b,bs[i]?=P3 b:=by
   have hi:i<its.length:=(de.mp hv).1;rw[Ev]at hlen;exact#[bs[i]'(by lk),Op^by lk]
  let#[b,eb]:=hb;let#[u,eu,ru]:=r'.get (i:=i) (x:=.bl b) (by rw[di,eb];rfl);rw[hv]at eu;cases eu;cases ru;simp only[eb,Option.getD_some]at hQ;exact fo hQ
 .have e:((eZ its.toArray.size).all λi=>(bs[i]?).getD m_)=bs.all id:=by
   rw[dn,←hlen,Ev];exact J1 bs
  rw[e];exact#[.bl _,H,I.kept (t':=tk) λb x e=>hk b x (λhm=>by rw[On.mp hm]at e;exact fC _^Uf e)^No _ e,rfl,q]
theorem NT:Cq X (.builtin "isinstance") (λxs H Q=>∃x T t b,xs=[x,.ty T]/\GI X.K H x t/\PySem.W.kitOne X.K t^.type T=P3 b/\Q (.bl b) H):=by
 intro zG s Z H xs us Q I r h;let#[x,T,t,b,rfl,ty,e,q]:=h;let#[u,w',rfl,rx,rt]:=vals2 r;cases rt;exact Ql I rx ty e λtk=>#[.bl b,H,I.tok _,rfl,q]
theorem QM:OpR X (compareOp .LtE) (λx y H Q=>∃i j,x=.str i/\y=.str j/\Q (.bl (!(j.cps.toList<i.cps.toList))) H):=by
 intro zG s Z H x y v u Q I rx ry h;let#[i,j,rfl,rfl,q]:=h;let#[t,rfl]:=rx;let#[t',rfl]:=ry;exact PySem.P.le_str #[.bl _,H,I,rfl,q]
theorem Iq{ys:o_ Str}:∀{us:o_ Db},Vals (ys.map V.str) us->StrsAre us ys:=by
 induction ys with
 |nil=>intro us r;cases r;exact .nil
 | cons n ns ih=>
  intro us r;cases r with
  |cons r1 r2=>
   let#[t,e]:=r1;subst e;exact .cons n t^ih r2
theorem VE:Yl X "str.join" (λx xs H Q=>∃(z:Str) (p:Ch) (ys:o_ Str),x=.str z/\xs=[.ref p]/\SqL X.K H p^ys.map V.str/\(ys.map (·.length)).sum+ys.length*z.length<=16777216/\Q (.str^Txt.join z ys) H):=by
 intro zG s Z H x xs v us Q I rx rv h;let#[z,p,ys,rfl,rfl,hq,hz,q]:=h;let#[t,rfl]:=rx;let#[u,rfl,ru]:=vals1 rv;cases ru;let#[its,r',pl,_]:=I.list hq;exact join_list pl.isList (Iq r') hz λt' k=>#[.str _,H,I.tok _,#[_,rfl],q]
theorem XN:SlR X (λx lo hi H Q=>∃z,x=.str z/\z.length<=sizeLine/\Q (.str^Txt.slice z lo hi) H):=by
 intro zG s Z H x v vl vu lo hi sl Q I rx hs pl pu h;let#[z,rfl,hz,q]:=h;let#[t,rfl]:=rx;refine#["str",_,F.slot_str_getitem.lookup,iu _ _ _,?_];have fin:∀t' k,EP X zG Z Q (.str _ t') {s with toks:=k}:=λt' k=>#[.str _,H,I.tok _,#[_,rfl],q];cases pl with
 |none=>
  cases pu with
  |none=>exact iA (l:=l_) (u:=l_) (st:=l_) hs rfl (jN #[eJ (Txt.slice_le z _ _) hz,λt' k=>fin t' k])
  |int j tj=>exact iA (l:=l_) (u:=P3 (j,tj)) (st:=l_) hs rfl (jN #[eJ (Txt.slice_le z _ _) hz,λt' k=>fin t' k])
 |int i ti=>
  cases pu with
  |none=>exact iA (l:=P3 (i,ti)) (u:=l_) (st:=l_) hs rfl (jN #[eJ (Txt.slice_le z _ _) hz,λt' k=>fin t' k])
  |int j tj=>exact iA (l:=P3 (i,ti)) (u:=P3 (j,tj)) (st:=l_) hs rfl (jN #[eJ (Txt.slice_le z _ _) hz,λt' k=>fin t' k])
theorem QK(hu:X.A.units<cLine):OpR X (compareOp .NotEq) (λx y H Q=>∃a b xs,x=.ref a/\y=.ref b/\SqL X.K H a xs/\SqL X.K H b []/\Q (.bl (!xs.isEmpty)) H):=by
 intro zG s Z H x y v u Q I rx ry h;let#[a,b,xs,rfl,rfl,ha,hb,q]:=h;cases rx;cases ry;let#[its,r1,p1,_]:=I.list ha;let#[its2,r2,p2,_]:=I.list hb;cases r2;cases r1 with
 |nil=>exact SeqAt.RcNeAt.lists (e:=λ_=>m_) p1.isList p2.isList rfl hu (λj h1 h2=>absurd h1^by simp) _ _ _ _ #[.bl _,H,I,rfl,q]
 |cons r1 r2=>exact SeqAt.RcNeAt.lists_lengths p1.isList p2.isList (by simp) hu _ _ _ _ #[.bl _,H,I,rfl,q]
end
end L2
namespace Dp
open L2
def aW(K:Frag)(F:p_ (Ch×Ch))(U V' M:Ch->Prop)(H:Hp)(n:Nat)(ss:o_ Slot)(vs:o_ V):Prop:=
 (∀a,M a->∃o,H a=P3 o)/\(∀f,F=P3 f->U f.1)/\(∀a,U a->V' a)/\(∀a,V' a->M a)/\FeedC K F M H n/\Paired (LC K F V' M H) vs ss
abbrev W2:=o_ Slot->Nat->(D->Nat->Prop)->Prop
def UP(K:Frag)(κ:Kd)(W:W2)(np:Nat):Sp:=λvs H Q _=>vs.length=np/\∃(F:p_ (Ch×Ch)) (U V' M:Ch->Prop) (n:Nat) (ss:o_ Slot) (P:D->Nat->Prop),aW K F U V' M H n ss vs/\W ss n P /\
 ∀v H' d n',Ext U H H'->FeedC K F M H' n'->VR K V' M H H' κ v d->P d n'->Q v H'
def AK(w:DW):Nat->o_ Slot->(Slot->Nat->Prop)->Prop:=λn ρ P=>w n ρ λd n1=>P (.sh d) n1
def ER(w:DW):Nat->o_ Slot->(Slot->Nat->Prop)->Prop:=λn ρ P=>w n ρ λd n1=>P (.br d) n1
def He(i:Nat):Nat->o_ Slot->(Slot->Nat->Prop)->Prop:=λn ρ P=>match ρ[i]? with
 |some .fd=>P .fd n
 |_=>False
def Am:V5:=λn _ P=>P [] n
def AG(w:Nat->o_ Slot->(Slot->Nat->Prop)->Prop)(ws:V5):V5:=λn ρ P=>w n ρ λs n1=>ws n1 ρ λss n2=>P (s::ss) n2
def Ag(W:W2)(was:V5):DW:=λn ρ P=>was n ρ λss n1=>W ss n1 P
section
variable {X:Cx}{a e:Expr}{es:o_ Expr}{κ zU:Kd}{wa:DW}{pos:Pos}{w1:Nat->o_ Slot->(Slot->Nat->Prop)->Prop}{was:V5}{ws:Dq}
theorem aA(h:DE X e κ wa)(hk:κ≠.tp:=by intro z;cases z):a9 X e^AK wa:=by
 let#[t,h1,h2]:=h;exact#[t,h1,λC M H n ρ Z P Q R w q=>h2 C M H n ρ Z _ _ R w λv H' d n' e f r p=>q v H' (.sh d) n' e f #[#[v,rfl,r.shOf R.dom hk],rfl] p]
theorem Dz(h:DE X e κ wa):a9 X e^ER wa:=by
 let#[t,h1,h2]:=h;exact#[t,h1,λC M H n ρ Z P Q R w q=>h2 C M H n ρ Z _ _ R w λv H' d n' e f r p=>q v H' (.br d) n' e f #[#[v,rfl,r.tpOf R.dom R.vM],rfl] p]
theorem CI(i:Nat){x:Str}{pos:Pos}(hN:X.N[i]?=P3 x:=by rfl)(hv:Wo X.env.scope x:=by first|exact fh rfl|exact iC (fh rfl)|exact iC (iC rfl))(hd:(x==("__debug__":Str))=n_:=by decide)
  (hcd:(x==("__classdict__":Str))=n_:=by decide):a9 X (.Name x pos)^He i:=by
 refine#[_,LX hN hv hd hcd,λC M H n ρ Z P Q R w q=>?_];unfold He at w
 split at w
 .rename_i hd
  let#[f,e1,h1]:=R.sl i _ hd;exact#[_,getD_some e1,q _ H .fd n (Ext.refl _ _) R.feed #[#[f,rfl,h1],rfl] w]
 grind
theorem AB:UT X [] Am:=#[_,De,λC M H n ρ Z P Q R w q=>q [] H [] n (Ext.refl _ _) R.feed .nil w]
theorem AX(ha:a9 X e w1)(hr:UT X es was)(hs:starEach (e::es) X.env=(n_,eval e X.env)::starEach es X.env:=by rfl):UT X (e::es)^AG w1 was:=by
 let#[t,h1,h2]:=ha;let#[u,g1,g2]:=hr;refine#[_,B_ h1 g1 hs,λC M H n ρ Z P Q R w q=>?_];refine h2 C M H n ρ Z _ _ R w λv H1 d n1 e1 f1 r1 p=>?_;have R1:=R.step e1 f1;exact g2 C M H1 n1 ρ Z _ _ R1 p λvs H2 ds n2 e2 f2 r2 p2=>q _ H2 _ n2 (e1.trans e2) f2 (.cons #[r1.1.pres (R1.pres e2) (λ_ z=>z) e2 R.uV,r1.2] r2) p2
theorem Vi{k:Nat}{f:Ch}{fd:fJ}{ps:o_ Str}{W:W2}{x:Str}{p:Pos}(G:FnOk X.prog X.w X.K X.mg X.base G6 k f fd ps^UP X.K κ W ps.length)(hW:∀ss n P,W ss n P->ss.length=ps.length)
  (hr:Room k X.A) (hg:Gl X x) (hm:X.mg x=P3^.ref f) (hk:keepIn X.K^.ref f=m_) (hb:Binds X.K fd ps []) (ha:UT X (e::es) was)
  (hdb:(x==("__debug__":Str))=n_:=by decide) (he:starEach (e::es) X.env=(n_,eval e X.env)::starEach es X.env:=by rfl) (hpl:(backTo pos^starEach es X.env).any (·.1)=n_:=by rfl):
  DE X (.Call (.Name x p) (e::es) [] pos) κ (Ag W was):=by
 let#[t,h1,h2]:=ha;refine#[_,O9 G hr hg hm hk hb .nil WR h1 hdb he hpl,λC M H n ρ Z P Q R w q=>?_];refine h2 C M H n ρ Z _ _ R w λvs H1 ss n1 e1 f1 r1 p=>?_;have R1:=R.step e1 f1;rw[dk];exact#[(Paired.length r1).trans^hW _ _ _ p,_,_,_,M,n1,ss,P,#[R1.dom,R1.fU,R1.uV,R1.vM,f1,r1],p,λv H2 d n2 e2 f2 r2 p2=>q v H2 d n2 (e1.trans e2) f2 (VR.back e1 r2) p2]
def cR(K:Frag)(κ:Kd)(T:String)(r:V->o_ V->Hp->VK->Prop)(f:D->o_ D->(D->Prop)->Prop):Prop:=∀(U:Ch->Prop) (M:Ch->Prop) (H:Hp) (d:D) (ds:o_ D) (x:V) (vs:o_ V) (P:D->Prop) (Q:VK),(∀a,M a->∃o,H a=P3 o)->(∀a,U a->M a)->
 AtT K U M H d x->Paired (λv d=>AtT K U M H d v) vs ds->f d ds P->(∀v H' z,Grow H H'->VR K U M H H' κ v z->P z->Q v H')->r x vs H Q
def bg(T:String)(d:D):Prop:=match d with
 |.str _=>T="str"
 |.int _=>T="int"
 |.lst _=>T="list"
 |_=>False
def cb(T:String)(f:D->o_ D->(D->Prop)->Prop)(wo:DW)(ws:Dq):DW:=λn ρ P=>wo n ρ λd n1=>bg T d/\ws n1 ρ λds n2=>f d ds λz=>P z n2
theorem S1{T:String}{K:Frag}{U:Ch->Prop}{M:Ch->Prop}{H:Hp}{d:D}{x:V}(h:bg T d)(hx:AtT K U M H d x):bG K T x H:=by
 cases d with
 |str z=>let#[e,_]:=hx;subst e;exact h
 |int i=>cases(hx);exact h
 |lst ds=>let#[a,vs,e,_,hq,_]:=hx;subst e;exact .inl #[h,vs,.inl hq]
 |_=>exact(h).elim
theorem Z_{name:Str}{apos cpos:Pos}{T id:String}{r:V->o_ V->Hp->VK->Prop}{f:D->o_ D->(D->Prop)->Prop}(pa:PlainAttrs T)(slot:PySem.Slot T name id)(hty:typeOf^.builtin id=pure^.type "method_descriptor")(hm:Yl X id r)
  (hA:cR X.K κ T r f) (ho:DE X a zU wa) (ha:UU X (e::es) ws)
  (hbase:attributeBase a name X.env^eval a X.env=eval a X.env:=by rfl)
  (hfew:((backTo cpos^starEach (e::es) X.env).all (λx=>!x.1)&&(backToKw cpos^keywordEach [] X.env).all (λx=>x.1.isSome)
   && decide ((e::es).length+([]:o_ hZ).length+(if([]:o_ hZ).isEmpty then 0 else 1)<30))=m_:=by rfl)
  (hline:(apos.endLine==cpos.line)=m_:=by rfl) (hs:starEach (e::es) X.env=(n_,eval e X.env)::starEach es X.env:=by rfl) (hplain:(backTo cpos^starEach es X.env).any (·.1)=n_:=by rfl):
  DE X (.Call (.Attribute a name apos) (e::es) [] cpos) κ (cb T f wa ws):=by
 let#[t,h1,h2]:=ho;let#[u,g1,g2]:=ha;refine#[_,WQ pa slot hty hm h1 g1 hbase hfew hline hs hplain,λC M H n ρ Z P Q R w q=>?_];refine h2 C M H n ρ Z _ _ R w λx H1 d n1 e1 f1 r1 p=>?_;have R1:=R.step e1 f1;have tx:=r1.tpOf R.dom R.vM;refine#[S1 p.1 tx,?_];refine g2 C M H1 n1 ρ Z _ _ R1 p.2 λvs H2 ds n2 e2 f2 r2 p2=>?_;have R2':=R1.step e2 f2;refine hA C.V M H2 d ds x vs _ _ R2'.dom R2'.vM (tx.pres (R1.pres e2) e2 R.uV) r2 p2 λv H3 z g vr pz=>?_;exact q v H3 z n2 ((e1.trans e2).trans g.ext) (f2.grow g) (VR.back (e1.trans e2) vr) pz
def DO(X:Cx)(e:p_ eO)(w:Nat->o_ Slot->(p_ Int->Nat->Prop)->Prop):Prop:=∃t,PO X e t/\∀(C:Fm) (M:Ch->Prop) (H:Hp) (n:Nat) (ρ:o_ Slot) (Z:L2.St) (P:p_ Int->Nat->Prop) (Q:p_ Int->Hp->Prop),Rel X.K C M H n ρ Z->w n ρ P->
 (∀o H' n',Ext C.U H H'->FeedC X.K C.F M H' n'->P o n'->Q o H')->t Z H Q
def GP:Nat->o_ Slot->(p_ Int->Nat->Prop)->Prop:=λn _ P=>P l_ n
def GO(w:DW):Nat->o_ Slot->(p_ Int->Nat->Prop)->Prop:=λn ρ P=>w n ρ λd n1=>match d with
 |.int i=>P (P3 i) n1
 |_=>False
theorem Dy:DO X l_ GP:=#[_,O7,λC M H n ρ Z P Q R w q=>q _ H n (Ext.refl _ _) R.feed w]
theorem ON{U:Ch->Prop}{K:Frag}{M:Ch->Prop}{H H':Hp}{v:V}{i:Int}(h:VR K U M H H' κ v^.int i):v=.int i:=by
 cases κ with
 |sh=>exact h
 |tp=>exact h
 |fr=>let#[a,_,_,t]:=h;exact(t).elim
theorem C4(h:DE X e κ wa):DO X (P3 e)^GO wa:=by
 let#[t,h1,h2]:=h;refine#[_,O6 h1,λC M H n ρ Z P Q R w q=>?_];refine h2 C M H n ρ Z _ _ R w λv H1 d n1 e1 f1 r1 p=>?_;cases d with
 |int i=>exact#[i,ON r1,q _ H1 n1 e1 f1 p]
 |_=>exact p.elim
def cz(K:Frag)(κ:Kd)(r:V->p_ Int->p_ Int->Hp->VK->Prop)(f:D->p_ Int->p_ Int->(D->Prop)->Prop):Prop:=∀(U:Ch->Prop) (M:Ch->Prop) (H:Hp) (d:D) (x:V) (lo hi:p_ Int) (P:D->Prop) (Q:VK),(∀a,M a->∃o,H a=P3 o)->(∀a,U a->M a)->
 AtT K U M H d x->f d lo hi P->(∀v H' z,Grow H H'->VR K U M H H' κ v z->P z->Q v H')->r x lo hi H Q
def W3(f:D->p_ Int->p_ Int->(D->Prop)->Prop)(w:DW)(wl wh:Nat->o_ Slot->(p_ Int->Nat->Prop)->Prop):DW:=λn ρ P=>w n ρ λd n1=>wl n1 ρ λlo n2=>wh n2 ρ λhi n3=>f d lo hi λz=>P z n3
theorem Gz{lo hi:p_ eO}{p2:Pos}{r:V->p_ Int->p_ Int->Hp->VK->Prop}{f:D->p_ Int->p_ Int->(D->Prop)->Prop}{wl wh:Nat->o_ Slot->(p_ Int->Nat->Prop)->Prop}(hr:SlR X r)(hA:cz X.K κ r f)(he:DE X e zU wa)(hl:DO X lo wl)(hh:DO X hi wh):
  DE X (.Subscript e (.Slice lo hi l_ p2) pos) κ (W3 f wa wl wh):=by
 let#[t,h1,h2]:=he;let#[u,g1,g2]:=hl;let#[u',k1,k2]:=hh;refine#[_,Me hr h1 g1 k1,λC M H n ρ Z P Q R w q=>?_];refine h2 C M H n ρ Z _ _ R w λv H1 d n1 e1 f1 r1 p=>?_;have R1:=R.step e1 f1;have tv:=r1.tpOf R.dom R.vM;refine g2 C M H1 n1 ρ Z _ _ R1 p λlo H2 n2 e2 f2 p2=>?_;have R2':=R1.step e2 f2;refine k2 C M H2 n2 ρ Z _ _ R2' p2 λhi H3 n3 e3 f3 p3=>?_;have R3:=R2'.step e3 f3;refine hA C.V M H3 d v lo hi _ _ R3.dom R3.vM ((tv.pres (R1.pres e2) e2 R.uV).pres (R2'.pres e3) e3 R.uV) p3 λv H4 z g vr pz=>?_;exact q v H4 z n3 (((e1.trans e2).trans e3).trans g.ext) (f3.grow g) (VR.back ((e1.trans e2).trans e3) vr) pz
end
structure E2 where
 nx:Nat->List Slot->Prop
 rt:D->Nat->Prop
 bk:Nat->List Slot->Prop:=λ_ _=>False
 ct:Nat->List Slot->Prop:=λ_ _=>False
abbrev Au:=E2->Nat->o_ Slot->Prop
structure UN (K:Frag) (C:Fm) (κ:Kd) (D2:E2) (E:Ends):Prop where
 nx:∀M H n ρ Z,Rel K C M H n ρ Z->D2.nx n ρ->E.nx Z H
 rt:∀v H d n,Ext C.U C.H0 H->FeedC K C.F C.M0 H n->VR K C.V C.M0 C.H0 H κ v d->D2.rt d n->E.rt v H
 bk:∀M H n ρ Z,Rel K C M H n ρ Z->D2.bk n ρ->E.bk Z H
 ct:∀M H n ρ Z,Rel K C M H n ρ Z->D2.ct n ρ->E.ct Z H
def DS(X:Cx)(κ:Kd)(st:f8)(w:Au):Prop:=∃t,PS X st t/\∀(C:Fm) (M:Ch->Prop) (H:Hp) (n:Nat) (ρ:o_ Slot) (Z:L2.St) (D2:E2) (E:Ends),Rel X.K C M H n ρ Z->UN X.K C κ D2 E->w D2 n ρ->t E Z H
def Ng(X:Cx)(κ:Kd)(st:o_ f8)(w:Au):Prop:=∃t,PSs X st t/\∀(C:Fm) (M:Ch->Prop) (H:Hp) (n:Nat) (ρ:o_ Slot) (Z:L2.St) (D2:E2) (E:Ends),Rel X.K C M H n ρ Z->UN X.K C κ D2 E->w D2 n ρ->t E Z H
def Bj:Au:=λD2 n ρ=>D2.nx n ρ
def Bz(u v:Au):Au:=λD2 n ρ=>u {D2 with nx:=v D2} n ρ
def CY(w:DW):Au:=λD2 n ρ=>w n ρ λd n1=>D2.rt d n1
def CK(t:GJ)(u v:Au):Au:=λD2 n ρ=>t n ρ λc n1=>if c=m_ then u D2 n1 ρ else v D2 n1 ρ
def Cr(i:Nat)(w:DW):Au:=λD2 n ρ=>w n ρ λd n1=>D2.nx n1^ρ.set i^.sh d
section
variable {X:Cx}{κ zS:Kd}{st:Stmt}{rest:o_ Stmt}{u v:Au}{wa:DW}{wA:GJ}{e c:Expr}{pos:Pos}
theorem AL:Ng X κ [] Bj:=#[_,LR,λC M H n ρ Z D2 E R L w=>L.nx M H n ρ Z R w]
theorem AA(h1:DS X κ st u)(h2:Ng X κ rest v):Ng X κ (st::rest)^Bz u v:=by
 let#[t,a1,a2]:=h1;let#[t',b1,b2]:=h2;exact#[_,Ba a1 b1,λC M H n ρ Z D2 E R L w=>a2 C M H n ρ Z {D2 with nx:=v D2} _ R #[λM H n ρ Z R w=>b2 C M H n ρ Z D2 E R L w,L.rt,L.bk,L.ct] w]
theorem AD(h1:DS X κ st u):Ng X κ [st] u:=by
 let#[t,a1,a2]:=h1;exact#[t,Dt a1,a2]
theorem XR{K:Frag}{C:Fm}{M:Ch->Prop}{H H':Hp}{n n':Nat}{ρ:o_ Slot}{Z:L2.St}{D2:E2}{E:Ends}{d:D}{v:V}(R:Rel K C M H n ρ Z)(L:UN K C κ D2 E)(e:Ext C.U H H')(f:FeedC K C.F M H' n')(r:VR K C.V M H H' κ v d)(hk:κ≠.tp)(p:D2.rt d n'):E.rt v H':=by
 have less:Pres M H' _ H':=Pres.less R.sub;refine L.rt v H' d n' (R.ext.trans e) (f.pres less λ_ _ _ z=>z) ?_ p;cases κ with
 |sh=>exact At.pres less r
 |tp=>grind
 |fr=>
  let#[a,e1,h1,h2]:=VR.back R.ext r;exact#[a,e1,h1,h2.pres (Pres.less λb z=>z.imp (R.sub b) id) λ_ z=>z]
theorem AH(h:DE X e κ wa)(hk:κ≠.tp:=by intro z;cases z):DS X κ (.Return (P3 e) pos)^CY wa:=by
 let#[t,a1,a2]:=h;exact#[_,F3 a1,λC M H n ρ Z D2 E R L w=>a2 C M H n ρ Z _ _ R w λv H' d n' e1 f1 r1 p=>XR R L e1 f1 r1 hk p]
theorem AT{a b:o_ f8}(hc:DT X c wA)(ha:Ng X κ a u)(hb:Ng X κ b v):DS X κ (.If c a b pos)^CK wA u v:=by
 let#[t,a1,a2]:=hc;let#[t',b1,b2]:=ha;let#[t'',c1,c2]:=hb;refine#[_,SO a1 b1 c1,λC M H n ρ Z D2 E R L w=>?_];refine a2 C M H n ρ Z _ _ R w λb H1 n1 e1 f1 p=>?_;cases b with
 |true=>exact b2 C M H1 n1 ρ Z D2 E (R.step e1 f1) L p
 |false=>exact c2 C M H1 n1 ρ Z D2 E (R.step e1 f1) L p
theorem YC{i:Nat}{x:Str}{pos':Pos}(hN:X.N.Nodup)(hi:X.N[i]?=P3 x)(hx:Loc X.env.scope x)(he:DE X e zS wa)(hk:zS≠.tp:=by intro z;cases z)(hs:swapsWith e (P3^.Name x pos') pos.line X.env=pure n_:=by rfl)
  (hf:X.fn x=m_\/X.env.scope.names.lookup x=P3 .local:=by first|exact .inl rfl|exact .inr rfl|assumption):DS X κ (.Assign [.Name x pos'] e pos)^Cr i wa:=by
 let#[t,a1,a2]:=he;exact#[_,E5 hN hi hx a1 hs hf,λC M H n ρ Z D2 E R L w=>a2 C M H n ρ Z _ _ R w λv H' d n' e1 f1 r1 p=>L.nx M H' n' _ _ ((R.step e1 f1).set^r1.shOf R.dom hk) p]
end
section
variable {X:Cx}{κ:Kd}{e:Expr}{wa:DW}{pos:Pos}
def MH(i:Nat)(w:DW):Au:=λD2 n ρ=>w n ρ λd n1=>D2.nx n1^ρ.set i^.ow d
theorem Vb{i:Nat}{x:Str}{pos':Pos}(hN:X.N.Nodup)(hi:X.N[i]?=P3 x)(hx:Loc X.env.scope x)(he:DE X e .fr wa)(hs:swapsWith e (P3^.Name x pos') pos.line X.env=pure n_:=by rfl)
  (hf:X.fn x=m_\/X.env.scope.names.lookup x=P3 .local:=by first|exact .inl rfl|exact .inr rfl|assumption):DS X κ (.Assign [.Name x pos'] e pos)^MH i wa:=by
 let#[t,a1,a2]:=he;refine#[_,E5 hN hi hx a1 hs hf,λC M H n ρ Z D2 E R L w=>?_];refine a2 C M H n ρ Z _ _ R w λv H' d n' e1 f1 r1 p=>?_;let#[a,rfl,h1,h2]:=r1;exact L.nx _ H' n' _ _ (R.setOw e1 f1 h1 h2) p
def Ra(i:Nat):Au:=λD2 n ρ=>∃d,ρ[i]?=P3^.ow d/\D2.rt d n
theorem Pa{x:Str}{p:Pos}(i:Nat)(h:PE X (.Name x p)^CG i):DS X .fr (.Return (P3^.Name x p) pos)^Ra i:=by
 refine#[_,F3 h,λC M H n ρ Z D2 E R L zz=>?_];let#[d,hd,hw]:=zz;let#[a,e1,m,nv,t]:=R.sl i _ hd;exact#[_,getD_some e1,L.rt _ H d n R.ext (R.feed.pres (Pres.less R.sub) λ_ _ _ z=>z) #[a,rfl,(R.new i _ a hd rfl e1).2,t.pres (Pres.less λb z=>z.elim (R.sub b) λz=>by grind) λ_ z=>z] hw]
def V3(K:Frag)(r:V->o_ V->Hp->VK->Prop)(f:D->o_ D->(D->D->Prop)->Prop):Prop:=∀(M:Ch->Prop) (H:Hp) (a:Ch) (d:D) (ds:o_ D) (vs:o_ V) (P:D->D->Prop) (Q:VK),M a->Tops K M H a d->Ats K M H ds vs->f d ds P->
 (∀o e z v,Tops K M (BF H a o) a e->At K M (BF H a o) z v->P e z->Q v^BF H a o)->r (.ref a) vs H Q
def Rb(i:Nat)(T:String)(f:D->o_ D->(D->D->Prop)->Prop)(ws:Dq):Au:=λD2 n ρ=>∃d,ρ[i]?=P3^.ow d/\bg T d/\ws n ρ λds n1=>f d ds λe _=>D2.nx n1^ρ.set i^.ow e
theorem EZ{M:Ch->Prop}{H:Hp}{a:Ch}{o u:HO}(m:M a)(e:H a=P3 u)(t:∀vs,u≠.tup vs:=by intro _ z;cases z):Pres M H M^BF H a o:=#[λb o' q nb=>by rw[AO λz=>nb^by simp_all];exact q,λ_ z=>.inl z,λb vs q=>by rw[AO λz=>by grind];exact q]
theorem DC{x name:Str}{p apos cpos:Pos}{T id:String}{r:V->o_ V->Hp->VK->Prop}{f:D->o_ D->(D->D->Prop)->Prop}{es:o_ eO}{ws:Dq}(i:Nat)(pa:PlainAttrs T)(slot:PySem.Slot T name id)(hty:typeOf^.builtin id=pure^.type "method_descriptor")
  (hm:Yl X id r) (hA:V3 X.K r f) (h:PE X (.Name x p)^CG i) (ha:Yr X (e::es) ws)
  (hbase:attributeBase (.Name x p) name X.env^eval (.Name x p) X.env=eval (.Name x p) X.env:=by rfl)
  (hfew:((backTo cpos^starEach (e::es) X.env).all (λx=>!x.1)&&(backToKw cpos^keywordEach [] X.env).all (λx=>x.1.isSome)
   && decide ((e::es).length+([]:o_ hZ).length+(if([]:o_ hZ).isEmpty then 0 else 1)<30))=m_:=by rfl)
  (hline:(apos.endLine==cpos.line)=m_:=by rfl) (hs:starEach (e::es) X.env=(n_,eval e X.env)::starEach es X.env:=by rfl) (hplain:(backTo cpos^starEach es X.env).any (·.1)=n_:=by rfl)
  (hsw:swapsWith (.Call (.Attribute (.Name x p) name apos) (e::es) [] cpos) l_ pos.line X.env=pure n_:=by rfl):
  DS X κ (.Expr (.Call (.Attribute (.Name x p) name apos) (e::es) [] cpos) pos) (Rb i T f ws):=by
 let#[t,a1,a2]:=ha;refine#[_,Ur (WQ pa slot hty hm h a1 hbase hfew hline hs hplain) hsw,λC M H n ρ Z D2 E R L zz=>?_];let#[d,hd,hT,hw]:=zz;let#[a,e1,m,nv,tt]:=R.sl i _ hd;refine#[.ref a,getD_some e1,S1 hT^tt.att nv,?_];refine a2 C M H n ρ Z _ _ R hw λvs H1 ds n1 ee f1 r1 p=>?_;have R1:=R.step ee f1;let#[a',e1',m',nv',tt']:=R1.sl i _ hd;rw[e1]at e1';cases e1';exact hA M H1 a d ds vs _ _ m' tt' r1 p λo d' z v t2 hz pp=>L.nx M _ n1 _ Z (R1.mut hd e1 t2) pp
def Ji(d:D)(ds:o_ D)(P:D->D->Prop):Prop:=∃xs y,d=.lst xs/\ds=[y]/\xs.length<sizeLine/\P (.lst (xs++[y])) .non
theorem D1{K:Frag}:V3 K O2 Ji:=by
 intro M H a d ds vs P Q m t hv w q;let#[xs,y,rfl,rfl,hl,w]:=w;let#[us,h1,h2]:=t;let#[u,r,rfl,hu,hr]:=hv;cases(hr);exact#[a,us,u,rfl,rfl,h1,by rw[h2.length];exact hl,q _ (.lst _) .non _ #[_,AW,(h2.append^Ats.one hu).pres^EZ m h1] rfl w]
def cA(d:D)(ds:o_ D)(P:D->D->Prop):Prop:=∃xs ys,d=.lst xs/\ds=[.lst ys]/\xs.length+ys.length<=sizeLine/\P (.lst (xs++ys)) .non
theorem aK{K:Frag}:V3 K O1 cA:=by
 intro M H a d ds vs P Q m t hv w q;let#[xs,ys,rfl,rfl,hl,w]:=w;let#[us,h1,h2]:=t;let#[u,r,rfl,hu,hr]:=hv;cases(hr);let#[b,zs,rfl,hb,hz]:=hu;exact#[a,b,us,zs,rfl,rfl,h1,hb.2,by rw[h2.length,hz.length];exact hl,q _ (.lst _) .non _ #[_,AW,(h2.append hz).pres^EZ m h1] rfl w]
end
def Yields(K:Frag)(M:Ch->Prop)(H:Hp)(J:It)(ds:o_ D):Prop:=∀(i:Nat) (M':Ch->Prop) (H':Hp),Pres M H M' H'->(∀a,M' a->∃o,H' a=P3 o)->
 (∀d,ds[i]?=P3 d->J.go i H'/\∀x H2,J.yld i H' x H2->Grow H' H2/\At K M' H2 d x)/\(ds.length<=i->J.stop i H')
def Pq(K:Frag)(U M:Ch->Prop)(H:Hp)(J:It)(ds:o_ D):Prop:=∀(i:Nat) (M':Ch->Prop) (H':Hp),Pres M H M' H'->Ext U H H'->(∀a,M' a->∃o,H' a=P3 o)->
 (∀d,ds[i]?=P3 d->J.go i H'/\∀x H2,J.yld i H' x H2->Grow H' H2/\At K M' H2 d x)/\(ds.length<=i->J.stop i H')
theorem Yields.e{K:Frag}{U M:Ch->Prop}{H:Hp}{J:It}{ds:o_ D}(h:Yields K M H J ds):Pq K U M H J ds:=λi M' H' p _ d=>h i M' H' p d
def Wu(X:Cx)(tg iter:eO)(w:Dq):Prop:=∃wi,PI X tg iter wi/\∀(C:Fm) (M:Ch->Prop) (H:Hp) (n:Nat) (ρ:o_ Slot) (Z:L2.St) (P:o_ D->Nat->Prop) (R:It->Hp->Prop),Rel X.K C M H n ρ Z->w n ρ P->
 (∀J H' ds n',Ext C.U H H'->FeedC X.K C.F M H' n'->Pq X.K C.U M H' J ds->P ds n'->R J H')->wi Z H R
def DI(X:Cx)(tg iter:eO)(w:Dq):Prop:=∃wi,PI X tg iter wi/\∀(C:Fm) (M:Ch->Prop) (H:Hp) (n:Nat) (ρ:o_ Slot) (Z:L2.St) (P:o_ D->Nat->Prop) (R:It->Hp->Prop),Rel X.K C M H n ρ Z->w n ρ P->
 (∀J H' ds n',Ext C.U H H'->FeedC X.K C.F M H' n'->Yields X.K M H' J ds->P ds n'->R J H')->wi Z H R
def signs(x:Str):o_ D:=x.cps.toList.map λc=>.str #[#[ c]]
def Ii(w:DW):Dq:=λn ρ P=>w n ρ λd n1=>match d with
 |.lst ds=>P ds n1
 |.tup ds=>P ds n1
 |.str x=>P (signs x) n1
 |_=>False
theorem MF{K:Frag}{M:Ch->Prop}{H:Hp}{a:Ch}{vs:o_ V}{ds:o_ D}(h:NdL M H a vs)(hs:Ats K M H ds vs):Yields K M H (cU K a) ds:=by
 intro i M' H' p _;have hq:SqL K H' a vs:=(h.pres p).sq;refine#[λd hd=>?_,λhl=>#[vs,hq,by rw[hs.length];exact hl]];let#[v,e,hv]:=(hs.pres p).get hd;refine#[#[vs,v,hq,e],λx H2 y=>?_];let#[e2,y]:=y;subst e2
 have:=e.symm.trans^y vs hq
 cases this;exact#[.refl,hv]
theorem Ig{K:Frag}{M:Ch->Prop}{H:Hp}{a:Ch}{vs:o_ V}{ds:o_ D}(h:NdT M H a vs)(hs:Ats K M H ds vs):Yields K M H (Yn K a) ds:=by
 intro i M' H' p _;have hq:SqT K H' a vs:=(h.pres p).sq;refine#[λd hd=>?_,λhl=>#[vs,hq,by rw[hs.length];exact hl]];let#[v,e,hv]:=(hs.pres p).get hd;refine#[#[vs,v,hq,e],λx H2 y=>?_];let#[e2,y]:=y;subst e2
 have:=e.symm.trans^y vs hq
 cases this;exact#[.refl,hv]
theorem yields_str{K:Frag}{M:Ch->Prop}{H:Hp}{z:Str}:Yields K M H (cT z)^signs z:=by
 intro i M' H' p _;refine#[λd hd=>?_,λhl=>?_]
 .unfold signs at hd
  rw[di]at hd
  have hi:i<z.cps.size:=by
   cases q:z.cps.toList[i]? with
   |none=>simp_all
   |some c=>simpa using (de.mp q).1
  refine#[hi,λx H2 y=>?_];let#[e2,c,hc,rfl]:=y;subst e2
  have:z.cps.toList[i]?=P3 c:=by grind
  rw[this]at hd;have hd':D.str #[#[ c]]=d:=d6 hd;subst hd';exact#[.refl,rfl,by rw[fA];show 1<=16777216;decide]
 .show z.cps.size<=i
  unfold signs at hl
  simp_all
def DF(lo:Int)(n:Nat):o_ D:=(eZ n).map fun(i:Nat)=>.int (lo+(i:Int))
theorem GK{K:Frag}{M:Ch->Prop}{H:Hp}{lo:Int}{m:Nat}:Yields K M H (ah lo m)^DF lo m:=by
 intro i M' H' p _;refine#[λd hd=>?_,λhl=>?_]
 .unfold DF at hd
  rw[di]at hd
  have hi:=by
   cases q:(eZ m)[i]? with
   |none=>simp_all
   |some c=>simpa using (de.mp q).1
  rw[List.getElem?_range hi]at hd;have hd':=d6 hd;subst hd';refine#[hi,λx H2 y=>?_];let#[e2,e3]:=y;subst e2;exact#[.refl,e3]
 .show m<=i
  unfold DF at hl
  simp_all
section
variable {X:Cx}{tg e e2:Expr}{κ:Kd}{wa:DW}{ws:Dq}{p pos:Pos}
theorem Ck(h:DE X e κ wa)(hk:κ≠.tp:=by intro z;cases z):DI X tg e^Ii wa:=by
 let#[t,a1,a2]:=h;refine#[_,N1 a1,λC M H n ρ Z P Rr R w q=>?_];refine a2 C M H n ρ Z _ _ R w λv H1 d n1 e1 f1 r1 p=>?_;have hv:=r1.shOf R.dom hk;cases d with
 |lst ds=>
  let#[a,vs,e,hn,hs]:=hv;exact .inl #[a,e,#[vs,hn.sq],q _ H1 ds n1 e1 f1 (MF hn hs) p]
 |tup ds=>
  let#[a,vs,e,hn,hs]:=hv;exact .inr^.inl #[a,e,#[vs,hn.sq],q _ H1 ds n1 e1 f1 (Ig hn hs) p]
 |str z=>exact .inr^.inr #[z,hv.1,q _ H1 _ n1 e1 f1 yields_str p]
 |_=>exact p.elim
def MI(ws:Dq):Dq:=λn ρ P=>ws n ρ λds n1=>∃j:Int,ds=[.int j]/\(-(2 ^ 62)<=j/\j<2 ^ 62)/\P (DF 0 j.toNat) n1
theorem DV(hg:Gl X "range")(hm:X.mg "range"=l_)(ha:UU X [e] ws)(hs:starEach [e] X.env=[(n_,eval e X.env)]:=by rfl):DI X tg (.Call (.Name "range" p) [e] [] pos)^MI ws:=by
 let#[t,a1,a2]:=ha;refine#[_,QG hg hm a1 hs,λC M H n ρ Z P Rr R w q=>?_];refine a2 C M H n ρ Z _ _ R w λvs H1 ds n1 e1 f1 r1 p=>?_;let#[j,rfl,hj,p]:=p;cases r1 with
 |cons r rr=>
  cases rr;exact#[j,by rw[r],hj.1,hj.2,q _ H1 _ n1 e1 f1 GK p]
theorem DI.c(h:DI X tg e ws):Wu X tg e ws:=by
 let#[wi,a1,a2]:=h;exact#[wi,a1,λC M H n ρ Z P Rr R w q=>a2 C M H n ρ Z P Rr R w λJ H' ds n' e1 f1 y p=>q J H' ds n' e1 f1 y.e p]
theorem A6(h:DE X e κ wa):Wu X tg e^Ii wa:=by
 let#[t,a1,a2]:=h;refine#[_,N1 a1,λC M H n ρ Z P Rr R w q=>?_];refine a2 C M H n ρ Z _ _ R w λv H1 d n1 e1 f1 r1 p=>?_;have hv:AtT X.K C.V M H1 d v:=r1.tpOf R.dom R.vM;cases d with
 | lst ds=>
  let#[a,vs,e,nv,hr,hs]:=hv;refine .inl #[a,e,#[vs,.inl hr],q _ H1 ds n1 e1 f1 (λi M' H' pr ex _=>?_) p]
  have hq:SqL X.K H' a vs:=by
   rcases hr with hr|⟨o,hr⟩
   .exact .inl^.inl^ex.keep hr λz=>nv^R.uV a z
   .exact .inl^.inr #[o,ex.keep hr λz=>nv^R.uV a z]
  refine#[λd hd=>?_,λhl=>#[vs,hq,by rw[hs.length];exact hl]];let#[v,e,hv]:=(hs.pres pr).get hd;refine#[#[vs,v,hq,e],λx H2 y=>?_];let#[e2,y]:=y;subst e2
  have:P3 v=P3 x:=e.symm.trans^y vs hq
  cases this;exact#[.refl,hv]
 |tup ds=>
  let#[a,vs,e,hn,hs]:=hv;exact .inr^.inl #[a,e,#[vs,hn.sq],q _ H1 ds n1 e1 f1 (Ig hn hs).e p]
 |str z=>exact .inr^.inr #[z,hv.1,q _ H1 _ n1 e1 f1 yields_str.e p]
 |_=>exact p.elim
end
abbrev BW:=D->o_ Slot->(o_ Slot->Prop)->Prop
def DG(X:Cx)(tg:eO)(b:BW):Prop:=∃g,PG X tg g/\∀(C:Fm) (M:Ch->Prop) (H:Hp) (n:Nat) (ρ:o_ Slot) (Z:L2.St) (d:D) (v:V) (P:o_ Slot->Prop) (Q:L2.St->Hp->Prop),Rel X.K C M H n ρ Z->At X.K M H d v->b d ρ P->
 (∀zY zZ,Rel X.K C M H n zY zZ->P zY->Q zZ H)->g v Z H Q
def Ae(i:Nat):BW:=λd ρ P=>P^ρ.set i^.sh d
theorem Fe{X:Cx}{i:Nat}{x:Str}{pos:Pos}(hN:X.N.Nodup)(hi:X.N[i]?=P3 x)(hx:Loc X.env.scope x)(hf:X.fn x=m_\/X.env.scope.names.lookup x=P3 .local:=by first|exact .inl rfl|exact .inr rfl|assumption):DG X (.Name x pos)^Ae i:=
 #[_,GZ hN hi hx hf,λC M H n ρ Z d v P Q R h w q=>q _ _ (R.set h) w]
def A9(b:BW)(body:Au)(D2:E2):o_ D->Nat->o_ Slot->Prop
 |[],n,ρ=>D2.nx n ρ
 |d::ds,n,ρ=>b d ρ λzT=>body {D2 with nx:=A9 b body D2 ds,ct:=A9 b body D2 ds,bk:=D2.nx} n zT
def P5(src:Dq)(b:BW)(body:Au):Au:=λD2 n ρ=>src n ρ λds n1=>A9 b body D2 ds n1 ρ
theorem Rel.unpin{K:Frag}{C:Fm}{p:(Ch->Prop)×Hp}{M:Ch->Prop}{H:Hp}{n:Nat}{ρ:o_ Slot}{Z:L2.St}(R:Rel K {C with zG:=p::C.zG} M H n ρ Z):Rel K C M H n ρ Z:=
 #[R.len,R.sub,R.dom,R.ext,R.fU,R.uV,R.vM,R.feed,R.sl,λq hq=>R.pin q^Sc _ hq,R.br0,R.new,R.two,R.kept]
theorem Rel.pinned{K:Frag}{C:Fm}{M:Ch->Prop}{H:Hp}{n:Nat}{ρ:o_ Slot}{Z:L2.St}(R:Rel K C M H n ρ Z):Rel K {C with zG:=(M,H)::C.zG} M H n ρ Z:=
 #[R.len,R.sub,R.dom,R.ext,R.fU,R.uV,R.vM,R.feed,R.sl,λq hq=>(UF.mp hq).elim (λe=>e▸Pres.refl M H)^R.pin q,R.br0,R.new,R.two,R.kept]
section
variable {X:Cx}{κ:Kd}{tg iter:Expr}{body:o_ Stmt}{src:Dq}{b:BW}{wb:Au}{pos:Pos}
theorem A7(hp:kL (model X.prog X.w) X.A X.env X.xe)(hc:X.calm=m_)(hi:DI X tg iter src)(hg:DG X tg b)(hb:Ng X κ body wb)
  (hs:∀x,foldedSetIterable iter X.env x=pure x:=by intro _;rfl):DS X κ (.For tg iter body [] pos)^P5 src b wb:=by
 let#[wi,a1,a2]:=hi;let#[g,g1,g2]:=hg;let#[tb,b1,b2]:=hb;refine#[_,LS hp hc a1 g1 b1 hs,λC M H n ρ Z D2 E R L w=>?_];refine a2 C M H n ρ Z _ _ R w λJ H1 ds n1 e1 f1 y w1=>?_;have R1:=R.step e1 f1;refine#[λi m zZ H'=>m=ds.length - i/\i<=ds.length/\∃M' n' zY,Rel X.K {C with zG:=(M,H1)::C.zG} M' H' n' zY zZ/\A9 b wb D2 (ds.drop i) n' zY,#[ds.length,by simp,dq _,M,n1,ρ,R1.pinned,w1],?_];rintro i m zZ H' ⟨rfl,hi,M',n',zY,R',w'⟩;have pr:Pres M H1 M' H':=R'.pin (M,H1) FM
 by_cases hlt:i<ds.length
 .have ed:ds.drop i=ds[i]::ds.drop (i+1):=gX hlt
  rw[ed]at w';let#[go,yl]:=(y i M' H' pr R'.dom).1 ds[i] (Op hlt);refine .inr #[go,λzN H2=>∃M2 n2 zL,Rel X.K {C with zG:=(M,H1)::C.zG} M2 H2 n2 zL zN/\A9 b wb D2 (ds.drop (i+1)) n2 zL,λzN H2 #[M2,n2,zL,R2',w2]=>#[ds.length - (i+1),by lk,rfl,hlt,M2,n2,zL,R2',w2],λx H2 hy=>?_];let#[gr,hx]:=yl x H2 hy;have R2':=R'.step gr.ext^R'.feed.grow gr;refine g2 _ M' H2 n' zY zZ ds[i] x _ _ R2' hx w' λzP zV R3 w3=>?_;refine b2 _ M' H2 n' zP zV {D2 with nx:=A9 b wb D2^ds.drop (i+1),ct:=A9 b wb D2^ds.drop (i+1),bk:=D2.nx} _ R3 #[λM4 H4 n4 zR zQ R4 w4=>#[M4,n4,zR,R4,w4],L.rt,λM4 H4 n4 zR zQ R4 w4=>L.nx M4 H4 n4 zR zQ R4.unpin w4,λM4 H4 n4 zR zQ R4 w4=>#[M4,n4,zR,R4,w4]] w3
 .have e:i=ds.length:=by lk
  subst e;rw[iT]at w';exact .inl #[(y _ M' H' pr R'.dom).2 (Re _),L.nx M' H' n' zY zZ R'.unpin w']
end
def Ce(b:BW)(tt:GJ)(te:DW)(P:o_ D->Nat->Prop):o_ D->o_ D->Nat->o_ Slot->Prop
 |[],acc,n,_=>P acc n
 |d::ds,acc,n,ρ=>b d ρ λzT=>tt n zT λc n1=>if c=m_ then te n1 zT λy n2=>Ce b tt te P ds (acc++[y]) n2 zT else Ce b tt te P ds acc n1 zT
def Sr:Slot->Slot
 |.ow d=>.br d
 |.lt _ d=>.br d
 |s=>s
theorem Qc(s:Slot):(Sr s).owns=n_:=by cases s <;>rfl
theorem Ef{js:o_^p_ Nat}{ρ:o_ Slot}{i:Nat}{s:Slot}(h:(js.map λo=>match o with|some i=>Sr^(ρ[i]?).getD .no|none=>Slot.no)[i]?=P3 s):s.owns=n_:=by
 rw[di]at h;cases q:js[i]? with
 |none=>grind
 | some o=>
  rw[q]at h;cases o with
  |none=>
   rw[←d6 h];rfl
  |some j=>
   rw[←d6 h];exact Qc _
def Gm(js:o_^p_ Nat)(ρ:o_ Slot):o_ Slot:=js.map λo=>match o with
 |some i=>Sr^(ρ[i]?).getD .no
 |none=>.no
def Hf(js:o_^p_ Nat)(src:Dq)(b:BW)(tt:GJ)(te:DW):DW:=λn ρ P=>src n ρ λds n1=>ds.length<=10000000/\Ce b tt te (λacc n2=>P (.lst acc) n2) ds [] n1^Gm js ρ
def Yq(X:Cx)(ifs:o_ eO)(w:GJ):Prop:=∃t,aZ X ifs t/\∀(C:Fm) (M:Ch->Prop) (H:Hp) (n:Nat) (ρ:o_ Slot) (Z:L2.St) (P:Bool->Nat->Prop) (Q:Bool->Hp->Prop),Rel X.K C M H n ρ Z->w n ρ P->
 (∀b H' n',Ext C.U H H'->FeedC X.K C.F M H' n'->P b n'->Q b H')->t Z H Q
def Ey:GJ:=λn _ P=>P m_ n
theorem Az{X:Cx}:Yq X [] Ey:=#[_,Uw,λC M H n ρ Z P Q R w q=>q _ H n (Ext.refl _ _) R.feed w]
theorem IV{X:Cx}{c:eO}{w:GJ}(h:DT X c w):Yq X [c] w:=by
 let#[t,h1,h2]:=h;exact#[t,Uv h1,h2]
theorem Ki{js:o_^p_ Nat}{ρ:o_ Slot}{Z:L2.St}{i:Nat}{s:Slot}(hs:(Gm js ρ)[i]?=P3 s):s=.no\/∃(j:Nat) (s':Slot),ρ[j]?=P3 s'/\s=Sr s'/\((Cv js Z)[i]?).getD l_=(Z[j]?).getD l_:=by
 unfold Gm at hs;unfold Cv;rw[di]at hs ⊢;cases q:js[i]? with
 |none=>simp_all
 | some o=>
  rw[q]at hs;cases o with
  |none=>simp_all
  | some j=>
   have e:Sr _=s:=d6 hs;cases q2:ρ[j]? with
   |none=>rw[q2]at e;exact .inl e.symm
   |some s'=>
    rw[q2]at e;exact .inr #[j,s',q2,e.symm,rfl]
theorem M6{K:Frag}{F:p_ (Ch×Ch)}{U U' M M':Ch->Prop}{H H':Hp}{js:o_^p_ Nat}{ρ:o_ Slot}{Z:L2.St}(hsl:∀(i:Nat) (s:Slot),ρ[i]?=P3 s->SlotOk K F U M H s^(Z[i]?).getD l_)
  (pr:Pres M H M' H') (br:∀d v,AtT K U M H d v->AtT K U' M' H' d v):∀(i:Nat) (s:Slot),(Gm js ρ)[i]?=P3 s->SlotOk K F U' M' H' s^((Cv js Z)[i]?).getD l_:=by
 intro i s hs
 rcases Ki hs with rfl|⟨j,s',q,rfl,e⟩
 .trivial
 .rw[e]
  have h1:=hsl j s' q;cases s' with
  |no=>trivial
  |sh d=>let#[v,e1,h2]:=h1;exact#[v,e1,h2.pres pr]
  |ex a nm ks ds=>let#[e1,h2]:=h1;exact#[e1,h2.pres pr]
  |br d=>let#[v,e1,h2]:=h1;exact#[v,e1,br d v h2]
  |fd=>exact h1
  |ow d=>let#[a,e1,_,nv,t]:=h1;exact#[_,e1,br d _^t.att nv]
  |lt a d=>let#[e1,_,nv,t]:=h1;exact#[_,e1,br d _^t.att nv]
theorem PF{K:Frag}{F:p_ (Ch×Ch)}{U M:Ch->Prop}{H:Hp}{js:o_^p_ Nat}{ρ:o_ Slot}{Z:L2.St}(hsl:∀(i:Nat) (s:Slot),ρ[i]?=P3 s->SlotOk K F U M H s^(Z[i]?).getD l_){i:Nat}{d:D}{a:Ch}
  (hs:(Gm js ρ)[i]?=P3^.br d) (ha:((Cv js Z)[i]?).getD l_=P3^.ref a):∃o,H a=P3 o:=by
 rcases Ki hs with z|⟨j,s',q,z,e⟩
 .cases z
 .rw[e]at ha
  have h1:=hsl j s' q;rw[ha]at h1;cases s' with
  |br d=>let#[v,e1,h2]:=h1;cases e1;exact h2.lies
  |ow d=>let#[b,e1,_,nv,t]:=h1;cases e1;exact(t.att nv).lies
  |lt b d=>let#[e1,_,nv,t]:=h1;cases e1;exact(t.att nv).lies
  |no=>cases z
  |sh d=>cases z
  |ex a nm ks ds=>cases z
  |fd=>cases z
section
variable {X:Cx}{zS:Kd}{tg elt iter:Expr}{ifs:o_ Expr}{sc:Scope}{pos:Pos}{src:Dq}{b:BW}{tt:GJ}{te:DW}
theorem Vh(hc:X.calm=m_)(N':o_ Str)(js:o_^p_ Nat)(hi:Wu X tg iter src)(hg:∀cl C s H fp,DG (Aw X sc N' cl C s H fp) tg b)(ht:∀cl C s H fp,Yq (Aw X sc N' cl C s H fp) ifs tt)(he:∀cl C s H fp,DE (Aw X sc N' cl C s H fp) elt zS te)
  (hB:G0 sc X.env.scope X.N N' js=m_) (hk:zS≠.tp:=by intro z;cases z)
  (hs:∀x,foldedSetIterable iter X.env x=pure x:=by intro _;rfl):DE X (.ListComp elt [#[tg,iter,ifs,0]] sc pos) .fr^Hf js src b tt te:=by
 let#[wi,a1,a2]:=hi;refine#[_,U2 hc N' js a1 hB hs,λC M H n ρ Z P Q R w q=>?_];refine a2 C M H n ρ Z _ _ R w λJ H1 ds n1 e1 f1 y w1=>?_;let#[hlen,w1]:=w1;have R1:=R.step e1 f1;intro l hl hkl cl Ca s0 H0 fp;let#[g,g1,g2]:=hg cl Ca s0 H0 fp;let#[tc,c1,c2]:=ht cl Ca s0 H0 fp;let#[tx,x1,x2]:=he cl Ca s0 H0 fp
 have noU:¬C.U l:=λz=>by
  let#[o,z]:=R1.udom l z;rw[hl]at z;cases z
 generalize hM':(λb=>M b\/b=l)=M';have M'l:M' l:=by rw[←hM'];exact .inr rfl
 have M'of:∀b,M b->M' b:=λb z=>by rw[←hM'];exact .inl z
 have ofM':∀b,M' b->M b\/b=l:=λb z=>by rw[←hM']at z;exact z
 have inV:∀b,C.V b\/b=l->M' b:=λb z=>z.elim (λz=>M'of b^R1.vM b z) λz=>by rw[z];exact M'l
 have lenj:js.length=N'.length:=FI (CompOk.of hB).cap
 refine#[g,tc,tx,λi m zZ H'=>m=ds.length - i/\i<=ds.length/\∃n' zY acc vs,Rel X.K #[M',C.F,C.U,λb=>C.V b\/b=l,H1,[],[]] M' H' n' zY zZ/\H' l=P3^.lst vs/\Ats X.K M' H' acc vs/\acc.length<=i/\Pres M H1 M' H' /\
   Ce b tt te (λacc n2=>P (.lst acc) n2) (ds.drop i) acc n' zY,g1,c1,x1,#[ds.length,by simp,dq _,n1,Gm js ρ,[],[],?_],?_]
 .have gr:Grow H1^BF H1 l^.lst []:=A2 hl
  have pr:Pres M H1 M'^BF H1 l^.lst []:=#[λb o e _=>gr.all b o e,λb z=>(ofM' b z).elim .inl λz=>.inr (by rw[z];exact hl),λb vs e=>gr.all b _ e];refine#[#[?_,λa z=>z,λa z=>?_,gr.ext,R1.fU,λa z=>.inl^R1.uV a z,inV,f1.pres pr λf o _ e=>gr.all f.1 o e,?_,λp hp=>absurd hp^by simp,λi d a q z=>PF R1.sl q z,λi s a q o _=>absurd o (by rw[Ef q];decide),λi j s t a q o _ _ _ _=>absurd o (by rw[Ef q];decide),λp hp=>absurd hp^by simp],AW,rfl,dq _,pr,w1]
  .unfold Gm Cv
   rw[Ev,Ev]
  .rcases ofM' a z with z|z
   .let#[o,z]:=R1.dom a z
    exact#[o,gr.all a o z]
   .subst z
    exact#[_,AW]
  .refine M6 R1.sl pr λd v h=>h.same pr (λa o _ e=>gr.all a o e) λa e n1 z=>z.elim n1 λz=>?_
   subst e;let#[o,w]:=h.lies;rw[z,hl]at w;cases w
 .rintro i m zZ H' ⟨rfl,hi,n',zY,acc,vs,R',hlv,hac,hal,pr,w'⟩
  by_cases hlt:i<ds.length
  .have ed:ds.drop i=ds[i]::ds.drop (i+1):=gX hlt
   rw[ed]at w';let#[go,yl]:=(y i M' H' pr R'.ext R'.dom).1 ds[i] (Op hlt);refine .inr #[go,λx H2 hy=>?_];let#[gr,hx]:=yl x H2 hy;have R2':=R'.step gr.ext^R'.feed.grow gr;refine g2 _ M' H2 n' zY zZ ds[i] x _ _ R2' hx w' λzP zV R3 w3=>?_;refine c2 _ M' H2 n' zP zV _ _ R3 w3 λc H4 n4 e4 f4 w4=>?_;have R4:=R3.step e4 f4;have p4:Pres M' H' M' H4:=gr.pres.trans^R3.pres e4;have l4:H4 l=P3^.lst vs:=e4.keep (gr.all _ _ hlv) noU;cases c with
   |false=>exact#[ds.length - (i+1),by lk,rfl,hlt,n4,zP,acc,vs,R4,l4,hac.pres p4,by lk,pr.trans p4,w4]
   | true=>
    refine x2 _ M' H4 n4 zP zV _ _ R4 w4 λyv H5 d5 n5 e5 f5 r5 w5=>?_;have R5:=R4.step e5 f5;have p5:Pres M' H4 M' H5:=R4.pres e5;have l5:H5 l=P3^.lst vs:=e5.keep l4 noU;have hy5:=r5.shOf R4.dom hk;have a5:=(hac.pres p4).pres p5;have pu:Pres M' H5 M'^BF H5 l^.lst (vs++[yv]):=EZ M'l l5;have hvl:vs.length=acc.length:=hac.length;refine#[vs,l5,by rw[fA];lk,ds.length - (i+1),by lk,rfl,hlt,n5,zP,acc++[d5],vs++[yv],?_,AW,(a5.append^Ats.one hy5).pres pu,by rw[XV,d8];lk,(pr.trans p4).trans^p5.trans pu,w5];refine#[R5.len,R5.sub,λa z=>?_,λb o e=>?_,R5.fU,R5.uV,R5.vM,?_,λj s hs=>?_,λp hp=>absurd hp^by simp,R5.br0,R5.new,R5.two,λp hp=>absurd hp^by simp]
    .by_cases ha:a=l
     .subst ha;exact#[_,AW]
     .rw[AO ha];exact R5.dom a z
    .let#[o',q1,q2]:=R5.ext b o e
     by_cases hb:b=l
     .subst hb
      have e':H1 b=P3 o:=e;rw[hl]at e';cases e'
     .exact#[o',by rw[AO hb];exact q1,q2]
    .refine f5.pres pu λf o hf e=>?_
     rw[AO λz=>noU^by rw[←z];exact R1.fU f hf];exact e
    .have hs5:=R5.sl j s hs
     cases s with
     |no=>trivial
     |sh d=>let#[v,e1,h2]:=hs5;exact#[v,e1,h2.pres pu]
     |ex a nm ks ds=>let#[e1,h2]:=hs5;exact#[e1,h2.pres pu]
     | br d=>
      let#[v,e1,h2]:=hs5;refine#[v,e1,h2.same pu (λa o z e=>?_) λ_ _ z=>z];subst z;let#[o3,w]:=R5.br0 j d a hs e1
      have hal:a≠l:=λz=>by
       have w':H1 a=P3 o3:=w;rw[z,hl]at w';cases w'
      rw[AO hal];exact e
     |ow d=>
      let#[a,e1,h2,_]:=hs5;exact absurd h2 (R5.new j _ a hs rfl e1).1
     |lt a d=>
      let#[e1,h2,_]:=hs5;exact absurd h2 (R5.new j _ a hs rfl e1).1
     |fd=>exact hs5
  .have e:i=ds.length:=by lk
   subst e;rw[iT]at w';refine .inl #[(y _ M' H' pr R'.ext R'.dom).2 (Re _),?_];have eb:Ext C.U H1 H':=R'.ext;have less:Pres M' H' M H':=Pres.less M'of;refine q _ H' (.lst acc) n' (e1.trans eb) (R'.feed.pres less λ_ _ _ z=>z) (VR.back e1 ?_) w';exact#[l,rfl,hl,vs,hlv,by rw[hM'];exact hac]
end
theorem QC{K:Frag}{F:p_ (Ch×Ch)}{U V' M:Ch->Prop}{H:Hp}{n:Nat}{ss:o_ Slot}{vs:o_ V}{N:o_ Str}(h:aW K F U V' M H n ss vs)(hl:vs.length<=N.length):
  Rel K #[M,F,U,V',H,[],[]] M H n (ss++fN (N.length - ss.length) .no) (L2.start N vs):=by
 let#[dom,fU,uV,vM,fd,pa]:=h;have el:vs.length=ss.length:=Paired.length pa
 have go:∀{vs:o_ V}{ss:o_ Slot}{i:Nat}{s:Slot},Paired (LC K F V' M H) vs ss->ss[i]?=P3 s->∃v,vs[i]?=P3 v/\LC K F V' M H v s:=by
  intro vs ss i s pa
  induction pa generalizing i with
  |nil=>intro e;simp at e
  | cons r t ih=>
   intro e;cases i with
   |zero=>simp at e;subst e;exact#[_,rfl,r]
   |succ i=>
    let#[v,e1,h1]:=ih (i:=i) (by simpa using e);exact#[v,by simpa using e1,h1]
 have at_:∀(i:Nat) (s:Slot),(ss++fN (N.length - ss.length) Slot.no)[i]?=P3 s->s=.no\/∃v,((L2.start N vs)[i]?).getD l_=P3 v/\LC K F V' M H v s:=by
  intro i s hs
  by_cases hi:i<ss.length
  .rw[gW hi]at hs
   let#[v,e1,h1]:=go pa hs;refine .inr #[v,?_,h1];unfold L2.start;rw[gW (by rw[Ev,el];exact hi),di,e1];rfl
  .rw[eT^by lk,iz]at hs
   split at hs
   .exact .inl (d6 hs).symm
   .cases hs
 refine#[?_,λa z=>z,dom,Ext.refl _ _,fU,uV,vM,fd,λi s hs=>?_,λp hp=>absurd hp^by simp,λi d a hs ha=>?_,λi s a hs o _=>?_,λi j s t a hs o _ _ _ _=>?_,λp hp=>absurd hp^by simp]
 .unfold L2.start
  simp only[XV,Ev,jF];lk
 .rcases at_ i s hs with rfl|⟨v,e,h⟩
  .trivial
  .rw[e];exact h.1
 .rcases at_ i _ hs with z|⟨v,e,h⟩
  .cases z
  .rw[e]at ha
   cases ha;let#[v,e1,h1]:=h.1;cases e1;exact h1.lies
 .rcases at_ i s hs with rfl|⟨v,e,h⟩
  .cases o
  .rw[h.2]at o;cases o
 .rcases at_ i s hs with rfl|⟨v,e,h⟩
  .cases o
  .rw[h.2]at o;cases o
theorem bx{P:eK}{w:eU}{K:Frag}{mg:Str->p_ Db}{base:eC}{x qual:Str}{st:f8}{f:Ch}{fd:fJ}{N ps:o_ Str}{k:Nat}{κ:Kd}{W:W2}{wb:Au}(F:Fun K x qual st f fd)(S:BU N ps^AS st)(hNp:ps.length<=N.length)
  (hb:∀(cdv:Db) (A:eh) (outer:o_ Env) (s:Rs) (H:Hp) (E:XK),Room k^A.deeper^envOfC qual (AS st) s.heap.objs.size f cdv->Ng (Hb G6 P w K mg base N qual (AS st) f cdv A outer s H E).nox κ (Bp st) wb)
  (hW:∀ss n Pd,ss.length=ps.length->W ss n Pd->wb {nx:=λn _=>κ=.sh/\Pd .non n,rt:=Pd} n (ss++fN (N.length - ps.length) .no)):
  FnOk P w K mg base G6 (k+1) f fd ps (UP K κ W ps.length):=by
 refine F.ok S (λvs H Q E h=>h.1) λcdv A outer s H vs Q E hr h=>?_;let#[hl,F0,U,V',M,n,ss,Pd,ra,hw,q]:=h;let#[t,t1,t2]:=hb cdv A outer s H E hr;refine#[t,t1,?_];have el:vs.length=ss.length:=Paired.length ra.2.2.2.2.2;have R:=QC (N:=N) ra (by lk);refine t2 #[M,F0,U,V',H,[],[]] M H n _ _ {nx:=λn _=>κ=.sh/\Pd .non n,rt:=Pd} _ R #[λM1 H1 n1 zT zK R1 p=>?_,λv H1 d n1 e1 f1 r1 p=>q v H1 d n1 e1 f1 r1 p,λ_ _ _ _ _ _ z=>z.elim,λ_ _ _ _ _ _ z=>z.elim] ?_
 .let#[hk,p]:=p
  subst hk;exact q .non H1 .non n1 R1.ext (R1.feed.pres (Pres.less R1.sub) λ_ _ _ z=>z) rfl p
 grind
end Dp
namespace L2
section
variable {X:Cx}
theorem Inv.rdl{zG:o_ (Ch×Obj)}{Z:L2.St}{H:Hp}{s:Rs}{l:Ch}{xs:o_ V}(I:Inv X zG Z H s)(h:Rd H l^.lst xs):xs.length<=sizeLine/\∃(its:o_ Db) (n:Nat),Vals xs its/\xs.length=its.length/\s.heap.get? l=P3 {cls:=.type "list",data:=.seq its.toArray n}:=by
 let#[z,its,n,r,e]:=h.ok I.hok;exact#[z,_,n,r,r.length,e]
theorem U8:OpR X (binaryOp .Add) (λx y H Q=>∃l b xs zs,x=.ref l/\y=.ref b/\Rd H l^.lst xs/\Rd H b^.lst zs/\xs.length+zs.length<=sizeLine/\∀p,H p=l_->Q (.ref p)^BF H p^.lst (xs++zs)):=by
 intro zG s Z H x y v u Q I rx ry h;let#[l,b,xs,zs,rfl,rfl,hH,hB,hz,q]:=h;cases rx;cases ry;let#[z,its,n,r,hl,e]:=I.rdl hH;let#[z2,its2,n2,r2,hl2,e2]:=I.rdl hB;refine PySem.P.add_list e e2 ?_ (by grind);have ea:its.toArray++its2.toArray=(its++its2).toArray:=by simp
 rw[ea];exact#[.ref _,_,I.lnew (r.append r2)^by grind,rfl,q _ I.fresh]
end
end L2
namespace Dp
open L2
section
variable {K:Frag}
theorem AtT.int{U M:Ch->Prop}{H:Hp}{i:Int}{v:V}(h:AtT K U M H (.int i) v):v=.int i:=h
theorem AtT.bl{U M:Ch->Prop}{H:Hp}{i:Bool}{v:V}(h:AtT K U M H (.bl i) v):v=.bl i:=h
theorem AtT.str{U M:Ch->Prop}{H:Hp}{x:Str}{v:V}(h:AtT K U M H (.str x) v):v=.str x/\x.length<=sizeLine:=h
theorem AtT.tup{U M:Ch->Prop}{H:Hp}{ds:o_ D}{v:V}(h:AtT K U M H (.tup ds) v):∃a vs,v=.ref a/\NdT M H a vs/\Ats K M H ds vs:=h
def aw(g:Int->Int->(D->Prop)->Prop)(d e:D)(P:D->Prop):Prop:=match d,e with
 |.int i,.int j=>g i j P
 |_,_=>False
theorem Lv{g:Int->Int->(D->Prop)->Prop}{d e:D}{P:D->Prop}(w:aw g d e P):∃i j,d=.int i/\e=.int j/\g i j P:=by
 unfold aw at w
 split at w
 .grind
 grind
def f2(g:Int->Int->D):D->D->(D->Prop)->Prop:=aw λi j P=>P^g i j
def Z4(C:Int->Int->Prop)(g:Int->Int->D):D->D->(D->Prop)->Prop:=aw λi j P=>C i j/\P^g i j
theorem T2{g:Int->Int->Int}:Er K .sh (Hl λi j=>.int^g i j) (f2 λi j=>.int^g i j):=by
 intro U M H d e x y P Q dom vM hx hy w q;let#[i,j,rfl,rfl,w]:=Lv w;exact#[i,j,hx,hy,q _ H (.int _) .refl rfl w]
theorem L_{g:Int->Int->Bool}:Er K .sh (Hl λi j=>.bl^g i j) (f2 λi j=>.bl^g i j):=by
 intro U M H d e x y P Q dom vM hx hy w q;let#[i,j,rfl,rfl,w]:=Lv w;exact#[i,j,hx,hy,q _ H (.bl _) .refl rfl w]
theorem EB{C:Int->Int->Prop}{g:Int->Int->Int}:Er K .sh (rI C λi j=>.int^g i j) (Z4 C λi j=>.int^g i j):=by
 intro U M H d e x y P Q dom vM hx hy w q;let#[i,j,rfl,rfl,w]:=Lv w;exact#[i,j,hx,hy,w.1,q _ H (.int _) .refl rfl w.2]
def av(g:Str->Str->(D->Prop)->Prop)(d e:D)(P:D->Prop):Prop:=match d,e with
 |.str i,.str j=>g i j P
 |_,_=>False
theorem PU{g:Str->Str->(D->Prop)->Prop}{d e:D}{P:D->Prop}(w:av g d e P):∃i j,d=.str i/\e=.str j/\g i j P:=by
 unfold av at w
 split at w
 .grind
 grind
theorem T1{g:Str->Str->Bool}:Er K .sh (λx y H Q=>∃i j,x=.str i/\y=.str j/\Q (.bl^g i j) H) (av λi j P=>P^.bl^g i j):=by
 intro U M H d e x y P Q dom vM hx hy w q;let#[i,j,rfl,rfl,w]:=PU w;exact#[i,j,hx.1,hy.1,q _ H (.bl _) .refl rfl w]
theorem RC:Er K .sh (λx y H Q=>∃i j,x=.str i/\y=.str j/\i.length+j.length<=sizeLine/\Q (.str (i++j)) H) (av λi j P=>i.length+j.length<=sizeLine/\P^.str (i++j)):=by
 intro U M H d e x y P Q dom vM hx hy w q;let#[i,j,rfl,rfl,w]:=PU w;exact#[i,j,hx.1,hy.1,w.1,q _ H (.str _) .refl #[rfl,by rw[jv i j];exact w.1] w.2]
def bz(g:o_ D->o_ D->(D->Prop)->Prop)(d e:D)(P:D->Prop):Prop:=match d,e with
 |.tup i,.tup j=>g i j P
 |_,_=>False
def b_(g:o_ D->o_ D->(D->Prop)->Prop)(d e:D)(P:D->Prop):Prop:=match d,e with
 |.lst i,.lst j=>g i j P
 |_,_=>False
theorem VT{g:o_ D->o_ D->(D->Prop)->Prop}{d e:D}{P:D->Prop}(w:bz g d e P):∃i j,d=.tup i/\e=.tup j/\g i j P:=by
 unfold bz at w
 split at w
 .grind
 grind
theorem VW{g:o_ D->o_ D->(D->Prop)->Prop}{d e:D}{P:D->Prop}(w:b_ g d e P):∃i j,d=.lst i/\e=.lst j/\g i j P:=by
 unfold b_ at w
 split at w
 .grind
 grind
theorem Dk{M:Ch->Prop}{H:Hp}{p:Ch}{vs:o_ V}{ds:o_ D}(dom:∀a,M a->∃o,H a=P3 o)(hp:H p=l_)(h:Ats K M H ds vs):At K M (BF H p^.tup vs) (.tup ds)^.ref p:=#[p,vs,rfl,AW,h.pres (A2 hp).pres]
theorem EK{U M:Ch->Prop}{H:Hp}{p:Ch}{vs:o_ V}{ds:o_ D}(hp:H p=l_)(h:Ats K M H ds vs):VR K U M H (BF H p^.lst vs) .fr (.ref p)^.lst ds:=
 #[p,rfl,hp,vs,AW,h.pres^GA hp]
theorem RB:Er K .sh (SG K) (bz λi j P=>i≠[]/\i.length+j.length<=sizeLine/\P^.tup (i++j)):=by
 intro U M H d e x y P Q dom vM hx hy w q;let#[i,j,rfl,rfl,w]:=VT w;let#[a,vs,rfl,ha,hs]:=hx.tup;let#[b,us,rfl,hb,ht]:=hy.tup;have l1:=hs.length;have l2:=ht.length;refine#[a,b,vs,us,rfl,rfl,ha.sq,hb.sq,λz=>w.1 ?_,by simp_all,λz=>?_,λz p hp=>?_]
 .rw[z]at l1;exact gi.mp l1.symm
 .rw[z]at l2
  have:j=[]:=gi.mp l2.symm
  subst this;exact q _ H (.tup i) .refl #[a,vs,rfl,ha,hs]^by grind
 .exact q _ _ (.tup (i++j)) (A2 hp) (Dk dom hp^hs.append ht) w.2.2
theorem RD:Er K .fr (λx y H Q=>∃l b xs zs,x=.ref l/\y=.ref b/\Rd H l^.lst xs/\Rd H b^.lst zs/\xs.length+zs.length<=sizeLine/\∀p,H p=l_->Q (.ref p)^BF H p^.lst (xs++zs)) (b_ λi j P=>i.length+j.length<=sizeLine/\P^.lst (i++j)):=by
 intro U M H d e x y P Q dom vM hx hy w q;let#[i,j,rfl,rfl,w]:=VW w;let#[a,vs,rfl,_,ha,hs]:=hx;let#[b,us,rfl,_,hb,ht]:=hy;exact#[a,b,vs,us,rfl,rfl,ha,hb,by rw[hs.length,ht.length];exact w.1,λp hp=>q _ _ _ (A2 hp) (EK hp^hs.append ht) w.2]
def Wc(neg:Bool)(d e:D)(P:D->Prop):Prop:=match d,e with
 |.bl i,.bl j=>P^.bl (if neg then !(i==j)else i==j)
 |.int i,.int j=>P^.bl (if neg then !(i==j)else i==j)
 |.str i,.str j=>P^.bl (if neg then !(i==j)else i==j)
 |_,_=>False
theorem PY{neg:Bool}{d e:D}{P:D->Prop}(w:Wc neg d e P):(∃i j,d=.bl i/\e=.bl j/\P^.bl (if neg then !(i==j)else i==j))\/(∃i j,d=.int i/\e=.int j/\P^.bl (if neg then !(i==j)else i==j))\/∃i j,d=.str i/\e=.str j/\P^.bl (if neg then !(i==j)else i==j):=by
 unfold Wc at w
 split at w
 .simp_all
 .simp_all
 .simp_all
 grind
theorem El:Er K .sh cj^Wc n_:=by
 intro U M H d e x y P Q dom vM hx hy w q
 rcases PY w with⟨i,j,rfl,rfl,w⟩|⟨i,j,rfl,rfl,w⟩|⟨i,j,rfl,rfl,w⟩
 .rw[hx.bl,hy.bl];exact#[rfl,q _ H _ .refl (by rw[Lx];rfl) w]
 .rw[hx.int,hy.int];exact#[rfl,q _ H _ .refl (by rw[IZ];rfl) w]
 .rw[hx.str.1,hy.str.1];exact#[rfl,q _ H _ .refl (by rw[IY];rfl) w]
theorem RA:Er K .sh ce^Wc m_:=by
 intro U M H d e x y P Q dom vM hx hy w q
 rcases PY w with⟨i,j,rfl,rfl,w⟩|⟨i,j,rfl,rfl,w⟩|⟨i,j,rfl,rfl,w⟩
 .rw[hx.bl,hy.bl];exact#[rfl,q _ H _ .refl (by rw[Lx];rfl) w]
 .rw[hx.int,hy.int];exact#[rfl,q _ H _ .refl (by rw[IZ];rfl) w]
 .rw[hx.str.1,hy.str.1];exact#[rfl,q _ H _ .refl (by rw[IY];rfl) w]
def S2:D->Bool
 |.non=>m_
 |_=>n_
theorem NB{U M:Ch->Prop}{H:Hp}{d:D}{x:V}(h:AtT K U M H d x):decide (x=.non)=S2 d:=by
 cases d with
 |non=>rw[h];rfl
 |bl b=>rw[h.bl];rfl
 |int i=>rw[h.int];rfl
 |str z=>rw[h.str.1];rfl
 |tup ds=>let#[a,vs,rfl,_]:=h.tup;rfl
 |lst ds=>let#[a,vs,rfl,_]:=h;rfl
 |dic ks ds=>let#[a,vs,rfl,_]:=h;rfl
 |fdi ks ds=>let#[a,vs,rfl,_]:=h;rfl
 |dit ks ds=>let#[a,vs,rfl,_]:=h;rfl
def EL(d e:D)(P:D->Prop):Prop:=match d,e with
 |.lst ds,.int i=>∃z,atI ds i=P3 z/\P z
 |.tup ds,.int i=>∃z,atI ds i=P3 z/\P z
 |.str x,.int i=>∃c,atI x.cps.toList i=P3 c/\P^.str #[#[ c]]
 |_,_=>False
theorem VX{d e:D}{P:D->Prop}(w:EL d e P):(∃ds i z,d=.lst ds/\e=.int i/\atI ds i=P3 z/\P z)\/(∃ds i z,d=.tup ds/\e=.int i/\atI ds i=P3 z/\P z)\/∃x i c,d=.str x/\e=.int i/\atI x.cps.toList i=P3 c/\P^.str #[#[ c]]:=by
 unfold EL at w
 split at w
 .simp_all
 .simp_all
 .simp_all
 grind
theorem Ats.atI{M:Ch->Prop}{H:Hp}{ds:o_ D}{vs:o_ V}{i:Int}{z:D}(h:Ats K M H ds vs)(e:atI ds i=P3 z):∃v,L2.atI vs i=P3 v/\At K M H z v:=by
 unfold L2.atI at e ⊢;rw[h.length];cases q:UR _ i with
 |none=>grind
 |some j=>
  rw[q]at e;exact h.get e
theorem cH:Er K .sh (cf K) EL:=by
 intro U M H d e x y P Q dom vM hx hy w q
 rcases VX w with⟨ds,i,z,rfl,rfl,hz,w⟩|⟨ds,i,z,rfl,rfl,hz,w⟩|⟨x,i,c,rfl,rfl,hc,w⟩
 .let#[a,vs,rfl,_,ha,hs]:=hx
  let#[v,hv,hAt]:=hs.atI hz;exact .inl #[a,vs,i,v,rfl,hy,.inl ha,hv,q v H z .refl hAt w]
 .let#[a,vs,rfl,ha,hs]:=hx.tup
  let#[v,hv,hAt]:=hs.atI hz;exact .inr^.inl #[a,vs,i,v,rfl,hy,ha.sq,hv,q v H z .refl hAt w]
 .exact .inr^.inr #[x,i,c,hx.str.1,hy,hx.str.2,hc,q _ H (.str _) .refl #[rfl,by show 1<=16777216;decide] w]
def cutD{α:Type}(xs:o_ α)(lo hi:p_ Int):o_ α:=(xs.drop^HT.sIx xs.length 0 lo).take (HT.sIx xs.length xs.length hi - HT.sIx xs.length 0 lo)
theorem Eo{R:V->D->Prop}{vs:o_ V}{d:D}(h:Paired R vs [d]):∃v,vs=[v]/\R v d:=by
 cases h with
 |cons r t=>cases t;grind
def bZ:D->p_ Nat
 |.str x=>P3 x.length
 |.tup xs=>P3 xs.length
 |.lst xs=>P3 xs.length
 |_=>l_
def Z1(ds:o_ D)(P:D->Prop):Prop:=∃d n,ds=[d]/\bZ d=P3 n/\P^.int (n:Int)
theorem aI:DD K .sh (λxs H Q=>∃x n,xs=[x]/\Ym K x H n/\Q (.int n) H) Z1:=by
 intro U M H ds vs P Q dom vM hp w q;let#[d,n,rfl,hn,w]:=w;let#[v,rfl,hx]:=Eo hp;refine#[v,n,rfl,?_,q _ H (.int _) .refl rfl w];cases d with
 |str z=>cases hn;rw[hx.str.1];exact#[hx.str.2,rfl]
 |tup xs=>
  cases hn;let#[a,us,rfl,ha,hs]:=hx.tup;exact .inr #[us,ha.sq,hs.length.symm]
 |lst xs=>
  cases hn;let#[a,us,rfl,_,ha,hs]:=hx;exact .inl #[us,.inl ha,hs.length.symm]
 |_=>cases hn
def allB:o_ D->p_^o_ Bool
 |[]=>P3 []
 |.bl b::r=>(allB r).map (b::·)
 |_::_=>l_
theorem Pk{M:Ch->Prop}{H:Hp}:∀{ds:o_ D}{vs:o_ V}{bs:o_ Bool},allB ds=P3 bs->Ats K M H ds vs->vs=bs.map V.bl
 |[],vs,bs,e,h=>by cases e;exact h
 |.bl b::r,vs,bs,e,h=>by
  let#[v,r',e1,h1,h2]:=h;let#[bs',e2,rfl]:=eq.mp e;rw[e1,Pk e2 h2,h1];rfl
 |.non::r,vs,bs,e,h=>by cases e
 |.int _::r,vs,bs,e,h=>by cases e
 |.str _::r,vs,bs,e,h=>by cases e
 |.tup _::r,vs,bs,e,h=>by cases e
 |.lst _::r,vs,bs,e,h=>by cases e
 |.dic _ _::r,vs,bs,e,h=>by cases e
 |.fdi _ _::r,vs,bs,e,h=>by cases e
 |.dit _ _::r,vs,bs,e,h=>by cases e
def TL(ds:o_ D)(P:D->Prop):Prop:=∃xs bs,ds=[.lst xs]/\allB xs=P3 bs/\P^.bl^bs.all id
theorem G4:DD K .sh (λxs H Q=>∃(p:Ch) (bs:o_ Bool),xs=[.ref p]/\SqL K H p^bs.map V.bl/\Q (.bl^bs.all id) H) TL:=by
 intro U M H ds vs P Q dom vM hp w q;let#[xs,bs,rfl,e,w]:=w;let#[v,rfl,hx]:=Eo hp;let#[a,us,rfl,_,ha,hs]:=hx
 have:=Pk e hs
 subst this;exact#[a,bs,rfl,.inl ha,q _ H (.bl _) .refl rfl w]
def NW:o_ D->p_^o_ Str
 |[]=>P3 []
 |.str b::r=>(NW r).map (b::·)
 |_::_=>l_
theorem L6{M:Ch->Prop}{H:Hp}:∀{ds:o_ D}{vs:o_ V}{bs:o_ Str},NW ds=P3 bs->Ats K M H ds vs->vs=bs.map V.str
 |[],vs,bs,e,h=>by cases e;exact h
 |.str b::r,vs,bs,e,h=>by
  let#[v,r',e1,h1,h2]:=h;let#[bs',e2,rfl]:=eq.mp e;rw[e1,L6 e2 h2,h1.1];rfl
 |.non::r,vs,bs,e,h=>by cases e
 |.int _::r,vs,bs,e,h=>by cases e
 |.bl _::r,vs,bs,e,h=>by cases e
 |.tup _::r,vs,bs,e,h=>by cases e
 |.lst _::r,vs,bs,e,h=>by cases e
 |.dic _ _::r,vs,bs,e,h=>by cases e
 |.fdi _ _::r,vs,bs,e,h=>by cases e
 |.dit _ _::r,vs,bs,e,h=>by cases e
def Wa(d:D)(ds:o_ D)(P:D->Prop):Prop:=∃(z:Str) (xs:o_ D) (ys:o_ Str),d=.str z/\ds=[.lst xs]/\NW xs=P3 ys/\(ys.map (·.length)).sum+ys.length*z.length<=16777216/\(Txt.join z ys).length<=16777216/\P^.str^Txt.join z ys
theorem YS:cR K .sh "str" (λx xs H Q=>∃(z:Str) (p:Ch) (ys:o_ Str),x=.str z/\xs=[.ref p]/\SqL K H p^ys.map V.str/\(ys.map (·.length)).sum+ys.length*z.length<=16777216/\Q (.str^Txt.join z ys) H) Wa:=by
 intro U M H d ds x vs P Q dom vM hx hp w q;let#[z,xs,ys,rfl,rfl,e,h1,h2,w]:=w;let#[v,rfl,hy]:=Eo hp;let#[a,us,rfl,_,ha,hs]:=hy
 have:=L6 e hs
 subst this;exact#[z,a,ys,hx.str.1,rfl,.inl ha,h1,q _ H (.str _) .refl #[rfl,by assumption] w]
end
def am:D->String
 |.non=>"NoneType"
 |.bl _=>"bool"
 |.int _=>"int"
 |.str _=>"str"
 |.tup _=>"tuple"
 |.lst _=>"list"
 |.dic _ _=>"dict"
 |.fdi _ _=>"dict"
 |.dit _ _=>"dict"
def Zl(t T:String):Bool:=t==T||(t=="bool"&&T=="int")
def bC(T:String)(wa:DW):DW:=λn ρ P=>wa n ρ λd n1=>P (.bl^Zl (am d) T) n1
structure UO (K:Frag) (T:String):Prop where
 ans:∀t∈["NoneType","bool","int","str","tuple","list","dict"],PySem.W.kitOne K (.type t)^.type T=P3^Zl t T
theorem Ua{K:Frag}{M U:Ch->Prop}{H:Hp}{d:D}{x:V}(h:AtT K U M H d x):GI K H x^.type^am d:=by
 cases d with
 |non=>cases(h);exact .non
 |bl b=>cases h.bl;exact .bl b
 |int i=>cases h.int;exact .int i
 |str z=>cases h.str.1;exact .str z
 |tup ds=>
  let#[a,vs,rfl,ha,hs]:=h.tup;exact .tup ha
 |lst ds=>
  let#[a,vs,rfl,_,ha,hs]:=h
  rcases ha with ha|⟨o,ha⟩
  .exact .lst ha
  .exact .frz ha
 |dic ks ds=>
  let#[a,vs,rfl,_,ha,_]:=h;exact .dK ha
 |fdi ks ds=>
  let#[a,vs,rfl,#[o,_,ha],_]:=h;exact .dF ha
 |dit ks ds=>
  let#[a,vs,rfl,_,ha,_]:=h;exact .dT ha
theorem Ub(d:D):am d∈["NoneType","bool","int","str","tuple","list","dict"]:=by cases d <;>simp[am]
theorem FF{X:Cx}{a:eO}{κ:Kd}{wa:DW}{T:String}{Tn:Str}{p p2 pos:Pos}(kt:UO X.K T)(ha:DE X a κ wa)(hg:Gl X "isinstance")(hm:X.mg "isinstance"=l_)(hgT:Gl X Tn)(hmT:X.mg Tn=l_)(hvT:bootBuiltins Tn=P3^.type T)
  (hnT:Tn ≠ "__name__":=by decide) (hdT:(Tn==("__debug__":Str))=n_:=by decide)
  (he:starEach [a,.Name Tn p2] X.env=(n_,eval a X.env)::starEach [.Name Tn p2] X.env:=by rfl) (he2:starEach [.Name Tn p2] X.env=[(n_,eval (.Name Tn p2) X.env)]:=by rfl)
  (hpl:(backTo pos^starEach [.Name Tn p2] X.env).any (·.1)=n_:=by rfl):DE X (.Call (.Name "isinstance" p) [a,.Name Tn p2] [] pos) .sh^bC T wa:=by
 let#[t,h1,h2]:=ha;have pT:PE X (.Name Tn p2)^tC^.ty T:=U4 hgT hmT hvT rfl hnT hdT;exact#[_,Ga NT hg hm (by decide +kernel) (B_ h1 (B_ pT De he2) he) (by cbv) (by cbv) he hpl,λC M H n ρ Z P Q R w q=>h2 C M H n ρ Z _ _ R w λv H1 d n1 e1 f1 r1 p=>#[v,T,_,_,rfl,Ua^r1.tpOf R.dom R.vM,kt.ans _^Ub d,q _ H1 (.bl _) n1 e1 f1 rfl p]]
section
variable {K:Frag}{X:Cx}
def Wd(d e:D)(P:D->Prop):Prop:=match d,e with
 |.int i,.int j=>P^.int (i+j)
 |.str i,.str j=>i.length+j.length<=sizeLine/\P^.str (i++j)
 |.tup i,.tup j=>i≠[]/\i.length+j.length<=sizeLine/\P^.tup (i++j)
 |.lst i,.lst j=>i.length+j.length<=sizeLine/\P^.lst (i++j)
 |_,_=>False
def Za:R2:=λx y H Q=>∃l b xs zs,x=.ref l/\y=.ref b/\Rd H l^.lst xs/\Rd H b^.lst zs/\xs.length+zs.length<=sizeLine/\∀p,H p=l_->Q (.ref p)^BF H p^.lst (xs++zs)
def ZZ:R2:=λx y H Q=>∃i j,x=.str i/\y=.str j/\i.length+j.length<=sizeLine/\Q (.str (i++j)) H
def WE(g:Str->Str->Bool):R2:=λx y H Q=>∃i j,x=.str i/\y=.str j/\Q (.bl^g i j) H
def SH(K:Frag):R2:=λx y H Q=>(Hl λi j=>.int (i+j)) x y H Q\/ZZ x y H Q\/SG K x y H Q\/Za x y H Q
theorem op_addU:OpR X (binaryOp .Add)^SH X.K:=op_add.or^(N6).or^op_catT.or^U8
theorem MA:Er X.K .sh (SH X.K) Wd:=λU M H d e x y P Q dom vM hx hy w q=>by
 unfold Wd at w
 split at w
 .exact .inl^T2 U M H _ _ x y P Q dom vM hx hy w q
 .exact .inr^.inl^RC U M H _ _ x y P Q dom vM hx hy w q
 .exact .inr^.inr^.inl^RB U M H _ _ x y P Q dom vM hx hy w q
 .exact .inr^.inr^.inr^RD U M H _ _ x y P Q dom vM hx hy w λv H' z g r p=>q v H' z g (r.shOf dom^by grind) p
 grind
def Z0(d e:D)(P:D->Prop):Prop:=match d,e with
 |.int i,.int j=>P^.bl (decide (i<j))
 |.str i,.str j=>P^.bl (decide (i.cps.toList<j.cps.toList))
 |_,_=>False
def XU:R2:=λx y H Q=>(Hl λi j=>.bl (decide (i<j))) x y H Q\/WE (λi j=>decide (i.cps.toList<j.cps.toList)) x y H Q
theorem op_ltU:OpR X (compareOp .Lt) XU:=op_lt.or QL
theorem Wi:Er X.K .sh XU Z0:=λU M H d e x y P Q dom vM hx hy w q=>by
 unfold Z0 at w
 split at w
 .exact .inl^L_ U M H _ _ x y P Q dom vM hx hy w q
 .exact .inr^T1 U M H _ _ x y P Q dom vM hx hy w q
 grind
def X9(d e:D)(P:D->Prop):Prop:=match d,e with
 |.int i,.int j=>P^.bl (decide (i<=j))
 |.str i,.str j=>P^.bl (!(decide (j.cps.toList<i.cps.toList)))
 |_,_=>False
def ZQ:R2:=λx y H Q=>(Hl λi j=>.bl (decide (i<=j))) x y H Q\/WE (λi j=>!(decide (j.cps.toList<i.cps.toList))) x y H Q
theorem JJ:OpR X (compareOp .LtE) ZQ:=op_le.or QM
theorem NZ:Er X.K .sh ZQ X9:=λU M H d e x y P Q dom vM hx hy w q=>by
 unfold X9 at w
 split at w
 .exact .inl^L_ U M H _ _ x y P Q dom vM hx hy w q
 .exact .inr^T1 U M H _ _ x y P Q dom vM hx hy w q
 grind
def ZU:R2:=Hl λi j=>.bl (decide (j<i))
theorem LZ:OpR X (compareOp .Gt) ZU:=WS
theorem Po:Er X.K .sh ZU (f2 λi j=>.bl (decide (j<i))):=L_
def ZV:R2:=Hl λi j=>.bl (decide (j<=i))
theorem N4:OpR X (compareOp .GtE) ZV:=WT
theorem T3:Er X.K .sh ZV (f2 λi j=>.bl (decide (j<=i))):=L_
def ZJ:V->p_ Int->p_ Int->Hp->VK->Prop:=λx lo hi H Q=>∃z,x=.str z/\z.length<=sizeLine/\Q (.str^Txt.slice z lo hi) H
theorem sl_U:SlR X ZJ:=XN
def bB(w:DW):DW:=λn ρ P=>w n ρ λd n1=>∃i,d=.int i/\P (.int (-i)) n1
theorem YG{a:eO}{κ:Kd}{wa:DW}{pos:Pos}(h:DE X a κ wa):DE X (.UnaryOp .USub a pos) .sh^bB wa:=by
 let#[t,h1,h2]:=h;refine#[_,Zd W8 h1,λC M H n ρ Z P Q R w q=>?_];refine h2 C M H n ρ Z _ _ R w λv H1 d n1 e1 f1 r1 p=>?_;let#[i,rfl,p]:=p;exact#[i,ON r1,q _ H1 (.int _) n1 e1 f1 rfl p]
def Got(P:eK)(w:eU)(K:Frag)(mg:Str->p_ Db)(base:eC)(x:Str)(k:Nat)(ps:o_ Str)(κ:Kd)(W:W2):Prop:=
 ∃f fd,FnOk P w K mg base G6 k f fd ps^UP K κ W ps.length/\mg x=P3^.ref f/\keepIn K^.ref f=m_/\Binds K fd ps []/\∀ss n P,W ss n P->ss.length=ps.length
theorem AY{e:eO}{es:o_ eO}{k:Nat}{ps:o_ Str}{κ:Kd}{W:W2}{x:Str}{p pos:Pos}{was:V5}(G:Got X.prog X.w X.K X.mg X.base x k ps κ W)
  (hr:Room k X.A) (hg:Gl X x) (ha:UT X (e::es) was)
  (hdb:(x==("__debug__":Str))=n_:=by decide) (he:starEach (e::es) X.env=(n_,eval e X.env)::starEach es X.env:=by rfl) (hpl:(backTo pos^starEach es X.env).any (·.1)=n_:=by rfl):
  DE X (.Call (.Name x p) (e::es) [] pos) κ (Ag W was):=by
 let#[f,fd,G,hm,hk,hb,hW]:=G;exact Vi G hW hr hg hm hk hb ha hdb he hpl
def WP(np:Nat)(g:o_ D->D):W2:=λss n P=>∃ds:o_ D,ds.length=np/\ss=ds.map .sh/\P (g ds) n
theorem QD{np:Nat}{g:o_ D->D}{ss:o_ Slot}{n:Nat}{P:D->Nat->Prop}(h:WP np g ss n P):ss.length=np:=by
 let#[ds,e,rfl,_]:=h
 grind
theorem VJ:UO K "int":=#[λt ht=>by
 simp at ht
 rcases ht with rfl|rfl|rfl|rfl|rfl|rfl|rfl <;>kernel_rfl]
theorem Sy:UO K "bool":=#[λt ht=>by
 simp at ht
 rcases ht with rfl|rfl|rfl|rfl|rfl|rfl|rfl <;>kernel_rfl]
theorem VI:UO K "str":=#[λt ht=>by
 simp at ht
 rcases ht with rfl|rfl|rfl|rfl|rfl|rfl|rfl <;>kernel_rfl]
theorem kit_tuple:UO K "tuple":=#[λt ht=>by
 simp at ht
 rcases ht with rfl|rfl|rfl|rfl|rfl|rfl|rfl <;>kernel_rfl]
end
theorem F8{i:Nat}{te:DW}{P:o_ D->Nat->Prop}{g:D->D}(I:o_ Slot->Prop)(hI:∀d ρ,I ρ->I^ρ.set i^.sh d):
  ∀(ds acc:o_ D) (n:Nat) (ρ:o_ Slot),(∀d∈ds,∀ρ n P',I ρ->P' (g d) n->te n (ρ.set i^.sh d) P')->I ρ->P (acc++ds.map g) n->Ce (Ae i) Ey te P ds acc n ρ
 |[],acc,n,ρ,_,_,h=>by
  rw[im,dk]at h;exact h
 |d::ds,acc,n,ρ,ht,hρ,h=>by
  refine ht d FM ρ n _ hρ ?_;refine F8 I hI ds _ n _ (λd hd=>ht d^Sc _ hd) (hI d ρ hρ) ?_
  simp_all
theorem FL{α:Type}(p:α->Bool):∀l:o_ α,allB (l.map λc=>.bl^p c)=P3^l.map p
 |[]=>rfl
 |a::l=>by
  rw[e8];unfold allB;rw[FL p l];rfl
theorem Tp{b1 b2:Bool}{P:D->Nat->Prop}{n:Nat}{k:(D->Nat->Prop)->Prop}(hk:b1=m_->P (.bl b2) n->k P)(h:P (.bl (b1&&b2)) n):(match (.bl b1:D)with|.bl m_=>k P|.bl n_=>P (.bl n_) n|_=>False):=by
 cases b1 with
 |false=>exact h
 |true=>grind
theorem TF{P:eK}{w:eU}{K:Frag}{mg:Str->p_ Db}{base:eC}{x:Str}{st:f8}{f:Ch}{fd:fJ}{k:Nat}{ps:o_ Str}{κ:Kd}{W:W2}(F:Fun K x x st f fd)(m:mg x=P3^.ref f)(b:Binds K fd ps [])
  (hW:∀ss n P,W ss n P->ss.length=ps.length) (ok:FnOk P w K mg base G6 k f fd ps^UP K κ W ps.length):Got P w K mg base x k ps κ W:=#[f,fd,ok,m,F.kp,b,hW]
def MZ(K:Frag):Sp:=λvs H Q _=>∃a ns,vs=[V.ref a]/\(iI (α:=Int) ns<=63/\SqL K H a^ns.map V.int)/\∀H',Q (.bl m_) H'
def LJ(K:Frag):Sp:=λvs H Q _=>∃a ns,vs=[V.ref a]/\(iI (α:=Int) ns<=63/\SqL K H a^ns.map V.int) /\
 ∀(c f:Ch) (H':Hp),c≠f->H' c=P3^.lst^ns.map V.int->H' f=P3^.lst [.ref c,.int 0,.int 0]->Q (.ref f) H'
theorem aB{ns:o_ Int}(h:ns.length<=63):NO (ns.map V.int) l_^P3 63=ns.map V.int:=by
 have e:HT.sIx (ns.map V.int).length (ns.map V.int).length^P3 63=ns.length:=by
  rw[show(63:Int)=(63:Nat)from rfl,HT.sIx_nat,Ev,Nat.min_eq_right h]
 unfold NO;rw[HT.sIx_none]
 grind
theorem HP{b:BW}{body:Au}{D2:E2}(I:Nat->Nat->o_ Slot->Prop)(hend:∀n ρ,I 0 n ρ->D2.nx n ρ):
  ∀(ds:o_ D) (n:Nat) (ρ:o_ Slot) (_:∀(k:Nat) (d:D) (n:Nat) (ρ:o_ Slot) (nx:Nat->o_ Slot->Prop),d∈ds->I (k+1) n ρ->(∀n' zY,I k n' zY->nx n' zY)->b d ρ λzT=>body {D2 with nx:=nx,ct:=nx,bk:=D2.nx} n zT),
   I ds.length n ρ->A9 b body D2 ds n ρ
 |[],n,ρ,_,h=>hend n ρ h
 |d::ds,n,ρ,hs,h=>hs _ d n ρ _ FM h λn' zY h'=>HP I hend ds n' _ (λk d n ρ nx hm=>hs k d n ρ nx^Sc _ hm) h'
theorem Zv{P:eK}{w:eU}{K:Frag}{mg:Str->p_ Db}{base:eC}{st s1:f8}{rest:o_ f8}{f:Ch}{fd:fJ}{Nr:o_ Str}{k n0:Nat}{wb:Au}(F:Fun K "law" "law" st f fd)
  (S:BU ("_law_script"::"_law_feed_here"::Nr) ["_law_script"]^AS st) (hbd:Bp st=s1::rest) (hn0:n0<=2 ^ 60)
  (h1:∀(cdv:Db) (A:eh) (outer:o_ Env) (s:Rs) (H:Hp) (E:XK),Room k^A.deeper^envOfC "law" (AS st) s.heap.objs.size f cdv->
   PS (Hb G6 P w K mg base ("_law_script"::"_law_feed_here"::Nr) "law" (AS st) f cdv A outer s H E).nox s1 (MS (Rv (LJ K) [] E0^Ov (CG 0) Uk)^Hr 1))
  (h2:∀(cdv:Db) (A:eh) (outer:o_ Env) (s:Rs) (H:Hp) (E:XK),Room k^A.deeper^envOfC "law" (AS st) s.heap.objs.size f cdv->
   Ng (Hb G6 P w K mg base ("_law_script"::"_law_feed_here"::Nr) "law" (AS st) f cdv A outer s H E).nox .sh rest wb)
  (hW:wb {nx:=λ_ _=>False,rt:=λd _=>d=.bl m_} n0 (.no::.fd::fN Nr.length .no)):FnOk P w K mg base G6 (k+1) f fd ["_law_script"]^MZ K:=by
 refine F.ok S (λvs H Q E h=>?_) λcdv A outer s H vs Q E hr h=>?_
 .let#[a,ns,rfl,_]:=h
  rfl
 .let#[a,ns,rfl,#[hl,hS],q]:=h
  let#[t,t1,t2]:=h2 cdv A outer s H E hr;refine#[P9 (MS (Rv (LJ K) [] E0^Ov (CG 0) Uk)^Hr 1) t,by rw[hbd];exact Ba (h1 cdv A outer s H E hr) t1,?_];refine#[_,rfl,a,ns,rfl,#[hl,hS],λc g H' hcg hc hg=>?_]
  have at_:∀(i:Nat) (sl:Slot),(Slot.no::Slot.fd::fN Nr.length Slot.no)[i]?=P3 sl->Slot.no=sl\/(Slot.fd=sl/\i=1):=by
   intro i sl hs
   match i,hs with
   |0,hs=>exact .inl^d6 hs
   |1,hs=>exact .inr #[d6 hs,rfl]
   |i+2,hs=>
    rw[kJ,kJ,iz]at hs
    split at hs
    .exact .inl^d6 hs
    .cases hs
  have R:Rel K #[λb=>b=g,P3 (g,c),λb=>b=g,λb=>b=g,H',[],[]] (λb=>b=g) H' n0 (.no::.fd::fN Nr.length .no)^(start ("_law_script"::"_law_feed_here"::Nr) [V.ref a]).set 1^P3^.ref g:=by
   refine#[by simp[L2.start],λ_ z=>z,λb z=>#[_,(congrArg H' z).trans hg],Ext.refl _ _,λb z=>by rw[←d6 z],λ_ z=>z,λ_ z=>z,λb z=>?_,λi sl hs=>?_,λp hp=>absurd hp^by simp,λi d b hs _=>?_,λi sl b hs o _=>?_,λi j sl t b hs o _ _ _ _=>?_,λp hp=>absurd hp^by simp]
   .have e:(g,c)=b:=d6 z
    subst e;exact#[0,0,ns,hg,hcg,#[hcg,hc],hl,by cbv,by lk]
   .rcases at_ i sl hs with e|⟨e,rfl⟩
    .rw[←e];trivial
    .rw[←e]
     exact#[(g,c),by simp[L2.start],rfl]
   .rcases at_ i _ hs with e|⟨e,_⟩ <;>cases e
   .rcases at_ i sl hs with e|⟨e,_⟩ <;>(rw[←e]at o;cases o)
   .rcases at_ i sl hs with e|⟨e,_⟩ <;>(rw[←e]at o;cases o)
  refine t2 _ _ H' n0 _ _ {nx:=λ_ _=>False,rt:=λd _=>d=.bl m_} _ R #[λ_ _ _ _ _ _ z=>z.elim,λv H2 d n' _ _ r p=>?_,λ_ _ _ _ _ _ z=>z.elim,λ_ _ _ _ _ _ z=>z.elim] hW;have e:d=.bl m_:=p;subst e;have e2:v=.bl m_:=r;subst e2;exact q H2
end Dp
namespace L2
section
variable {X:Cx}
theorem CZ:∀{us:o_ Db}{ys:o_ Str},StrsAre us ys->Vals (ys.map V.str) us
 |_,_,.nil=>.nil
 |_,_,.cons x t r=>.cons #[t,rfl]^CZ r
def SD(K:Frag):o_ V->Hp->VK->Prop:=λxs H Q=>∃(p:Ch) (ss:o_ Str),xs=[.ref p]/\SqL K H p^ss.map V.str/\ss.length<64/\∀(ss':o_ Str) (l:Ch),ss'.Perm ss->sortedS ss'=m_->H l=l_->Q (.ref l)^BF H l^.lst^ss'.map V.str
theorem Jt:Cq X (.builtin "sorted")^SD X.K:=by
 intro zG s Z H xs us Q I r h;let#[p,ss,rfl,hq,h64,q]:=h;let#[u,rfl,rx]:=vals1 r;cases rx;let#[its,r',pl,hz]:=I.list hq;have hlen:=r'.length;rw[Ev]at hlen;refine sorted_strs pl.isList (Iq r') (by lk) λout ss' a1 a2 a3=>?_;let#[e,he]:=sortedAll_at _ _ _;have hl':=a2.length_eq;have hn:=I.hok.fresh^fj _;refine#[.ref _,_,I.laid (λb o z=>sortedAll_old z) (fj _) (show ObjOk _ _ _ _ _^.lst _ from#[?_,_,e,CZ a1,?_]),rfl,q _ _ a2 a3 hn]
 .grind
 .exact he
def WI:R2:=λx y H Q=>∃z k,x=.str z/\y=.int k/\MulOk z k/\Q (.str^Txt.mul z k) H
theorem U7:OpR X (binaryOp .Mult) WI:=by
 intro zG s Z H x y v u Q I rx ry h;let#[z,k,rfl,rfl,hm,q]:=h;let#[t,rfl]:=rx;let#[t',rfl]:=ry;exact SB.mul hm λt' k=>#[.str _,H,I.tok _,#[_,rfl],q]
end
end L2
namespace Dp
open L2
section
variable {K:Frag}
def Fb(ds:o_ D)(P:D->Prop):Prop:=match ds with
 |[.lst xs]=>P^.tup xs
 |[.tup xs]=>P^.tup xs
 |_=>False
theorem Tz:DD K .sh (λxs H Q=>∃p ys,xs=[.ref p]/\((SqL K H p ys/\∀l,H l=l_->Q (.ref l)^BF H l^.tup ys)\/(SqT K H p ys/\Q (.ref p) H))) Fb:=by
 intro U M H ds vs P Q dom vM hp w q;unfold Fb at w
 split at w
 .let#[v,rfl,hx]:=Eo hp
  let#[a,us,rfl,_,ha,hs]:=hx;exact#[a,us,rfl,.inl #[.inl ha,λl hl=>q _ _ (.tup _) (A2 hl) (Dk dom hl hs) w]]
 .let#[v,rfl,hx]:=Eo hp
  let#[a,us,rfl,ha,hs]:=hx.tup;exact#[a,us,rfl,.inr #[ha.sq,q _ H (.tup _) .refl #[a,us,rfl,ha,hs] w]]
 grind
theorem Ats.strs{M:Ch->Prop}{H:Hp}:∀{ss:o_ Str},(∀x∈ss,x.length<=sizeLine)->Ats K M H (ss.map D.str)^ss.map V.str
 |[],_=>rfl
 |x::r,h=>#[_,_,rfl,#[rfl,h x FM],Ats.strs λy hy=>h y^Sc _ hy]
theorem Ats.strs_le{M:Ch->Prop}{H:Hp}:∀{ss:o_ Str}{vs:o_ V},Ats K M H (ss.map D.str) vs->∀x∈ss,x.length<=sizeLine
 |[],_,_=>λx hx=>by cases hx
 |y::r,vs,h=>λx hx=>by
  let#[v,t,e,h1,h2]:=h
  rcases UF.mp hx with rfl|hx
  .exact h1.2
  .exact Ats.strs_le h2 x hx
def OQ(ds:o_ D)(P:D->Prop):Prop:=∃(xs:o_ D) (ss:o_ Str),ds=[.lst xs]/\NW xs=P3 ss/\ss.length<64/\∀ss':o_ Str,ss'.Perm ss->sortedS ss'=m_->P^.lst^ss'.map .str
theorem Ph:∀{xs:o_ D}{ss:o_ Str},NW xs=P3 ss->xs=ss.map .str
 |[],ss,h=>by cases h;rfl
 |.str b::r,ss,h=>by
  let#[t,e,rfl]:=eq.mp h;rw[e8,←Ph e]
 |.non::r,ss,h=>by cases h
 |.int _::r,ss,h=>by cases h
 |.bl _::r,ss,h=>by cases h
 |.tup _::r,ss,h=>by cases h
 |.lst _::r,ss,h=>by cases h
 |.dic _ _::r,ss,h=>by cases h
 |.fdi _ _::r,ss,h=>by cases h
 |.dit _ _::r,ss,h=>by cases h
theorem Pn:DD K .fr (SD K) OQ:=by
 intro U M H ds vs P Q dom vM hp w q;let#[xs,ss,rfl,e,h64,w]:=w;let#[v,rfl,hx]:=Eo hp;let#[a,us,rfl,_,ha,hs]:=hx
 have:=L6 e hs
 subst this;have e2:=Ph e;subst e2;exact#[a,ss,rfl,.inl ha,h64,λss' l h1 h2 hl=>q _ _ _ (A2 hl) (EK hl^Ats.strs λx hx=>hs.strs_le x^h1.mem_iff.mp hx)^w _ h1 h2]
def PV(d e:D)(P:D->Prop):Prop:=match d,e with
 |.int i,.int j=>CMul i j/\P^.int (i*j)
 |.str z,.int k=>MulOk z k/\(Txt.mul z k).length<=sizeLine/\P^.str^Txt.mul z k
 |_,_=>False
def WJ:R2:=λx y H Q=>(rI CMul λi j=>.int (i*j)) x y H Q\/WI x y H Q
theorem EY{X:Cx}:OpR X (binaryOp .Mult) WJ:=op_mul.or U7
theorem GH:Er K .sh WJ PV:=λU M H d e x y P Q dom vM hx hy w q=>by
 unfold PV at w
 split at w
 .exact .inl^EB U M H _ _ x y P Q dom vM hx hy w q
 .rename_i z k
  exact .inr #[z,k,hx.1,hy,w.1,q _ H (.str _) .refl #[rfl,w.2.1] w.2.2]
 grind
end
section
variable {X:Cx}{tg e e2:Expr}{es:o_ Expr}{ws:Dq}{p pos:Pos}
def Yy(ws:Dq):Dq:=λn ρ P=>ws n ρ λds n1=>∃i j:Int,ds=[.int i,.int j]/\(-(2 ^ 62)<=i/\i<2 ^ 62/\-(2 ^ 62)<=j/\j<2 ^ 62)/\P (DF i (j - i).toNat) n1
theorem Kx(hg:Gl X "range")(hm:X.mg "range"=l_)(ha:UU X [e,e2] ws)(hs:starEach [e,e2] X.env=[(n_,eval e X.env),(n_,eval e2 X.env)]:=by rfl)(hs2:starEach [e2] X.env=[(n_,eval e2 X.env)]:=by rfl):DI X tg (.Call (.Name "range" p) [e,e2] [] pos)^Yy ws:=by
 let#[t,a1,a2]:=ha;refine#[_,QF hg hm a1 hs hs2,λC M H n ρ Z P Rr R w q=>?_];refine a2 C M H n ρ Z _ _ R w λvs H1 ds n1 e1 f1 r1 p=>?_;let#[i,j,rfl,hj,p]:=p;cases r1 with
 | cons r rr=>
  cases rr with
  |cons r' rr=>
   cases rr;have hv:=r;have hv':=r';exact#[i,j,by rw[hv,hv'],hj,q _ H1 _ n1 e1 f1 GK p]
def ak(X:Cx)(ts:o_ eO)(b:o_ D->o_ Slot->(o_ Slot->Prop)->Prop):Prop:=∃g,ac X ts g/\∀(C:Fm) (M:Ch->Prop) (H:Hp) (n:Nat) (ρ:o_ Slot) (Z:L2.St) (ds:o_ D) (vs:o_ V) (P:o_ Slot->Prop) (Q:L2.St->Hp->Prop),Rel X.K C M H n ρ Z->Ats X.K M H ds vs->b ds ρ P->
 (∀zY zZ,Rel X.K C M H n zY zZ->P zY->Q zZ H)->g vs Z H Q
def CU:o_ D->o_ Slot->(o_ Slot->Prop)->Prop:=λds ρ P=>ds=[]/\P ρ
def An(b:BW)(bs:o_ D->o_ Slot->(o_ Slot->Prop)->Prop):o_ D->o_ Slot->(o_ Slot->Prop)->Prop:=λds ρ P=>match ds with
 |d::r=>b d ρ λzT=>bs r zT P
 |[]=>False
theorem BS:ak X [] CU:=#[_,O8,λC M H n ρ Z ds vs P Q R h w q=>by
 let#[rfl,w]:=w;exact#[h,q ρ Z R w]]
theorem AQ{b:BW}{bs:o_ D->o_ Slot->(o_ Slot->Prop)->Prop}(h1:DG X e b)(h2:ak X es bs)(hs:(assignEach (e::es) X.env).map (·.2)=assign e X.env::(assignEach es X.env).map (·.2):=by rfl):ak X (e::es)^An b bs:=by
 let#[g,a1,a2]:=h1;let#[g',b1,b2]:=h2;refine#[_,GY a1 b1 hs,λC M H n ρ Z ds vs P Q R h w q=>?_];cases ds with
 |nil=>exact w.elim
 |cons d r=>
  let#[v,vr,e,hv,hr]:=h;exact#[v,vr,e,a2 C M H n ρ Z d v _ _ R hv w λzY zZ R' w'=>b2 C M H n _ _ r vr _ _ R' hr w' q]
def D_(k:Nat)(bs:o_ D->o_ Slot->(o_ Slot->Prop)->Prop):BW:=λd ρ P=>match d with
 |.tup ds=>ds.length=k/\bs ds ρ P
 |_=>False
theorem YF{bs:o_ D->o_ Slot->(o_ Slot->Prop)->Prop}{k:Nat}{j:Nat}(hc:X.calm=m_)(h:ak X es bs)(hn:(assignEach es X.env).length=k:=by rfl)(hst:(assignEach es X.env).findIdx? (·.1)=l_:=by rfl):DG X (.Tuple es j pos)^D_ k bs:=by
 let#[g,a1,a2]:=h;refine#[_,SX hc a1 hn hst,λC M H n ρ Z d v P Q R h w q=>?_];cases d with
 |tup ds=>
  let#[a,vs,rfl,hq,hs]:=h;exact#[a,vs,rfl,hq.sq,by rw[hs.length];exact w.1,a2 C M H n ρ Z ds vs P Q R hs w.2 q]
 |_=>exact w.elim
def bD(wa:DW)(b:BW):Au:=λD2 n ρ=>wa n ρ λd n1=>b d ρ λzT=>D2.nx n1 zT
theorem YD{κ zS:Kd}{wa:DW}{b:BW}(he:DE X e zS wa)(hg:DG X tg b)(hk:zS≠.tp:=by intro z;cases z)(hs:swapsWithSole [tg] e pos.line X.env=pure n_:=by rfl)(hw:swappedStores [tg] e X.env=pure l_:=by rfl)
  (h1:(assignEach [tg] X.env).map (·.2)=[assign tg X.env]:=by rfl):DS X κ (.Assign [tg] e pos)^bD wa b:=by
 let#[t,a1,a2]:=he;let#[g,g1,g2]:=hg;exact#[_,LU a1 g1 hs hw h1,λC M H n ρ Z D2 E R L w=>a2 C M H n ρ Z _ _ R w λv H' d n' e1 f1 r1 p=>g2 C M H' n' ρ Z d v _ _ (R.step e1 f1) (r1.shOf R.dom hk) p λzY zZ R' w'=>L.nx M H' n' _ _ R' w']
end
end Dp
namespace L2
mutual
def RV(H:Hp):iE->V->Prop
 |.none,v=>v=.non
 |.bool b,v=>v=.bl b
 |.int i,v=>v=.int i
 |.str x,v=>v=.str x
 |.tuple xs,v=>∃a vs,v=.ref a/\H a=P3^.tup vs/\RVs H xs vs
 |.list xs,v=>∃a vs,v=.ref a/\Rd H a^.lst vs/\RVs H xs vs
 |.dict _,_=>False
def RVs(H:Hp):o_ iE->o_ V->Prop
 |[],vs=>vs=[]
 |x::xs,vs=>∃v r,vs=v::r/\RV H x v/\RVs H xs r
end
section
variable {X:Cx}{zG:o_ (Addr×Obj)}{Z:L2.St}{H:Hp}{s:Shared}
mutual
theorem RV.reads(I:Inv X zG Z H s):∀{d:iE}{v:V}{u:Db},RV H d v->RelV v u->∃as,Reads s.heap u d as
 |.none,v,u,h,r=>by
  cases(show v=.non from h);cases(show u=fB from r);exact#[_,.none]
 |.bool b,v,u,h,r=>by
  cases(show v=.bl b from h);cases(show u=jI b from r);exact#[_,.bool b]
 |.int i,v,u,h,r=>by
  cases(show v=.int i from h);let#[t,rfl]:=r;exact#[_,.int i t]
 |.str x,v,u,h,r=>by
  cases(show v=.str x from h);let#[t,rfl]:=r;exact#[_,.str x t]
 |.tuple xs,v,u,h,r=>by
  let#[a,vs,rfl,hq,hs]:=h;cases r;let#[its,rv,#[o,e,c,n,d],_]:=I.tuple (X:=X) (xs:=vs)^.inl^.inl hq;let#[as,ra]:=RVs.reads I hs rv;exact#[_,.tuple e c d ra]
 |.list xs,v,u,h,r=>by
  let#[a,vs,rfl,hq,hs]:=h;cases r;let#[its,rv,pl,_]:=I.list (X:=X) (xs:=vs)^.inl hq;let#[o,e,c,n,d]:=pl.isList;let#[as,ra]:=RVs.reads I hs rv;exact#[_,.list e c d ra]
 |.dict _,v,u,h,r=>h.elim
theorem RVs.reads(I:Inv X zG Z H s):∀{ds:o_ iE}{vs:o_ V}{us:o_ Db},RVs H ds vs->Vals vs us->∃as,ReadsAll s.heap us ds as
 |[],vs,us,h,r=>by
  cases(show vs=[]from h);cases r;exact#[_,.nil]
 | d::ds,vs,us,h,r=>by
  let#[v,w,rfl,h1,h2]:=h;cases r with
  |cons r1 r2=>
   let#[as,a1]:=RV.reads I h1 r1;let#[bs,a2]:=RVs.reads I h2 r2;exact#[_,.cons a1 a2]
end
end
theorem RV.noDict{H:Hp}:∀(d:iE) (v:V),RV H d v->d.hasDict=n_
 | d,v,h=>by
  have go:∀(n:Nat),(∀(d:iE) (v:V),sizeOf d<=n->RV H d v->d.hasDict=n_)/\∀(ds:o_ iE) (vs:o_ V),sizeOf ds<=n->RVs H ds vs->jw ds=n_:=by
   intro n
   induction n with
   |zero=>
    refine#[λd v h _=>?_,λds vs h _=>?_]
    .cases d <;>simp at h
    .cases ds <;>simp at h
   | succ n ih=>
    refine#[λd v h hr=>?_,λds vs h hr=>?_]
    .cases d with
     |tuple xs=>
      let#[a,vs,_,_,hs]:=hr;simp only[iP]
      grind
     |list xs=>
      let#[a,vs,_,_,hs]:=hr;simp only[iP]
      grind
     |dict kvs=>exact(show False from hr).elim
     |none=>simp only[iP]
     |bool b=>simp only[iP]
     |int i=>simp only[iP]
     |str x=>simp only[iP]
    .cases ds with
     |nil=>simp only[jw]
     |cons x xs=>
      let#[v,w,_,h1,h2]:=hr;simp only[jw,ih.1 x v (by simp at h;lk) h1,ih.2 xs w (by simp at h;lk) h2,Bool.or_false]
  exact(go^sizeOf d).1 d v (Re _) h
section
variable {X:Cx}
def WH:o_ V->Hp->VK->Prop:=λxs H Q=>∃x d,xs=[x]/\RV H d x/\d.showable=m_/\d.depth<=100/\d.shown.length<=sizeLine/\Q (.str d.shown) H
theorem Fg{k:Nat}(hr:Room k X.A):Cq X (.builtin "repr") WH:=by
 intro zG s Z H xs us Q I r h;let#[x,d,rfl,hx,hs,hd,hz,q]:=h;let#[u,rfl,rx]:=vals1 r;have hu:=hr.un;cases d with
 |none=>
  cases(show x=.non from hx);cases(show u=fB from rx);exact PySem.P.repr_of_none #[.str _,H,I.tok _,#[_,rfl],q]
 |bool b=>
  cases(show x=.bl b from hx);cases(show u=jI b from rx);refine PySem.P.repr_of_bool #[.str _,H,I.tok _,#[_,rfl],?_]
  assumption
 |int i=>
  cases(show x=.int i from hx);let#[t,rfl]:=rx;refine PySem.P.repr_of_int (by simpa [PyData.showable]using hs) #[.str _,H,I.tok _,#[_,rfl],q]
 |str z=>
  cases(show x=.str z from hx);let#[t,rfl]:=rx;exact PySem.P.repr_of_str #[.str _,H,I.tok _,#[_,rfl],q] hz
 |tuple ds=>
  let#[as,ra]:=RV.reads I hx rx;let#[a,vs,rfl,_]:=id hx;cases rx;refine repr_of_reads' ra hs (PyData.noDict_hsm^RV.noDict _ _ hx) hr.gd (by lk) (λ_ _ e=>e) (λh' u tk hk=>#[.str _,H,I.kept (t':=tk) hk,#[_,rfl],q]) hz
 |list ds=>
  let#[as,ra]:=RV.reads I hx rx;let#[a,vs,rfl,_]:=id hx;cases rx;refine repr_of_reads' ra hs (PyData.noDict_hsm^RV.noDict _ _ hx) hr.gd (by lk) (λ_ _ e=>e) (λh' u tk hk=>#[.str _,H,I.kept (t':=tk) hk,#[_,rfl],q]) hz
 |dict _=>exact(show False from hx).elim
def ZW:R2:=λx y H Q=>∃d e,RV H d x/\RV H e y/\d.canLay0=m_/\e.canLay0=m_/\d.depth<=100/\Q (.bl^fO d e) H
theorem La{k:Nat}(hr:Room k X.A):OpR X (compareOp .Eq) ZW:=by
 intro zG s Z H x y v u Q I rx ry h;let#[d,e,hx,hy,h1,h2,hd,q]:=h;let#[as,ra]:=RV.reads I hx rx;let#[bs,rb]:=RV.reads I hy ry;have hu:=hr.un;have hm:min _ e.depth<=d.depth:=Nat.min_le_left _ _;exact PySem.SeqAt.compareEq_reads ra rb h1 h2 (by lk) #[.bl _,H,I,rfl,q]
def XX(neg:Bool):R2:=λx y H Q=>∃d es,RV H d x/\(RV H (.list es) y\/RV H (.tuple es) y)/\d.canLay0=m_/\gJ es=m_/\d.depth<=100/\Q (.bl (if neg then !(es.any λy=>fO y d)else es.any λy=>fO y d)) H
theorem CN{k:Nat}(hr:Room k X.A):OpR X (compareOp .In)^XX n_:=by
 intro zG s Z H x y v u Q I rx ry h;let#[d,es,hx,hy,h1,h2,hd,q]:=h;let#[as,ra]:=RV.reads I hx rx;have hu:=hr.un;have hm:min (fi es) _<=d.depth:=jC _ _
 rcases hy with hy|hy
 .let#[bs,rb]:=RV.reads I hy ry
  exact PySem.SeqAt.in_list_reads rb ra h2 h1 (by lk) #[.bl _,H,I,rfl,q]
 .let#[bs,rb]:=RV.reads I hy ry
  exact PySem.SeqAt.in_tuple_reads rb ra h2 h1 (by lk) #[.bl _,H,I,rfl,q]
theorem EG{k:Nat}(hr:Room k X.A):OpR X (compareOp .NotIn)^XX m_:=by
 intro zG s Z H x y v u Q I rx ry h;let#[d,es,hx,hy,h1,h2,hd,q]:=h;let#[as,ra]:=RV.reads I hx rx;have hu:=hr.un;have hm:min (fi es) _<=d.depth:=jC _ _
 rcases hy with hy|hy
 .let#[bs,rb]:=RV.reads I hy ry
  exact PySem.SeqAt.notIn_list_reads rb ra h2 h1 (by lk) #[.bl _,H,I,rfl,q]
 .let#[bs,rb]:=RV.reads I hy ry
  exact PySem.SeqAt.notIn_tuple_reads rb ra h2 h1 (by lk) #[.bl _,H,I,rfl,q]
end
end L2
namespace Dp
open L2
mutual
def toPy:D->iE
 |.non=>.none
 |.bl b=>.bool b
 |.int i=>.int i
 |.str x=>.str x
 |.tup ds=>.tuple^BQ ds
 |.lst ds=>.list^BQ ds
 |.dic _ _=>.dict []
 |.fdi _ _=>.dict []
 |.dit _ _=>.dict []
def BQ:o_ D->o_ iE
 |[]=>[]
 |d::ds=>toPy d::BQ ds
end
mutual
def Ep:D->Bool
 |.tup ds=>CO ds
 |.lst ds=>CO ds
 |.dic _ _=>n_
 |.fdi _ _=>n_
 |.dit _ _=>n_
 |_=>m_
def CO:o_ D->Bool
 |[]=>m_
 |d::ds=>Ep d&&CO ds
end
theorem DP(ds:o_ D):BQ ds=ds.map toPy:=by
 induction ds with
 |nil=>rfl
 |cons d r ih=>rw[BQ,ih,e8]
section
variable {K:Frag}{M:Addr->Prop}{H:Hp}
mutual
theorem At.rv:∀{d:D}{v:V},At K M H d v->Ep d=m_->RV H (toPy d) v
 |.non,v,h,_=>h
 |.bl b,v,h,_=>h
 |.int i,v,h,_=>h
 |.str x,v,h,_=>h.1
 |.tup ds,v,h,n=>by
  let#[a,vs,e,hn,hs]:=h;exact#[a,vs,e,hn,Ats.rv hs n]
 |.lst ds,v,h,n=>by
  let#[a,vs,e,hn,hs]:=h;exact#[a,vs,e,.inl hn.2,Ats.rv hs n]
 |.dic ks ds,v,h,n=>by cases n
 |.fdi ks ds,v,h,n=>by cases n
 |.dit ks ds,v,h,n=>by cases n
theorem Ats.rv:∀{ds:o_ D}{vs:o_ V},Ats K M H ds vs->CO ds=m_->RVs H (BQ ds) vs
 |[],vs,h,_=>h
 |d::ds,vs,h,n=>by
  let#[v,r,e,h1,h2]:=h;have n':(Ep d&&CO ds)=m_:=n;rw[dh]at n';exact#[v,r,e,At.rv h1 n'.1,Ats.rv h2 n'.2]
end
theorem AtT.rv{U:Ch->Prop}{d:D}{v:V}(h:AtT K U M H d v)(n:Ep d=m_):RV H (toPy d) v:=by
 cases d with
 |lst ds=>
  let#[a,vs,e,_,hq,hs]:=h;exact#[a,vs,e,hq,Ats.rv hs n]
 |dic ks ds=>cases n
 |fdi ks ds=>cases n
 |dit ks ds=>cases n
 |non=>exact h
 |bl b=>exact h
 |int i=>exact h
 |str x=>exact h.1
 |tup ds=>exact At.rv h n
def Oy(d:D):Prop:=Ep d=m_/\(toPy d).showable=m_/\(toPy d).depth<=100/\(toPy d).shown.length<=sizeLine
def EW(d:D):Str:=(toPy d).shown
def Zy(ds:o_ D)(P:D->Prop):Prop:=∃d,ds=[d]/\Oy d/\P^.str^EW d
theorem L9:DD K .sh WH Zy:=by
 intro U M H ds vs P Q dom vM hp w q;let#[d,rfl,hd,w]:=w;let#[v,rfl,hx]:=Eo hp;exact#[v,_,rfl,hx.rv hd.1,hd.2.1,hd.2.2.1,hd.2.2.2,q _ H (.str _) .refl #[rfl,hd.2.2.2] w]
def Cg(d:D):Prop:=Ep d=m_/\(toPy d).canLay0=m_/\(toPy d).depth<=100
def Dn(d e:D):Bool:=fO (toPy d)^toPy e
def cB(d e:D)(P:D->Prop):Prop:=Cg d/\Cg e/\P^.bl^Dn d e
theorem Pp:Er K .sh ZW cB:=λU M H d e x y P Q dom vM hx hy w q=>
 #[_,_,hx.rv w.1.1,hy.rv w.2.1.1,w.1.2.1,w.2.1.2.1,w.1.2.2,q _ H (.bl _) .refl rfl w.2.2]
def Eu:D->p_^o_ D
 |.lst ds=>P3 ds
 |.tup ds=>P3 ds
 |_=>l_
def VY(neg:Bool)(d e:D)(P:D->Prop):Prop:=Cg d/\Cg e/\∃es,Eu e=P3 es/\P^.bl (if neg then !(es.any λy=>Dn y d)else es.any λy=>Dn y d)
theorem CV{neg:Bool}:Er K .sh (XX neg)^VY neg:=λU M H d e x y P Q dom vM hx hy w q=>by
 let#[h1,h2,es,he,w]:=w;have any_eq:∀es:o_ D,(es.map _).any (λy=>fO y _)=es.any λy=>Dn y d:=λes=>by rw[List.any_map];rfl
 cases e with
 |lst ds=>
  cases he;refine#[_,_,hx.rv h1.1,.inl^hy.rv h2.1,h1.2.1,by simpa [toPy,PyData.canLay0]using h2.2.1,h1.2.2,?_];rw[DP,any_eq];exact q _ H (.bl _) .refl rfl w
 |tup ds=>
  cases he;refine#[_,_,hx.rv h1.1,.inr^hy.rv h2.1,h1.2.1,by simpa [toPy,PyData.canLay0]using h2.2.1,h1.2.2,?_];rw[DP,any_eq];exact q _ H (.bl _) .refl rfl w
 |_=>cases he
def b9(d e:D)(P:D->Prop):Prop:=Cg d/\Cg e/\P^.bl (!Dn d e)
end
end Dp
namespace L2
def ZN:R2:=λx y H Q=>∃d e,RV H d x/\RV H e y/\d.canLay0=m_/\e.canLay0=m_/\d.depth<=100/\Q (.bl (!PyData.eqv d e)) H
theorem Xj{X:Cx}{k:Nat}(hr:Room k X.A):OpR X (compareOp .NotEq) ZN:=by
 intro zG s Z H x y v u Q I rx ry h;let#[d,e,hx,hy,h1,h2,hd,q]:=h;let#[as,ra]:=RV.reads I hx rx;let#[bs,rb]:=RV.reads I hy ry;have hu:=hr.un;have hm:min _ e.depth<=d.depth:=Nat.min_le_left _ _;exact PySem.SeqAt.compareNe_reads ra rb h1 h2 (by lk) #[.bl _,H,I,rfl,q]
end L2
namespace Dp
open L2
theorem aH{K:Frag}:Er K .sh ZN b9:=λU M H d e x y P Q dom vM hx hy w q=>
 #[_,_,hx.rv w.1.1,hy.rv w.2.1.1,w.1.2.1,w.2.1.2.1,w.1.2.2,q _ H (.bl _) .refl rfl w.2.2]
end Dp
namespace L2
def kOf:Key->V
 |.inl i=>.int i
 |.inr x=>.str x
def au:Key->Key->Bool
 |.inl i,.inl j=>decide (i<j)
 |.inr x,.inr y=>decide (x.cps.toList<y.cps.toList)
 |_,_=>n_
def KZ:Key->Key->Bool
 |.inl _,.inl _=>m_
 |.inr _,.inr _=>m_
 |_,_=>n_
def Fh:o_ Key->o_ Key->Bool
 |[],[]=>n_
 |[],_::_=>m_
 |_::_,[]=>n_
 |x::xs,y::ys=>if x=y then Fh xs ys else au x y
def CL:o_ Key->o_ Key->Bool
 |x::xs,y::ys=>KZ x y&&CL xs ys
 |_,_=>m_
theorem TQ{A:eh}{s:Rs}{x y:Key}{u v:Db}(rx:RelV (kOf x) u)(ry:RelV (kOf y) v):∃e,SeqAt.EqAt A s u v e/\(e=m_↔x=y):=by
 cases x with
 |inl i=>
  cases y with
  |inl j=>exact#[_,Lw rx ry rfl rfl,by simp[kOf,Z5]]
  |inr z=>exact#[_,Lw rx ry rfl rfl,by simp[kOf,Z5]]
 |inr z=>
  cases y with
  |inl j=>exact#[_,Lw rx ry rfl rfl,by simp[kOf,Z5]]
  |inr z'=>exact#[_,Lw rx ry rfl rfl,by simp[kOf,Z5]]
theorem R9(A:eh)(s:Rs){x y:Key}{u v:Db}(rx:RelV (kOf x) u)(ry:RelV (kOf y) v)(hs:KZ x y=m_)(prog:eK)(w:eU)(E:Db->Rs->Prop)(Q:Db->Rs->Prop)(h:Q (.bool^au x y) s):
  wpAny (model prog w) A (richCompare .Lt u v) Q E s:=by
 cases x with
 | inl i=>
  cases y with
  |inl j=>
   let#[t,rfl]:=rx;let#[t',rfl]:=ry;exact kT h
  |inr z=>cases hs
 | inr z=>
  cases y with
  |inl j=>cases hs
  |inr z'=>
   let#[t,rfl]:=rx;let#[t',rfl]:=ry;exact PySem.P.lt_str h
section
open PySem.SeqAt
open PySem.AutoSeq1 (wpAny_loadPart')
open PySem.MeetsSeq PySem.MeetsSeq2 PySem.MeetsSeq3
theorem Fk(l b:Ch)(items items2:Array Db)(n n2:Nat)(dd dd2:p_ Ch)(sl sl2:Array^p_ Db)(ns ms:o_ Key)(hi:Vals (ns.map kOf) items.toList)(hj:Vals (ms.map kOf) items2.toList)(hsame:CL ns ms=m_):
  Meets (iQ.«tuple.__lt__» #[[.ref l,.ref b],[]])
   (λ_ R s=>s.heap.get? l=P3 {cls:=.type "tuple",dict:=dd,data:=.seq items n,slots:=sl}/\s.heap.get? b=P3 {cls:=.type "tuple",dict:=dd2,data:=.seq items2 n2,slots:=sl2} /\
    R (.ok^.ret^.bool^Fh ns ms) s):=
 .of_wp λprog w A R s h=>by
  let#[hp,g,d,tk,os]:=s;let#[hl,hb,h]:=h
  have f2:=AutoSeq1.sub_tuple_tuple;have z1:items.size=ns.length:=by have:=hi.length;rw[Ev]at this;rw[this];simp
  have z2:items2.size=ms.length:=by have:=hj.length;rw[Ev]at this;rw[this];simp
  wp_walk using fW hl,fW hb,wpAny_forIn_list _ (λrest b s'=>b.1=l_/\s'=#[hp,g,d,tk,os]/\∃(vs ws:o_ Db) (ns' ms':o_ Key),rest=vs.zip ws /\
   Vals (ns'.map kOf) vs/\Vals (ms'.map kOf) ws/\CL ns' ms'=m_/\ns'.length+items2.size=ms'.length+items.size/\R (.ok^.ret^.bool^Fh ns' ms') #[hp,g,d,tk,os]) _
  case turn=>
   rintro⟨y,x⟩ rest b s' ⟨hb',rfl,vs,ws,ns',ms',hz,hvi,hwi,hsm,hlen,hR⟩;cases ns' with
   |nil=>cases hvi;rw[List.zip_nil_left]at hz;cases hz
   | cons a ns'=>
    cases ms' with
    |nil=>cases hwi;rw[List.zip_nil_right]at hz;cases hz
    | cons c ms'=>
     rw[e8]at hvi hwi;cases hvi with
     | cons ra hvi'=>
      cases hwi with
      | cons rc hwi'=>
       rw[je]at hz;injection hz with hyx hrest
       injection hyx with hy hx
       subst hy hx;have hR':R (.ok^.ret^.bool (if a=c then Fh ns' ms' else au a c)) #[hp,g,d,tk,os]:=hR;have hsm':(KZ a c&&CL ns' ms')=m_:=hsm;rw[dh]at hsm';simp only[dg]at hlen;let#[e,he,hiff]:=TQ (A:=A.in1) (s:=#[hp,g,d,tk,os]) ra rc;refine Go^he prog w _ _ ?_;cases e with
       |true=>
        rw[if_pos (hiff.mp rfl)]at hR'
        wp_walk
        exact#[rfl,rfl,_,_,_,_,hrest,hvi',hwi',hsm'.2,by lk,hR']
       |false=>
        rw[if_neg λq=>absurd (hiff.mpr q) eN]at hR';have hri:=R9 A.in1 #[hp,g,d,tk,os] ra rc hsm'.1 prog w
        wp_walk using hri
        exact#[_,rfl,by simpa using hR']
  case fin=>
   rintro⟨b1,b2⟩ s' ⟨hb',rfl,vs,ws,ns',ms',hz,hvi,hwi,hsm,hlen,hR⟩;simp only at hb';subst hb'
   have hv:Fh ns' ms'=decide (items.size<items2.size):=by
    cases ns' with
    | nil=>
     cases ms' with
     |nil=>
      simp only[f6]at hlen;exact(decide_eq_false^by lk).symm
     |cons c u=>
      simp only[f6,dg]at hlen;exact(decide_eq_true^by lk).symm
    | cons a t=>
     cases ms' with
     |nil=>
      simp only[f6,dg]at hlen;exact(decide_eq_false^by lk).symm
     |cons c u=>
      rw[e8]at hvi hwi;cases hvi;cases hwi;rw[je]at hz;cases hz
   rw[hv]at hR
   wp_walk
   exact#[_,rfl,by simpa [Builtin.Tuple.tupleCompareSizes]using hR]
  case h=>
   exact#[rfl,rfl,items.toList,items2.toList,ns,ms,rfl,hi,hj,hsame,by lk,h]
end
section
variable {X:Cx}
def ZO(K:Frag):R2:=λx y H Q=>∃a b ns ms,x=.ref a/\y=.ref b/\SqT K H a^ns.map kOf/\SqT K H b^ms.map kOf/\CL ns ms=m_/\Q (.bl^Fh ns ms) H
theorem Xk(hu:X.A.units<cLine):OpR X (compareOp .Lt)^ZO X.K:=by
 intro zG s Z H x y v u Q I rx ry h;let#[a,b,ns,ms,rfl,rfl,ha,hb,hsm,q]:=h;cases rx;cases ry;let#[its,r1,p1,_]:=I.tuple ha;let#[its2,r2,p2,_]:=I.tuple hb;let#[#[cls,dd,data,sl],ho,hc,n,hd]:=id p1;let#[#[cls2,dd2,data2,sl2],ho2,hc2,n2,hd2]:=id p2;subst hc hd hc2 hd2
 exact richCompare_meets_room (op:=.Lt) #[_,ho,rfl] #[_,ho2,rfl] PySem.F.slot_tuple_lt PySem.F.entry_tuple_lt (PySem.F.args_tuple_lt_2 _ _) (Fk a b _ _ n n2 dd _ sl _ ns ms r1 r2 hsm)
  #[ho,ho2,#[(λx=>nomatch x),#[.bl _,H,I,rfl,q]]] hu
end
def ItAt(κ:Bool)(h:eC)(it l:Ch)(k:Nat):Prop:=match κ with
 |true=>h.IsListIter it l k
 |false=>h.IsTupleIter it l k
def SqAt(κ:Bool)(h:eC)(l:Ch)(items:Array Db):Prop:=match κ with
 |true=>h.IsList l items
 |false=>h.IsTuple l items
section
variable {κ:Bool}{h h':Heap}{it l b:Addr}{k:Nat}{items:Array Value}
theorem ItAt.mv(x:ItAt κ h it l k)(e:∀o,h.get? it=P3 o->h'.get? it=P3 o):ItAt κ h' it l k:=by
 cases κ with
 |true=>let#[o,ho,r]:=x;exact#[o,e o ho,r]
 |false=>let#[o,ho,r]:=x;exact#[o,e o ho,r]
theorem SqAt.mv(x:SqAt κ h l items)(e:∀o,h.get? l=P3 o->h'.get? l=P3 o):SqAt κ h' l items:=by
 cases κ with
 |true=>let#[o,ho,r]:=x;exact#[o,e o ho,r]
 |false=>let#[o,ho,r]:=x;exact#[o,e o ho,r]
theorem ItAt.eb(x:ItAt κ h it l k)(hs:Heap.ExtBut b h h')(n:it≠b):ItAt κ h' it l k:=x.mv λo e=>hs it o n e
theorem SqAt.eb(x:SqAt κ h l items)(hs:Heap.ExtBut b h h')(n:l≠b):SqAt κ h' l items:=x.mv λo e=>hs l o n e
theorem ItAt.lies(x:ItAt κ h it l k):∃o,h.get? it=P3 o/\∀v,o.data≠.cell v:=by
 cases κ with
 |true=>let#[o,ho,_,d]:=x;simp_all
 |false=>let#[o,ho,_,d]:=x;simp_all
theorem SqAt.lies(x:SqAt κ h l items):∃o,h.get? l=P3 o:=by
 cases κ with
 |true=>let#[o,ho,_]:=x;grind
 |false=>let#[o,ho,_]:=x;grind
end
section
variable {prog:Program}{w:World}{A:Around}{E:Value->Shared->Prop}{s:Shared}
theorem Fc{κ:Bool}{it l:Ch}{i:Nat}{items:Array Db}{x:Db}{Q:Db->Rs->Prop}(hit:ItAt κ s.heap it l i)(hl:SqAt κ s.heap l items)(hx:items[i]?=P3 x)
  (hQ:∀h',ItAt κ h' it l (i+1)->ie it s.heap h'->Q x {s with heap:=h'}):wpAny (model prog w) A (fm^.ref it) Q E s:=by
 cases κ with
 |true=>exact wpAny_nextOf_list_item hit hl hx hQ
 |false=>
  have hit':s.heap.IsTupleIter it l i:=hit;have hl':s.heap.IsTuple l items:=hl;let#[o,ho,hc,hd]:=id hit';let#[ol,hol,_,nl,hdl]:=hl'
  unfold fm;refine Go^gI (name:=fu "__next__") hit'.typeIs g7^h7 g7 hit'.typeIs jf ?_^jY _;show wpAny (model prog w) _ (field (.ref it) 0 >>=_) _ _ s;refine Go (fz ho hd (x:=.ref l) rfl ?_)
  show wpAny (model prog w) _ (if(fR l==fB)=m_ then _ else _) _ _ s;rw[if_neg (show ¬((fR l==fB)=m_)from eN)]
  show wpAny (model prog w) _ (field (.ref it) 1 >>=_) _ _ s;refine Go (fz ho hd (x:=.int i 0) rfl ?_)
  show wpAny (model prog w) _ (seqItems?^.ref l >>=_) _ _ s;refine Go^f9 hol hdl ?_;simp only[iM,hx]
  refine Go^wpAny_setField ho hd (by simp)^df #[x,rfl,df^hQ _ (show Heap.IsTupleIter _ it l (i+1)from ?_) (kn ..)];exact#[_,gS _ ho^Obj.isFreed_of_fields^Obj.data_mapFields hd _,(Obj.cls_mapFields ..).trans hc,by(rw[Obj.data_mapFields hd];simp[rawInt])]
theorem Gx{κ:Bool}{it l:Ch}{i:Nat}{items:Array Db}{Q:Db->Rs->Prop}(hh:A.handled=l_)(hit:ItAt κ s.heap it l i)(hl:SqAt κ s.heap l items)(hx:items[i]?=l_)
  (hE:∀h' e,Heap.ExtBut it s.heap h'->(∃o,h'.get? e=P3 o/\o.cls=.type "StopIteration")->E (.ref e) {s with heap:=h'}):wpAny (model prog w) A (fm^.ref it) Q E s:=by
 cases κ with
 |true=>exact wpAny_nextOf_list_end hh hit hl hx hE
 |false=>
  have hit':=hit;have hl':s.heap.IsTuple l items:=hl;let#[o,ho,hc,hd]:=id hit';let#[ol,hol,_,nl,hdl]:=hl'
  refine Go^gI hit'.typeIs g7^h7 g7 hit'.typeIs jf ?_^jY _;show wpAny (model prog w) _ (field (.ref it) 0 >>=_) _ _ s;refine Go (fz ho hd (x:=.ref l) rfl ?_)
  refine Go (fz ho hd (x:=.int i 0) rfl ?_);refine Go^f9 hol hdl ?_;simp only[iM,hx]
  refine Go^jO^Go^wpAny_setField ho hd (by simp) ?_;refine Go ?_;refine Go (m:=firstArgMember _ _)^wpAny_of_eq (a:=fB) (by first|rfl|omega) ?_;refine gg ?_^by size_fits
  simp only[raiseNew];refine Go^wpAny_handled ?_;first|grind|rw[hh]
  refine Go^df^wpAny_throw ?_;exact hE _ _ (((kn ..).extBut.push _).push _) #[_,T0 _ rfl,rfl]
structure Yu (z TI TO i1 i2 l1 l2:Ch):Prop where
 TIz:TI≠z
 TOz:TO≠z
 i1z:i1≠z
 i2z:i2≠z
 TOi1:TO≠i1
 TOi2:TO≠i2
 i12:i1≠i2
 l1z:l1≠z
 l1TO:l1≠TO
 l1i1:l1≠i1
 l1i2:l1≠i2
 l2z:l2≠z
 l2TO:l2≠TO
 l2i1:l2≠i1
 l2i2:l2≠i2
theorem RU{zX zW:Bool}{z TI TO i1 i2 l1 l2:Ch}{k:Nat}{xs ys:Array Db}{x y a b:Db}{Q:Db->Rs->Prop}(D:Yu z TI TO i1 i2 l1 l2)
  (hz:iN s.heap z TI TO .none) (hTI:gD s.heap TI (.ref i1)^.ref i2) (hTO:gD s.heap TO a b) (h1:ItAt zX s.heap i1 l1 k) (h2:ItAt zW s.heap i2 l2 k) (hl1:SqAt zX s.heap l1 xs) (hl2:SqAt zW s.heap l2 ys) (hx:xs[k]?=P3 x) (hy:ys[k]?=P3 y)
  (hQ:∀h',iN h' z TI TO^rawInt s.heap.objs.size->gD h' TO x y->ItAt zX h' i1 l1 (k+1)->ItAt zW h' i2 l2 (k+1)->gD h' s.heap.objs.size x y->h'.objs.size=s.heap.objs.size+1->(∀c o,c≠z->c≠TO->c≠i1->c≠i2->s.heap.get? c=P3 o->h'.get? c=P3 o)->Q (.ref s.heap.objs.size) {s with heap:=h'}):
  wpAny (model prog w) A (iQ.«zip.__next__» #[[.ref z],[]]) (λfin s'=>∃v,fin=.done^.ret v/\Q v s') E s:=by
 show wpAny (model prog w) A (field (.ref z) 2 >>=_) _ _ _;refine Go (fz hz rfl (x:=.bool n_) rfl ?_)
 show wpAny (model prog w) A (field (.ref z) 3 >>=_) _ _ _;refine Go (fz hz rfl (x:=.ref TI) rfl ?_);refine Go (f9 hTI rfl ?_)
 show wpAny (model prog w) A (gG^.ref z >>=_) _ _ _;refine Go ?_;unfold gG
 refine Go (fz hz rfl (x:=.none) rfl (df ?_));simp only[if_true];refine Go^jO ?_;refine Go (fz hz rfl (x:=.ref TO) rfl ?_)
 refine Go^gv hz (by simp) λha hza hsa=>?_;replace hza:iN ha z TI TO .ellipsis:=hza;refine Go ?_;simp only[List.zipIdx_cons,List.zipIdx_nil,iZ,List.forIn_nil]
 refine Go^Go^jo ?_;show wpAny (model prog w) _ (fm^.ref i1 >>=_) _ _ _
 refine Go^Fc (h1.eb hsa.extBut D.i1z) (hl1.eb hsa.extBut D.l1z) hx λhb h1b hsb=>df ?_;have hTOb:gD hb TO a b:=hsb.extBut _ _ D.TOi1^hsa.extBut _ _ D.TOz hTO;refine Go (f9 hTOb rfl ?_);refine Go (jP hTOb λhc hTOc hsc=>?_)
 replace hTOc:gD hc TO x b:=hTOc;refine Go^iK^df ?_;refine Go^Go^jo ?_;show wpAny (model prog w) _ (fm^.ref i2 >>=_) _ _ _
 refine Go^Fc (((h2.eb hsa.extBut D.i2z).eb hsb.extBut D.i12.symm).eb hsc.extBut D.TOi2.symm) (((hl2.eb hsa.extBut D.l2z).eb hsb.extBut D.l2i1).eb hsc.extBut D.l2TO) hy λhd h2d hsd=>df ?_;have hTOd:gD hd TO x b:=hsd.extBut _ _ D.TOi2 hTOc;refine Go (f9 hTOd rfl ?_);refine Go (jP hTOd λhe hTOe hse=>?_)
 replace hTOe:gD he TO x y:=hTOe;refine Go^iK^df^df ?_;refine Go (f9 hTOe rfl ?_);refine Go^wpAny_newTuple ?_
 have hsz:he.objs.size=s.heap.objs.size:=by rw[hse.1,hsd.1,hsc.1,hsb.1,hsa.1]
 have hze:iN he z TI TO .ellipsis:=hse.extBut _ _ D.TOz.symm^hsd.extBut _ _ D.i2z.symm^hsc.extBut _ _ D.TOz.symm^hsb.extBut _ _ D.i1z.symm hza;have hke:∀c o,c≠z->c≠TO->c≠i1->c≠i2->s.heap.get? c=P3 o->he.get? c=P3 o:=λc o c1 c2 c3 c4 e=>hse.extBut _ _ c2^hsd.extBut _ _ c4^hsc.extBut _ _ c2^hsb.extBut _ _ c3^hsa.extBut _ _ c1 e;have h1e:ItAt zX he i1 l1 (k+1):=((h1b.eb hsc.extBut D.TOi1.symm).eb hsd.extBut D.i12).eb hse.extBut D.TOi1.symm;have h2e:ItAt zW he i2 l2 (k+1):=h2d.eb hse.extBut D.TOi2.symm;have hzlt:z<he.objs.size:=Uf hze;show wpAny (model prog w) _ (io (.ref z)^.ref he.objs.size >>=_) _ _ _;refine Go ?_;unfold io
 have hzf:iN (he.push {cls:=.type "tuple",data:=.seq #[ x,y]}) z TI TO .ellipsis:=No _ hze;refine Go^gv hzf (by simp) λhg hzg hsg=>?_;replace hzg:iN hg z TI TO^rawInt he.objs.size:=hzg;refine gv hzg (by simp) λhi hzi hsi=>?_;replace hzi:iN hi z TI TO^rawInt he.objs.size:=hzi;have up:∀c o,c≠z->he.get? c=P3 o->hi.get? c=P3 o:=λc o c1 e=>hsi.extBut _ _ c1^hsg.extBut _ _ c1^No _ e;have hTi:gD hi he.objs.size x y:=hsi.extBut _ _ (ig hzlt)^hsg.extBut _ _ (ig hzlt) (T0 _ rfl);have hzs:hi.objs.size=he.objs.size+1:=by rw[hsi.1,hsg.1,fe]
 rw[hsz]at hzi hTi hzs;refine df #[_,rfl,?_];show Q (.ref he.objs.size) _;rw[hsz]
 exact hQ hi hzi (up _ _ D.TOz hTOe) (h1e.mv λo e=>up _ o D.i1z e) (h2e.mv λo e=>up _ o D.i2z e) hTi hzs λc o c1 c2 c3 c4 e=>up c o c1^hke c o c1 c2 c3 c4 e
theorem UX{zX zW:Bool}{z TI TO i1 i2 l1 l2:Ch}{k:Nat}{xs ys:Array Db}{a b:Db}{Q:Fin->Rs->Prop}(hh:A.handled=l_)(D:Yu z TI TO i1 i2 l1 l2)
  (hz:iN s.heap z TI TO .none) (hTI:gD s.heap TI (.ref i1)^.ref i2) (hTO:gD s.heap TO a b) (h1:ItAt zX s.heap i1 l1 k) (h2:ItAt zW s.heap i2 l2 k) (hl1:SqAt zX s.heap l1 xs) (hl2:SqAt zW s.heap l2 ys) (hend:xs[k]?=l_\/ys[k]?=l_)
  (hE:∀h' e,(∀c o,c≠z->c≠TO->c≠i1->c≠i2->s.heap.get? c=P3 o->h'.get? c=P3 o)->(∃o,h'.get? e=P3 o/\o.cls=.type "StopIteration")->E (.ref e) {s with heap:=h'}):
  wpAny (model prog w) A (iQ.«zip.__next__» #[[.ref z],[]]) Q E s:=by
 show wpAny (model prog w) A (field (.ref z) 2 >>=_) _ _ _;refine Go (fz hz rfl (x:=.bool n_) rfl ?_)
 show wpAny (model prog w) A (field (.ref z) 3 >>=_) _ _ _;refine Go (fz hz rfl (x:=.ref TI) rfl ?_);refine Go (f9 hTI rfl ?_)
 show wpAny (model prog w) A (gG^.ref z >>=_) _ _ _;refine Go ?_;unfold gG
 refine Go (fz hz rfl (x:=.none) rfl (df ?_));simp only[if_true];refine Go^jO ?_;refine Go (fz hz rfl (x:=.ref TO) rfl ?_)
 refine Go^gv hz (by simp) λha hza hsa=>?_;replace hza:iN ha z TI TO .ellipsis:=hza;refine Go ?_;simp only[List.zipIdx_cons,List.zipIdx_nil,iZ,List.forIn_nil]
 refine Go^Go^jo ?_;show wpAny (model prog w) _ (fm^.ref i1 >>=_) _ _ _
 cases hx:xs[k]? with
 |none=>
  refine Go^Gx hh (h1.eb hsa.extBut D.i1z) (hl1.eb hsa.extBut D.l1z) hx λhb e hsb he=>?_;let#[oe,hoe,hce]:=he;have hzb:iN hb z TI TO .ellipsis:=hsb _ _ D.i1z.symm hza;have hez:e≠z:=λx=>by subst x;rw[hzb]at hoe;cases hoe;simp at hce
  exact gv hzb (by simp) λhc _ hsc=>hE hc e (λc o c1 _ c3 _ x=>hsc.extBut _ _ c1^hsb _ _ c3^hsa.extBut _ _ c1 x) #[oe,hsc.extBut _ _ hez hoe,hce]
 | some x=>
  have hy:ys[k]?=l_:=by
   rcases hend with h|h
   .rw[hx]at h;cases h
   .exact h
  refine Go^Fc (h1.eb hsa.extBut D.i1z) (hl1.eb hsa.extBut D.l1z) hx λhb h1b hsb=>df ?_;have hTOb:gD hb TO a b:=hsb.extBut _ _ D.TOi1^hsa.extBut _ _ D.TOz hTO;refine Go (f9 hTOb rfl ?_);refine Go^jP hTOb λhc hTOc hsc=>?_
  refine Go^iK^df ?_;refine Go^Go^jo ?_;show wpAny (model prog w) _ (fm^.ref i2 >>=_) _ _ _
  refine Go^Gx hh (((h2.eb hsa.extBut D.i2z).eb hsb.extBut D.i12.symm).eb hsc.extBut D.TOi2.symm) (((hl2.eb hsa.extBut D.l2z).eb hsb.extBut D.l2i1).eb hsc.extBut D.l2TO) hy λhd e hsd he=>?_;let#[oe,hoe,hce]:=he;have hzd:iN hd z TI TO .ellipsis:=hsd _ _ D.i2z.symm^hsc.extBut _ _ D.TOz.symm^hsb.extBut _ _ D.i1z.symm hza;have hez:e≠z:=λx=>by subst x;rw[hzd]at hoe;cases hoe;simp at hce
  exact gv hzd (by simp) λhf _ hsf=>hE hf e (λc o c1 c2 c3 c4 x=>hsf.extBut _ _ c1^hsd _ _ c4^hsc.extBut _ _ c2^hsb.extBut _ _ c3^hsa.extBut _ _ c1 x) #[oe,hsf.extBut _ _ hez hoe,hce]
end
def X1(κ:Bool):String:=match κ with
 |true=>"list_iterator"
 |false=>"tuple_iterator"
def Hq(κ:Bool)(l:Ch):Obj:={cls:=.type^X1 κ,data:=.fields #[ .ref l,.int 0 0]}
abbrev zA(zX:Bool)(h:eC)(l1:Ch):eC:=h.push^Hq zX l1
abbrev zB(zX zW:Bool)(h:eC)(l1 l2:Ch):eC:=(zA zX h l1).push^Hq zW l2
abbrev zC(zX zW:Bool)(h:eC)(l1 l2:Ch):eC:=(zB zX zW h l1 l2).push {cls:=.type "tuple",data:=.seq #[ .ref h.objs.size,.ref (zA zX h l1).objs.size]}
abbrev zD(zX zW:Bool)(h:eC)(l1 l2:Ch):eC:=(zC zX zW h l1 l2).push {cls:=.type "tuple",data:=.seq #[ .none,.none]}
abbrev zE(zX zW:Bool)(h:eC)(l1 l2:Ch):eC:=(zD zX zW h l1 l2).push {cls:=.type "zip",data:=.fields #[ .none,.bool n_,.bool n_,.ref (zB zX zW h l1 l2).objs.size,.ref (zC zX zW h l1 l2).objs.size]}
theorem VC(zX zW:Bool)(l1 l2:Ch)(xs ys:Array Db):Meets (iQ.«zip.__new__» #[[.type "zip",.ref l1,.ref l2],[]])
  (λ_ R s=>SqAt zX s.heap l1 xs/\SqAt zW s.heap l2 ys/\R (.ok^.ret^.ref (zD zX zW s.heap l1 l2).objs.size) {s with heap:=zE zX zW s.heap l1 l2}):=
 .of_wp λprog w A R s h=>by
  let#[hp,g,d,tk,os]:=s;let#[hl1,hl2,h]:=h
  have hsub:=sub_zip;have hL2:SqAt zW (zA zX hp l1) l2 ys:=hl2.mv λo e=>No _ e;cases zX with
  | true=>
   have g1:kU (iL #[hp,g,d,tk,os]) l1 xs:=hl1;cases zW with
   |true=>
    have g2:kU (iL #[hp.push {cls:=.type "list_iterator",data:=.fields #[ .ref l1,.int 0 0]},g,d,tk,os]) l2 ys:=hL2
    wp_walk using fq g1,fq g2
    exact#[_,rfl,h]
   |false=>
    have g2:kB (iL #[hp.push {cls:=.type "list_iterator",data:=.fields #[ .ref l1,.int 0 0]},g,d,tk,os]) l2 ys:=hL2
    wp_walk using fq g1,fg g2
    exact#[_,rfl,h]
  | false=>
   have g1:kB (iL #[hp,g,d,tk,os]) l1 xs:=hl1;cases zW with
   |true=>
    have g2:kU (iL #[hp.push {cls:=.type "tuple_iterator",data:=.fields #[ .ref l1,.int 0 0]},g,d,tk,os]) l2 ys:=hL2
    wp_walk using fg g1,fq g2
    exact#[_,rfl,h]
   |false=>
    have g2:kB (iL #[hp.push {cls:=.type "tuple_iterator",data:=.fields #[ .ref l1,.int 0 0]},g,d,tk,os]) l2 ys:=hL2
    wp_walk using fg g1,fg g2
    exact#[_,rfl,h]
theorem Jb(κ:Bool)(h:eC)(l:Ch):ItAt κ (h.push^Hq κ l) h.objs.size l 0:=by
 cases κ with
 |true=>exact#[_,T0 _ rfl,rfl,rfl]
 |false=>exact#[_,T0 _ rfl,rfl,rfl]
section
variable {prog:Program}{w:World}{A:Around}{E:Value->Shared->Prop}{s:Shared}
theorem L3{zX zW:Bool}{l1 l2:Ch}{xs ys:Array Db}{Q:Db->Rs->Prop}(hl1:SqAt zX s.heap l1 xs)(hl2:SqAt zW s.heap l2 ys)
  (h:∀h',iN h' (s.heap.objs.size+4) (s.heap.objs.size+2) (s.heap.objs.size+3) .none->gD h' (s.heap.objs.size+2) (.ref s.heap.objs.size)^.ref (s.heap.objs.size+1)->gD h' (s.heap.objs.size+3) .none .none->
   ItAt zX h' s.heap.objs.size l1 0->ItAt zW h' (s.heap.objs.size+1) l2 0->(∀c o,s.heap.get? c=P3 o->h'.get? c=P3 o)->Q (.ref (s.heap.objs.size+4)) {s with heap:=h'}):
  wpAny (model prog w) A (call (.type "zip") [.ref l1,.ref l2]) Q E s:=by
 refine callType_new F.called_zip (by cbv) (F.typeCall_zip_2 _ _) (F.newCall_zip_2 _ _) (λobj=>F.args_object_init_3 obj _ _) F.entry_zip_new (VC zX zW l1 l2 xs ys) #[hl1,hl2,?_];have z1:(zA zX s.heap l1).objs.size=s.heap.objs.size+1:=fe ..;have z2:(zB zX zW s.heap l1 l2).objs.size=s.heap.objs.size+2:=by rw[fe,z1]
 have z3:(zC zX zW s.heap l1 l2).objs.size=s.heap.objs.size+3:=by rw[fe,z2]
 have z4:(zD zX zW s.heap l1 l2).objs.size=s.heap.objs.size+4:=by rw[fe,z3]
 have g5:(zE zX zW s.heap l1 l2).get? (zD zX zW s.heap l1 l2).objs.size=P3 _:=T0 _ rfl;have g4:(zE zX zW s.heap l1 l2).get? (zC zX zW s.heap l1 l2).objs.size=P3 _:=No _ (T0 _ rfl);have g3:(zE zX zW s.heap l1 l2).get? (zB zX zW s.heap l1 l2).objs.size=P3 _:=No _^No _ (T0 _ rfl);have i2:ItAt zW (zE zX zW s.heap l1 l2) (zA zX s.heap l1).objs.size l2 0:=(Jb zW (zA zX s.heap l1) l2).mv λo e=>No _^No _^No _ e;have i1:ItAt zX (zE zX zW s.heap l1 l2) s.heap.objs.size l1 0:=(Jb zX s.heap l1).mv λo e=>No _^No _^No _^No _ e;rw[z4]at g5;rw[z3]at g4;rw[z2]at g3;rw[z1]at i2;have fin:=h (zE zX zW s.heap l1 l2) (by rw[iN,g5,z2,z3]) (by rw[gD,g3,z1]) g4 i1 i2 λc o e=>No _^No _^No _^No _^No _ e;refine#[#[_,by rw[z4];exact g5,rfl],?_];rw[z4];exact fin
theorem KA{zX zW:Bool}{z TI TO i1 i2 l1 l2:Ch}{k:Nat}{xs ys:Array Db}{x y a b:Db}{Q:p_ Db->Rs->Prop}(D:Yu z TI TO i1 i2 l1 l2)
  (hz:iN s.heap z TI TO .none) (hTI:gD s.heap TI (.ref i1)^.ref i2) (hTO:gD s.heap TO a b) (h1:ItAt zX s.heap i1 l1 k) (h2:ItAt zW s.heap i2 l2 k) (hl1:SqAt zX s.heap l1 xs) (hl2:SqAt zW s.heap l2 ys) (hx:xs[k]?=P3 x) (hy:ys[k]?=P3 y)
  (hQ:∀h',iN h' z TI TO^rawInt s.heap.objs.size->gD h' TO x y->ItAt zX h' i1 l1 (k+1)->ItAt zW h' i2 l2 (k+1)->gD h' s.heap.objs.size x y->h'.objs.size=s.heap.objs.size+1->(∀c o,c≠z->c≠TO->c≠i1->c≠i2->s.heap.get? c=P3 o->h'.get? c=P3 o)->Q (P3^.ref s.heap.objs.size) {s with heap:=h'}):
  wpAny (model prog w) A (pyNext^.ref z) Q E s:=by
 have hT:s.TypeIs (.ref z) "zip":=#[_,hz,rfl];unfold pyNext
 exact Go (wpAny_attempt (gI (name:=fu "__next__") hT jQ (h7 jQ hT F.entry_zip_next
  (RU D hz hTI hTO h1 h2 hl1 hl2 hx hy λh' a1 a2 a3 a4 a5 a6 a7=>df^hQ h' a1 a2 a3 a4 a5 a6 a7) (F.args_zip_next_1 _))))
theorem Lk{zX zW:Bool}{z TI TO i1 i2 l1 l2:Ch}{k:Nat}{xs ys:Array Db}{a b:Db}{Q:p_ Db->Rs->Prop}(hh:A.handled=l_)(D:Yu z TI TO i1 i2 l1 l2)
  (hz:iN s.heap z TI TO .none) (hTI:gD s.heap TI (.ref i1)^.ref i2) (hTO:gD s.heap TO a b) (h1:ItAt zX s.heap i1 l1 k) (h2:ItAt zW s.heap i2 l2 k) (hl1:SqAt zX s.heap l1 xs) (hl2:SqAt zW s.heap l2 ys) (hend:xs[k]?=l_\/ys[k]?=l_)
  (hQ:∀h',(∀c o,c≠z->c≠TO->c≠i1->c≠i2->s.heap.get? c=P3 o->h'.get? c=P3 o)->Q l_ {s with heap:=h'}):wpAny (model prog w) A (pyNext^.ref z) Q E s:=by
 have hT:s.TypeIs (.ref z) "zip":=#[_,hz,rfl];unfold pyNext;refine Go^wpAny_attempt^gI (name:=fu "__next__") hT jQ^h7 jQ hT F.entry_zip_next (UX hh D hz hTI hTO h1 h2 hl1 hl2 hend λh' e hk he=>?_)^F.args_zip_next_1 _;let#[o,ho,hc]:=he;exact Go^wpAny_isInstance (T:="StopIteration") (b:=m_) #[o,ho,hc] isSubtype_stop^df^hQ _ hk
end
section
variable {X:Cx}{zG:o_ (Addr×Obj)}{Z:L2.St}{H:Hp}{s:Shared}{h':Heap}
theorem Inv.turnedL{t':Nat}{ch:o_ Ch}(I:Inv X zG Z H s)(hf:∀b∈ch,Fj X zG H b)(k:∀b o,b∉ch->s.heap.get? b=P3 o->h'.get? b=P3 o):Inv X zG Z H {s with heap:=h',toks:=t'}:=by
 have nit:∀b u,H b=P3 u->b∉ch:=λb u e z=>by rw[(hf b z).1]at e;cases e
 refine I.step (λb hb=>?_) (λb o _ _ hc e _=>k b o hc e) (λb o _ _ hc e _=>#[_,k b o hc e]) (λ_ _ _ _ n=>n) (λb o hc e=>#[o,k b o hc e]) (λ_ _ e=>e) (λ_ _ _ e=>e) (λb ps e=>#[#[],by rw[e];simp]) (λm hm=>?_) (λb u e=>(I.hok b u e).stay (λc v hc q=>k c v (hc.elim (λz=>by grind) λz=>nit c _ z) q) (λ_ q=>q) λ_ _ q=>q) I.bare
 .let#[f0,f1,f2,f3,f4,f5]:=hf b hb
  exact#[f3,f1,f4,f5]
 .let#[o,es,ep,ho,r]:=hm
  exact#[o,es,ep,k _ o (λz=>(hf _ z).2.1 rfl) ho,r]
theorem Inv.turnLaid{t':Nat}{ch:o_ Ch}{a:Ch}{o:HO}(I:Inv X zG Z H s)(hf:∀b∈ch,Fj X zG H b)(k:∀b o,b∉ch->s.heap.get? b=P3 o->h'.get? b=P3 o)(ha:s.heap.objs.size<=a)(new:ObjOk X.prog X.w (BF H a o) h' a o):
  Inv X zG Z (BF H a o) {s with heap:=h',toks:=t'}:=by
 have nit:∀b u,H b=P3 u->b∉ch:=λb u e z=>by rw[(hf b z).1]at e;cases e
 have hn:H a=l_:=I.hok.fresh ha;have up:∀b u,H b=P3 u->BF H a o b=P3 u:=λb u e=>by rw[AO^Aq e hn];exact e
 refine I.step (g':=s.gens) (d':=s.drawn) (ch:=ch) (λb hb=>?_) (λb o _ _ hc e _=>k b o hc e) (λb o _ _ hc e _=>#[o.slots,k b o hc e]) (λb u _ e n=>?_) (λb o hc e=>#[o,k b o hc e]) (λb xs e=>up _ _ e) (λb o u e=>up _ _ e) (λb ps e=>#[#[],by rw[up _ _ e];simp]) (λm hm=>?_) (λb u e=>?_) I.bare
 .let#[f0,f1,f2,f3,f4,f5]:=hf b hb
  exact#[f3,f1,f4,f5]
 .rw[AO^eB^eW (Uf e) ha];exact n
 .let#[o,es,ep,ho,r]:=hm
  exact#[o,es,ep,k _ o (λz=>(hf _ z).2.1 rfl) ho,r]
 .by_cases hb:b=a
  .subst hb;rw[AW]at e;cases e;exact new
  .rw[AO hb]at e
   exact(I.hok b u e).stay (λc v hc q=>k c v (hc.elim (λz=>by grind) λz=>nit c _ z) q) (λc q=>up _ _ q) λc xs q=>up _ _ q
end
def SqK(κ:Bool)(K:Frag)(H:Hp)(a:Ch)(xs:o_ V):Prop:=match κ with
 |true=>SqL K H a xs
 |false=>SqT K H a xs
theorem SqK.at{κ:Bool}{X:Cx}{zG:o_ (Ch×Obj)}{Z:L2.St}{H:Hp}{s:Rs}{a:Ch}{xs:o_ V}(I:Inv X zG Z H s)(h:SqK κ X.K H a xs):∃its:o_ Db,Vals xs its/\SqAt κ s.heap a its.toArray:=by
 cases κ with
 |true=>let#[its,r,pl,_]:=I.list h;exact#[_,r,pl.isList]
 |false=>let#[its,r,p,_]:=I.tuple h;exact#[_,r,p]
def Yv (K:Frag) (zX zW:Bool) (a b:Ch) (xs ys:o_ V):It:=
  #[λi H=>SqK zX K H a xs ∧ SqK zW K H b ys ∧ i < xs.length ∧ i < ys.length,λi H x H'=>∃ T p q,x=.ref T ∧ H T=l_ ∧ H'=BF H T^.tup [p,q] ∧ xs[i]?=P3 p ∧ ys[i]?=P3 q,
   λi H=>SqK zX K H a xs ∧ SqK zW K H b ys ∧ (xs.length ≤ i ∨ ys.length ≤ i)]
structure aM (zX zW:Bool) (z TI TO i1 i2 a b:Ch) (k:Nat) (h:eC):Prop where
 z:iN h z TI TO .none
 ti:gD h TI (.ref i1) (.ref i2)
 to:∃a b,gD h TO a b
 i1:ItAt zX h i1 a k
 i2:ItAt zW h i2 b k
theorem Rm{P:eK}{w:eU}{K:Frag}{es:o_ eO}{j:Nat}{pos:Pos}(zX zW:Bool)(z TI TO i1 i2 a b:Ch)(xs ys:o_ V)(D:Yu z TI TO i1 i2 a b)(hTI:TI∉[z,TO,i1,i2]):
  Turn P w K (.Tuple es j pos) (Yv K zX zW a b xs ys) [z,TI,TO,i1,i2] z (aM zX zW z TI TO i1 i2 a b) where
 mem:=by simp
 obj:=λi h st c hc=>by
  simp only[UF,d9,or_false]at hc
  rcases hc with rfl|rfl|rfl|rfl|rfl
  .exact#[_,st.z,λv q=>by cases q]
  .exact#[_,st.ti,λv q=>by cases q]
  .let#[a,b,e]:=st.to
   exact#[_,e,λv q=>by cases q]
  .exact st.i1.lies
  .exact st.i2.lies
 keep:=λi h h' st k=>by
  let#[p,q,e]:=st.to;exact#[k z (by simp) _ st.z,k TI (by simp) _ st.ti,#[p,q,k TO (by simp) _ e],st.i1.mv λo e=>k i1 (by simp) o e,st.i2.mv λo e=>k i2 (by simp) o e]
 item:=by
  intro X hP hw hK hc i zG s Z H E I hf st hg;subst hP hw hK;let#[ha,hb,hi,hj]:=hg;let#[us,r1,q1]:=ha.at I;let#[ws,r2,q2]:=hb.at I;let#[u,hu,ru]:=r1.get^Op hi;let#[v,hv,rv]:=r2.get^Op hj;let#[p,q,e]:=st.to;refine KA D st.z st.ti e st.i1 st.i2 q1 q2 (x:=u) (y:=v) (by simpa using hu) (by simpa using hv) λh' a1 a2 a3 a4 a5 a6 a7=>#[_,rfl,?_];refine wpAny_letOwnedTupleGo_zip a1 λh2 b1 b2=>?_;have hT:H s.heap.objs.size=l_:=I.hok.fresh^Re _
  have kk:∀c o,c∉[z,TO,i1,i2]->s.heap.get? c=P3 o->h2.get? c=P3 o:=λc o hc e=>by
   simp only[UF,d9,or_false,not_or]at hc;exact b2.extBut _ _ hc.1^a7 c o hc.1 hc.2.1 hc.2.2.1 hc.2.2.2 e
  have I2:Inv X zG Z (BF H s.heap.objs.size^.tup [xs[i],ys[i]]) {s with heap:=h2}:=by
   refine I.turnLaid (t':=s.toks) (ch:=[z,TO,i1,i2]) (λc hc=>hf c ?_) kk (Re _) ?_
   .simp only[UF,d9,or_false]at hc ⊢
    rcases hc with rfl|rfl|rfl|rfl <;>simp
   .have nT:s.heap.objs.size≠z:=ig^Uf st.z
    exact#[by show 2<=sizeLine;decide,[u,v],.cons ru^.cons rv .nil,#[_,b2.extBut _ _ nT a5,rfl,_,rfl,rfl,rfl]]
  have ti2:gD h2 TI (.ref i1)^.ref i2:=kk _ _ hTI st.ti;refine#[.ref s.heap.objs.size,_,I2,rfl,#[_,_,_,rfl,hT,rfl,Op hi,Op hj],#[b1,ti2,#[_,_,b2.extBut _ _ D.TOz a2],a3.eb b2.extBut D.i1z,a4.eb b2.extBut D.i2z],λc hc=>?_];have hcn:H c=l_:=(hf c hc).1
  have hlt:c≠s.heap.objs.size:=λz=>by
   obtain⟨o,ho,_⟩:∃o,s.heap.get? c=P3 o/\True:=by
    simp only[UF,d9,or_false]at hc
    rcases hc with rfl|rfl|rfl|rfl|rfl
    .exact#[_,st.z,trivial]
    .exact#[_,st.ti,trivial]
    .exact#[_,e,trivial]
    .let#[o,q,_]:=st.i1.lies;exact#[o,q,trivial]
    .let#[o,q,_]:=st.i2.lies;exact#[o,q,trivial]
   rw[z]at ho;exact fC _^Uf ho
  rw[AO hlt];exact hcn
 done:=by
  intro X hP hw hK hc i zG s Z H E I hf st hg;subst hP hw hK;let#[ha,hb,hi]:=hg;let#[us,r1,q1]:=ha.at I;let#[ws,r2,q2]:=hb.at I;let#[p,q,e]:=st.to;have l1:=r1.length;have l2:=r2.length;refine Lk (I.ok.hd hc) D st.z st.ti e st.i1 st.i2 q1 q2 (hi.imp (λhi=>by simp;lk) λhi=>by simp;lk) λh' kk=>#[rfl,?_];refine I.turnedL (t':=s.toks) (ch:=[z,TO,i1,i2]) (λc hc=>hf c ?_) λc o hc e=>?_
  .simp only[UF,d9,or_false]at hc ⊢
   rcases hc with rfl|rfl|rfl|rfl <;>simp
  .simp only[UF,d9,or_false,not_or]at hc
   exact kk c o hc.1 hc.2.1 hc.2.2.1 hc.2.2.2 e
 self:=λA i s Q E st h=>wpAny_pyIter_zip st.z h
section
variable {X:Cx}
theorem Wy(n a b:Nat)(h1:a<n)(h2:b<n):Yu (n+4) (n+2) (n+3) n (n+1) a b:=by
 constructor <;>(grind)
theorem Wx(n:Nat):(n+2)∉[n+4,n+3,n,n+1]:=by
 grind
theorem Wz(n c:Nat)(h:c∈[n+4,n+2,n+3,n,n+1]):n<=c:=by
 grind
def bi(K:Frag)(ta:TA):TI:=λZ H R=>ta Z H λvs H1=>∃zX zW a b xs ys,vs=[.ref a,.ref b]/\SqK zX K H1 a xs/\SqK zW K H1 b ys/\R (Yv K zX zW a b xs ys) H1
theorem SU{e1 e2:eO}{es:o_ eO}{j:Nat}{tpos:Pos}{ta:TA}{p pos:Pos}(hg:Gl X "zip")(hm:X.mg "zip"=l_)(ha:PA X [e1,e2] ta)(hs:starEach [e1,e2] X.env=[(n_,eval e1 X.env),(n_,eval e2 X.env)]:=by rfl)(hs2:starEach [e2] X.env=[(n_,eval e2 X.env)]:=by rfl):
  PI X (.Tuple es j tpos) (.Call (.Name "zip" p) [e1,e2] [] pos) (bi X.K ta):=by
 intro zG s Z H R I h;refine Call_ (Dg I hg hm boot_zip^fI (thn (ha pos zG s Z H _ I h) λus s1 zz=>?_) (by rw[hs,hs2])^by rw[hs2];rfl);let#[vs,H1,I1,r1,q1]:=zz;let#[zX,zW,a,b,xs,ys,e,h1,h2,q]:=q1;subst e;let#[u,v,rfl,ru,rv]:=vals2 r1;cases ru;cases rv;let#[us,r1',q1]:=h1.at I1;let#[ws,r2',q2]:=h2.at I1;have la:a<s1.heap.objs.size:=by let#[o,e]:=q1.lies;exact Uf e
 have lb:b<s1.heap.objs.size:=by let#[o,e]:=q2.lies;exact Uf e
 refine L3 q1 q2 λh' hz hTI hTO hi1 hi2 hk=>?_;refine wpAny_pyIter_zip hz ?_;have D:=Wy s1.heap.objs.size a b la lb;refine#[s1.heap.objs.size+4,[s1.heap.objs.size+4,s1.heap.objs.size+2,s1.heap.objs.size+3,s1.heap.objs.size,s1.heap.objs.size+1],_,Yv X.K zX zW a b xs ys,H1,rfl,I1.kept (t':=s1.toks) hk,Rm zX zW _ _ _ _ _ a b xs ys D^Wx s1.heap.objs.size,#[hz,hTI,#[_,_,hTO],hi1,hi2],λc hc=>?_,q];have hge:s1.heap.objs.size<=c:=Wz s1.heap.objs.size c hc;exact I1.fpOk hge^I1.hok.fresh hge
end
end L2
namespace Dp
open L2
def DY(ds es:o_ D):o_ D:=ip (λd e=>.tup [d,e]) ds es
section
variable {K:Frag}
theorem LN{U V' M:Ch->Prop}{H:Hp}{d:D}{v:V}{ds:o_ D}(h:AtT K V' M H d v)(e:Eu d=P3 ds)(uV:∀a,U a->V' a)(vM:∀a,V' a->M a):∃κ a vs,v=.ref a/\Ats K M H ds vs/\∀M' H',Pres M H M' H'->Ext U H H'->SqK κ K H' a vs:=by
 cases d with
 |lst xs=>
  cases e;let#[a,vs,e1,n1,hq,hs]:=h;refine#[m_,a,vs,e1,hs,λM' H' _ ex=>?_]
  rcases hq with hq|⟨o,hq⟩
  .exact .inl^.inl^ex.keep hq λz=>n1^uV a z
  .exact .inl^.inr #[o,ex.keep hq λz=>n1^uV a z]
 |tup xs=>
  cases e;let#[a,vs,e1,hq,hs]:=h;exact#[n_,a,vs,e1,hs,λM' H' pr _=>(hq.pres pr).sq]
 |_=>cases e
theorem Nw{M:Ch->Prop}{H:Hp}{d:D}{v:V}{ds:o_ D}(h:At K M H d v)(e:Eu d=P3 ds):∃κ a vs,v=.ref a/\Ats K M H ds vs/\∀M' H',Pres M H M' H'->SqK κ K H' a vs:=by
 cases d with
 |lst xs=>
  cases e;let#[a,vs,e1,hq,hs]:=h;exact#[m_,a,vs,e1,hs,λM' H' pr=>(hq.pres pr).sq]
 |tup xs=>
  cases e;let#[a,vs,e1,hq,hs]:=h;exact#[n_,a,vs,e1,hs,λM' H' pr=>(hq.pres pr).sq]
 |_=>cases e
theorem Ie{M:Ch->Prop}{H:Hp}{zX zW:Bool}{a b:Ch}{vs us:o_ V}{ds es:o_ D}(hs:Ats K M H ds vs)(ht:Ats K M H es us){i:Nat}{M':Ch->Prop}{H':Hp}(pr:Pres M H M' H')(h1:SqK zX K H' a vs)(h2:SqK zW K H' b us)(dom:∀a,M' a->∃o,H' a=P3 o):
  (∀d,(DY ds es)[i]?=P3 d->(Yv K zX zW a b vs us).go i H'/\∀x H2,(Yv K zX zW a b vs us).yld i H' x H2->Grow H' H2/\At K M' H2 d x)/\((DY ds es).length<=i->(Yv K zX zW a b vs us).stop i H'):=by
 have l1:=hs.length;have l2:=ht.length;refine#[λd hd=>?_,λhl=>#[h1,h2,?_]]
 .unfold DY at hd
  rw[jG]at hd;cases q1:ds[i]? with
  |none=>rw[q1]at hd;simp at hd
  | some d1=>
   cases q2:es[i]? with
   |none=>rw[q1,q2]at hd;simp at hd
   |some d2=>
    rw[q1,q2]at hd;have hd':D.tup [d1,d2]=d:=d6 hd;have i1:i<ds.length:=(de.mp q1).1;have i2:i<es.length:=(de.mp q2).1;refine#[#[h1,h2,by lk,by lk],λx H2 y=>?_];let#[T,p,q,rfl,hT,rfl,e1,e2]:=y;let#[v1,f1,a1]:=(hs.pres pr).get q1;let#[v2,f2,a2]:=(ht.pres pr).get q2;rw[e1]at f1;rw[e2]at f2;cases f1;cases f2;subst hd';exact#[A2 hT,Dk dom hT #[p,[q],rfl,a1,q,[],rfl,a2,rfl]]
 .unfold DY at hl
  grind
end
section
variable {X:Cx}{e1 e2:Expr}{es:o_ Expr}{j:Nat}{tpos p pos:Pos}{ws:Dq}
def W0(ws:Dq):Dq:=λn ρ P=>ws n ρ λds n1=>∃d e xs ys,ds=[d,e]/\Eu d=P3 xs/\Eu e=P3 ys/\P (DY xs ys) n1
theorem Pb(hg:Gl X "zip")(hm:X.mg "zip"=l_)(ha:UU X [e1,e2] ws)(hs:starEach [e1,e2] X.env=[(n_,eval e1 X.env),(n_,eval e2 X.env)]:=by rfl)(hs2:starEach [e2] X.env=[(n_,eval e2 X.env)]:=by rfl):
  Wu X (.Tuple es j tpos) (.Call (.Name "zip" p) [e1,e2] [] pos) (W0 ws):=by
 let#[t,a1,a2]:=ha;refine#[_,SU hg hm a1 hs hs2,λC M H n ρ Z P Rr R w q=>?_];refine a2 C M H n ρ Z _ _ R w λvs H1 ds n1 ee f1 r1 p=>?_;let#[d,e,xs,ys,rfl,hd,he,p]:=p;cases r1 with
 | cons r rr=>
  cases rr with
  |cons r' rr=>
   cases rr;have R1:=R.step ee f1;let#[zX,a,us,rfl,h1,s1]:=LN (U:=C.U) r hd R.uV R1.vM;let#[zW,b,us',rfl,h2,s2]:=LN (U:=C.U) r' he R.uV R1.vM;refine#[zX,zW,a,b,us,us',rfl,s1 M H1 (Pres.refl _ _)^Ext.refl _ _,s2 M H1 (Pres.refl _ _)^Ext.refl _ _,q _ H1 _ n1 ee f1 (λi M' H' pr ex dom=>Ie h1 h2 pr (s1 M' H' pr ex) (s2 M' H' pr ex) dom) p]
theorem TZ(hg:Gl X "zip")(hm:X.mg "zip"=l_)(ha:Yr X [e1,e2] ws)(hs:starEach [e1,e2] X.env=[(n_,eval e1 X.env),(n_,eval e2 X.env)]:=by rfl)(hs2:starEach [e2] X.env=[(n_,eval e2 X.env)]:=by rfl):
  DI X (.Tuple es j tpos) (.Call (.Name "zip" p) [e1,e2] [] pos) (W0 ws):=by
 let#[t,a1,a2]:=ha;refine#[_,SU hg hm a1 hs hs2,λC M H n ρ Z P Rr R w q=>?_];refine a2 C M H n ρ Z _ _ R w λvs H1 ds n1 ee f1 r1 p=>?_;let#[d,e,xs,ys,rfl,hd,he,p]:=p;let#[v,r,rfl,r1,v',r',rfl,r2,rr]:=r1;cases(show r'=[]from rr);let#[zX,a,us,rfl,h1,s1]:=Nw r1 hd;let#[zW,b,us',rfl,h2,s2]:=Nw r2 he;exact#[zX,zW,a,b,us,us',rfl,s1 M H1^Pres.refl _ _,s2 M H1^Pres.refl _ _,q _ H1 _ n1 ee f1 (λi M' H' pr dom=>Ie h1 h2 pr (s1 M' H' pr) (s2 M' H' pr) dom) p]
def bc:D->p_ Key
 |.int i=>P3^.inl i
 |.str x=>P3^.inr x
 |_=>l_
def Ho:o_ D->p_^o_ Key
 |[]=>P3 []
 |d::ds=>match bc d,Ho ds with
  |some k,P3 ks=>P3 (k::ks)
  |_,_=>l_
theorem Gr{K:Frag}{M:Ch->Prop}{H:Hp}:∀{ds:o_ D}{vs:o_ V}{ks:o_ Key},Ho ds=P3 ks->Ats K M H ds vs->vs=ks.map kOf
 |[],vs,ks,e,h=>by cases e;exact h
 | d::ds,vs,ks,e,h=>by
  let#[v,r,e1,h1,h2]:=h;unfold Ho at e
  split at e
  .rename_i k ks' hk hks
   cases e;rw[e1,Gr hks h2]
   congr 1
   cases d with
   |int i=>cases hk;exact h1
   |str x=>cases hk;exact h1.1
   |_=>cases hk
  .cases e
def Jh(d e:D)(P:D->Prop):Prop:=match d,e with
 |.int i,.int j=>P^.bl (decide (i<j))
 |.str i,.str j=>P^.bl (decide (i.cps.toList<j.cps.toList))
 |.tup xs,.tup ys=>∃ks ls,Ho xs=P3 ks/\Ho ys=P3 ls/\CL ks ls=m_/\P^.bl^Fh ks ls
 |_,_=>False
def ZP(K:Frag):R2:=λx y H Q=>XU x y H Q\/ZO K x y H Q
theorem Ct{k:Nat}(hr:Room k X.A):OpR X (compareOp .Lt)^ZP X.K:=op_ltU.or^Xk hr.units0
theorem EM:Er X.K .sh (ZP X.K) Jh:=λU M H d e x y P Q dom vM hx hy w q=>by
 unfold Jh at w
 split at w
 .exact .inl^Wi U M H _ _ x y P Q dom vM hx hy w q
 .exact .inl^Wi U M H _ _ x y P Q dom vM hx hy w q
 .let#[ks,ls,h1,h2,h3,w]:=w
  let#[a,vs,rfl,ha,hs]:=hx.tup;let#[b,us,rfl,hb,ht]:=hy.tup;have e1:=Gr h1 hs;have e2:=Gr h2 ht;subst e1 e2;exact .inr #[a,b,ks,ls,rfl,rfl,ha.sq,hb.sq,h3,q _ H (.bl _) .refl rfl w]
 grind
end
end Dp
namespace L2
section
variable {prog:Program}{w:World}{A:Around}{E:Value->Shared->Prop}{s:Shared}
theorem MN{t sl:Ch}{items:Array Db}{vl vu:Db}{lo hi:p_ Int}{Q:Db->Rs->Prop}(ht:IsTup s.heap t items)(hs:s.heap.IsSliceOf sl vl vu .none)(pl:jK vl lo)(pu:jK vu hi)
  (hw:HT.sIx items.size 0 lo=0/\HT.sIx items.size items.size hi=items.size) (h:Q (.ref t) s):wpAny (model prog w) A (getItem (.ref t)^.ref sl) Q E s:=by
 let#[os,hos,hcs,hds]:=id hs;have hTs:s.TypeIs (.ref sl) "slice":=#[os,hos,hcs];unfold getItem
 (try with_reducible refine gE ?_);(first|refine Go^df ?_|skip)
 refine Go^wpAny_sequenceKey ht.typeIs (by cbv)^Go^gI (name:=fu "__getitem__") ht.typeIs fT^h7 fT ht.typeIs entry_tuple_getitem ?_^args_tuple_getitem _ _;show wpAny (model prog w) _ (jk^.ref t >>=_) _ _ s;refine Go^tupleItemsOf_ ht^Go^ii hTs ?_;rw[if_pos^by cbv]
 refine Go^HT.sliceApplied_gen hs pl pu ?_;have hyes:(((HT.sIx items.size 0 lo:Nat):Int)==0&&(1:Int)==1&&(HT.sIx items.size items.size hi - HT.sIx items.size 0 lo)==items.size)=m_:=by rw[hw.1,hw.2];simp
 show wpAny (model prog w) _ (if(((HT.sIx items.size 0 lo:Nat):Int)==0&&(1:Int)==1&&(HT.sIx items.size items.size hi - HT.sIx items.size 0 lo)==items.size)=m_ then _ else _) _ _ s;rw[if_pos hyes];refine Go (m:=jp _) ?_;unfold jp;refine Go^ii ht.typeIs^df ?_;show wpAny (model prog w) _ (if((fF "tuple"==fF "tuple")=m_)then _ else _) _ _ s;rw[if_pos^by cbv]
 first
  |grind
  |exact Go^jO^df #[_,rfl,df h]
  |grind
end
section
variable {X:Cx}
def WF(K:Frag):V->p_ Int->p_ Int->Hp->VK->Prop:=λx lo hi H Q=>∃a xs,x=.ref a/\SqT K H a xs/\(HT.sIx xs.length 0 lo=0/\HT.sIx xs.length xs.length hi=xs.length)/\Q (.ref a) H
theorem Um:SlR X^WF X.K:=by
 intro zG s Z H x v vl vu lo hi sl Q I rx hs pl pu h;let#[a,xs,rfl,hx,hw,q]:=h;cases rx;let#[its,r,ht,hz]:=I.tuple hx;have hlen:=r.length.symm;exact#[_,_,fT.lookup,ht.typeIs,MN ht hs pl pu (by grind) #[.ref a,H,I,rfl,q]]
end
section
variable {X:Cx}
def SF(K:Frag):R2:=λx y H Q=>∃a b ys,x=.ref a/\y=.ref b/\SqT K H a []/\SqT K H b ys/\Q (.ref b) H
theorem Sf:OpR X (binaryOp .Add)^SF X.K:=by
 intro zG s Z H x y v u Q I rx ry h;let#[a,b,ys,rfl,rfl,ha,hb,q]:=h;cases rx;cases ry;let#[its,r1,p1,_]:=I.tuple ha;let#[its2,r2,p2,_]:=I.tuple hb;cases r1;let#[#[cls,dd,data,sl],ho,hc,n,hd]:=id p1;let#[#[cls2,dd2,data2,sl2],ho2,hc2,n2,hd2]:=id p2;subst hc hd hc2 hd2;exact concat_meets #[_,ho,rfl] #[_,ho2,rfl] kA seq_tuple_add PySem.F.slot_tuple_add PySem.F.entry_tuple_add (PySem.F.args_tuple_add_2 _ _) (tuple_addW0 a b _ _ n n2 dd _ sl _^by simp) #[ho,ho2,#[.ref b,H,I,rfl,q]]
def bI(b:Bool):Int:=if b=m_ then 1 else 0
def aq(g:Int->Int->Int):R2:=λx y H Q=>∃k j,x=.bl k/\y=.int j/\Q (.int^g (bI k) j) H
def ci(g:Int->Int->Int):R2:=λx y H Q=>∃i k,x=.int i/\y=.bl k/\Q (.int^g i^bI k) H
theorem op_add_bi:OpR X (binaryOp .Add) (aq λi j=>i+j):=by
 intro zG s Z H x y v u Q I rx ry h;let#[k,j,rfl,rfl,q]:=h;cases rx;let#[t,rfl]:=ry;exact PySem.IntBool.add_bool_int #[.int _,H,I.tok _,#[_,rfl],q]
theorem op_sub_bi:OpR X (binaryOp .Sub) (aq λi j=>i - j):=by
 intro zG s Z H x y v u Q I rx ry h;let#[k,j,rfl,rfl,q]:=h;cases rx;let#[t,rfl]:=ry;exact PySem.IntBool.sub_bool_int #[.int _,H,I.tok _,#[_,rfl],q]
theorem QJ:OpR X (binaryOp .Sub) (ci λi j=>i - j):=by
 intro zG s Z H x y v u Q I rx ry h;let#[i,k,rfl,rfl,q]:=h;let#[t,rfl]:=rx;cases ry;exact PySem.IntBool.sub_int_bool #[.int _,H,I.tok _,#[_,rfl],q]
def ZT(neg:Bool):R2:=λx y H Q=>∃a b,x=.bl a/\y=.bl b/\Q (.bl (if neg then !(a==b)else a==b)) H
theorem Xl:OpR X (compareOp .Is)^ZT n_:=by
 intro zG s Z H x y v u Q I rx ry h;let#[a,b,rfl,rfl,q]:=h;cases rx;cases ry;exact is_bool #[.bl _,H,I,rfl,q]
end
end L2
namespace Dp
open L2
section
variable {K:Frag}{X:Cx}
def Cj(d e:D)(P:D->Prop):Prop:=match d,e with
 |.int i,.int j=>P^.int (i+j)
 |.bl k,.int j=>P^.int (bI k+j)
 |.str i,.str j=>i.length+j.length<=sizeLine/\P^.str (i++j)
 |.tup i,.tup j=>i.length+j.length<=sizeLine/\P^.tup (i++j)
 |.lst i,.lst j=>i.length+j.length<=sizeLine/\P^.lst (i++j)
 |_,_=>False
def WO(K:Frag):R2:=λx y H Q=>SH K x y H Q\/(aq λi j=>i+j) x y H Q\/SF K x y H Q
theorem Ax:OpR X (binaryOp .Add)^WO X.K:=op_addU.or^op_add_bi.or Sf
theorem BI:Er X.K .sh (WO X.K) Cj:=λU M H d e x y P Q dom vM hx hy w q=>by
 unfold Cj at w
 split at w
 .exact .inl^MA U M H (.int _) (.int _) x y P Q dom vM hx hy w q
 .rename_i k j
  exact .inr^.inl #[k,j,hx,hy,q _ H (.int _) .refl rfl w]
 .exact .inl^MA U M H _ (.str _) x y P Q dom vM hx hy w q
 .rename_i i j
  cases i with
  |nil=>
   let#[a,vs,rfl,ha,hs]:=hx.tup;let#[b,us,rfl,hb,ht]:=hy.tup;cases(hs);exact .inr^.inr #[a,b,us,rfl,rfl,ha.sq,hb.sq,q _ H (.tup j) .refl #[b,us,rfl,hb,ht]^by grind]
  |cons i0 i=>exact .inl^MA U M H _ (.tup j) x y P Q dom vM hx hy #[(by grind),w] q
 .exact .inl^MA U M H (.lst _) (.lst _) x y P Q dom vM hx hy w q
 grind
def NH(d e:D)(P:D->Prop):Prop:=match d,e with
 |.int i,.int j=>P^.int (i - j)
 |.bl k,.int j=>P^.int (bI k - j)
 |.int i,.bl k=>P^.int (i - bI k)
 |_,_=>False
def WD:R2:=λx y H Q=>(Hl λi j=>.int (i - j)) x y H Q\/(aq λi j=>i - j) x y H Q\/(ci λi j=>i - j) x y H Q
theorem EX:OpR X (binaryOp .Sub) WD:=op_sub.or^op_sub_bi.or QJ
theorem GG:Er K .sh WD NH:=λU M H d e x y P Q dom vM hx hy w q=>by
 unfold NH at w
 split at w
 .exact .inl^T2 U M H _ _ x y P Q dom vM hx hy w q
 .rename_i k j
  exact .inr^.inl #[k,j,hx,hy,q _ H (.int _) .refl rfl w]
 .rename_i i k
  exact .inr^.inr #[i,k,hx,hy,q _ H (.int _) .refl rfl w]
 grind
def Z2(neg:Bool)(d e:D)(P:D->Prop):Prop:=match d,e with
 |.bl a,.bl b=>P^.bl (if neg then !(a==b)else a==b)
 |_,_=>False
theorem aJ{neg:Bool}:Er K .sh (ZT neg)^Z2 neg:=λU M H d e x y P Q dom vM hx hy w q=>by
 unfold Z2 at w
 split at w
 .rename_i a b
  exact#[a,b,hx,hy,q _ H (.bl _) .refl rfl w]
 grind
def NI(d:D)(lo hi:p_ Int)(P:D->Prop):Prop:=match d with
 |.str z=>P^.str^Txt.slice z lo hi
 |.lst xs=>P^.lst^cutD xs lo hi
 |.tup xs=>P^.tup^cutD xs lo hi
 |_=>False
def ZM(K:Frag):V->p_ Int->p_ Int->Hp->VK->Prop:=λx lo hi H Q=>ZJ x lo hi H Q\/ZL K x lo hi H Q\/ZK K x lo hi H Q\/WF K x lo hi H Q
theorem LL:SlR X^ZM X.K:=sl_U.or^sl_list.or^sl_tup.or Um
theorem Pe{M:Ch->Prop}{H:Hp}{ds:o_ D}{vs:o_ V}(lo hi:p_ Int)(h:Ats K M H ds vs):Ats K M H (cutD ds lo hi)^NO vs lo hi:=by
 unfold cutD NO;rw[h.length];exact(h.drop _).take _
theorem G3:cz K .sh (ZM K) NI:=by
 intro U M H d x lo hi P Q dom vM hx w q;unfold NI at w
 split at w
 .rename_i z
  exact .inl #[z,hx.str.1,hx.str.2,q _ H (.str^Txt.slice z lo hi) .refl #[rfl,eJ (Txt.slice_le z lo hi) hx.str.2] w]
 .rename_i xs
  let#[a,vs,rfl,_,ha,hs]:=hx;exact .inr^.inl #[a,vs,rfl,.inl ha,λp hp=>q _ _ (.lst _) (A2 hp) ((EK (U:=U) hp^Pe lo hi hs).shOf dom^by grind) w]
 .rename_i xs
  let#[a,vs,rfl,ha,hs]:=hx.tup
  by_cases hw:HT.sIx vs.length 0 lo=0/\HT.sIx vs.length vs.length hi=vs.length
  .refine .inr^.inr^.inr #[a,vs,rfl,ha.sq,hw,?_]
   have e:cutD xs lo hi=xs:=by
    unfold cutD;rw[←hs.length,hw.1,hw.2,List.drop_zero,Nat.sub_zero,hs.length,kC]
   rw[e]at w;exact q _ H (.tup xs) .refl #[a,vs,rfl,ha,hs] w
  .exact .inr^.inr^.inl #[a,vs,rfl,ha.sq,hw,λp hp=>q _ _ (.tup _) (A2 hp) (Dk dom hp^Pe lo hi hs) w]
 grind
end
end Dp
namespace Nt
open L2 Dp
def Hy:W2:=λss n P=>∃m:Int,ss=[.fd,.sh^.int m]/\1<=m/\m<1073741824/\1<=n/\∀r:Int,0<=r->r<m->P (.int r) (n - 1)
def cM:W2:=λss n P=>∃s:Int,ss=[.fd,.sh^.int s]/\1<=n/\∀r:Int,1<=r->r<=1000000->P (.int r) (n - 1)
def cs(x:Str):o_ Nat:=x.cps.toList
theorem D9(x:Str):(cs x).length=x.length:=fQ
theorem YK{x y:Str}(h:cs x=cs y):x=y:=by
 let#[a]:=x;unfold cs at h
 simp_all
theorem Jo(x y:Str):cs (x++y)=cs x++cs y:=PySem.W.KT.app_list x y
theorem Wg{x:Str}{j:Int}(h0:0<=j)(h1:j<=(x.length:Int)):cs^Txt.slice x l_^P3 j=(cs x).take j.toNat:=by
 have e:x.cps.toList.length=x.length:=by rw[show x.cps.toList.length=x.length from D9 x]
 rw[eq_of_beq^slice_closes_to #[h0,by lk]];show((x.cps.toList.drop _).take _)=(x.cps.toList).take _
 grind
theorem YI{x:Str}{i j:Int}(h0:0<=i)(h1:i<=j)(h2:j<=(x.length:Int)):cs^Txt.slice x (P3 i)^P3 j=((cs x).drop i.toNat).take (j - i).toNat:=by
 have e:x.cps.toList.length=x.length:=by rw[show x.cps.toList.length=x.length from D9 x]
 rw[eq_of_beq^slice_closes #[h0,h1,by lk]];rfl
def NC(x:Str):Prop:=1<=x.length/\x.length<=8/\∀c∈cs x,97<=c/\c<=122
def rising(xs:o_ Str):Prop:=xs.Pairwise λx y=>cs x<cs y
theorem Sn(a b:o_ Nat):ltCps a b=decide (a<b):=ltCps_eq a b
theorem Hm:∀(l:o_ Str) (p:Str),risingS p l=m_->(p::l).Pairwise λa b=>¬cs b<cs a
 |[],p,_=>i6 _ _
 |x::r,p,h=>by
  have h':(!ltCps _ _&&risingS x r)=m_:=h;rw[dh,i8,Sn,decide_eq_false_iff_not]at h';have ih:=Hm r x h'.2;refine fE.mpr #[λy hy=>?_,ih]
  rcases UF.mp hy with rfl|hy
  .exact h'.1
  .exact List.le_trans h'.1^(fE.mp ih).1 y hy
theorem D5{l:o_ Str}(h:sortedS l=m_)(nd:l.Nodup):rising l:=by
 have hp:l.Pairwise λa b=>¬cs b<cs a:=by
  cases l with
  |nil=>simp_all
  |cons x r=>exact Hm r x h
 exact(hp.and nd).imp λ{a b} #[h1,h2]=>gY λh3=>h2^YK^List.le_antisymm h1 h3
theorem Ot:∀(l:o_ Nat) (i j:Nat),i<j->i<l.length->l.take i<l.take j
 |[],_,_,_,h=>absurd h^Nat.not_lt_zero _
 |c::r,0,j+1,_,_=>List.nil_lt_cons _ _
 |c::r,i+1,j+1,h1,h2=>List.cons_lt_cons_iff.mpr^.inr #[rfl,Ot r i j (by lk)^by simp_all]
theorem Kh{b:BW}{te:DW}{P:o_ D->Nat->Prop}(I:Nat->Nat->o_ D->o_ Slot->Prop)(hend:∀n acc ρ,I 0 n acc ρ->P acc n)
  (hstep:∀(k:Nat) (d:D) (n:Nat) (acc:o_ D) (ρ:o_ Slot) (nx:o_ D->Nat->o_ Slot->Prop),I (k+1) n acc ρ->(∀acc' n' zY,I k n' acc' zY->nx acc' n' zY)->b d ρ λzT=>te n zT λy n2=>nx (acc++[y]) n2 zT):
  ∀(ds acc:o_ D) (n:Nat) (ρ:o_ Slot),I ds.length n acc ρ->Ce b Ey te P ds acc n ρ
 |[],acc,n,ρ,h=>hend n _ ρ h
 |d::ds,acc,n,ρ,h=>hstep _ d n _ ρ _ h λacc' n' zY h'=>Kh I hend hstep ds _ n' _ h'
theorem Bt(lo:Int)(n:Nat):(DF lo n).length=n:=by unfold DF;grind
theorem JB{lo:Int}{n:Nat}{d:D}(h:d∈DF lo n):∃k:Nat,k<n/\d=.int (lo+k):=by
 let#[k,hk,rfl]:=TW.mp h;exact#[k,fK.mp hk,rfl]
end Nt
namespace K90
open L2 Dp Nt
def top(i:Nat):f8:=PySem.Challenge.pw_thinnet_k90_whole_all_thinnings_of_a_net.main.body.getD i^.Pass #[0,0,0,0]
abbrev F2:f8:=top 10
abbrev Hj:f8:=top 39
abbrev Kb:f8:=top 41
abbrev Ka:f8:=top 53
abbrev Iz:f8:=top 60
abbrev I_:f8:=top 61
abbrev Hk:f8:=top 81
abbrev Kc:f8:=top 83
abbrev E4:f8:=top 92
abbrev Ds:f8:=top 93
abbrev I0:f8:=top 104
structure Txt (K:Frag) (mg:Str->Option Db):Prop where
 Gaq:mg "abs"=l_
 Gah:mg "all"=l_
 Gao:mg "bool"=l_
 Gad:mg "enumerate"=l_
 Gar:mg "int"=l_
 Gac:mg "isinstance"=l_
 Gab:mg "len"=l_
 Gap:mg "list"=l_
 Gas:mg "max"=l_
 Gan:mg "min"=l_
 Gaf:mg "range"=l_
 Gak:mg "repr"=l_
 Gal:mg "reversed"=l_
 Gag:mg "sorted"=l_
 Gat:mg "str"=l_
 Gau:mg "sum"=l_
 Gaa:mg "tuple"=l_
 Gam:mg "zip"=l_
 Gae:∃t,mg "MOST_TIES_OF_LEAST"=P3 (.int 10 t)
 Gaj:∃t,mg "MOST_DEEP"=P3 (.int 15 t)
 Gai:∃t,mg "MOST_CASES"=P3^.int 4000 t
section
variable {P:Program}{w:World}{K:Frag}{mg:Str->p_ Value}{base:Heap}
theorem k6:BU ["_law_feed_here","_law_many","_law_digit","_law_at","_law_cell","_law_first"] ["_law_feed_here","_law_many"]^AS Ds:=#[rfl,rfl,rfl,by decide +kernel,rfl,by decide +kernel,by decide +kernel]
theorem U_{f:Ch}{fd:fJ}(F:Fun K "_law_next" "_law_next" Ds f fd)(ml:mg "len"=l_):FnOk P w K mg base G6 1 f fd ["_law_feed_here","_law_many"]^UP K .sh Hy 2:=by
 refine F.ok k6 (λvs H Q E h=>h.1) λcdv A outer s H vs Q E hr h=>?_;let#[hl,F0,U,V',M,n,ss,Pd,ra,#[m,rfl,hm1,hm2,hn,hP],q]:=h;let#[dom,fU,uV,vM,fd0,pa]:=ra;cases pa with
 |cons r1 pa=>
 cases pa with
 |cons r2 pa=>
 cases pa;let#[#[f0,c],e0,hF]:=r1.1;cases e0;let#[v2,e2,h2]:=r2.1;cases e2;cases(show _=V.int m from h2);let#[a,r,cells,hf,hcf,hc,hcl,ha0,han]:=fd0 (f0,c) hF
 have fin:∀(a' r' z:Int) (H':Hp),(∀b o,H b=P3 o->b≠f0->H' b=P3 o)->H' f0=P3^.lst [.ref c,.int a',.int r']->0<=a'->a'<=a+1->0<=z->z<m->Q (.int z) H':=by
  intro a' r' z H' hk hf' h0 h1 hz0 hz1;refine q (.int z) H' (.int z) (n - 1) (λb o e=>?_) (λg hg=>?_) rfl (hP z hz0 hz1)
  .by_cases hb:b=f0
   .subst hb
    exact#[_,hf',λnu=>absurd (fU (b,c) hF) nu,λvs z=>by rw[z,hf]at e;cases e]
   .exact#[o,hk b o e hb,λ_=>rfl,λ_ _=>rfl]
  .have:g=(f0,c):=d6^hg.symm.trans hF
   subst this;exact#[a',r',cells,hf',hcf,#[hc.1,hk c _ hc.2 hcf],hcl,h0,by lk]
 have hu:(A.deeper^envOfC "_law_next" (AS Ds) s.heap.objs.size f cdv).units<cLine:=hr.units0;have hsq:∀{H':Hp}{xs:o_ V},H' f0=P3^.lst xs->SqL K H' f0 xs:=λh=>SqL.of h;have ed:∀z:Int,0<=z % m/\z % m<m:=λz=>#[Int.emod_nonneg _^by lk,Int.emod_lt_of_pos _^by lk]
 refine#[_,Ba (SO (GX WS (En ix_list (pv 0) A3 λ_ _=>rfl) A3^Bg _)
   (Ba (E5 (i:=2) k6.nd rfl (fh rfl) (B0 D6 (En ix_list (pv 0) A3 λ_ _=>rfl)^pv 1))
   (Ba (LU (B0 IP (En ix_list (pv 0) A3 λ_ _=>rfl)^pv 1)^N2 (pv 0) A3 set_list)
   (Dt^F3^pv 2))) LR)
  (Ba (E5 (i:=3) k6.nd rfl (fh rfl) (En ix_list (pv 0) A3 λ_ _=>rfl))
  (Ba (LU (B0 op_add (pv 3) A3)^N2 (pv 0) A3 set_list)
  (Ba (E5 (i:=4) k6.nd rfl (fh rfl) (Mf (GX (QK hu) (En ix_list (pv 0) A3 λ_ _=>rfl) (N3 De)^Bg _)
   (En ix_list (En ix_list (pv 0) A3 λ_ _=>rfl) (B0 D6 (pv 3) (Ga Ju rfl ml PySem.boot_len (B_ (En ix_list (pv 0) A3 λ_ _=>rfl) De))) λ_ _=>rfl) A3))
  (Ba (SO (PW.pt^SI (GX WT (pv 4) (B0 HI A3 A3)^Bg _)^O3^GX op_lt (pv 3) (Ga Ju rfl ml PySem.boot_len (B_ (En ix_list (pv 0) A3 λ_ _=>rfl) De))^Bg _)
   (Ba (LU (B0 IP (pv 4)^pv 1)^N2 (pv 0) A3 set_list)
   (Dt^F3^B0 D6 (pv 4)^pv 1)) LR)
  (Ba (E5 (i:=5) k6.nd rfl (fh rfl) (B0 D6 (B0 op_mul (B0 op_add (B0 op_add (B0 op_add (B0 D6 (pv 4) A3)^B0 op_mul (B0 op_mul A3^pv 3)^pv 3)^B0 op_mul A3^pv 3) A3) A3) A3))
  (Dt^F3^B0 D6 (B0 IP (B0 D6 (B0 op_mul (B0 op_add (pv 5)^B0 op_mul A3^pv 3) A3) A3) A3)^pv 1)))))),?_]
 refine#[_,rfl,f0,_,2,_,rfl,rfl,hsq hf,rfl,_,_,rfl,rfl,_,rfl,?_];refine B8 (λc1=>?_) λc1=>?_
 .refine#[_,rfl,f0,_,2,_,rfl,rfl,hsq hf,rfl,_,rfl,_,_,rfl,rfl,(by show(0:Int)<m;lk),?_]
  refine#[_,rfl,f0,_,2,_,rfl,rfl,hsq hf,rfl,_,rfl,_,_,rfl,rfl,#[(by show(0:Int)<m;lk),hm2],_,rfl,f0,_,2,2,rfl,rfl,hf,rfl,?_];refine#[_,rfl,?_];exact fin a _ _ _ (λb o e hb=>by rw[AO hb];exact e) AW ha0 (by lk) (ed _).1 (ed _).2
 ·-- at=feed[1];feed[1]=at+1
  refine#[_,rfl,f0,_,1,_,rfl,rfl,hsq hf,rfl,?_];refine#[_,rfl,_,_,rfl,rfl,_,rfl,f0,_,1,1,rfl,rfl,hf,rfl,?_];generalize hH1:BF H f0^.lst^[V.ref c,V.int a,V.int r].set 1^V.int (a+1)=H1;have f1:H1 f0=P3^.lst [.ref c,.int (a+1),.int r]:=by rw[←hH1];exact AW
  have k1:∀b o,H b=P3 o->b≠f0->H1 b=P3 o:=λb o e hb=>by rw[←hH1,AO hb];exact e
  have c1':H1 c=P3^.lst^cells.map V.int:=k1 c _ hc.2 hcf
  have rest:∀(z:Int) (H2:Hp),(∀b o,H1 b=P3 o->H2 b=P3 o)->
    (P9 (Y9 (ZE (Ou^EC (Hl λi j=>V.bl (decide (j<=i))) (CG 4)^EC (rI Ys λi j=>V.int (i ^ j.toNat)) (tC^V.int 10)^tC^V.int 18)^Ou^EC (Hl λi j=>V.bl (decide (i<j))) (CG 3)^ao (λxs H Q=>∃x n,xs=[x]/\Ym K x H n/\Q (V.int n) H)^Ov (EC (XW K) (CG 0)^tC^V.int 0) Uk) (P9 (MS (EC (rI V6 λi j=>V.int (i / j)) (CG 4)^CG 1)^Zs (CG 0) (tC^V.int 2) WG)^Ui^EC (rI (λ_ j=>0<j) λi j=>V.int (i % j)) (CG 4)^CG 1) V_)^P9 (MS (EC (rI (λ_ j=>0<j) λi j=>V.int (i % j)) (EC (rI CMul λi j=>V.int (i*j)) (EC (Hl λi j=>V.int (i+j)) (EC (Hl λi j=>V.int (i+j)) (EC (Hl λi j=>V.int (i+j)) (EC (rI (λ_ j=>0<j) λi j=>V.int (i % j)) (CG 4)^tC^V.int 1000003)^EC (rI CMul λi j=>V.int (i*j)) (EC (rI CMul λi j=>V.int (i*j)) (tC^V.int 41)^CG 3)^CG 3)^EC (rI CMul λi j=>V.int (i*j)) (tC^V.int 17)^CG 3)^tC^V.int 3)^tC^V.int 51749)^tC^V.int 999917)^Hr 5)^Ui^EC (rI (λ_ j=>0<j) λi j=>V.int (i % j)) (EC (rI V6 λi j=>V.int (i / j)) (EC (rI (λ_ j=>0<j) λi j=>V.int (i % j)) (EC (rI CMul λi j=>V.int (i*j)) (EC (Hl λi j=>V.int (i+j)) (CG 5)^EC (rI CMul λi j=>V.int (i*j)) (tC^V.int 8111)^CG 3)^tC^V.int 39373)^tC^V.int 2097143)^tC^V.int 3)^CG 1)
     {nx:=λ_ H'=>Q .non H',rt:=Q} [P3^.ref f0,P3^.int m,l_,P3^.int a,P3^.int z,l_] H2:=by
   intro z H2 k2;have f2:=k2 _ _ f1;have c2:=k2 _ _ c1'
   have lastWay:∀H3:Hp,H3=H2->(P9 (MS (EC (rI (λ_ j=>0<j) λi j=>V.int (i % j)) (EC (rI CMul λi j=>V.int (i*j)) (EC (Hl λi j=>V.int (i+j)) (EC (Hl λi j=>V.int (i+j)) (EC (Hl λi j=>V.int (i+j)) (EC (rI (λ_ j=>0<j) λi j=>V.int (i % j)) (CG 4)^tC^V.int 1000003)^EC (rI CMul λi j=>V.int (i*j)) (EC (rI CMul λi j=>V.int (i*j)) (tC^V.int 41)^CG 3)^CG 3)^EC (rI CMul λi j=>V.int (i*j)) (tC^V.int 17)^CG 3)^tC^V.int 3)^tC^V.int 51749)^tC^V.int 999917)^Hr 5)^Ui^EC (rI (λ_ j=>0<j) λi j=>V.int (i % j)) (EC (rI V6 λi j=>V.int (i / j)) (EC (rI (λ_ j=>0<j) λi j=>V.int (i % j)) (EC (rI CMul λi j=>V.int (i*j)) (EC (Hl λi j=>V.int (i+j)) (CG 5)^EC (rI CMul λi j=>V.int (i*j)) (tC^V.int 8111)^CG 3)^tC^V.int 39373)^tC^V.int 2097143)^tC^V.int 3)^CG 1)
     {nx:=λ_ H'=>Q .non H',rt:=Q} [P3^.ref f0,P3^.int m,l_,P3^.int a,P3^.int z,l_] H3:=by
    intro H3 e3;subst e3;have hb:CMul (41*a) a:=.inr #[by lk,by lk];refine#[_,rfl,_,_,rfl,rfl,(by show(0:Int)<1000003;decide),_,rfl,_,_,rfl,rfl,.inl #[by cbv,by cbv],_,rfl,_,_,rfl,rfl,hb,_,_,rfl,rfl,_,rfl,_,_,rfl,rfl,.inl #[by cbv,by cbv],_,_,rfl,rfl,_,_,rfl,rfl,_,_,rfl,rfl,.inr #[by cbv,by cbv],_,_,rfl,rfl,(by show(0:Int)<999917;decide),?_];refine#[_,rfl,_,rfl,_,_,rfl,rfl,.inl #[by cbv,by cbv],_,_,rfl,rfl,_,_,rfl,rfl,.inr #[by cbv,by cbv],_,_,rfl,rfl,(by show(0:Int)<2097143;decide),_,_,rfl,rfl,#[by cbv,by cbv],_,rfl,_,_,rfl,rfl,(by show(0:Int)<m;lk),?_];exact fin (a+1) r _ _ (λb o e hb=>k2 b o^k1 b o e hb) f2 (by lk) (by lk) (ed _).1 (ed _).2
   refine#[_,rfl,_,_,rfl,rfl,#[by cbv,by cbv,by cbv],_,_,rfl,rfl,_,rfl,?_];refine B8 (λc3=>?_) λc3=>?_
   .refine#[_,rfl,_,rfl,f0,_,0,_,rfl,rfl,hsq f2,rfl,_,_,rfl,.inl #[_,SqL.of c2,rfl],_,_,rfl,rfl,_,rfl,?_]
    refine B8 (λc4=>?_) λc4=>lastWay H2 rfl;refine#[_,rfl,_,rfl,_,_,rfl,rfl,#[(by show(0:Int)<m;lk),hm2],_,rfl,f0,_,2,2,rfl,rfl,f2,rfl,?_];refine#[_,rfl,_,rfl,_,_,rfl,rfl,(by show(0:Int)<m;lk),?_];exact fin (a+1) _ _ _ (λb o e hb=>by rw[AO hb];exact k2 b o^k1 b o e hb) AW (by lk) (by lk) (ed _).1 (ed _).2
   .refine B8 (λc4=>absurd c4^by simp) λ_=>lastWay H2 rfl
  refine#[_,rfl,f0,_,0,_,rfl,rfl,hsq f1,rfl,(by show 0<=sizeLine;decide),λp hp=>?_];have kp:∀b o,H1 b=P3 o->BF H1 p (.lst []) b=P3 o:=λb o e=>by rw[AO^Aq e hp];exact e
  refine#[c,p,_,rfl,rfl,SqL.of^kp _ _ c1',SqL.of AW,_,rfl,?_];cases cells with
  |nil=>exact A1^rest 0 _ kp
  | cons z0 cs=>
   refine Ci ?_;have hlen:(((z0::cs).map V.int).length:Int)=(cs.length:Int)+1:=by simp
   have hpos:(0:Int)<(((z0::cs).map V.int).length:Int):=by lk
   obtain⟨z,hz⟩:∃z,atI ((z0::cs).map V.int) (a % (((z0::cs).map V.int).length:Int))=P3^.int z:=by
    have h1:=Int.emod_nonneg a (show(((z0::cs).map V.int).length:Int)≠0 by lk);have h2:=Int.emod_lt_of_pos a hpos;generalize a % (((z0::cs).map V.int).length:Int)=j at h1 h2;obtain⟨k,rfl⟩:∃k:Nat,j=(k:Int):=#[j.toNat,by lk];have hk:k<(z0::cs).length:=by rw[Ev]at h2;lk
    refine#[(z0::cs)[k],AE ?_];rw[di,Op hk];rfl
   refine#[_,rfl,f0,_,0,_,rfl,rfl,hsq^kp _ _ f1,rfl,_,rfl,_,rfl,f0,_,0,_,rfl,rfl,hsq^kp _ _ f1,rfl,_,_,rfl,.inl #[_,SqL.of^kp _ _ c1',rfl],_,_,rfl,rfl,hpos,c,_,_,_,rfl,rfl,SqL.of^kp _ _ c1',hz,?_];exact rest z _ kp
end
end K90
namespace Dp
open L2
end Dp
namespace L2
section
variable {X:Cx}{tg elt iter:Expr}{ifs:o_ Expr}{sc:Scope}{pos spos pos':Pos}{N':o_ Str}{js:o_^p_ Nat}{wi:TI}{i:Nat}{x:Str}
theorem Uq(hc:X.calm=m_)(N':o_ Str)(js:o_^p_ Nat)(hi:PI X tg iter wi)
  (hB:G0 sc X.env.scope X.N N' js=m_) (hN:X.N.Nodup) (hix:X.N[i]?=P3 x) (hx:Loc X.env.scope x)
  (hsw:swapsWith (.ListComp elt [#[tg,iter,ifs,0]] sc pos) (P3^.Name x pos') spos.line X.env=pure m_)
  (hs:∀x,foldedSetIterable iter X.env x=pure x:=by intro _;rfl)
  (hf:X.fn x=m_\/X.env.scope.names.lookup x=P3 .local:=by first|exact .inl rfl|exact .inr rfl|assumption):
  PS X (.Assign [.Name x pos'] (.ListComp elt [#[tg,iter,ifs,0]] sc pos) spos) (MS (Rt X sc N' js tg elt ifs wi)^Hr i):=by
 intro zG s Z H D I h;have O:CompOk X sc N' js:=CompOk.of hB;let#[cl,hclos,hcl,hcl2]:=Jp (scope:=sc) (env:=X.env) λx hx=>I.ok.has x^O.free x hx;rw[exec_Assign_Name_used _ _ _ _ hsw];refine Go^wpAny_standAt^Go ?_;show wpAny _ _ (do let _ ←comprehension (.ListComp elt [#[tg,iter,ifs,0]] sc pos) sc X.env _ (newList []) n_ (eval iter X.env)^P3^assign (.Name x pos') X.env) _ _ s
 refine Go (fM (wpAny_comprehension_free (Q:=λ_ s'=>SP X zG D .next s') (use:=P3^assign (.Name x pos') X.env) rfl hs hclos O.kind O.names (thn (hi zG s Z H _ I h) λv s1 h1=>thn h1 λitv s2 h2=>?_))
  (λ_ s' hq=>df^df hq) λ_ _ e=>e)
 let#[it,fp,tn,J,H2,e,I2,T,st2,f2,hq]:=h2;subst e
 have kfree:X.K.lookup s2.heap.objs.size=l_:=by
  cases q:X.K.lookup s2.heap.objs.size with
  |none=>rfl
  |some o=>exact absurd (Uf^I2.kIn _ _ q)^fC _
 let#[g,tt,te,W,hg,ht,he,#[m0,w0],hW]:=hq s2.heap.objs.size (I2.hok.fresh^Re _) kfree cl (s2.heap.objs.size+1) s2 H2 fp;refine gg^wpAny_newFunctionEnv O.cell (by intro y hy;simp at hy) (λh₁ hns₁ hsb₁=>?_) O.kind
 dsimp only at hns₁ hsb₁ ⊢
 generalize hH2:s2.heap.push {cls:=.type "list",dict:=l_,data:=.seq ([]:o_ Db).toArray}=Hh at hns₁ hsb₁ ⊢;have hCe:Hh.objs.size=s2.heap.objs.size+1:=by rw[←hH2,fe]
 have hlt:∀b∈fp,b<s2.heap.objs.size:=λb hb=>by
  let#[o,e,_]:=T.obj _ _ st2 b hb;exact Uf e
 have old:∀b o,s2.heap.get? b=P3 o->h₁.get? b=P3 o:=λb o e=>hsb₁.extBut b o (by rw[hCe];exact eB^f_^Uf e)^No _ (hH2▸No _ e);have hD:∃n,h₁.get? s2.heap.objs.size=P3 {cls:=.type "list",data:=.seq #[] n}:=#[_,hsb₁.extBut _ _ (by rw[hCe];exact eB^iS _)^No _ (hH2▸T0 _ rfl)]
 have I3:∀tk,Inv (Aw X sc N' cl (s2.heap.objs.size+1) s2 H2 fp) [] (Cv js Z) (BF H2 s2.heap.objs.size^.lst []) {s2 with heap:=h₁,toks:=tk}:=λtk=>
  ND I2 hc O hcl hcl2 f2 (λb hb=>let #[o,e,_]:=T.obj _ _ st2 b hb;#[o,e]) (by rw[←hCe];exact hns₁) old hD
 have st3:tn 0 h₁:=T.keep _ _ _ st2 λb hb o e=>old b o e
 have fr3:∀b∈fp,BF H2 s2.heap.objs.size (.lst []) b=l_:=λb hb=>by
  rw[AO^eB^hlt b hb];exact(f2 b hb).1
 have loop:∀tk,codeAny (model X.prog X.w) X.A (.compLoop (.ListComp elt [#[tg,iter,ifs,0]] sc pos) 0 (.ref it) (.ref s2.heap.objs.size)^compEnvC sc cl (s2.heap.objs.size+1) X.env)
   (compPost (model X.prog X.w) X.A X.xe (P3^assign (.Name x pos') X.env) (λ_ s'=>SP X zG D .next s') (.ref s2.heap.objs.size) (s2.heap.objs.size+1)) {s2 with heap:=h₁,toks:=tk}:=λtk=>by
  refine Kz (W:=W) (m0:=m0) (Q:=λv H1=>Hr i v Z H1 λzN H2=>D.nx zN H2) I2 f2 hlt (fj _) T hg ht he hW (λzZ H' s' J' q'=>?_) (I3 tk) st3 fr3 w0;let#[m,hn,_]:=J'.loc;have hCn:H' (s2.heap.objs.size+1)=l_:=J'.free;have I4:Inv X zG Z H' s':=Jd (h':=s'.heap) I2 f2 (fj _) J' λb _=>rfl;let#[g1,g2,g3,g4,g5,g6]:=I2.fpOk (b:=s2.heap.objs.size+1) (fj _) hCn;show wpAny (model X.prog X.w) X.A (assign (.Name x pos') X.env^.ref s2.heap.objs.size) (λ_ s''=>∃m,s''.heap.Ns (s2.heap.objs.size+1) m/\∀h',ie (s2.heap.objs.size+1) s''.heap h'->SP X zG D .next {s'' with heap:=h'}) X.xe s';refine wpAny_assign_Name (KW (v:=.ref s2.heap.objs.size) I4 hN hix hx rfl (λs5 I5 zz=>?_) hf);let#[a,hsame,ha]:=zz
  have na:s2.heap.objs.size+1≠a:=by
   rcases ha with rfl|ha
   .exact g2
   .exact λz=>g5 _ _ ha z.symm
  refine#[m,hn.sameBut hsame na,λh' hs'=>?_];exact#[_,H',I5.turned (t':=s5.toks) (it:=s2.heap.objs.size+1) (λb o hb e=>hs'.extBut b o hb e) hCn g2 g4 g5 g6,q']
 rw[show(newEnv sc Hh.objs.size X.env.globals cl X.env.qual l_ .none (P3 X.env) builtinsNs).locals=s2.heap.objs.size+1 from hCe];show codeAny (model X.prog X.w) X.A (.compStart (.ListComp elt [#[tg,iter,ifs,0]] sc pos) 0 (.ref it) (.ref s2.heap.objs.size)^compEnvC sc cl (s2.heap.objs.size+1) X.env) _ _;exact codeAny_compStart_list (loop _)^T.self _ 0 _ _ _ st3^loop _
end
end L2
namespace Dp
open L2
section
variable {X:Cx}{zS:Kd}{tg elt iter:Expr}{ifs:o_ Expr}{sc:Scope}{pos:Pos}{src:Dq}{b:BW}{tt:GJ}{te:DW}
theorem Tl(hc:X.calm=m_)(N':o_ Str)(js:o_^p_ Nat)(hi:Wu X tg iter src)(hg:∀cl C s H fp,DG (Aw X sc N' cl C s H fp) tg b)(ht:∀cl C s H fp,Yq (Aw X sc N' cl C s H fp) ifs tt)(he:∀cl C s H fp,DE (Aw X sc N' cl C s H fp) elt zS te)
  (hB:G0 sc X.env.scope X.N N' js=m_) (hk:zS≠.tp:=by intro z;cases z)
  (hs:∀x,foldedSetIterable iter X.env x=pure x:=by intro _;rfl):∃wi,PI X tg iter wi/\∀(C:Fm) (M:Ch->Prop) (H:Hp) (n:Nat) (ρ:o_ Slot) (Z:L2.St) (P:D->Nat->Prop) (Q:VK),Rel X.K C M H n ρ Z->Hf js src b tt te n ρ P->
   (∀v H' d n',Ext C.U H H'->FeedC X.K C.F M H' n'->VR X.K C.V M H H' .fr v d->P d n'->Q v H')->Rt X sc N' js tg elt ifs wi Z H Q:=by
 let#[wi,a1,a2]:=hi;refine#[wi,a1,λC M H n ρ Z P Q R w q=>?_];refine a2 C M H n ρ Z _ _ R w λJ H1 ds n1 e1 f1 y w1=>?_;let#[hlen,w1]:=w1;have R1:=R.step e1 f1;intro l hl hkl cl Ca s0 H0 fp;let#[g,g1,g2]:=hg cl Ca s0 H0 fp;let#[tc,c1,c2]:=ht cl Ca s0 H0 fp;let#[tx,x1,x2]:=he cl Ca s0 H0 fp
 have noU:¬C.U l:=λz=>by
  let#[o,z]:=R1.udom l z;rw[hl]at z;cases z
 generalize hM':(λb=>M b\/b=l)=M';have M'l:M' l:=by rw[←hM'];exact .inr rfl
 have M'of:∀b,M b->M' b:=λb z=>by rw[←hM'];exact .inl z
 have ofM':∀b,M' b->M b\/b=l:=λb z=>by rw[←hM']at z;exact z
 have inV:∀b,C.V b\/b=l->M' b:=λb z=>z.elim (λz=>M'of b^R1.vM b z) λz=>by rw[z];exact M'l
 have lenj:js.length=N'.length:=FI (CompOk.of hB).cap
 refine#[g,tc,tx,λi m zZ H'=>m=ds.length - i/\i<=ds.length/\∃n' zY acc vs,Rel X.K #[M',C.F,C.U,λb=>C.V b\/b=l,H1,[],[]] M' H' n' zY zZ/\H' l=P3^.lst vs/\Ats X.K M' H' acc vs/\acc.length<=i/\Pres M H1 M' H' /\
   Ce b tt te (λacc n2=>P (.lst acc) n2) (ds.drop i) acc n' zY,g1,c1,x1,#[ds.length,by simp,dq _,n1,Gm js ρ,[],[],?_],?_]
 .have gr:Grow H1^BF H1 l^.lst []:=A2 hl
  have pr:Pres M H1 M'^BF H1 l^.lst []:=#[λb o e _=>gr.all b o e,λb z=>(ofM' b z).elim .inl λz=>.inr (by rw[z];exact hl),λb vs e=>gr.all b _ e];refine#[#[?_,λa z=>z,λa z=>?_,gr.ext,R1.fU,λa z=>.inl^R1.uV a z,inV,f1.pres pr λf o _ e=>gr.all f.1 o e,?_,λp hp=>absurd hp^by simp,λi d a q z=>PF R1.sl q z,λi s a q o _=>absurd o (by rw[Ef q];decide),λi j s t a q o _ _ _ _=>absurd o (by rw[Ef q];decide),λp hp=>absurd hp^by simp],AW,rfl,dq _,pr,w1]
  .unfold Gm Cv
   rw[Ev,Ev]
  .rcases ofM' a z with z|z
   .let#[o,z]:=R1.dom a z
    exact#[o,gr.all a o z]
   .subst z
    exact#[_,AW]
  .refine M6 R1.sl pr λd v h=>h.same pr (λa o _ e=>gr.all a o e) λa e n1 z=>z.elim n1 λz=>?_
   subst e;let#[o,w]:=h.lies;rw[z,hl]at w;cases w
 .rintro i m zZ H' ⟨rfl,hi,n',zY,acc,vs,R',hlv,hac,hal,pr,w'⟩
  by_cases hlt:i<ds.length
  .have ed:ds.drop i=ds[i]::ds.drop (i+1):=gX hlt
   rw[ed]at w';let#[go,yl]:=(y i M' H' pr R'.ext R'.dom).1 ds[i] (Op hlt);refine .inr #[go,λx H2 hy=>?_];let#[gr,hx]:=yl x H2 hy;have R2':=R'.step gr.ext^R'.feed.grow gr;refine g2 _ M' H2 n' zY zZ ds[i] x _ _ R2' hx w' λzP zV R3 w3=>?_;refine c2 _ M' H2 n' zP zV _ _ R3 w3 λc H4 n4 e4 f4 w4=>?_;have R4:=R3.step e4 f4;have p4:Pres M' H' M' H4:=gr.pres.trans^R3.pres e4;have l4:H4 l=P3^.lst vs:=e4.keep (gr.all _ _ hlv) noU;cases c with
   |false=>exact#[ds.length - (i+1),by lk,rfl,hlt,n4,zP,acc,vs,R4,l4,hac.pres p4,by lk,pr.trans p4,w4]
   | true=>
    refine x2 _ M' H4 n4 zP zV _ _ R4 w4 λyv H5 d5 n5 e5 f5 r5 w5=>?_;have R5:=R4.step e5 f5;have p5:Pres M' H4 M' H5:=R4.pres e5;have l5:H5 l=P3^.lst vs:=e5.keep l4 noU;have hy5:=r5.shOf R4.dom hk;have a5:=(hac.pres p4).pres p5;have pu:Pres M' H5 M'^BF H5 l^.lst (vs++[yv]):=EZ M'l l5;have hvl:vs.length=acc.length:=hac.length;refine#[vs,l5,by rw[fA];lk,ds.length - (i+1),by lk,rfl,hlt,n5,zP,acc++[d5],vs++[yv],?_,AW,(a5.append^Ats.one hy5).pres pu,by rw[XV,d8];lk,(pr.trans p4).trans^p5.trans pu,w5];refine#[R5.len,R5.sub,λa z=>?_,λb o e=>?_,R5.fU,R5.uV,R5.vM,?_,λj s hs=>?_,λp hp=>absurd hp^by simp,R5.br0,R5.new,R5.two,λp hp=>absurd hp^by simp]
    .by_cases ha:a=l
     .subst ha;exact#[_,AW]
     .rw[AO ha];exact R5.dom a z
    .let#[o',q1,q2]:=R5.ext b o e
     by_cases hb:b=l
     .subst hb
      have e':H1 b=P3 o:=e;rw[hl]at e';cases e'
     .exact#[o',by rw[AO hb];exact q1,q2]
    .refine f5.pres pu λf o hf e=>?_
     rw[AO λz=>noU^by rw[←z];exact R1.fU f hf];exact e
    .have hs5:=R5.sl j s hs
     cases s with
     |no=>trivial
     |sh d=>let#[v,e1,h2]:=hs5;exact#[v,e1,h2.pres pu]
     |ex a nm ks ds=>let#[e1,h2]:=hs5;exact#[e1,h2.pres pu]
     | br d=>
      let#[v,e1,h2]:=hs5;refine#[v,e1,h2.same pu (λa o z e=>?_) λ_ _ z=>z];subst z;let#[o3,w]:=R5.br0 j d a hs e1
      have hal:a≠l:=λz=>by
       have w':H1 a=P3 o3:=w;rw[z,hl]at w';cases w'
      rw[AO hal];exact e
     |ow d=>
      let#[a,e1,h2,_]:=hs5;exact absurd h2 (R5.new j _ a hs rfl e1).1
     |lt a d=>
      let#[e1,h2,_]:=hs5;exact absurd h2 (R5.new j _ a hs rfl e1).1
     |fd=>exact hs5
  .have e:i=ds.length:=by lk
   subst e;rw[iT]at w';refine .inl #[(y _ M' H' pr R'.ext R'.dom).2 (Re _),?_];have eb:Ext C.U H1 H':=R'.ext;have less:Pres M' H' M H':=Pres.less M'of;refine q _ H' (.lst acc) n' (e1.trans eb) (R'.feed.pres less λ_ _ _ z=>z) (VR.back e1 ?_) w';exact#[l,rfl,hl,vs,hlv,by rw[hM'];exact hac]
theorem IT{κ:Kd}{i:Nat}{x:Str}{pos' spos:Pos}(hN:X.N.Nodup)(hix:X.N[i]?=P3 x)(hx:Loc X.env.scope x)(hc:X.calm=m_)(N':o_ Str)(js:o_^p_ Nat)(hi:Wu X tg iter src)(hg:∀cl C s H fp,DG (Aw X sc N' cl C s H fp) tg b)(ht:∀cl C s H fp,Yq (Aw X sc N' cl C s H fp) ifs tt)(he:∀cl C s H fp,DE (Aw X sc N' cl C s H fp) elt zS te)
  (hB:G0 sc X.env.scope X.N N' js=m_) (hsw:swapsWith (.ListComp elt [#[tg,iter,ifs,0]] sc pos) (P3^.Name x pos') spos.line X.env=pure m_:=by rfl) (hk:zS≠.tp:=by intro z;cases z)
  (hs:∀x,foldedSetIterable iter X.env x=pure x:=by intro _;rfl)
  (hf:X.fn x=m_\/X.env.scope.names.lookup x=P3 .local:=by first|exact .inl rfl|exact .inr rfl|assumption):DS X κ (.Assign [.Name x pos'] (.ListComp elt [#[tg,iter,ifs,0]] sc pos) spos)^Cr i^Hf js src b tt te:=by
 let#[wi,a1,a2]:=Tl hc N' js hi hg ht he hB hk hs;exact#[_,Uq hc N' js a1 hB hN hix hx hsw hs hf,λC M H n ρ Z D2 E R L w=>a2 C M H n ρ Z _ _ R w λv H' d n' e1 f1 r1 p=>L.nx M H' n' _ _ ((R.step e1 f1).set^r1.shOf R.dom^by grind) p]
end
abbrev Fu(K:Frag)(x:Str)(st:f8)(f:Ch)(fd:fJ):Prop:=Fun K x x st f fd
theorem cq{P:eK}{w:eU}{K:Frag}{mg:Str->p_ Db}{base:eC}{x:Str}{st:f8}{f:Ch}{fd:fJ}{N ps:o_ Str}{k:Nat}{κ:Kd}{W:W2}{wb:Au}(F:Fu K x st f fd)(S:BU N ps^AS st)
  (hb:∀{cdv:Db}{A:eh}{outer:o_ Env}{s:Rs}{H:Hp}{E:XK},Room k^A.deeper^envOfC x (AS st) s.heap.objs.size f cdv->Ng (Hb G6 P w K mg base N x (AS st) f cdv A outer s H E).nox κ (Bp st) wb)
  (hW:∀{ss n Pd},W ss n Pd->wb {nx:=λn _=>κ=.sh/\Pd .non n,rt:=Pd} n (ss++fN (N.length - ps.length) .no)) (hNp:ps.length<=N.length:=by decide):
  FnOk P w K mg base G6 (k+1) f fd ps (UP K κ W ps.length):=bx F S hNp (λ_ _ _ _ _ _ h=>hb h) λ_ _ _ _ h=>hW h
section
variable {X:Cx}
theorem cg{m:Nat}(hr:Room m X.A){e:eO}{es:o_ eO}{k:Nat}{ps:o_ Str}{κ:Kd}{W:W2}{x:Str}{p pos:Pos}{was:V5}(G:Got X.prog X.w X.K X.mg X.base x k ps κ W)(ha:UT X (e::es) was)(hk:k<=m:=by decide)(hg:Gl X x:=by rfl)
  (hdb:(x==("__debug__":Str))=n_:=by decide) (he:starEach (e::es) X.env=(n_,eval e X.env)::starEach es X.env:=by rfl) (hpl:(backTo pos^starEach es X.env).any (·.1)=n_:=by rfl):DE X (.Call (.Name x p) (e::es) [] pos) κ^Ag W was:=AY G (hr.mono hk) hg ha hdb he hpl
variable {tg iter elt:Expr}{ifs:o_ Expr}{sc:Scope}{pos:Pos}{b:BW}{tt:GJ}{te:DW}{zS:Kd}{src:Dq}
theorem dM(N':o_ Str)(js:o_^p_ Nat)(hi:Wu X tg iter src)(hg:∀{cl C s H fp},DG (Aw X sc N' cl C s H fp) tg b)(ht:∀{cl C s H fp},Yq (Aw X sc N' cl C s H fp) ifs tt)(he:∀{cl C s H fp},DE (Aw X sc N' cl C s H fp) elt zS te)
  (hB:G0 sc X.env.scope X.N N' js=m_) (hc:X.calm=m_:=by rfl) (hk:zS≠.tp:=by intro z;cases z) (hs:∀x,foldedSetIterable iter X.env x=pure x:=by intro _;rfl):DE X (.ListComp elt [#[tg,iter,ifs,0]] sc pos) .fr^Hf js src b tt te:=Vh hc N' js hi (λ_ _ _ _ _=>hg) (λ_ _ _ _ _=>ht) (λ_ _ _ _ _=>he) hB hk hs
end
end Dp
namespace L2
end L2
namespace Dp
open L2
theorem Hs{P:eK}{w:eU}{K:Frag}{mg:Str->p_ Db}{base:eC}{x:Str}{st:f8}{f:Ch}{fd:fJ}{N ps:o_ Str}{W:Nat->W2}{wb:W2->Au}(c:Nat)(F:Fu K x st f fd)(S:BU N ps^AS st)(m:mg x=P3^.ref f)(b:Binds K fd ps [])
  (hb:∀{k:Nat}{Wr:W2}{cdv:Db}{A:eh}{outer:o_ Env}{s:Rs}{H:Hp}{E:XK},c+1<=k->Got P w K mg base x k ps .sh Wr->Room k^A.deeper^envOfC x (AS st) s.heap.objs.size f cdv->Ng (Hb G6 P w K mg base N x (AS st) f cdv A outer s H E).nox .sh (Bp st)^wb Wr)
  (hW:∀{Wr j ss n Pd},(∀ss n P,j≠0->W (j - 1) ss n P->Wr ss n P)->W j ss n Pd->wb Wr {nx:=λn _=>Kd.sh=.sh/\Pd .non n,rt:=Pd} n (ss++fN (N.length - ps.length) .no)) (hl:∀j ss n P,W j ss n P->ss.length=ps.length) (hNp:ps.length<=N.length:=by decide):
  ∀j,FnOk P w K mg base G6 (c+2+j) f fd ps^UP K .sh (W j) ps.length
 |0=>bx (k:=c+1) F S hNp (λ_ _ _ _ _ _ h=>hb (Re _) (TF (W:=λ_ _ _=>False) F m b (λ_ _ _ h=>h.elim)^F.ok (k:=c) S (λvs H Q E h=>h.1) λcdv A outer s H vs Q E hr h=>by let#[_,_,_,_,_,_,_,_,_,hw,_]:=h;exact hw.elim) h) λ_ _ _ _ h=>hW (λ_ _ _ z _=>absurd rfl z) h
 |j+1=>bx (k:=c+2+j) F S hNp (λ_ _ _ _ _ _ h=>hb (by lk) (TF F m b (hl j)^Hs c F S m b hb hW hl hNp j) h) λ_ _ _ _ h=>hW (j:=j+1) (λ_ _ _ _ h=>h) h
section
variable {X:Cx}{x:Str}{pos pos':Pos}{e a b tg iter elt:Expr}{es ifs:o_ Expr}{κ zU zO zS:Kd}{wa wb te:DW}{was:V5}{sc:Scope}{bb:BW}{tt:GJ}{src:Dq}
theorem Bi(i:Nat)(hN:X.N.Nodup)(he:DE X e zS wa)(hi:X.N[i]?=P3 x:=by rfl)(hx:Loc X.env.scope x:=by first|exact .inl rfl|exact .inr rfl)(hk:zS≠.tp:=by intro z;cases z)(hs:swapsWith e (P3^.Name x pos') pos.line X.env=pure n_:=by rfl)
  (hf:X.fn x=m_\/X.env.scope.names.lookup x=P3 .local:=by first|exact .inl rfl|exact .inr rfl|assumption):DS X κ (.Assign [.Name x pos'] e pos)^Cr i wa:=YC hN hi hx he hk hs hf
theorem Qw(i:Nat)(hN:X.N.Nodup)(he:DE X e .fr wa)(hi:X.N[i]?=P3 x:=by rfl)(hx:Loc X.env.scope x:=by first|exact .inl rfl|exact .inr rfl)(hs:swapsWith e (P3^.Name x pos') pos.line X.env=pure n_:=by rfl)
  (hf:X.fn x=m_\/X.env.scope.names.lookup x=P3 .local:=by first|exact .inl rfl|exact .inr rfl|assumption):DS X κ (.Assign [.Name x pos'] e pos)^MH i wa:=Vb hN hi hx he hs hf
theorem Bo(i:Nat)(hN:X.N.Nodup)(hi:X.N[i]?=P3 x:=by rfl)(hx:Loc X.env.scope x:=by first|exact .inl rfl|exact .inr rfl)(hf:X.fn x=m_\/X.env.scope.names.lookup x=P3 .local:=by first|exact .inl rfl|exact .inr rfl|assumption):DG X (.Name x pos)^Ae i:=Fe hN hi hx hf
theorem Ky{bs:o_ D->o_ Slot->(o_ Slot->Prop)->Prop}{j:Nat}(h:ak X es bs)(hc:X.calm=m_:=by rfl)(hn:(assignEach es X.env).length=es.length:=by rfl)(hst:(assignEach es X.env).findIdx? (·.1)=l_:=by rfl):DG X (.Tuple es j pos)^D_ es.length bs:=YF hc h hn hst
theorem Ai(h:DE X e κ wa)(hr:UT X es was)(hk:κ≠.tp:=by intro z;cases z)(hs:starEach (e::es) X.env=(n_,eval e X.env)::starEach es X.env:=by rfl):UT X (e::es)^AG (AK wa) was:=AX (aA h hk) hr hs
theorem AM(i:Nat)(hr:UT X es was)(hN:X.N[i]?=P3 x:=by rfl)(hv:Wo X.env.scope x:=by first|exact fh rfl|exact iC (fh rfl)|exact iC (iC rfl))(hd:(x==("__debug__":Str))=n_:=by decide)(hcd:(x==("__classdict__":Str))=n_:=by decide)
  (hs:starEach (.Name x pos::es) X.env=(n_,eval (.Name x pos) X.env)::starEach es X.env:=by rfl):UT X (.Name x pos::es)^AG (AK^AI i) was:=Ai (dv i hN hv hd hcd) hr (by intro z;cases z) hs
theorem Ad(ha:DE X a zU wa)(hb:DE X b zO wb)(hs:MD b:=by intro _ _;rfl):DE X (.Subscript a b pos) .sh^BC EL wa wb:=Z9 Xz cH ha hb hs
theorem Hw(N':o_ Str)(js:o_^p_ Nat)(hi:Wu X tg iter src)(hg:∀{cl C s H fp},N'.Nodup->DG (Aw X sc N' cl C s H fp) tg bb)(ht:∀{cl C s H fp},Yq (Aw X sc N' cl C s H fp) ifs tt)(he:∀{cl C s H fp},DE (Aw X sc N' cl C s H fp) elt zS te)
  (hB:G0 sc X.env.scope X.N N' js=m_:=by kernel_rfl) (hn:N'.Nodup:=by decide +kernel) (hc:X.calm=m_:=by rfl) (hk:zS≠.tp:=by intro z;cases z) (hs:∀x,foldedSetIterable iter X.env x=pure x:=by intro _;rfl):DE X (.ListComp elt [#[tg,iter,ifs,0]] sc pos) .fr^Hf js src bb tt te:=dM N' js hi (hg hn) ht he hB hc hk hs
theorem Bq{op:CmpOp}{r:R2}{f:D->D->(D->Prop)->Prop}(ho:OpR X (compareOp op) r)(hA:Er X.K .sh r f)(ha:DE X a zU wa)(hb:DE X b zO wb)(hm:behindInMarks op b=n_:=by first|exact Bg _|with_unfolding_all rfl):DT X (.Compare a [op] [b] pos)^A8^BC f wa wb:=YB ho hA ha hb hm
theorem G9(hm:X.mg "len"=l_)(ha:DE X e κ wa)(hg:Gl X "len":=by rfl)(he:starEach [e] X.env=[(n_,eval e X.env)]:=by rfl):DE X (.Call (.Name "len" pos') [e] [] pos) .sh^RP Z1^Ao wa BZ:=Ar Ju aI hg hm PySem.boot_len (AR ha Ab he) (he:=he)
theorem OR(hm:X.mg "tuple"=l_)(ha:DE X e κ wa)(hg:Gl X "tuple":=by rfl)(he:starEach [e] X.env=[(n_,eval e X.env)]:=by rfl):DE X (.Call (.Name "tuple" pos') [e] [] pos) .sh^RP Fb^Ao wa BZ:=Qz KH Tz hg hm boot_tuple (AR ha Ab he) (he:=he)
def Nd:=PySem.F.plainAttrs_list
def Ox:=PySem.F.slot_list_append
def Oo:=PySem.F.type_list_append
end
section
variable {P:Program}{w:World}{K:Frag}{mg:Str->p_ Value}{base:Heap}{x:Str}{st:Stmt}{f:Addr}{fd:FuncData}{ps:o_ Str}
theorem bw{k:Nat}{κ:Kd}{W:W2}{wb:Au}(F:Fu K x st f fd)(N:o_ Str)
  (hb:∀{cdv:Db}{A:eh}{outer:o_ Env}{s:Rs}{H:Hp}{E:XK},N.Nodup->Room k^A.deeper^envOfC x (AS st) s.heap.objs.size f cdv->Ng (Hb G6 P w K mg base N x (AS st) f cdv A outer s H E).nox κ (Bp st) wb)
  (hW:∀{ss n Pd},W ss n Pd->wb {nx:=λn _=>κ=.sh/\Pd .non n,rt:=Pd} n (ss++fN (N.length - ps.length) .no)) (S:BU N ps^AS st:=by constructor <;>first|rfl|decide +kernel) (hNp:ps.length<=N.length:=by decide):
  FnOk P w K mg base G6 (k+1) f fd ps (UP K κ W ps.length):=cq F S (hb S.nd) hW hNp
end
end Dp
namespace Nt
open L2 Dp
def Vt:W2:=λss n P=>∃m:Nat,ss=[.fd,.sh^.int m]/\1<=m/\m<=26/\11<=n/\∀(xs:o_ Str) (n':Nat),xs.length=m->(∀x∈xs,NC x)->rising xs->n - 11<=n'->P (.lst^xs.map .str) n'
def words:o_ Str:=["a","aa","ab","b","far","in","near","out","place","tie","ties","way"]
def wordAt(i:Nat):Str:=words.getD i "a"
theorem Nh:∀i,i<12->NC^wordAt i:=by
 have h:∀i∈eZ 12,1<=(wordAt i).length/\(wordAt i).length<=8/\∀c∈cs^wordAt i,97<=c/\c<=122:=by decide +kernel
 exact λi hi=>h i^fK.mpr hi
theorem P0:∀i j,i<12->j<12->wordAt i=wordAt j->i=j:=by
 have h:∀i∈eZ 12,∀j∈eZ 12,cs^wordAt i=cs^wordAt j->i=j:=by decide +kernel
 exact λi j hi hj e=>h i (fK.mpr hi) j (fK.mpr hj)^congrArg cs e
def FW:Str:="abcdefghijklmnopqrstuvwxyz"
theorem JV(i:Nat)(h:i<26):(cs FW)[i]?=P3 (97+i):=by
 have h2:∀i∈eZ 26,(cs FW)[i]?=P3 (97+i):=by decide +kernel
 simp_all
theorem HL{α β:Type}{f:α->β}:∀{l:o_ α},l.Nodup->(∀a∈l,∀b∈l,f a=f b->a=b)->(l.map f).Nodup
 |[],_,_=>ef
 |a::l,h,hf=>by
  rw[eI]at h;rw[e8,eI];refine#[λhm=>?_,HL h.2 λx hx y hy=>hf x (Sc _ hx) y^Sc _ hy];let#[b,hb,e]:=TW.mp hm;exact h.1 (hf a FM b (Sc _ hb) e.symm▸hb)
theorem VF{f m j k:Nat}{M:Nat}(hM:m<=M)(hj:j<m)(hk:k<m)(e:(f+j) % M=(f+k) % M):j=k:=by
 have h:∀a b,a<=b->b<m->(f+a) % M=(f+b) % M->a=b:=λa b h1 h2 e=>by
  have:=Nat.sub_mod_eq_zero_of_mod_eq e.symm
  rw[Nat.mod_eq_of_lt^by lk]at this;lk
 rcases Nat.le_total j k with h1|h1
 .grind
 grind
theorem G2(ss:o_ Str):NW^ss.map .str=P3 ss:=by
 induction ss with
 |nil=>rfl
 |cons y r ih=>
  rw[e8];unfold NW
  grind
theorem VL:∀(zs:o_ Str),cs^Txt.join (fu "") zs=zs.flatMap cs:=by
 intro zs;show cs^Builtin.Str.glued _ zs=_;rw[StrLaws.glued_eq_join]
 induction zs with
 |nil=>rfl
 | cons x r ih=>
  cases r with
  |nil=>rw[i9,List.flatMap_nil,dk];rfl
  |cons y r=>
   show cs (x++fu ""++Str.join _ _)=_;rw[Jo,Jo,ih];show cs x++[]++_=_
   grind
theorem Sg{zs:o_ Str}(h:∀z∈zs,z.length=1):(zs.flatMap cs).length=zs.length:=by
 induction zs with
 |nil=>rfl
 |cons x r ih=>
  rw[i9,XV,ih λz hz=>h z^Sc _ hz,D9,h x FM,dg];lk
theorem MT:∀(ys:o_ Str),(∀y∈ys,y.length=1)->(ys.map (·.length)).sum=ys.length
 |[],_=>rfl
 |y::r,h=>by
  rw[e8,kh,MT r λz hz=>h z^Sc _ hz,h y FM,dg];lk
theorem drawn{P:o_ D->Nat->Prop}{m n:Nat}{s:Slot}(hn:m<=n)(h:∀zs:o_ Str,zs.length=m->(∀z∈zs,z.length=1/\∀c∈cs z,97<=c/\c<=122)->P (zs.map .str) (n - m)):
  Ce (Ae 2) Ey (BC EL (AI 0)^Ag Hy^AG (He 1)^AG (AK^wC^D.int 26) Am) P (DF 0 m) [] n [.sh^.str FW,.fd,s]:=by
 refine Kh (λk n' acc ρ=>k<=m/\n'=n - (m - k)/\(∃zs:o_ Str,acc=zs.map .str/\zs.length=m - k/\∀z∈zs,z.length=1/\∀c∈cs z,97<=c/\c<=122)/\∃s,ρ=[.sh^.str FW,.fd,s]) ?_ ?_ _ _ _ _ ?_
 .grind
 .rintro k d n' acc ρ nx ⟨hk,rfl,⟨zs,rfl,hl,hz⟩,s,rfl⟩ hnx
  refine#[26,rfl,by cbv,by cbv,by lk,λr h0 h1=>?_];obtain⟨q,rfl⟩:∃q:Nat,r=(q:Int):=#[r.toNat,by lk];have hq:q<26:=by lk
  refine#[97+q,AE^JV q hq,hnx _ _ _ #[by lk,by clear hl h0 h1 hq;lk,#[zs++[#[#[ 97+q]]],by rw[eX];rfl,by grind,λz hz'=>?_],_,rfl]]
  rcases ZB.mp hz' with hz'|hz'
  .exact hz z hz'
  .rw[On.mp hz']
   refine#[rfl,λc hc=>?_]
   have:c=97+q:=by simpa [cs]using hc
   lk
 .rw[Bt]
  simp_all
theorem RW(i:Nat)(h:i<12):words[i]?=P3^wordAt i:=by
 have hl:i<words.length:=h;unfold wordAt
 simp_all
theorem Cu{b:BW}{body:Au}{D2:E2}{all:o_ D}(I:o_ D->Nat->o_ Slot->Prop)(hend:∀n ρ,I all n ρ->D2.nx n ρ)
  (hstep:∀(pre:o_ D) (d:D) (post:o_ D) (n:Nat) (ρ:o_ Slot) (nx:Nat->o_ Slot->Prop),all=pre++d::post->I pre n ρ->(∀n' zY,I (pre++[d]) n' zY->nx n' zY)->b d ρ λzT=>body {D2 with nx:=nx,ct:=nx,bk:=D2.nx} n zT):
  ∀(ds pre:o_ D) (n:Nat) (ρ:o_ Slot),all=pre++ds->I pre n ρ->A9 b body D2 ds n ρ
 |[],pre,n,ρ,e,h=>by
  rw[dk]at e;subst e;exact hend n ρ h
 |d::ds,pre,n,ρ,e,h=>hstep _ d ds n ρ _ e h λn' zY h'=>Cu I hend hstep ds _ n' _ (by grind) h'
theorem IK{lo:Int}{n:Nat}{pre post:o_ D}{d:D}(h:DF lo n=pre++d::post):d=.int (lo+(pre.length:Int))/\pre.length<n:=by
 have hl:=congrArg iI h;rw[Bt]at hl;have e:(DF lo n)[pre.length]?=P3 d:=by grind
 unfold DF at e
 simp_all
theorem Zj{r:Int}(h:r=0\/r=1):MulOk "z" r/\(Txt.mul "z" r).length<=1/\∀c∈cs^Txt.mul "z" r,97<=c/\c<=122:=by
 rcases h with rfl|rfl
 .exact#[#[rfl,#[λh=>absurd (by cbv) h,λh=>absurd (by cbv) h]],by cbv,by cbv]
 .exact#[#[rfl,#[λ_ h=>absurd h^by cbv,λ_ h=>absurd h^by cbv]],by cbv,by cbv]
def nameAt(x:Str)(a f k:Nat):Str:=Txt.slice x l_^P3 (a:Int)++#[#[ 97+(f+k) % 26]]++Txt.slice x (P3 ((a:Int)+1))^P3 7++Txt.mul "z" ((k:Int) % 2)
theorem HM{x:Str}{a f k:Nat}(hx:x.length=8)(ha:a<7):cs^nameAt x a f k=(cs x).take a++(97+(f+k) % 26)::(((cs x).drop (a+1)).take (6 - a)++cs^Txt.mul "z" ((k:Int) % 2)):=by
 unfold nameAt;rw[Jo,Jo,Jo,Wg (by lk)^by lk,YI (by lk) (by lk)^by lk];have e3:(7 - ((a:Int)+1)).toNat=6 - a:=by lk
 rw[e3,da,da];rfl
theorem Mu{x:Str}{a f k:Nat}(hx:x.length=8)(hc:∀c∈cs x,97<=c/\c<=122)(ha:a<7):NC^nameAt x a f k:=by
 have e:=HM (f:=f) (k:=k) hx ha;let#[_,hz1,hz2]:=Zj (r:=k % 2)^by lk
 have hl:(nameAt x a f k).length=7+(Txt.mul "z" (k % 2)).length:=by
  rw[←D9,e,XV,dg,XV,gP,gP,List.length_drop,D9,D9,kO^by lk,kO^by lk];lk
 refine#[by lk,by lk,λc h=>?_]
 grind
theorem OC{x:Str}{a f m j k:Nat}(hx:x.length=8)(ha:a<7)(hm:m<=26)(hj:j<m)(hk:k<m)(e:nameAt x a f j=nameAt x a f k):j=k:=by
 have e1:=congrArg cs e;rw[HM hx ha,HM hx ha]at e1;have hl:((cs x).take a).length=a:=by rw[gP,D9];lk
 have e2:=congrArg (λl=>l[a]?) e1;rw[eT^by lk,eT^by lk,hl]at e2
 grind
structure Tie where
 a:Str
 b:Str
 len:Int
structure Net where
 ps:List Str
 ts:List Tie
def AN(t:Tie):D:=.tup [.str t.a,.str t.b,.int t.len]
def enc(N:Net):D:=.tup [.tup^N.ps.map .str,.tup^N.ts.map AN]
def Bm(s t:Tie):Prop:=cs s.a<cs t.a\/(s.a=t.a/\cs s.b<cs t.b)
structure Net.Ok (N:Net):Prop where
 names:∀x∈N.ps,NC x
 rise:rising N.ps
 tin:∀t∈N.ts,t.a∈N.ps/\t.b∈N.ps/\cs t.a<cs t.b/\1<=t.len/\t.len<=1000000
 trise:N.ts.Pairwise Bm
def cK:W2:=λss n P=>∃most ties:Nat,ss=[.fd,.sh^.int most,.sh^.int ties]/\1<=most/\most<=26/\1500<=n/\∀(N:Net) (n':Nat),N.Ok->1<=N.ps.length->N.ps.length<=most->N.ts.length<=ties->n - 1500<=n'->P (enc N) n'
structure Ix where
 i:Nat
 j:Nat
 len:Int
def Ix.tie(xs:o_ Str)(t:Ix):Tie:=#[xs.getD t.i "",xs.getD t.j "",t.len]
def X0(s t:Ix):Prop:=s.i<t.i\/(s.i=t.i/\s.j<t.j)
theorem getD_at{xs:o_ Str}{i:Nat}(h:i<xs.length):xs[i]?=P3^xs.getD i "":=by
 simp_all
theorem getD_mem{xs:o_ Str}{i:Nat}(h:i<xs.length):xs.getD i ""∈xs:=fD^getD_at h
theorem IL{xs:o_ Str}(h:rising xs){i j:Nat}(hij:i<j)(hj:j<xs.length):cs^xs.getD i ""<cs^xs.getD j "":=by
 have h2:=jz.mp h i j (by lk) hj hij;have e1:xs.getD i ""=xs[i]:=by rw[eY,Op _];rfl
 simp_all
theorem Xn{xs:o_ Str}{ts:o_ Ix}(hn:∀x∈xs,NC x)(hr:rising xs)(ht:∀t∈ts,t.i<t.j/\t.j<xs.length/\1<=t.len/\t.len<=1000000)(hp:ts.Pairwise X0):Net.Ok #[xs,ts.map^Ix.tie xs]:=by
 refine#[hn,hr,λt h=>?_,?_]
 .let#[u,hu,rfl]:=TW.mp h
  let#[h1,h2,h3,h4]:=ht u hu;exact#[getD_mem (show u.i<xs.length by lk),getD_mem h2,IL hr h1 h2,h3,h4]
 .show(ts.map^Ix.tie xs).Pairwise Bm
  rw[iO];refine kE (λ{s t} hs ht' h=>?_) hp;let#[h1,h2,_]:=ht s hs;let#[g1,g2,_]:=ht t ht'
  rcases h with h|⟨h,h'⟩
  .exact .inl^IL hr h^by lk
  .refine .inr #[?_,IL hr h' g2]
   show xs.getD s.i ""=xs.getD t.i "";rw[h]
abbrev EE(Pd:D->Nat->Prop):E2:={nx:=λn _=>Kd.sh=.sh/\Pd .non n,rt:=Pd}
theorem BA{b:BW}{te:DW}{P:o_ D->Nat->Prop}(g:D->D)(I:o_ Slot->Prop):∀(ds acc:o_ D) (n:Nat) (ρ:o_ Slot),
  (∀d∈ds,∀(ρ:o_ Slot) (n:Nat) (nx:D->Nat->o_ Slot->Prop),I ρ->(∀zY,I zY->nx (g d) n zY)->b d ρ λzT=>te n zT λy n2=>nx y n2 zT)->I ρ->P (acc++ds.map g) n->Ce b Ey te P ds acc n ρ
 |[],acc,n,ρ,_,_,h=>by rw[im,dk]at h;exact h
 |d::ds,acc,n,ρ,ht,hρ,h=>ht d FM ρ n _ hρ λzY hρ'=>
  BA g I ds _ n _ (λd hd=>ht d^Sc _ hd) hρ' (by simp_all)
theorem Gu{α:Type}{l:o_ α}{p:α->Bool}{P:D->Prop}(h:P^.bl^l.all p):TL [.lst^l.map λa=>.bl^p a] P:=
 #[_,_,rfl,FL p l,by simp_all]
theorem OY{b1 b2:Bool}{P:D->Nat->Prop}{n:Nat}{k:(D->Nat->Prop)->Prop}(hk:b1=m_->P (.bl b2) n->k P)(h:P (.bl (b1&&b2)) n):(match (.bl b1:D)with|.bl m_=>k P|.bl n_=>P (.bl n_) n|_=>False):=Tp hk h
abbrev Wb(g:D->Bool):W2:=WP 1 λds=>.bl^g^ds.getD 0 .non
theorem Wb.out{g:D->Bool}{ss:o_ Slot}{n:Nat}{P:D->Nat->Prop}(h:Wb g ss n P):∃d,ss=[.sh d]/\P (.bl^g d) n:=by
 let#[ds,hl,rfl,h]:=h
 match ds,hl with
 |[d],_=>simp_all
def RX:D->Bool
 |.int _=>m_
 |_=>n_
def tupleOfB(k:Int):D->Bool
 |.tup xs=>((xs.length:Int)==k)
 |_=>n_
def UQ(d e:D):p_ Bool:=match d,e with
 |.int i,.int j=>P3 (decide (i<j))
 |.str i,.str j=>P3 (decide (cs i<cs j))
 |.tup xs,.tup ys=>match Ho xs,Ho ys with
  |some ks,P3 ls=>if CL ks ls then P3^Fh ks ls else l_
  |_,_=>l_
 |_,_=>l_
theorem VU{d e:D}{b:Bool}{P:D->Prop}(h:UQ d e=P3 b)(p:P^.bl b):Jh d e P:=by
 unfold UQ at h
 split at h
 .cases h;exact p
 .cases h;exact p
 .split at h
  .rename_i ks ls h1 h2
   split at h
   .rename_i hs
    cases h;exact#[ks,ls,h1,h2,hs,p]
   .cases h
  .cases h
 .cases h
def RS:o_ D->Bool
 |x::y::r=>(UQ x y==P3 m_)&&RS (y::r)
 |_=>m_
abbrev YV:W2:=Wb RX
abbrev T5:W2:=λss n P=>∃k d,ss=[.sh^.int k,.sh d]/\P (.bl^tupleOfB k d) n
abbrev Pw:W2:=λss n P=>∃d xs,ss=[.sh d]/\Eu d=P3 xs/\xs.length<=200000/\(∀x∈xs,∀y∈xs,∃b,UQ x y=P3 b)/\P (.bl^RS xs) n
def NV:Au:=(CY^RP TL^Ao (Hf [l_,l_] (W0^Ao (AI 0)^Ao (W3 NI (AI 0) (GO^wC^D.int 1) GP) BZ) (D_ 2^An (Ae 0)^An (Ae 1) CU) Ey^BC Jh (AI 0)^AI 1) BZ)
section
variable {ss:o_ Slot}{n:Nat}{Pd:D->Nat->Prop}
theorem Q2{α:Type}(xs:o_ α):Dp.cutD xs (P3 1) l_=xs.drop 1:=by
 unfold Dp.cutD;rw[HT.sIx_none,show 1=((1:Nat):Int)from rfl,HT.sIx_nat]
 by_cases h:1<=xs.length
 .rw[kO h]
  exact List.take_of_length_le^by simp_all
 grind
theorem Pl:∀xs:o_ D,((DY xs^xs.drop 1).all λd=>match d with|.tup [a,b]=>UQ a b==P3 m_|_=>n_)=RS xs
 |[]=>rfl
 |[x]=>rfl
 |x::y::r=>by
  have ih:=Pl (y::r);show((DY _ (y::r)).all _)=_;unfold DY RS;rw[List.zipWith_cons_cons,jn]
  congr 1
theorem UW{xs ys:o_ D}{d:D}(h:d∈DY xs ys):∃a∈xs,∃b∈ys,d=.tup [a,b]:=by
 unfold DY at h;let#[i,hi]:=List.getElem?_of_mem h;rw[jG]at hi;cases q1:xs[i]? with
 |none=>simp_all
 | some a=>
  cases q2:ys[i]? with
  |none=>simp_all
  |some b=>
   rw[q1,q2]at hi;exact#[a,fD q1,b,fD q2,(d6 hi).symm]
theorem LQ(h:Pw ss n Pd):NV (EE Pd) n (ss++fN 0 .no):=by
 let#[d,xs,rfl,hd,hl,hlt,h]:=h
 have go:(DY xs^xs.drop 1).length<=10000000/\Ce (D_ 2^An (Ae 0)^An (Ae 1) CU) Ey (BC Jh (AI 0)^AI 1) (λacc n2=>TL [.lst acc] λz=>Pd z n2) (DY xs^xs.drop 1) [] n [.no,.no]:=by
  refine#[by unfold DY;rw[jW];lk,?_];refine BA (λd=>.bl (match d with|.tup [a,b]=>UQ a b==P3 m_|_=>n_)) (λρ=>∃s t,ρ=[s,t]) _ _ _ _ ?_ #[_,_,rfl] ?_
  .rintro z hz ρ m nx ⟨s,t,rfl⟩ hnx
   let#[a,ha,b,hb,rfl]:=UW hz;let#[r,hr]:=hlt a ha b^List.mem_of_mem_drop hb;refine#[rfl,rfl,?_];show Jh a b λy=>nx y m [.sh a,.sh b];refine VU hr ?_
   simp_all
  .rw[eA]
   refine Gu (p:=fun(d:D)=>match d with|.tup [a,b]=>UQ a b==P3 m_|_=>n_) ?_;rw[Pl];exact h
 cases d with
 |lst ys=>
  cases hd;exact#[_,_,xs,xs.drop 1,rfl,rfl,by rw[Q2];rfl,go]
 |tup ys=>
  cases hd;exact#[_,_,xs,xs.drop 1,rfl,rfl,by rw[Q2];rfl,go]
 |_=>cases hd
end
def strsOf(xs:o_ D):o_ Str:=(NW xs).getD []
theorem Tv{α:Type}(p:α->Bool)(l:o_ α):(l.map p).all id=l.all p:=by simp_all
theorem MY{x:Str}(h:∀c∈cs x,c<1114112):PyData.strOk x=m_:=by
 unfold PyData.strOk;rw[←Array.all_toList,fX];intro c hc;exact decide_eq_true^h c hc
theorem Dh{x:Str}(h:NC x):Cg^.str x:=#[rfl,MY λc hc=>by have:=h.2.2 c hc;lk,dq _]
theorem M9{ps:o_ Str}(h:∀p∈ps,NC p):CO^ps.map .str=m_/\gJ^BQ^ps.map .str=m_/\fi^BQ^ps.map .str=0:=by
 induction ps with
 |nil=>exact#[rfl,rfl,rfl]
 | cons p r ih=>
  let#[h1,h2,h3]:=ih λq hq=>h q^Sc _ hq;refine#[by assumption,?_,?_]
  .rw[e8,BQ,gJ,h2,Bool.and_true]
   exact(Dh^h p FM).2.1
  assumption
theorem FX{ps:o_ Str}(h:∀p∈ps,NC p):Cg^.tup^ps.map .str:=by
 let#[h1,h2,h3]:=M9 h;refine#[h1,h2,?_];show fi _+1<=100
 simp_all
theorem IS(x y:Str):Dn (.str x)^.str y=(x==y):=rfl
theorem Ip(ps:o_ Str):strsOf^ps.map .str=ps:=by unfold strsOf;rw[G2];rfl
section
theorem bH{d:D}(h:tupleOfB 2 d=m_):∃a b,d=.tup [a,b]:=by
 cases d with
 |tup xs=>
  have:=eq_of_beq h
  match xs,this with
  |[a,b],_=>grind
  |[],h=>cases h
  |[_],h=>cases h
  |_::_::_::r,h=>grind
 |_=>cases h
end
mutual
def Ew(B:Nat):D->Prop
 |.int i=>i.natAbs<=B
 |.str x=>∀c∈cs x,c<1114112
 |.tup ds=>Fs B ds
 |.lst ds=>Fs B ds
 |.dic _ _=>False
 |.fdi _ _=>False
 |.dit _ _=>False
 |_=>True
def Fs(B:Nat):o_ D->Prop
 |[]=>True
 |d::ds=>Ew B d/\Fs B ds
end
mutual
def Np:D->Nat
 |.int _=>200
 |.str x=>x.length
 |.tup ds=>Jz ds
 |.lst ds=>Jz ds
 |_=>0
def Jz:o_ D->Nat
 |[]=>0
 |d::ds=>Np d+1+Jz ds
end
mutual
def Kw:D->Nat
 |.tup ds=>IU ds+1
 |.lst ds=>IU ds+1
 |_=>0
def IU:o_ D->Nat
 |[]=>0
 |d::ds=>max (Kw d)^IU ds
end
theorem fines_iff{B:Nat}:∀{ds:o_ D},Fs B ds↔∀d∈ds,Ew B d
 |[]=>#[(λ_ d h=>by cases h),λ_=>trivial]
 | d::ds=>by
  have ih:=@fines_iff B ds;constructor
  .rintro⟨h1,h2⟩ e he
   rcases UF.mp he with rfl|he
   .exact h1
   .exact ih.mp h2 e he
  .exact λh=>#[h d FM,ih.mpr λe he=>h e^Sc _ he]
theorem dps_le{k:Nat}:∀{ds:o_ D},IU ds<=k↔∀d∈ds,Kw d<=k
 |[]=>#[(λ_ d h=>by cases h),λ_=>dq _]
 | d::ds=>by
  have ih:=@dps_le k ds;show max (Kw d)^IU ds<=k↔_;rw[Nat.max_le,ih];constructor
  .rintro⟨h1,h2⟩ e he
   rcases UF.mp he with rfl|he
   .exact h1
   .exact h2 e he
  .exact λh=>#[h d FM,λe he=>h e^Sc _ he]
theorem Ow:∀(xs:o_ D),xs.length<=Jz xs
 |[]=>dq _
 |d::xs=>by
  have:=Ow xs
  show xs.length+1<=Np d+1+Jz xs;lk
theorem C1{B C:Nat}(h:B<=C):∀(n:Nat),(∀d:D,sizeOf d<=n->Ew B d->Ew C d)/\∀ds:o_ D,sizeOf ds<=n->Fs B ds->Fs C ds:=by
 intro n
 induction n with
 |zero=>
  refine#[λd hd _=>?_,λds hd _=>?_]
  .cases d <;>simp at hd
  .cases ds <;>simp at hd
 | succ n ih=>
  refine#[λd hd hf=>?_,λds hd hf=>?_]
  .cases d with
   |int i=>exact eJ (show i.natAbs<=B from hf) h
   |str x=>exact hf
   |tup ds=>exact ih.2 ds (by simp at hd;lk) hf
   |lst ds=>exact ih.2 ds (by simp at hd;lk) hf
   |dic ks ds=>exact(show False from hf).elim
   |fdi ks ds=>exact(show False from hf).elim
   |dit ks ds=>exact(show False from hf).elim
   |non=>trivial
   |bl b=>trivial
  .cases ds with
   |nil=>trivial
   |cons d ds=>exact#[ih.1 d (by simp at hd;lk) hf.1,ih.2 ds (by simp at hd;lk) hf.2]
mutual
theorem Lu{B:Nat}(hB:B<10 ^ 45):∀{d:D},Ew B d->Ep d=m_/\(toPy d).showable=m_/\(toPy d).canLay0=m_/\(toPy d).depth=Kw d/\(toPy d).leavesShort 60=m_/\(toPy d).weight<=Np d
 |.non,_=>#[rfl,rfl,rfl,rfl,rfl,Re _]
 |.bl b,_=>#[rfl,rfl,rfl,rfl,rfl,Re _]
 | .int i,h=>by
  have h':i.natAbs<=B:=h;have hlt:i.natAbs<10 ^ 45:=jd h' hB;have h2:i.natAbs<2 ^ 150:=Nat.lt_trans hlt^by cbv
  have hl:i.natAbs.log2<150:=by
   by_cases h0:i.natAbs=0
   .rw[h0];decide
   .exact(Nat.log2_lt h0).mpr h2
  refine#[rfl,?_,rfl,rfl,?_,?_]
  .show decide (i.natAbs.log2<1920)=m_
   exact decide_eq_true^by lk
  .show decide ((PyData.shown^.int i).length<=60)=m_
   refine decide_eq_true ?_
   have:=int_text_length_le10 (a:=i) (k:=45) (by cbv) hlt
   show(fu^toString i).length<=60;rw[PySem.ofString_length];lk
  .show(if i==0 then 0 else i.natAbs.log2+1)<=200
   split <;>lk
 |.str x,h=>by
  have h':∀c∈cs x,c<1114112:=h;refine#[rfl,rfl,MY h',rfl,?_,Re _];show(x.cps.toList.all λc=>decide (c<16 ^ 8))=m_;rw[fX];intro c hc;exact decide_eq_true^Nat.lt_trans (h' c hc)^by cbv
 |.tup ds,h=>by
  let#[h1,h2,h3,h4,h5,h6]:=Jf hB (ds:=ds) h;refine#[h1,h2,h3,?_,h5,h6];show fi^BQ ds+1=IU ds+1;rw[h4]
 |.lst ds,h=>by
  let#[h1,h2,h3,h4,h5,h6]:=Jf hB (ds:=ds) h;refine#[h1,h2,h3,?_,h5,h6];show fi^BQ ds+1=IU ds+1;rw[h4]
 |.dic ks ds,h=>(show False from h).elim
 |.fdi ks ds,h=>(show False from h).elim
 |.dit ks ds,h=>(show False from h).elim
theorem Jf{B:Nat}(hB:B<10 ^ 45):∀{ds:o_ D},Fs B ds->CO ds=m_/\PyData.showableAll^BQ ds=m_/\gJ^BQ ds=m_/\fi^BQ ds=IU ds/\kW 60^BQ ds=m_/\PyData.weightAll^BQ ds<=Jz ds
 |[],_=>#[rfl,rfl,rfl,rfl,rfl,Re _]
 | d::ds,h=>by
  let#[h1,h2,h3,h4,h5,h6]:=Lu hB (d:=d) h.1;let#[g1,g2,g3,g4,g5,g6]:=Jf hB (ds:=ds) h.2;refine#[?_,?_,?_,?_,?_,?_]
  .show(Ep d&&CO ds)=m_
   rw[h1,g1];rfl
  .show((toPy d).showable&&PyData.showableAll^BQ ds)=m_
   rw[h2,g2];rfl
  .show((toPy d).canLay0&&gJ^BQ ds)=m_
   rw[h3,g3];rfl
  .show max (toPy d).depth^fi^BQ ds=max (Kw d)^IU ds
   rw[h4,g4]
  .show((toPy d).leavesShort 60&&kW 60^BQ ds)=m_
   rw[h5,g5];rfl
  .show(toPy d).weight+1+PyData.weightAll^BQ ds<=Np d+1+Jz ds
   lk
end
theorem R0{B:Nat}{d:D}(hB:B<10 ^ 45)(h:Ew B d)(hd:Kw d<=100)(hs:Np d<=270000):Oy d:=by
 let#[h1,h2,h3,h4,h5,h6]:=Lu hB h;refine#[h1,h2,by rw[h4];exact hd,?_]
 have:=PyData.shown_le 60 (by cbv) (toPy d) h5
 rw[PySem.sizeLine_eq]
 have:62*(toPy d).weight<=62*270000:=Nat.mul_le_mul_left _^by lk
 lk
theorem Uo{B:Nat}{d:D}(hB:B<10 ^ 45)(h:Ew B d)(hd:Kw d<=100)(hs:Np d<=200000):Oy d:=R0 hB h hd^by lk
theorem C_{B:Nat}{d:D}(hB:B<10 ^ 45)(h:Ew B d)(hd:Kw d<=100):Cg d:=by
 let#[h1,h2,h3,h4,h5,h6]:=Lu hB h;exact#[h1,h3,by rw[h4];exact hd]
theorem Qg{α:Type}(p:α->Bool)(l:o_ α):CO (l.map λa=>D.bl^p a)=m_/\gJ (BQ^l.map λa=>D.bl^p a)=m_/\fi (BQ^l.map λa=>D.bl^p a)=0:=by
 induction l with
 |nil=>exact#[rfl,rfl,rfl]
 |cons a r ih=>
  assumption
theorem YA(b:Bool):Dn (.bl b)^.bl n_=!b:=by cases b <;>rfl
theorem YM{α:Type}(p:α->Bool)(l:o_ α):((l.map λa=>D.bl^p a).any λy=>Dn y^.bl n_)=!(l.all p):=by
 induction l with
 |nil=>rfl
 |cons a r ih=>rw[e8,jm,jn,ih,YA,Bool.not_and]
theorem NE{α:Type}{p:α->Bool}{l:o_ α}{neg:Bool}{P:D->Prop}(h:P^.bl (if neg then l.all p else !(l.all p))):VY neg (.bl n_) (.lst^l.map λa=>.bl^p a) P:=by
 let#[h1,h2,h3]:=Qg p l;refine#[#[rfl,rfl,dq _],#[h1,h2,?_],_,rfl,?_]
 .show fi _+1<=100
  simp_all
 .rw[YM,Bool.not_not]
  exact h
def item(d:D):Prop:=Ew 1000001 d/\Np d<=450/\Kw d<=1
theorem Nn{k:Nat}:∀{ds:o_ D},(∀d∈ds,Np d+1<=k)->Jz ds<=k*ds.length
 |[],_=>dq _
 |d::ds,h=>by
  have h2:=Nn λe he=>h e^Sc _ he;show Np d+1+Jz ds<=k*(ds.length+1)
  grind
theorem FD{B:Nat}{xs:o_ D}(h:∀d∈xs,Ew B d):Ew B^.tup xs:=fines_iff.mpr h
theorem item_str{x:Str}(h1:x.length<=8)(h2:∀c∈cs x,c<1114112):item^.str x:=#[h2,by show x.length<=450;lk,dq _]
theorem DU{x:Str}(h:NC x):item^.str x:=item_str h.2.1 λc hc=>by have:=h.2.2 c hc;lk
theorem NA{a b:Str}{l:Int}(ha:item^.str a)(hb:item^.str b)(la:a.length<=8)(lb:b.length<=8)(hl:l.natAbs<=1000001):item^.tup [.str a,.str b,.int l]:=by
 refine#[FD λd hd=>?_,?_,?_]
 .simp at hd
  rcases hd with rfl|rfl|rfl
  .exact ha.1
  .exact hb.1
  .exact hl
 .show a.length+1+(b.length+1+(200+1+0))<=450
  lk
 .show max 0^max 0^max 0 0+1<=1
  decide
theorem FA{N:Net}(ok:N.Ok):∀d∈N.ts.map AN,item d:=λd hd=>by
 let#[t,ht,rfl]:=TW.mp hd;let#[h1,h2,_,h3,h4]:=ok.tin t ht;have n1:=ok.names _ h1;have n2:=ok.names _ h2;exact NA (DU n1) (DU n2) n1.2.1 n2.2.1^by lk
theorem VM{N:Net}(ok:N.Ok):∀d∈N.ps.map D.str,item d:=λd hd=>by
 let#[x,hx,rfl]:=TW.mp hd;exact DU^ok.names x hx
theorem W_{xs ys:o_ D}(hx:∀d∈xs,item d)(hy:∀d∈ys,item d)(lx:xs.length<=26)(ly:ys.length<=80):Ew 1000001^.tup [.tup xs,.tup ys]/\Np^.tup [.tup xs,.tup ys]<=48000/\Kw^.tup [.tup xs,.tup ys]<=3:=by
 have s1:=Nn λd hd=>gm (hx d hd).2.1;have s2:=Nn λd hd=>gm (hy d hd).2.1;have d1:=dps_le.mpr λd hd=>(hx d hd).2.2;have d2:=dps_le.mpr λd hd=>(hy d hd).2.2;refine#[FD λd hd=>?_,?_,?_]
 .simp at hd
  rcases hd with rfl|rfl
  .exact FD λd hd=>(hx d hd).1
  .exact FD λd hd=>(hy d hd).1
 .show Jz xs+1+(Jz ys+1+0)<=48000
  lk
 .show max (IU xs+1)^max (IU ys+1) 0+1<=3
  lk
theorem Tt{p:D->Prop}{xs:o_ D}(h:∀d∈xs,p d){o:Int}(h0:0<=o)(h1:o<(xs.length:Int)):∃z,atI xs o=P3 z/\p z:=by
 obtain⟨k,rfl⟩:∃k:Nat,o=k:=#[o.toNat,by lk];have hk:k<xs.length:=by lk
 exact#[_,AE^Op hk,h _^fk hk]
theorem DX(x:Str):¬cs x<cs x:=gH _
theorem z1:1<=sizeLine:=by cbv
theorem z2:2<=sizeLine:=by cbv
theorem z3:3<=sizeLine:=by cbv
theorem z0:0<=sizeLine:=dq _
theorem cE:Ys 10 6:=#[by cbv,by cbv,by cbv]
end Nt
namespace L2
def ZX:R2:=λy x H Q=>∃a o,x=.ref a/\DGet H a y o/\Q (.bl o.isSome) H
def WN:R2:=λy x H Q=>∃a o,x=.ref a/\DGet H a y o/\Q (.bl (!o.isSome)) H
def ZY:R2:=λx y H Q=>∃a v,x=.ref a/\DGet H a y^P3 v/\Q v H
theorem N5{X:Cx}{k:Nat}(hr:Room k X.A):OpR X (compareOp .In) ZX:=by
 intro zG s Z H y x iv u Q I ry rx #[a,ov,ex,g,q];subst ex;obtain rfl:u=fR a:=rx;exact cD (Kq hr) I g ry λs3 I3=>#[.bl _,H,I3,rfl,q]
theorem EH{X:Cx}{k:Nat}(hr:Room k X.A):OpR X (compareOp .NotIn) WN:=by
 intro zG s Z H y x iv u Q I ry rx #[a,ov,ex,g,q];subst ex;obtain rfl:u=fR a:=rx;exact Vj (Kq hr) I g ry λs3 I3=>#[.bl _,H,I3,rfl,q]
end L2
namespace Dp
open L2
def BO:o_ Key->o_ D->Key->p_ D
 |k0::ks,d::ds,k=>if k0=k then P3 d else BO ks ds k
 |_,_,_=>l_
section
variable {K:Frag}{X:Cx}
theorem GR{M:Ch->Prop}{H:Hp}{k:Key}:∀{ks:o_ Key}{ds:o_ D}{vs:o_ V},Ats K M H ds vs->
  match BO ks ds k with
  |some z=>∃v,Es (ks.zip vs) k=P3 v/\At K M H z v
  |none=>Es (ks.zip vs) k=l_
 |[],ds,vs,h=>by exact rfl
 |k0::ks,[],vs,h=>by cases h;exact rfl
 | k0::ks,d::ds,vs,h=>by
  let#[v,r,rfl,h1,h2]:=h;have ih:=GR (k:=k) (ks:=ks) h2;unfold BO
  by_cases e:k0=k
  .rw[if_pos e]
   refine#[v,?_,h1];show Es ((k0,v)::ks.zip r) k=P3 v;rw[Ez e]
  .have:Es ((k0,v)::ks.zip r) k=Es _ k:=E3 e
   simp_all
def keyOf:D->p_ Key
 |.int i=>P3^.inl i
 |.str x=>P3^.inr x
 |_=>l_
theorem EJ{U M:Ch->Prop}{H:Hp}{d:D}{v:V}{k:Key}(e:keyOf d=P3 k)(h:AtT K U M H d v):v=kV k:=by
 cases d with
 |int i=>cases e;exact h
 |str x=>cases e;exact h.str.1
 |_=>cases e
def Jm:D->p_ (o_ Key×o_ D)
 |.dic ks ds=>P3 (ks,ds)
 |.fdi ks ds=>P3 (ks,ds)
 |_=>l_
theorem HZ{U M:Ch->Prop}{H:Hp}{d:D}{x:V}{ks:o_ Key}{ds:o_ D}(e:Jm d=P3 (ks,ds))(h:AtT K U M H d x):∃a vs,x=.ref a/\Rd H a^.dK^ks.zip vs/\Ats K M H ds vs:=by
 cases d with
 |dic k2 d2=>cases e;let#[a,vs,rfl,_,ha,_,hs]:=h;exact#[a,vs,rfl,.inl ha,hs]
 |fdi k2 d2=>cases e;let#[a,vs,rfl,#[o,_,ha],_,hs]:=h;exact#[a,vs,rfl,.inr #[o,ha],hs]
 |_=>cases e
theorem IW{H:Hp}{a:Ch}{kvs:o_ (Key×V)}{k:Key}(e:Rd H a^.dK kvs):DGet H a (kV k)^Es kvs k:=.inl #[_,k,e,rfl,rfl]
def Qs(neg:Bool)(e d:D)(P:D->Prop):Prop:=∃ks ds k,Jm d=P3 (ks,ds)/\keyOf e=P3 k/\P^.bl (if neg then !(BO ks ds k).isSome else(BO ks ds k).isSome)
def Dl(d e:D)(P:D->Prop):Prop:=∃ks ds k z,Jm d=P3 (ks,ds)/\keyOf e=P3 k/\BO ks ds k=P3 z/\P z
theorem T4:Er K .sh ZX^Qs n_:=λU M H e d y x P Q dom vM hy hx w q=>by
 let#[ks,ds,k,hd,he,w]:=w;let#[a,vs,rfl,ha,hs]:=HZ hd hx;refine#[a,_,rfl,by rw[EJ he hy];exact IW ha,q _ H (.bl _) .refl rfl ?_];have h:=GR (k:=k) (ks:=ks) hs;cases c:BO ks ds k with
 |none=>simp_all
 |some z=>rw[c]at h w;let#[v,h1,_]:=h;simp_all
theorem FN:Er K .sh WN^Qs m_:=λU M H e d y x P Q dom vM hy hx w q=>by
 let#[ks,ds,k,hd,he,w]:=w;let#[a,vs,rfl,ha,hs]:=HZ hd hx;refine#[a,_,rfl,by rw[EJ he hy];exact IW ha,q _ H (.bl _) .refl rfl ?_];have h:=GR (k:=k) (ks:=ks) hs;cases c:BO ks ds k with
 |none=>simp_all
 |some z=>rw[c]at h w;let#[v,h1,_]:=h;simp_all
theorem YT:Er K .sh ZY Dl:=λU M H d e x y P Q dom vM hx hy w q=>by
 let#[ks,ds,k,z,hd,he,hz,w]:=w;let#[a,vs,rfl,ha,hs]:=HZ hd hx;have h:=GR (k:=k) (ks:=ks) hs;rw[hz]at h;let#[v,h1,h2]:=h;exact#[a,v,rfl,by rw[EJ he hy,←h1];exact IW ha,q v H z .refl h2 w]
variable {a b:Expr}{zU zO:Kd}{wa wb:DW}{pos:Pos}
theorem Bc{k:Nat}(hr:Room k X.A)(ha:DE X a zU wa)(hb:DE X b zO wb)(hs:Yk b:=by intro _ _;rfl):DE X (.Subscript a b pos) .sh^BC Dl wa wb:=by
 let#[ta,ha1,ha2]:=ha;let#[tb,hb1,hb2]:=hb;exact#[_,LY (Kq hr) ha1 hb1 hs,λC M H n ρ Z P Q R w q=>FJ YT ha2 hb2 C M H n ρ Z P Q R w q]
end
def V7(i:Nat)(w:DW):Au:=λD2 n ρ=>∃a:Int,ρ[i]?=P3^.sh^.int a/\w n ρ λd n1=>∃b:Int,d=.int b/\D2.nx n1^ρ.set i^.sh^.int (a+b)
theorem Vd{X:Cx}{κ zS:Kd}{e:eO}{wa:DW}{pos:Pos}{i:Nat}{x:Str}{pos':Pos}(hN:X.N.Nodup)(hi:X.N[i]?=P3 x)(hx:Loc X.env.scope x)(he:DE X e zS wa)
  (hf:X.fn x=m_\/X.env.scope.names.lookup x=P3 .local:=by first|exact .inl rfl|exact .inr rfl|assumption):DS X κ (.AugAssign (.Name x pos') .Add e pos)^V7 i wa:=by
 let#[t,a1,a2]:=he;refine#[_,Xb hN hi hx a1 X3 hf,λC M H n ρ Z D2 E R L w=>?_];let#[a,ha,w]:=w;let#[v,e1,h1]:=R.sl i _ ha;cases(h1);refine#[_,getD_some e1,a2 C M H n ρ Z _ _ R w λv H' d n' e1 f1 r1 p=>?_];let#[b,rfl,p]:=p;exact#[a,b,rfl,ON r1,L.nx M H' n' _ _ ((R.step e1 f1).set (d:=.int _) rfl) p]
end Dp
namespace So
open PySem.W
section
variable {O:KeyOrd}{key:Nat->O.α}{N:Nat}{cmp:Nat->Nat->(Bool->Shared->Prop)->Shared->Prop}{s:Shared}{p p0:Array Nat}
def KN(O:KeyOrd)(key:Nat->O.α)(p:Array Nat)(i:Nat):O.α:=key^p.getD i 0
def Srt(O:KeyOrd)(key:Nat->O.α)(p:Array Nat)(k:Nat):Prop:=∀i j,i<=j->j<k->O.kle (KN O key p i)^KN O key p j
def af(O:KeyOrd)(key:Nat->O.α)(p:Array Nat)(k:Nat):Prop:=∀i j,i<=j->j<k->O.kle (KN O key p j)^KN O key p i
def Ww(O:KeyOrd)(key:Nat->O.α)(N:Nat)(cmp:Nat->Nat->(Bool->Rs->Prop)->Rs->Prop)(s:Rs):Prop:=∀(i j:Nat) (C:Bool->Rs->Prop),i<N->j<N->C (O.blt (key i)^key j) s->cmp i j C s
def Bd(N:Nat)(p:Array Nat):Prop:=0<N/\∀x∈p,x<N
theorem VP(p:Array Nat)(i:Nat):p.getD i 0=(p[i]?).getD 0:=by
 simp
theorem Bd.get(h:Bd N p)(i:Nat):p.getD i 0<N:=by
 rw[VP];cases e:p[i]? with
 |none=>exact h.1
 |some x=>exact h.2 x^Array.mem_of_getElem? e
theorem Bd.perm{p':Array Nat}(h:Bd N p)(hp:p'.Perm p):Bd N p':=#[h.1,λx hx=>h.2 x^hp.mem_iff.mp hx]
theorem FP{p q:Array Nat}{i j:Nat}(h:p[i]?=q[j]?):KN O key p i=KN O key q j:=by
 unfold KN
 simp_all
theorem LB{src d:Nat}(hs:src<p.size)(hd:d<=src)(k:Nat):
  KN O key (bubble p src d) k=if k=src - d then KN O key p src else if src - d<k/\k<=src then KN O key p (k - 1)else KN O key p k:=by
 have e:=getElem?_bubble hs d hd k
 by_cases h1:k=src - d
 .rw[if_pos h1]at e ⊢;exact FP e
 .rw[if_neg h1]at e ⊢
  by_cases h2:src - d<k/\k<=src
  .rw[if_pos h2]at e ⊢;exact FP e
  .rw[if_neg h2]at e ⊢;exact FP e
theorem Hd{i j:Nat}(hj:j<=p.size)(k:Nat):KN O key (kas_rev p i j) k=if i<=k/\k<j then KN O key p (i+j - 1 - k)else KN O key p k:=by
 have e:=getElem?_mirror_all (i:=i) hj k
 by_cases h1:i<=k/\k<j
 .rw[if_pos h1]at e ⊢;exact FP e
 .rw[if_neg h1]at e ⊢;exact FP e
theorem Bw{i j:Nat}(hj:j<=p.size)(heq:∀k,i<=k->k<j->KN O key p k=KN O key p (j - 1))(k:Nat):KN O key (kas_rev p i j) k=KN O key p k:=by
 rw[Hd hj]
 grind
theorem Cb(p:Array Nat)(i j:Nat):(kas_rev p i j).Perm p:=mirror_perm _ _ _ _
theorem yes{α:Type}{T₁ T₂:KasT α}{Q:α->Rs->Prop}(h:T₁.kasWp cmp Q s):(if m_=m_ then T₁ else T₂).kasWp cmp Q s:=by grind
theorem no{α:Type}{T₁ T₂:KasT α}{Q:α->Rs->Prop}(h:T₂.kasWp cmp Q s):(if n_=m_ then T₁ else T₂).kasWp cmp Q s:=by grind
theorem OX(hC:Ww O key N cmp s)(hb:Bd N p){nrem:Nat}{G:Nat->Rs->Prop}:∀(f n:Nat),1<=n->n+f=nrem->Srt O key p n->
  (∀m,n<=m->m<=nrem->Srt O key p m->(m=nrem\/O.klt (KN O key p m)^KN O key p (m - 1))->G m s)->(kas_asc p f n).kasWp cmp G s
 |0,n,_,e,hs,h=>h n (Re _) (by lk) hs^.inl^by lk
 | f+1,n,h1,e,hs,h=>by
  show cmp (p.getD n 0) (p.getD (n - 1) 0) (λc s'=>(if c=m_ then KasT.ret n else kas_asc p f (n+1)).kasWp cmp G s') s;refine hC _ _ _ (hb.get n) (hb.get _) ?_;cases hless:O.blt (key^p.getD n 0)^key^p.getD (n - 1) 0 with
  |true=>exact yes^h n (Re _) (by lk) hs^.inr hless
  | false=>
   refine no^OX hC hb f (n+1) (by lk) (by lk) (λi j hij hj=>?_) λm m1 m2 m3 m4=>h m (by lk) m2 m3 m4
   by_cases hjx:j<n
   .exact hs i j hij hjx
   .have hj':j=n:=by lk
    subst hj'
    by_cases hi':i=j
    .subst hi';exact gA _
    .exact jD (hs i (j - 1) (by lk)^by lk) hless
theorem IX(hC:Ww O key N cmp s){nrem:Nat}{G:Array Nat×Nat×Nat->Rs->Prop}:∀(f:Nat) (p:Array Nat) (n q:Nat),p.Perm p0->Bd N p->nrem<=p.size->1<=n->n+f=nrem->af O key p n->q+1<=n->
  (∀i,n - (q+1)<=i->i<n->KN O key p i=KN O key p (n - 1))->
  (∀p' m q',p'.Perm p0->Bd N p'->p'.size=p.size->n<=m->m<=nrem->af O key p' m->q'+1<=m->(∀i,m - (q'+1)<=i->i<m->KN O key p' i=KN O key p' (m - 1))->G (p',m,q') s)->(kas_desc f p n q).kasWp cmp G s
 |0,p,n,q,hp,hb,hz,h1,e,hs,hq,he,h=>h p n q hp hb rfl (Re _) (by lk) hs hq he
 | f+1,p,n,q,hp,hb,hz,h1,e,hs,hq,he,h=>by
  show cmp (p.getD n 0) (p.getD (n - 1) 0) (λc s'=>(if c=m_ then(if q > 0 then kas_desc f (kas_rev p (n - (q+1)) n) (n+1) 0 else kas_desc f p (n+1) 0)
   else .ask (p.getD (n - 1) 0) (p.getD n 0) λd=>if d=m_ then .ret (p,n,q)else kas_desc f p (n+1) (q+1)).kasWp cmp G s') s
  refine hC _ _ _ (hb.get n) (hb.get _) ?_;cases hless:O.blt (key^p.getD n 0)^key^p.getD (n - 1) 0 with
  | true=>
   have hl:O.klt (KN O key p n)^KN O key p (n - 1):=hless
   have step1:∀xs:Array Nat,(∀k,KN O key xs k=KN O key p k)->af O key xs (n+1):=by
    intro xs hk i j hij hj;rw[hk,hk]
    by_cases hjx:j<n
    .exact hs i j hij hjx
    .have hj':j=n:=by lk
     subst hj'
     by_cases hi':i=j
     .subst hi';exact gA _
     .exact jD (i_ hl)^hs i (j - 1) (by lk)^by lk
   refine yes ?_;have hsz:n<=p.size:=by lk
   by_cases hq0:q > 0
   .rw[if_pos hq0]
    refine IX hC f _ (n+1) 0 ((Cb _ _ _).trans hp) (hb.perm^Cb _ _ _) (by rw[kas_rev_size];exact hz) (by lk) (by lk) (step1 _^Bw hsz he) (by lk) (λi a b=>by congr 1;lk) λp' m q' a1 a2 a3 a4 a5 a6 a7 a8=>h p' m q' a1 a2 (a3.trans^kas_rev_size _ _) (by lk) a5 a6 a7 a8
   .rw[if_neg hq0]
    exact IX hC f _ (n+1) 0 hp hb hz (by lk) (by lk) (step1 _ λ_=>rfl) (by lk) (λi a b=>by congr 1;lk) λp' m q' a1 a2 a3 a4 a5 a6 a7 a8=>h p' m q' a1 a2 a3 (by lk) a5 a6 a7 a8
  | false=>
   refine no ?_;show cmp (p.getD (n - 1) 0) (p.getD n 0) (λd s'=>(if d=m_ then KasT.ret (p,n,q)else kas_desc f p (n+1) (q+1)).kasWp cmp G s') s;refine hC _ _ _ (hb.get _) (hb.get n) ?_;cases hlarger:O.blt (key^p.getD (n - 1) 0)^key^p.getD n 0 with
   |true=>exact yes (h p n q hp hb rfl (Re _) (by lk) hs hq he)
   | false=>
    have heqx:KN O key p n=KN O key p (n - 1):=ko (O:=O) hlarger hless;refine no^IX hC f p (n+1) (q+1) hp hb hz (by lk) (by lk) (λi j hij hj=>?_) (by lk) (λi a b=>?_) λp' m q' a1 a2 a3 a4 a5 a6 a7 a8=>h p' m q' a1 a2 a3 (by lk) a5 a6 a7 a8
    .by_cases hjx:j<n
     .exact hs i j hij hjx
     .have hj':j=n:=by lk
      subst hj'
      by_cases hi':i=j
      .subst hi';exact gA _
      .rw[heqx];exact hs i (j - 1) (by lk)^by lk
    .rw[show n+1 - 1=n by lk]
     by_cases hix:i=n
     .subst hix;rfl
     .rw[heqx];exact he i (by lk)^by lk
theorem MR(hC:Ww O key N cmp s){n nrem:Nat}{G:Nat×Array Nat->Rs->Prop}(hp:p.Perm p0)(hb:Bd N p)(hz:nrem<=p.size)(h1:1<=n)(hn:n<=nrem)(hs:af O key p n)
  (h:∀m p',p'.Perm p0->Bd N p'->p'.size=p.size->1<=m->m<=nrem->Srt O key p' m->G (m,p') s):(kas_tail3 n nrem p).kasWp cmp G s:=by
 unfold kas_tail3;rw[KasT.kasWp_bind];have hsz:n<=p.size:=by lk
 refine OX hC (hb.perm^Cb _ _ _) _ n h1 (by lk) (λi j hij hj=>?_) λm m1 m2 m3 _=>h m _ ((Cb _ _ _).trans hp) (hb.perm^Cb _ _ _) (kas_rev_size _ _) (by lk) m2 m3;rw[Hd hsz,Hd hsz,if_pos^by lk,if_pos^by lk];exact hs _ _ (by lk)^by lk
theorem Hv(hC:Ww O key N cmp s){n nrem:Nat}{G:Nat×Array Nat->Rs->Prop}(hp:p.Perm p0)(hb:Bd N p)(hz:nrem<=p.size)(hn:n+1<=nrem)(hs:af O key p (n+1))
  (h:∀m p',p'.Perm p0->Bd N p'->p'.size=p.size->1<=m->m<=nrem->Srt O key p' m->G (m,p') s):(kas_descPart n nrem p).kasWp cmp G s:=by
 unfold kas_descPart;rw[KasT.kasWp_bind];refine IX (p0:=p0) hC (nrem - (n+1)) p (n+1) 0 hp hb hz (by lk) (by lk) hs (by lk) (λi a b=>by grind) λp' m q' a1 a2 a3 a4 a5 a6 a7 a8=>?_;have hsz:m<=p'.size:=by lk
 show(if q' > 0 then kas_tail3 m nrem^kas_rev p' (m - (q'+1)) m else kas_tail3 m nrem p').kasWp cmp G s
 by_cases hq0:q' > 0
 .rw[if_pos hq0]
  refine MR hC ((Cb _ _ _).trans a1) (a2.perm^Cb _ _ _) (by rw[kas_rev_size];lk) (by lk) a5 (λi j hij hj=>?_) λm' p'' b1 b2 b3 b4 b5 b6=>h m' p'' b1 b2 (b3.trans^(kas_rev_size _ _).trans a3) b4 b5 b6;rw[Bw hsz a8,Bw hsz a8];exact a6 i j hij hj
 .rw[if_neg hq0]
  exact MR hC a1 a2 (by lk) (by lk) a5 a6 λm' p'' b1 b2 b3 b4 b5 b6=>h m' p'' b1 b2 (b3.trans a3) b4 b5 b6
theorem Tj(hC:Ww O key N cmp s){nrem:Nat}{G:Nat×Array Nat->Rs->Prop}(hp:p.Perm p0)(hb:Bd N p)(hz:nrem<=p.size)(h1:1<=nrem)
  (h:∀m p',p'.Perm p0->Bd N p'->p'.size=p.size->1<=m->m<=nrem->Srt O key p' m->G (m,p') s):(kas_count nrem p).kasWp cmp G s:=by
 unfold kas_count;rw[KasT.kasWp_bind];refine OX (nrem:=nrem) hC hb (nrem - 1) 1 (Re _) (by lk) (λi j hij hj=>by have:i=j:=(by lk);subst this;exact gA _) λn hn1 hn2 hsn hor=>?_
 by_cases hnn:n=nrem
 .rw[if_pos^by simpa using hnn]
  exact h n p hp hb rfl hn1 hn2 hsn
 .rw [if_neg^by simpa using hnn]
  have hlt:O.klt (KN O key p n)^KN O key p (n - 1):=hor.resolve_left hnn
  by_cases hgt:n > 1
  .rw[if_pos hgt]
   show cmp (p.getD 0 0) (p.getD (n - 1) 0) (λc s'=>(if c=m_ then KasT.ret (n,p)else kas_descPart n nrem^kas_rev p 0 n).kasWp cmp G s') s;refine hC _ _ _ (hb.get _) (hb.get _) ?_;cases hrose:O.blt (key^p.getD 0 0)^key^p.getD (n - 1) 0 with
   |true=>exact yes (h n p hp hb rfl hn1 hn2 hsn)
   | false=>
    have hrose':O.kle (KN O key p (n - 1))^KN O key p 0:=hrose;have hsz:n<=p.size:=by lk
    have hall:∀k,0<=k->k<n->KN O key p k=KN O key p (n - 1):=by
     intro k _ hk;have a1:=hsn 0 k (by lk) hk;have a2:=hsn k (n - 1) (by lk) (by lk);exact ko a2^jD hrose' a1
    refine no^Hv hC ((Cb _ _ _).trans hp) (hb.perm^Cb _ _ _) (by rw[kas_rev_size];exact hz) (by lk) (λi j hij hj=>?_) λm' p'' b1 b2 b3 b4 b5 b6=>h m' p'' b1 b2 (b3.trans^kas_rev_size _ _) b4 b5 b6;rw[Bw hsz hall,Bw hsz hall]
    by_cases hjn:j<n
    .rw[hall i (by lk)^by lk,hall j (by lk) hjn];exact gA _
    .have hj':j=n:=by lk
     subst hj'
     by_cases hi':i=j
     .subst hi';exact gA _
     .rw[hall i (by lk)^by lk];exact i_ hlt
  .rw[if_neg hgt]
   have hn1':n=1:=by lk
   subst hn1';refine Hv hC hp hb hz (by lk) (λi j hij hj=>?_) h
   by_cases hi':i=j
   .subst hi';exact gA _
   .have hi0:i=0:=by lk
    have hj1:j=1:=by lk
    subst hi0;subst hj1
    exact i_ hlt
theorem JD(hC:Ww O key N cmp s)(hb:Bd N p){k:Nat}(hs:Srt O key p k){G:Nat->Rs->Prop}
  (h:∀l,l<=k->(∀i,i<l->O.kle (KN O key p i)^KN O key p k)->(∀i,l<=i->i<k->O.klt (KN O key p k)^KN O key p i)->G l s):∀(f l r:Nat),l<=r->r<=k->r - l<=f->
  (∀i,i<l->O.kle (KN O key p i)^KN O key p k)->(∀i,r<=i->i<k->O.klt (KN O key p k)^KN O key p i)->(kas_place p k f l r).kasWp cmp G s
 |0,l,r,hlr,hrk,hm,hlo,hhi=>by
  have:l=r:=by lk
  subst this;exact h l hrk hlo hhi
 | f+1,l,r,hlr,hrk,hm,hlo,hhi=>by
  unfold kas_place
  by_cases hge:l≥r
  .rw[if_pos hge]
   have:l=r:=by lk
   subst this;exact h l hrk hlo hhi
  .rw[if_neg hge]
   refine hC _ _ _ (hb.get _) (hb.get _) ?_;cases hless:O.blt (key^p.getD k 0)^key^p.getD ((l+r) / 2) 0 with
   |true=>
    have hl:O.klt (KN O key p k)^KN O key p ((l+r) / 2):=hless;exact yes^JD hC hb hs h f l ((l+r) / 2) (by lk) (by lk) (by lk) hlo λi h1 h2=>KeyOrd.klt_of_klt_of_kle hl^hs _ _ h1 h2
   |false=>
    have hl:O.kle (KN O key p ((l+r) / 2))^KN O key p k:=hless;exact no^JD hC hb hs h f ((l+r) / 2+1) r (by lk) (by lk) (by lk) (λi h1=>jD (hs i ((l+r) / 2) (by lk)^by lk) hl) hhi
theorem FJ(hC:Ww O key N cmp s){n:Nat}{G:Array Nat->Rs->Prop}(h:∀p',p'.Perm p0->Srt O key p' n->G p' s):∀(f:Nat) (p:Array Nat) (k:Nat),p.Perm p0->Bd N p->n<=p.size->k+f=n->Srt O key p k->(kas_bin f p k).kasWp cmp G s
 |0,p,k,hp,hb,hz,e,hs=>h p hp^by rw[←e];exact hs
 | f+1,p,k,hp,hb,hz,e,hs=>by
  rw[show kas_bin (f+1) p k=(kas_place p k k 0 k).bind λl=>kas_bin f (bubble p k (k - l)) (k+1)from rfl,KasT.kasWp_bind];refine JD hC hb hs (λl hlk hlo hhi=>?_) k 0 k (dq _) (Re _) (by lk) (λi hi=>by lk) λi a b=>by lk
  have hks:k<p.size:=by lk
  refine FJ hC h f _ (k+1) ((bubble_perm _ _ _).trans hp) (hb.perm^bubble_perm _ _ _) (by rw[bubble_size];exact hz) (by lk) λi j hij hj=>?_;rw[LB hks^by lk,LB hks^by lk,show k - (k - l)=l by lk]
  by_cases hi1:i=l
  .rw[if_pos hi1]
   by_cases hj1:j=l
   .rw[if_pos hj1];exact gA _
   .rw[if_neg hj1,if_pos^by lk]
    exact i_^hhi (j - 1) (by lk)^by lk
  .rw [if_neg hi1]
   by_cases hi2:l<i/\i<=k
   .rw[if_pos hi2,if_neg^by lk,if_pos^by lk]
    exact hs (i - 1) (j - 1) (by lk)^by lk
   .rw[if_neg hi2]
    by_cases hj1:j=l
    .rw[if_pos hj1];exact hlo i^by lk
    .rw[if_neg hj1]
     by_cases hj2:l<j/\j<=k
     .rw[if_pos hj2]
      exact hs i (j - 1) (by lk)^by lk
     .rw[if_neg hj2]
      exact hs i j hij^by lk
theorem sort_ok{n:Nat}(h1:1<=n)(hC:Ww O key n cmp s){G:Array Nat->Rs->Prop}(h:∀p,p.Perm^eV^eZ n->Srt O key p n->G p s):(kas_sort n).kasWp cmp G s:=by
 unfold kas_sort;rw[KasT.kasWp_bind];have hb:Bd n^eV^eZ n:=#[h1,λx hx=>by grind];have hsz:(eV^eZ n).size=n:=by simp
 refine Tj hC (kP _) hb (by lk) h1 λm p' a1 a2 a3 a4 a5 a6=>?_
 by_cases hlt:m<n
 .rw[if_pos hlt,show max m 1=m by lk]
  exact FJ hC h _ p' m a1 a2 (by lk) (by lk) a6
 .rw[if_neg hlt]
  exact h p' a1^by grind
end
end So
namespace L2
open PySem.W
def WU:Key->Key->Bool
 |.inl i,.inl j=>decide (i<j)
 |.inr x,.inr y=>decide (x.cps.toList<y.cps.toList)
 |.inl _,.inr _=>m_
 |.inr _,.inl _=>n_
def BB:o_ Key->o_ Key->Bool
 |[],[]=>n_
 |[],_::_=>m_
 |_::_,[]=>n_
 |x::xs,y::ys=>if x=y then BB xs ys else WU x y
theorem OF:∀x:Key,WU x x=n_
 |.inl i=>decide_eq_false^Int.lt_irrefl i
 |.inr x=>decide_eq_false^gH _
theorem QZ:∀x y z:Key,WU x y=m_->WU y z=m_->WU x z=m_
 |.inl i,.inl j,.inl k,h1,h2=>decide_eq_true^Int.lt_trans (of_decide_eq_true h1)^of_decide_eq_true h2
 |.inr i,.inr j,.inr k,h1,h2=>decide_eq_true^iB (of_decide_eq_true h1)^of_decide_eq_true h2
 |.inl i,.inl j,.inr k,_,_=>rfl
 |.inl i,.inr j,.inr k,_,_=>rfl
 |.inl i,.inr j,.inl k,_,h=>by cases h
 |.inr i,.inl j,_,h,_=>by cases h
 |.inr i,.inr j,.inl k,_,h=>by cases h
theorem Qa:∀x y:Key,WU x y=n_->WU y x=n_->x=y
 |.inl i,.inl j,h1,h2=>congrArg _^by have a:=of_decide_eq_false h1;have b:=of_decide_eq_false h2;lk
 |.inr x,.inr y,h1,h2=>by
  have e:=List.le_antisymm (of_decide_eq_false h2)^of_decide_eq_false h1;let#[u]:=x
  simp_all
 |.inl i,.inr j,h,_=>by cases h
 |.inr i,.inl j,_,h=>by cases h
theorem B6:∀x:o_ Key,BB x x=n_
 |[]=>rfl
 |x::xs=>by unfold BB;rw[if_pos rfl];exact B6 xs
theorem Cw:∀x y z:o_ Key,BB x y=m_->BB y z=m_->BB x z=m_
 |[],[],_,h,_=>by cases h
 |[],_::_,[],_,h=>by cases h
 |[],_::_,_::_,_,_=>rfl
 |_::_,[],_,h,_=>by cases h
 |_::_,_::_,[],_,h=>by cases h
 | x::xs,y::ys,z::zs,h1,h2=>by
  unfold BB at h1 h2 ⊢
  by_cases e1:x=y
  .subst e1
   rw[if_pos rfl]at h1
   by_cases e2:x=z
   .subst e2
    rw[if_pos rfl]at h2 ⊢;exact Cw xs ys zs h1 h2
   grind
  .rw[if_neg e1]at h1
   by_cases e2:y=z
   .grind
   .rw[if_neg e2]at h2
    have h3:=QZ x y z h1 h2
    by_cases e3:x=z
    .subst e3
     rw[OF]at h3;cases h3
    grind
theorem B5:∀x y:o_ Key,BB x y=n_->BB y x=n_->x=y
 |[],[],_,_=>rfl
 |[],_::_,h,_=>by cases h
 |_::_,[],_,h=>by cases h
 | x::xs,y::ys,h1,h2=>by
  unfold BB at h1 h2
  by_cases e:x=y
  .subst e
   rw[if_pos rfl]at h1 h2;rw[B5 xs ys h1 h2]
  .rw[if_neg e]at h1
   rw[if_neg λz=>e z.symm]at h2;exact absurd (Qa x y h1 h2) e
def QI:KeyOrd:=#[o_ Key,BB,B6,Cw,λa b c h=>by
 cases h1:BB a b with
 |true=>exact .inl rfl
 |false=>
  cases h2:BB b a with
  |true=>exact .inr^Cw b a c h2 h
  |false=>rw[←B5 a b h1 h2];exact .inr h,B5]
theorem Gn:∀x y:o_ Key,CL x y=m_->Fh x y=BB x y
 |[],[],_=>rfl
 |[],_::_,_=>rfl
 |_::_,[],_=>rfl
 | x::xs,y::ys,h=>by
  have h':(KZ x y&&CL xs ys)=m_:=h;rw[dh]at h';unfold Fh BB
  by_cases e:x=y
  .rw[if_pos e,if_pos e];exact Gn xs ys h'.2
  .rw[if_neg e,if_neg e]
   cases x with
   |inl i=>cases y with
    |inl j=>rfl
    |inr z=>cases h'.1
   |inr i=>cases y with
    |inl j=>cases h'.1
    |inr z=>rfl
section
variable {prog:Program}{w:World}{A:Around}{E:Value->Shared->Prop}{s:Shared}
theorem Su{b:Bool}{Q:Bool->Rs->Prop}{nx ny:Nat}:∀(ns ms:o_ Key) (us ws:o_ Db) (i:Nat),Vals (ns.map kOf) us->Vals (ms.map kOf) ws->CL ns ms=m_->ns.length+ny=ms.length+nx->Q (Fh ns ms) s->
  KatLex prog w A b (decide (nx<ny)) Q (us.zip ws) i s
 |[],[],us,ws,i,h1,h2,_,hl,q=>by
  cases h1;cases h2;refine kat_nil ?_;rw[show decide (nx<ny)=n_ from decide_eq_false^by simp only[f6]at hl;lk];exact q
 |[],m::ms,us,ws,i,h1,h2,_,hl,q=>by
  cases h1;rw[List.zip_nil_left];refine kat_nil ?_;rw[show decide (nx<ny)=m_ from decide_eq_true^by simp only[f6,dg]at hl;lk];exact q
 |n::ns,[],us,ws,i,h1,h2,_,hl,q=>by
  cases h2;rw[List.zip_nil_right];refine kat_nil ?_;rw[show decide (nx<ny)=n_ from decide_eq_false^by simp only[f6,dg]at hl;lk];exact q
 | n::ns,m::ms,us,ws,i,h1,h2,hs,hl,q=>by
  have hs':(KZ n m&&CL ns ms)=m_:=hs;rw[dh]at hs';have q':Q (if n=m then Fh ns ms else au n m) s:=q;cases h1 with
  | @cons _ u _ ur r1 t1=>
   cases h2 with
   | @cons _ v _ vr r2 t2=>
    rw[je];have ih:n=m->KatLex prog w A b (decide (nx<ny)) Q (ur.zip vr) (i+1) s:=λe=>Su ns ms ur vr (i+1) t1 t2 hs'.2 (by simp only[dg]at hl;lk) (by rw[if_pos e]at q';exact q');cases n with
    | inl x=>
     cases m with
     |inr y=>cases hs'.1
     | inl y=>
      let#[tu,rfl]:=r1;let#[tv,rfl]:=r2;refine kat_cons^wpAny_eqBool_int ?_
      by_cases e:x=y
      .rw[show(x==y)=m_ by simpa using e]
       exact kat_yes^ih^by rw[e]
      .rw[show(x==y)=n_ by simpa using e]
       refine kat_no ?_;rw[if_neg λz=>e^Sum.inl.inj z]at q';cases hf:(b&&i==0)with
       |true=>exact oneLt_int q'
       |false=>exact kat_one _ _^kT (show PySem.W.BoolBack Q (.bool (decide (x<y))) s from q')
    | inr x=>
     cases m with
     |inl y=>cases hs'.1
     | inr y=>
      let#[tu,rfl]:=r1;let#[tv,rfl]:=r2;refine kat_cons^wpAny_eqBool_str ?_
      by_cases e:x=y
      .rw[show decide (x=y)=m_ by simpa using e]
       exact kat_yes^ih^by rw[e]
      .rw[show decide (x=y)=n_ by simpa using e]
       refine kat_no ?_;rw[if_neg λz=>e^hX z]at q';cases hf:(b&&i==0)with
       |true=>exact oneLt_str q'
       |false=>exact kat_one _ _^PySem.P.lt_str (show PySem.W.BoolBack Q (.bool (decide (x.cps.toList<y.cps.toList))) s from q')
structure Pz (h:eC) (ks:List Db) (keys:List^List Key):Prop where
 at_:∀(i:Nat) (ns:List Key),keys[i]?=P3 ns->∃a o its n,ks[i]?=P3^.ref a/\h.get? a=P3 o/\o.cls=.type "tuple"/\o.data=.seq its n/\Vals (ns.map kOf) its.toList
 len:ks.length=keys.length
 same:∀x∈keys,∀y∈keys,CL x y=m_
 ne:∀x∈keys,x≠[]
def al:Key->String
 |.inl _=>"int"
 |.inr _=>"str"
theorem firsts{h:eC}:∀(ks:o_ Db) (keys:o_^o_ Key) (T:String),ks.length=keys.length->(∀(i:Nat) (ns:o_ Key),keys[i]?=P3 ns->∃a o its n,ks[i]?=P3^.ref a/\h.get? a=P3 o/\o.cls=.type "tuple"/\o.data=.seq its n/\Vals (ns.map kOf) its.toList)->
  (∀x∈keys,∃k r,x=k::r/\al k=T)->∃fs:o_ Db,KatTups h ks fs/\fs.length=keys.length/\∀v∈fs,typeOf v=pure^.type T
 |[],[],T,_,_,_=>#[[],trivial,rfl,λv hv=>by cases hv]
 |[],_::_,T,hl,_,_=>by cases hl
 |_::_,[],T,hl,_,_=>by cases hl
 | k::ks,x::keys,T,hl,h1,h2=>by
  let#[fs,g1,g2,g3]:=firsts ks keys T (by simpa using hl) (λi ns e=>by
   let#[a,o,its,n,e1,r]:=h1 (i+1) ns (by simpa using e);exact#[a,o,its,n,by simpa using e1,r]) λy hy=>h2 y^Sc _ hy
  let#[a,o,its,n,e1,e2,e3,e4,e5]:=h1 0 x rfl;have e1:k=.ref a:=by simpa using e1
  subst e1;let#[k,r,rfl,hk]:=h2 x FM;rw[e8]at e5;cases hits:its.toList with
  |nil=>rw[hits]at e5;cases e5
  | cons f tl=>
   rw[hits]at e5;cases e5 with
   | cons r1 r2=>
    refine#[f::fs,KatTups.cons e2 e3 e4 (by rw[←kX,hits];rfl) g1,by rw[dg,dg,g2],λv hv=>?_]
    rcases UF.mp hv with rfl|hv
    .cases k with
     |inl i=>let#[t,rfl]:=r1;subst hk;rfl
     |inr i=>let#[t,rfl]:=r1;subst hk;rfl
    .exact g3 v hv
theorem KQ{ks:o_ Db}{keys:o_^o_ Key}(K:Pz s.heap ks keys)(h2:2<=ks.length){G:Array Nat->Rs->Prop}(h:∀p,p.Perm^eV^eZ ks.length->So.Srt QI (λi=>keys.getD i []) p ks.length->G p s):
  wpAny (model prog w) A (keyKind' ks.toArray) (λκ s'=>(kas_sort ks.length).kasWp (kas_ask prog w A κ ks) G s') (λ_ _=>False) s:=by
 obtain⟨x0,xr,hx⟩:∃x0 xr,keys=x0::xr:=by
  cases e:keys with
  |nil=>have:=K.len;rw[e]at this;simp only[f6]at this;lk
  |cons x r=>exact#[x,r,rfl]
 have m0:x0∈keys:=by rw[hx];exact FM
 obtain⟨k0,r0,e0⟩:∃k r,x0=k::r:=by
  cases e:x0 with
  |nil=>exact absurd e^K.ne x0 m0
  |cons k r=>exact#[k,r,rfl]
 have hty:∀x∈keys,∃k r,x=k::r/\al k=al k0:=λx hm=>by
  cases e:x with
  |nil=>exact absurd e^K.ne x hm
  | cons k r=>
   refine#[k,r,rfl,?_];have hsm:=K.same x hm x0 m0;rw[e,e0]at hsm;have hsm:(KZ k k0&&CL r r0)=m_:=hsm;rw[dh]at hsm;cases k with
   |inl i=>cases k0 with
    |inl j=>rfl
    |inr j=>cases hsm.1
   |inr i=>cases k0 with
    |inl j=>cases hsm.1
    |inr j=>rfl
 let#[fs,g1,g2,g3]:=firsts ks keys (al k0) K.len K.at_ hty;refine kat_kind g1 (by rw[g2,←K.len];lk) (λv hv=>by rw[g3 v hv];exact Looks.now) (by simp) ?_;refine So.sort_ok (O:=QI) (key:=λi=>keys.getD i []) (by lk) (λi j C hi hj hC=>?_) h;have hi':i<keys.length:=by rw[←K.len];exact hi
 have hj':j<keys.length:=by rw[←K.len];exact hj
 let#[a,o,its,n,e1,e2,e3,e4,e5]:=K.at_ i keys[i] (Op hi');let#[a',o',its',n',e1',e2',e3',e4',e5']:=K.at_ j keys[j] (Op hj');unfold kas_ask;rw[show ks.getD i fB=.ref a by rw[eY,e1];rfl,show ks.getD j fB=.ref a' by rw[eY,e1'];rfl];have hsm:=K.same _ (fk hi') _^fk hj';refine kat_lt e2 e4 e2' e4' (Su keys[i] keys[j] _ _ 0 e5 e5' hsm ?_ ?_)
 .have l1:=e5.length
  have l2:=e5'.length;have l3:(keys[i].map kOf).length=keys[i].length:=Ev ..;have l4:(keys[j].map kOf).length=keys[j].length:=Ev ..;have l5:its.toList.length=its.size:=fQ;have l6:its'.toList.length=its'.size:=fQ;lk
 .rw[Gn _ _ hsm]
  have g1:keys.getD i []=keys[i]:=by rw[eY,Op hi'];rfl
  have g2:keys.getD j []=keys[j]:=by rw[eY,Op hj'];rfl
  have hC':C (BB (keys.getD i [])^keys.getD j []) s:=hC;rw[g1,g2]at hC';exact hC'
theorem EV{v:Db}{kw:o_ (Str×Db)}{Q:Db->Rs->Prop}(ha1:argsOk "sorted" #[[v],kw])(ha2:∀x,argsOk "list.sort" #[[.ref x],kw])
  (hc:wpAny (model prog w) A.in1 (collect v) (λvs s1=>vs.length<=sizeLine/\wpAny (model prog w) A.in1.in1 (iQ.«list.sort» #[[.ref s1.heap.objs.size],kw]) (λfin s'=>fin=.done^.ret .none/\Q (.ref s1.heap.objs.size) s') E {s1 with heap:=s1.heap.push^seqObj "list" vs.toArray 0}) E s):
  wpAny (model prog w) A (call (.builtin "sorted") [v] kw) Q E s:=call_function_entry_kw kind_sorted plain_sorted entry_sorted ha1^Go^df^Go^fM hc (λvs s1 h=>Go^jq (Go^gE^wpAny_call_entry_kw PyProof.Rows.slot_list_sort #[_,T0 _ rfl,rfl] PyProof.Rows.entry_list_sort (fM h.2 (λfin s' hf=>#[_,hf.1,df #[_,rfl,hf.2]]) λ_ _ x=>x)^ha2 _) h.1) λ_ _ x=>x
def Dr(h:eC)(D:Ch)(vs:o_ Db):eC:=((h.update D^fG λ_=>(#[]:Array Db)).push^seqObj "tuple" vs.toArray 0).push^seqObj "list" #[] 0
theorem HG{h:eC}{D:Ch}{vs:o_ Db}{b:Ch}{o:Obj}(hb:b≠D)(e:h.get? b=P3 o):(Dr h D vs).get? b=P3 o:=
 No _ (No _^(d_ _ _^fL hb).trans e)
theorem Iu{h:eC}{D:Ch}{vs:o_ Db}{n:Nat}(ho:h.get? D=P3^seqObj "list" vs.toArray n):∃e1,(Dr h D vs).get? D=P3^seqObj "list" #[] e1/\(h.update D^fG λ_=>(#[]:Array Db)).get? D=P3^seqObj "list" #[] e1:=by
 obtain⟨e1,ho1⟩:∃e1,(h.update D _).get? D=P3^seqObj _ _ e1:=#[_,iF ho _];exact#[e1,No _^No _ ho1,ho1]
theorem Mz{D:Ch}{vs:o_ Db}{n:Nat}{P:PySem.Fin->Rs->Prop}{G:Array Nat->Prop}(ho:s.heap.get? D=P3^seqObj "list" vs.toArray n)(h64:vs.length<64)
  (hk:2<=vs.length->wpAny (model prog w) A (keyKind' vs.toArray) (λκ s'=>(kas_sort vs.length).kasWp (kas_ask prog w A κ vs) (λp s''=>s''={s with heap:=Dr s.heap D vs}/\G p) s') (λ_ _=>False) {s with heap:=Dr s.heap D vs})
  (h1:vs.length<2->G^eV^eZ vs.length) (hfin:∀(p:Array Nat) (h':eC) (c:Nat),p.size=vs.length->G p->(∀b o,b≠D->s.heap.get? b=P3 o->h'.get? b=P3 o)->h'.get? D=P3^seqObj "list" (eV^p.toList.map λi=>vs.getD i fB) c->P (.done^.ret .none) {s with heap:=h'}):
  wpAny (model prog w) A (iQ.«list.sort» #[[.ref D],[]]) P E s:=by
 let#[e1,ho6,ho1]:=Iu ho
 have fin:∀(p:Array Nat),p.size=vs.length->G p->P (.done^.ret .none) {s with heap:=(Dr s.heap D vs).update D^fG λ_=>eV^p.toList.map λi=>vs.getD i fB}:=λp hp hg=>by
  obtain⟨c2,hc2⟩:∃c2,((Dr s.heap D vs).update D^fG λ_=>eV^p.toList.map λi=>vs.getD i fB).get? D=P3^seqObj "list" (eV^p.toList.map λi=>vs.getD i fB) c2:=#[_,iF ho6 λ_=>eV^p.toList.map λi=>vs.getD i fB];exact hfin p _ c2 hp hg (λb o hb e=>(d_ _ _^fL hb).trans^HG hb e) hc2
 rw[list_sort_plain];refine Go (jR ho rfl ?_);refine Go (g8 ho rfl ?_ (by rw[dn,fA];lk) (dq _));refine Go (jb ho1 rfl ?_);refine Go (wpAny_newTuple ?_^by show vs.length<=_;rw[fA];lk);refine Go^jq ?_^dq _;refine gE ?_;show wpAny (model prog w) A _ P E {s with heap:=Dr s.heap D vs}
 dsimp only
 by_cases h2:vs.length<2
 .have h2':vs.toArray.size<2:=by rw[dn];exact h2
  rw[if_pos h2',if_pos h2'];refine Go^df ?_;rw[StateT.run_pure];refine Go^df ?_
  dsimp only
  refine Go (jb ho6 rfl ?_);have hsz:(eV^eZ vs.length).size=vs.length:=by simp
  have hout:(arrOf^SortSt.mk' general' (vs.toArray.zip vs.toArray) #[] 7 l_).map (·.2)=eV ((eV^eZ vs.length).toList.map λi=>vs.getD i fB):=by
   refine kat_snds rfl ?_;have e:=kas_range^vs.toArray.zip vs.toArray;rw[show(vs.toArray.zip vs.toArray).size=vs.length by simp]at e;exact e.symm
  rw[hout];refine Go (g8 ho6 rfl ?_ (dq _) (by rw[dn,Ev,fQ,hsz,fA];lk));simp only[bne_self_eq_false,gT,if_false];exact df^fin _ hsz^h1 h2
 .have h2':¬vs.toArray.size<2:=by rw[dn];exact h2
  rw[if_neg h2',if_neg h2'];refine Go^fM (hk^by lk) (λκ s0 hk=>?_) λ_ _ x=>x.elim
  refine Go (fM (kat_run (Q:=λst' s'=>∃p:Array Nat,p.size=vs.length/\arrOf st'=p.map^kas_item^vs.toArray.zip vs.toArray/\failedOf st'=l_/\s'={s with heap:=Dr s.heap D vs}/\G p)
   rfl (by lk) h64 (λp' st' s' a1 a2 a3 a4=>#[p',a1,a2,a3,a4]) hk) ?_ λ_ _ e=>e)
  rintro⟨⟨⟩,st'⟩ s' ⟨p,hp,har,hf,rfl,hg⟩
  dsimp only
  have hout:=kat_snds rfl har;have hsz:(eV^p.toList.map λi=>vs.getD i fB).size=vs.length:=by rw[dn,Ev,fQ,hp]
  rw[hout];refine Go (jb ho6 rfl ?_);refine Go (g8 ho6 rfl ?_ (dq _) (eJ (jM hsz)^by rw[fA];lk));rw[hf];simp only[bne_self_eq_false,gT,if_false];exact df^fin p hp hg
theorem Qb{D:Ch}{f:Db}{vs:o_ Db}{n:Nat}{P:PySem.Fin->Rs->Prop}(ho:s.heap.get? D=P3^seqObj "list" vs.toArray n)(h64:vs.length<64)(J:o_ Db->Rs->Prop)(kS:Ch)(hkS:kS=s.heap.objs.size+1)
  (h0:∀e1,(Dr s.heap D vs).get? D=P3^seqObj "list" #[] e1->J [] {s with heap:=Dr s.heap D vs})
  (hstep:∀(ks:o_ Db) (s':Rs) (e:Nat) (v:Db),J ks s'->s'.heap.get? kS=P3^seqObj "list" ks.toArray e->vs[ks.length]?=P3 v->wpAny (model prog w) A (call f [v]) (λk s''=>s''.heap.get? kS=P3^seqObj "list" ks.toArray e/\J (ks++[k]) {s'' with heap:=s''.heap.update kS (fG (·.push k))}) (λ_ _=>False) s')
  (hend:∀(e1:Nat),(Dr s.heap D vs).get? D=P3^seqObj "list" #[] e1->∀(ks:o_ Db) (s':Rs),J ks s'->ks.length=vs.length->s'.heap.get? D=P3^seqObj "list" #[] e1/\∃G:Array Nat->Prop,
   (2<=vs.length->wpAny (model prog w) A (keyKind' ks.toArray) (λκ s2=>(kas_sort vs.length).kasWp (kas_ask prog w A κ ks) (λp s''=>s''=s'/\G p) s2) (λ_ _=>False) s')/\(vs.length<2->G^eV^eZ vs.length) /\
   ∀(p:Array Nat) (h':eC) (c:Nat),p.size=vs.length->G p->(∀b o,b≠D->b≠kS->s'.heap.get? b=P3 o->h'.get? b=P3 o)->h'.get? D=P3^seqObj "list" (eV^p.toList.map λi=>vs.getD i fB) c->(∃o,h'.get? kS=P3 o)->P (.done^.ret .none) {s' with heap:=h'}):
  wpAny (model prog w) A (ksk_tree D f n_) P E s:=by
 let#[e1,ho6,ho1]:=Iu ho;have hsz1:((s.heap.update D^fG λ_=>(#[]:Array Db)).push^seqObj "tuple" vs.toArray 0).objs.size=kS:=by rw[j1,Heap.size_update,hkS]
 have hD:D<s.heap.objs.size:=Uf ho;have hDk:D≠kS:=by rw[hkS];exact eB^f_ hD
 have hk0:(Dr s.heap D vs).get? kS=P3^seqObj "list" #[] 0:=by rw[←hsz1];exact T0 _ rfl
 unfold ksk_tree;refine Go (jR ho rfl ?_);refine Go (g8 ho rfl ?_ (by rw[dn,fA];lk) (dq _));refine Go (jb ho1 rfl ?_);refine Go (wpAny_newTuple ?_^by show vs.length<=_;rw[fA];lk);refine Go^jq ?_^dq _;refine gE ?_;show wpAny (model prog w) A (ksk_rest D f n_ vs.toArray e1^.ref ((s.heap.update D^fG λ_=>(#[]:Array Db)).push^seqObj "tuple" vs.toArray 0).objs.size) P E {s with heap:=Dr s.heap D vs};rw[hsz1];unfold ksk_rest;refine Go^jO ?_
 first
  |rw[List.forIn_toArray]
  |(rw[←Array.forIn_toList];simp only[List.toList_toArray])
  |rw[←Array.forIn_toList]
 refine Go^ksk_fold (I:=λi s'=>∃ks e,iI ks=i/\J ks s'/\s'.heap.get? kS=P3^seqObj "list" ks.toArray e) vs 0 _ #[[],0,rfl,h0 e1 ho6,hk0] (λj x s' hx hI=>?_) λs' hI=>?_
 .let#[ks,e,hl,hJ,hk]:=hI
  have hj:j<vs.length:=(de.mp hx).1;have hl:ks.length=j:=by lk
  refine Go^wpAny_attempt^fM (hstep ks s' e x hJ hk^by rw[hl];exact hx) (λk s'' hk2=>?_) λ_ _ hF=>hF.elim;have ea:(eV ks).push k=eV (ks++[k]):=by simp
  obtain⟨c2,hc2⟩:∃c2,(s''.heap.update kS (fG (·.push k))).get? kS=P3^seqObj "list" (eV (ks++[k])) c2:=#[_,by rw[←ea];exact iF hk2.1 (·.push k)]
  try dsimp only
  refine Go (g8 hk2.1 rfl ?_ (by rw[dn,fA];lk) (eJ (jM (Array.size_push ..))^by rw[dn,fA];lk));exact df #[rfl,ks++[k],c2,by rw[XV,d8];lk,hk2.2,hc2]
 .let#[ks,e,hl,hJ,hk]:=hI
  have hl:ks.length=vs.length:=by lk
  let#[hD',G,g2,g1,g3]:=hend e1 ho6 ks s' hJ hl
  try dsimp only
  refine Go (jR hk rfl ?_)
  have tail:∀(st:SortSt) (p:Array Nat),p.size=vs.length->G p->(arrOf st).map (·.2)=eV (p.toList.map λi=>vs.getD i fB)->failedOf st=l_->wpAny (model prog w) A (ksk_tail D n_ e1 (.ref kS) st) P E s':=λst p hp hg hout hf=>by
   have hsz:(eV^p.toList.map λi=>vs.getD i fB).size=vs.length:=by rw[dn,Ev,fQ,hp]
   obtain⟨ck,hck⟩:∃ck,(s'.heap.update kS^fG λ_=>(#[]:Array Db)).get? kS=P3^seqObj "list" #[] ck:=#[_,iF hk λ_=>#[]];have hD2:(s'.heap.update kS^fG λ_=>(#[]:Array Db)).get? D=P3^seqObj "list" #[] e1:=(d_ _ _^fL hDk).trans hD';obtain⟨c2,hc2⟩:∃c2,((s'.heap.update kS^fG λ_=>(#[]:Array Db)).update D^fG λ_=>eV^p.toList.map λi=>vs.getD i fB).get? D=P3^seqObj "list" (eV^p.toList.map λi=>vs.getD i fB) c2:=#[_,iF hD2 λ_=>eV^p.toList.map λi=>vs.getD i fB];unfold ksk_tail
   try dsimp only
   rw[hout];refine Go (g8 hk rfl ?_ (by rw[dn,fA];lk) (dq _));refine Go^iK ?_;refine Go (jb hD2 rfl ?_);refine Go (g8 hD2 rfl ?_ (dq _) (eJ (jM hsz)^by rw[fA];lk));rw[hf];simp only[bne_self_eq_false,gT,if_false];refine df^g3 p _ c2 hp hg (λb o hb1 hb2 e=>(d_ _ _^fL hb1).trans^(d_ _ _^fL hb2).trans e) hc2 #[_,(d_ _ _ hDk).trans hck]
  unfold ksk_end
  try dsimp only
  simp only[gT,if_false]
  by_cases h2:vs.length<2
  .have h2':vs.toArray.size<2:=by rw[dn];exact h2
   rw[if_pos h2',if_pos h2'];refine Go^df ?_;rw[StateT.run_pure];refine Go^df ?_
   try dsimp only
   refine tail _ (eV^eZ vs.length) (by simp) (g1 h2) (kat_snds hl ?_) rfl;have er:=kas_range^ks.toArray.zip vs.toArray;rw[show(ks.toArray.zip vs.toArray).size=vs.length by simp[hl]]at er;exact er.symm
  .have h2':¬vs.toArray.size<2:=by rw[dn];exact h2
   rw[if_neg h2',if_neg h2'];refine Go^fM (g2^by lk) (λκ s0 hk=>?_) λ_ _ x=>x.elim
   refine Go (fM (kat_run (Q:=λst' s2=>∃p:Array Nat,p.size=vs.length/\arrOf st'=p.map^kas_item^ks.toArray.zip vs.toArray/\failedOf st'=l_/\s2=s'/\G p)
    hl (by lk) h64 (λp' st' s2 a1 a2 a3 a4=>#[p',a1,a2,a3,a4]) hk) ?_ λ_ _ e=>e)
   rintro⟨⟨⟩,st'⟩ s2 ⟨p,hp,har,hf,rfl,hg⟩
   try dsimp only
   exact tail st' p hp hg (kat_snds hl har) hf
end
section
variable {X:Cx}{zG:o_ (Addr×Obj)}{Z:L2.St}{H:Hp}{s:Shared}{h':Heap}
structure RN (X:Cx) (zG:List (Ch×Obj)) (D:Ch):Prop where
 new:X.s₀.heap.objs.size<=D
 loc:D≠X.env.locals
 cell:∀x c,X.env.cells.lookup x=P3 c->c≠D
 pin:∀p∈X.pn++zG,p.1≠D
 fs:D∉X.fs
theorem Inv.mine(I:Inv X zG Z H s){D:Ch}(h:s.heap.objs.size<=D):RN X zG D:=by
 refine#[eJ I.sz h,λz=>?_,λx c e z=>?_,λp hp z=>?_,I.nofs h]
 .have:=I.lt
  rw[←z]at this;exact absurd this^iw.mpr h
 .let#[v,o,ho,_]:=I.cell x c e
  have:=Uf ho
  rw[z]at this;exact absurd this^iw.mpr h
 .let#[e,_]:=I.pin p hp
  have:=Uf e
  rw[z]at this;exact absurd this^iw.mpr h
structure KeysAt (K:Frag) (H:Hp) (vs:List V) (keys:List^List Key):Prop where
 len:vs.length=keys.length
 at_:∀(i:Nat) (ns:List Key),keys[i]?=P3 ns->∃a,vs[i]?=P3^.ref a/\SqT K H a (ns.map kOf)
 same:∀x∈keys,∀y∈keys,CL x y=m_
 ne:∀x∈keys,x≠[]
def LA(keys:o_^o_ Key)(ix:o_ Nat):Prop:=ix.Perm^eZ keys.length/\∀i j,i<=j->j<keys.length->BB (keys.getD (ix.getD j 0) [])^keys.getD (ix.getD i 0) []=n_
theorem KeysAt.tups{vs:o_ V}{us:o_ Db}{keys:o_^o_ Key}(I:Inv X zG Z H s)(r:Vals vs us)(k:KeysAt X.K H vs keys){h':eC}(hk:∀b o,s.heap.get? b=P3 o->h'.get? b=P3 o):Pz h' us keys:=by
 refine#[λi ns e=>?_,r.length.symm.trans k.len,k.same,k.ne];let#[a,e1,h1]:=k.at_ i ns e;let#[u,e2,r2]:=r.get e1;cases r2;let#[its,r3,#[o,ho,hc,n,hd],_]:=I.tuple h1;exact#[a,o,_,n,e2,hk a o ho,hc,hd,by grind]
theorem HC:∀{vs:o_ V}{us:o_ Db},Vals vs us->∀i:Nat,RelV (vs.getD i .non)^us.getD i fB
 |_,_,.nil,i=>by simp[RelV]
 |_,_,.cons r t,0=>by simpa using r
 |_,_,.cons r t,i+1=>by simpa using HC t i
theorem Ij{f:Nat->V}{g:Nat->Db}(h:∀i,RelV (f i)^g i):∀ix:o_ Nat,Vals (ix.map f)^ix.map g
 |[]=>.nil
 |i::ix=>.cons (h i)^Ij h ix
theorem getD_list(p:Array Nat)(i:Nat):p.getD i 0=p.toList.getD i 0:=by simp
theorem Se{keys:o_^o_ Key}{n:Nat}{p:Array Nat}(hn:keys.length=n)(h1:p.Perm^eV^eZ n)(h2:So.Srt QI (λi=>keys.getD i []) p n):LA keys p.toList:=by
 subst hn;refine#[Array.perm_iff_toList_perm.mp h1,λi j hij hj=>?_];have h:=h2 i j hij hj;unfold So.KN at h;rw[getD_list,getD_list]at h;exact h
theorem P_{A':eh}{E':Db->Rs->Prop}{vs:o_ V}{us:o_ Db}{keys:o_^o_ Key}{Q:VK}(I:Inv X zG Z H s)(r:Vals vs us)(h64:vs.length<64)(k:KeysAt X.K H vs keys)
  (q:∀(ix:o_ Nat) (l:Ch),LA keys ix->H l=l_->Q (.ref l)^BF H l^.lst^ix.map λi=>vs.getD i .non):
  wpAny (model X.prog X.w) A' (iQ.«list.sort» #[[.ref s.heap.objs.size],[]]) (λfin s'=>fin=.done^.ret .none/\EP X zG Z Q (.ref s.heap.objs.size) s') E' {s with heap:=s.heap.push^seqObj "list" us.toArray 0}:=by
 have hl:=r.length;have hkl:keys.length=us.length:=k.len.symm.trans hl;refine Mz (G:=λp=>p.Perm _/\So.Srt QI (λi=>keys.getD i []) p us.length) (n:=0) (T0 _ rfl) (by lk) (λh2=>?_) (λh1=>#[kP _,λi j hij hj=>?_]) λp h' c hp hg hold hD=>#[rfl,?_]
 .refine KQ (keys:=keys) (k.tups I r λb o e=>?_) h2 λp a b=>#[rfl,a,b]
  exact HG (eB^Uf e)^No _ e
 .have:i=j:=by lk
  subst this;exact gA _
 .have hf:H s.heap.objs.size=l_:=I.fresh
  have hix:(p.toList.map λi=>vs.getD i .non).length=us.length:=by grind
  refine#[.ref s.heap.objs.size,BF H s.heap.objs.size^.lst _,I.laid (t':=s.toks) (λb o e=>hold b o (eB^Uf e)^No _ e) (Re _) #[by rw[hix,←hl,fA];lk,_,c,Ij (HC r) p.toList,hD],rfl,q _ _ (Se hkl hg.1 hg.2) hf]
theorem NP{prog:eK}{w:eU}{A:eh}{E:Db->Rs->Prop}{s:Rs}{l:Ch}{vs:o_ Db}{Q:o_ Db->Rs->Prop}(hl:IsTup s.heap l vs.toArray)
  (h:Q vs {s with heap:=(s.heap.push^seqObj "list" #[] 0).update s.heap.objs.size (fG (·++vs.toArray))}) (hsz:vs.length<=sizeLine):
  wpAny (model prog w) A (collect^.ref l) Q E s:=by
 let#[o,ho,hc,n,hd]:=id hl;unfold collect;refine Go^wpAny_runValue^gB entry_proto_collect' ?_;show wpAny _ _ (do again (.builtin "list.__iadd__" #[[←newList [],.ref l],[]])) _ _ s;refine Go^jq^df #[Code.quiet_builtin _ (by decide +kernel),gB entry_list_iadd' ?_];show wpAny _ _ (gw (.ref s.heap.objs.size) (.ref l)^.ref s.heap.objs.size) _ _ {s with heap:=s.heap.push^seqObj "list" #[] 0};unfold gw;have ho':(s.heap.push^seqObj "list" #[] 0).get? l=P3 o:=No _ ho;refine Go^ii (T:="tuple") #[o,ho',hc] ?_;have ht:(fF "tuple"==fF "tuple")=m_:=by rfl
 rw[if_pos^by rw[ht];simp];refine Go^jR ho' hd ?_;refine Go (jR (xs:=#[]) (n:=0) (T0 _ rfl) rfl ?_);rw[if_neg^by simp];refine Go (g8 (xs:=#[]) (n:=0) (T0 _ rfl) rfl ?_ (dq _) (by show(#[]++vs.toArray).size<=sizeLine+1;simp only[Array.size_append,dn,f6];lk));refine df ?_
 show wpAny (model prog w) A (do
   let o ←load s.heap.objs.size
   match o.data with
   |.seq xs _=>pure xs.toList
   |_=>unsupported "internal:collect") Q E {s with heap:=(s.heap.push^seqObj "list" #[] 0).update s.heap.objs.size (fG (·++vs.toArray))}
 refine Go^wpAny_load (iF (T0 _ rfl) _) ?_;show wpAny _ _ (pure ((#[]:Array Db)++vs.toArray).toList) Q E _;rw[show((#[]:Array Db)++vs.toArray).toList=vs by simp];exact df h
theorem NR{h:eC}{g:Array Db->Array Db}{b:Ch}{o:Obj}(e:h.get? b=P3 o):((h.push^seqObj "list" #[] 0).update h.objs.size^fG g).get? b=P3 o:=
 (d_ _ _^fL^eB^Uf e).trans (No _ e)
theorem NQ{κ:Bool}{A':eh}{E':Db->Rs->Prop}{p:Ch}{vs:o_ V}{Q:o_ Db->Rs->Prop}(I:Inv X zG Z H s)(h:SqK κ X.K H p vs)(q:∀us s1,Vals vs us->vs.length<=sizeLine->Inv X zG Z H s1->Q us s1):
  wpAny (model X.prog X.w) A' (collect^.ref p) Q E' s:=by
 cases κ with
 |true=>
  let#[its,r,pl,hz]:=I.list h;exact collect_list pl.isList (q _ _ r hz^I.kept λb o e=>NR e)^by rw[←r.length];exact hz
 |false=>
  let#[its,r,pl,hz]:=I.tuple h;exact NP pl (q _ _ r hz^I.kept λb o e=>NR e)^by rw[←r.length];exact hz
def SA(K:Frag):o_ V->Hp->VK->Prop:=λxs H Q=>∃(κ:Bool) (p:Ch) (vs:o_ V) (keys:o_^o_ Key),xs=[.ref p]/\SqK κ K H p vs/\vs.length<64/\KeysAt K H vs keys /\
 ∀(ix:o_ Nat) (l:Ch),LA keys ix->H l=l_->Q (.ref l)^BF H l^.lst^ix.map λi=>vs.getD i .non
theorem Js:Cq X (.builtin "sorted")^SA X.K:=by
 intro zG s Z H xs us Q I r h;let#[κ,p,vs,keys,rfl,hq,h64,hk,q]:=h;let#[u,rfl,rx]:=vals1 r;cases rx;exact EV (args_sorted1 _) (λx=>args_list_sort _)^NQ I hq λus s1 r1 hz I1=>#[by rw[←r1.length];exact hz,P_ I1 r1 h64 hk q]
end
def Fi(H:Hp)(L:o_ Ch)(f:Ch->Obj):Hp:=λb=>if b∈L then(H b).map^HO.frz^f b else H b
theorem Di{H:Hp}{L:o_ Ch}{f:Ch->Obj}{b:Ch}(h:b∉L):Fi H L f b=H b:=by unfold Fi;rw[if_neg h]
theorem Ls{H:Hp}{L:o_ Ch}{f:Ch->Obj}{b:Ch}{o:HO}(h:b∈L)(e:H b=P3 o):Fi H L f b=P3^.frz (f b) o:=by unfold Fi;grind
section
variable {X:Cx}{zG:o_ (Addr×Obj)}{Z:L2.St}{H:Hp}{s:Shared}
theorem Inv.frz{L:o_ Ch}(I:Inv X zG Z H s)(hL:∀b∈L,∃kvs,H b=P3^.dK kvs):∃f,Inv X zG Z (Fi H L f) s:=by
 have keep:∀(f:Ch->Obj) b o,H b=P3 o->(∀kvs,o≠.dK kvs)->Fi H L f b=P3 o:=λf b o e n=>by
  rw[Di λhm=>by grind];exact e
 refine#[λb=>(s.heap.get? b).getD {cls:=.none,data:=.fields #[]},?_];refine I.step (g':=s.gens) (d':=s.drawn) (t':=s.toks) (h':=s.heap) (ch:=[]) (λ_ z=>nomatch z) (λ_ _ _ _ _ e _=>e) (λb o _ _ _ e _=>#[o.slots,e]) (λb o _ e n=>?_) (λb o _ e=>#[o,e]) (λb xs e=>keep _ b _ e λ_ z=>by cases z) (λb o u e=>keep _ b _ e λ_ z=>by cases z) (λb ps e=>#[#[],by grind]) (λ_ h=>h) (λb u e=>?_) I.bare
 .unfold Fi
  simp_all
 .by_cases hb:b∈L
  .let#[kvs,e2]:=hL b hb
   rw[Ls hb e2]at e;cases e;let#[z,y,vs,r,ob,es,ep,e3,c]:=(show ObjOk X.prog X.w H s.heap b^.dK kvs from I.hok b _ e2);exact#[by rw[e3];rfl,z,y,vs,r,ob,es,ep,e3,c]
  .rw[Di hb]at e
   exact(I.hok b u e).stay (λ_ _ _ q=>q) (λc q=>keep _ c _ q λ_ z=>by cases z) λc xs q=>keep _ c _ q λ_ z=>by cases z
def bP(t:TE):TE:=λZ H Q=>t Z H λv H1=>∃L:o_ Ch,(∀b∈L,∃kvs,H1 b=P3^.dK kvs)/\∀f:Ch->Obj,Q v^Fi H1 L f
theorem Sa{e:eO}{t:TE}(h:PE X e t):PE X e^bP t:=by
 intro zG s Z H Q I hq;refine thn (h _ s Z H _ I hq) λu s1 zz=>?_;let#[v,H1,I1,r,L,hL,q]:=zz;let#[f,I2]:=I1.frz hL;exact#[v,_,I2,r,q f]
end
end L2
namespace Nt
open L2 Dp
def D8(ts:o_ Tie)(p:Str):o_ (Str×Int):=ts.flatMap λt=>(if t.a=p then [(t.b,t.len)]else [])++(if t.b=p then [(t.a,t.len)]else [])
def Sk(ts:o_ Tie)(p:Str):D:=.fdi ((D8 ts p).map λx=>.inr x.1)^(D8 ts p).map λx=>.int x.2
def ET(N:Net):D:=.dic (N.ps.map .inr)^N.ps.map^Sk N.ts
def T7:W2:=λss n P=>∃N:Net,ss=[.sh^enc N]/\N.Ok/\N.ps.length<=1000/\N.ts.length<=1000/\P (ET N) n
def kv(x:Str×Int):Key×V:=(.inr x.1,.int x.2)
structure Stp (H:Hp) (d:Ch) (as:List (Str×Ch)) (tb:Str->List (Key×V)) (H':Hp):Prop where
 old:∀b o,H b=P3 o->H' b=P3 o
 new:H d=l_
 top:H' d=P3 (.dK^as.map λx=>(.inr x.1,.ref x.2))
 inn:∀x∈as,H x.2=l_/\x.2≠d/\H' x.2=P3 (.dK^tb x.1)
 ads:(as.map (·.2)).Nodup
 nms:(as.map (·.1)).Nodup
theorem IH{as:o_ (Str×Ch)}(hn:(as.map (·.1)).Nodup){p:Str}{a:Ch}(h:(p,a)∈as):Es (as.map λx=>((.inr x.1:Key),V.ref x.2))^.inr p=P3^.ref a:=by
 induction as with
 |nil=>cases h
 | cons x r ih=>
  rw[e8,eI]at hn
  rcases UF.mp h with e|h
  .rw[←e]
   exact Ez rfl
  .exact(E3 λe=>hn.1^by rw[hX e];exact TW.mpr #[_,h,rfl]).trans^ih hn.2 h
theorem Ny{as:o_ (Str×Ch)}{p:Str}{v:V}(h:p∉as.map (·.1)):putK (as.map λx=>((.inr x.1:Key),V.ref x.2)) (.inr p) v=(as.map λx=>((.inr x.1:Key),V.ref x.2))++[(.inr p,v)]:=by
 unfold putK
 simp_all
theorem O5{xs:o_ (Str×Int)}{p:Str}{l:Int}(h:p∉xs.map (·.1)):putK (xs.map kv) (.inr p)^.int l=(xs++[(p,l)]).map kv:=by
 unfold putK;rw[if_neg,eX]
 .rfl
 .rw[h9]
  rintro⟨y,hy,e⟩;let#[x,hx,rfl]:=TW.mp hy;exact h^TW.mpr #[x,hx,hX^of_decide_eq_true e]
theorem Stp.more{H H':Hp}{d q:Ch}{as:o_ (Str×Ch)}{tb:Str->o_ (Key×V)}{p:Str}(s:Stp H d as tb H')(hq:H' q=l_)(hp:p∉as.map (·.1))(ht:tb p=[]):
  Stp H d (as++[(p,q)]) tb (BF (BF H' q^.dK []) d^.dK^putK (as.map λx=>((.inr x.1:Key),V.ref x.2)) (.inr p)^.ref q):=by
 have nq:q≠d:=λe=>by rw[e,s.top]at hq;cases hq
 have hHq:H q=l_:=by
  cases c:H q with
  |none=>rfl
  |some o=>rw[s.old q o c]at hq;cases hq
 refine#[λb o e=>?_,s.new,?_,λx hx=>?_,?_,?_]
 .have n1:b≠d:=λz=>by rw[z,s.new]at e;cases e
  have n2:b≠q:=λz=>by rw[z,hHq]at e;cases e
  rw[AO n1,AO n2];exact s.old b o e
 .rw[AW,Ny hp,eX];rfl
 .rcases ZB.mp hx with hx|hx
  .let#[h1,h2,h3]:=s.inn x hx
   have n2:x.2≠q:=λz=>by rw[z,hq]at h3;cases h3
   exact#[h1,h2,by rw[AO h2,AO n2];exact h3]
  .rw[On.mp hx]
   exact#[hHq,nq,by rw[AO nq,AW,ht]]
 .rw[eX,eP]
  refine#[s.ads,eI.mpr #[(λh=>by cases h),ef],λa ha b hb e=>?_];let#[x,hx,rfl]:=TW.mp ha;have hb:b=q:=On.mp hb;let#[h1,h2,h3]:=s.inn x hx;rw[e,hb,hq]at h3;cases h3
 .rw[eX,eP]
  refine#[s.nms,eI.mpr #[(λh=>by cases h),ef],λa ha b hb e=>?_];have hb:b=p:=On.mp hb;exact hp^by rw[←hb,←e];exact ha
theorem QQ{as:o_ (Str×Ch)}(hn:(as.map (·.1)).Nodup){p:Str}{a b:Ch}(h1:(p,a)∈as)(h2:(p,b)∈as):a=b:=by
 have:=(IH hn h1).symm.trans^IH hn h2
 grind
theorem QP{as:o_ (Str×Ch)}(hn:(as.map (·.2)).Nodup){p q:Str}{a:Ch}(h1:(p,a)∈as)(h2:(q,a)∈as):p=q:=by
 induction as with
 |nil=>cases h1
 | cons x r ih=>
  rw[e8,eI]at hn
  rcases UF.mp h1 with e1|g1
  .rcases UF.mp h2 with e2|g2
   .grind
   .exact absurd (TW.mpr #[_,g2,by rw[←e1]]) hn.1
  .rcases UF.mp h2 with e2|g2
   .exact absurd (TW.mpr #[_,g1,by rw[←e2]]) hn.1
   .exact ih hn.2 g1 g2
theorem Stp.put{H H':Hp}{d a:Ch}{as:o_ (Str×Ch)}{tb tb2:Str->o_ (Key×V)}{p:Str}{kvs:o_ (Key×V)}(s:Stp H d as tb H')(ha:(p,a)∈as)(h1:tb2 p=kvs)(h2:∀q,q≠p->tb2 q=tb q):
  Stp H d as tb2 (BF H' a^.dK kvs):=by
 let#[i1,i2,i3]:=s.inn _ ha;refine#[λb o e=>?_,s.new,?_,λx hx=>?_,s.ads,s.nms]
 .have n1:b≠a:=λz=>by grind
  rw[AO n1];exact s.old b o e
 .rw[AO^fL i2]
  exact s.top
 .let#[g1,g2,g3]:=s.inn x hx
  refine#[g1,g2,?_]
  by_cases e:x.2=a
  .have:=QP s.ads (show(x.1,a)∈as by grind) ha
   rw[e,AW,this,h1]
  .have:x.1≠p:=λz=>e^QQ s.nms (show(p,x.2)∈as by grind) ha
   rw[AO e,h2 _ this];exact g3
theorem Mt(ts:o_ Tie)(t:Tie)(p:Str):D8 (ts++[t]) p=D8 ts p++((if t.a=p then [(t.b,t.len)]else [])++(if t.b=p then [(t.a,t.len)]else [])):=by
 unfold D8
 simp_all
theorem Ll{ts:o_ Tie}{p q:Str}(h:q∈(D8 ts p).map (·.1)):∃t∈ts,(t.a=p/\t.b=q)\/(t.b=p/\t.a=q):=by
 let#[x,hx,rfl]:=TW.mp h;let#[t,ht,hx]:=gQ.mp hx;refine#[t,ht,?_]
 rcases ZB.mp hx with hx|hx
 .simp_all
 simp_all
theorem PC(ts:o_ Tie)(p:Str):(D8 ts p).length<=2*ts.length:=by
 induction ts with
 |nil=>exact dq _
 |cons t r ih=>
  unfold D8 at ih ⊢;rw[i9,XV,XV];have h1:(if t.a=p then [(t.b,t.len)]else []).length<=1:=by grind
  grind
theorem TR{ts:o_ Tie}{t:Tie}(hp:(ts++[t]).Pairwise Bm)(hlt:∀s∈ts++[t],cs s.a<cs s.b):t.b∉(D8 ts t.a).map (·.1)/\t.a∉(D8 ts t.b).map (·.1):=by
 rw[hU]at hp
 have key:∀s∈ts,¬((s.a=t.a/\s.b=t.b)\/(s.b=t.a/\s.a=t.b)):=λs hs e=>by
  have h1:=hp.2.2 s hs t (On.mpr rfl);have h2:=hlt s^Tk _ hs;have h3:=hlt t^TM _ (On.mpr rfl)
  rcases e with⟨e1,e2⟩|⟨e1,e2⟩
  .unfold Bm at h1
   grind
  grind
 refine#[λh=>?_,λh=>?_]
 .let#[s,hs,e]:=Ll h
  exact key s hs e
 .let#[s,hs,e]:=Ll h
  exact key s hs^e.elim (λz=>.inr #[z.2,z.1]) λz=>.inl #[z.2,z.1]
theorem LP{xs:o_ Str}(h:rising xs):xs.Nodup:=h.imp λ{a b} hlt e=>by grind
theorem OB{xs:o_ Str}(h:xs.Nodup){i:Nat}(hi:i<xs.length):xs[i]∉xs.take i:=by
 have e:xs=xs.take i++xs[i]::xs.drop (i+1):=by
  simp_all
 intro hm;rw[e,eP]at h;exact h.2.2 _ hm _ FM rfl
theorem Stp.at_{K:Frag}{M:Ch->Prop}{H H':Hp}{d:Ch}{as:o_ (Str×Ch)}{N:Net}(dom:∀a,M a->∃o,H a=P3 o)(s:Stp H d as (λp=>(D8 N.ts p).map kv) H')(hp:as.map (·.1)=N.ps)(f:Ch->Obj):At K M (Fi H' (as.map (·.2)) f) (ET N)^.ref d:=by
 have nd:∀b,H b=l_->¬M b:=λb e m=>by let#[o,h]:=dom b m;rw[h]at e;cases e
 have zip1:∀as:o_ (Str×Ch),(as.map λx=>((.inr x.1:Key),V.ref x.2))=((as.map (·.1)).map (.inr:Str->Key)).zip (as.map λx=>V.ref x.2):=λas=>by
  grind
 refine#[d,as.map λx=>.ref x.2,rfl,#[nd d s.new,by rw[Di (λhm=>by let#[x,hx,e]:=TW.mp hm;exact(s.inn x hx).2.1 e),s.top,zip1,hp]],by rw[Ev,Ev],?_];rw[←hp]
 have go:∀bs:o_ (Str×Ch),(∀x∈bs,x∈as)->Ats K M (Fi H' (as.map (·.2)) f) ((bs.map (·.1)).map^Sk N.ts) (bs.map λx=>V.ref x.2):=λbs=>by
  induction bs with
  |nil=>intro _;rfl
  | cons x r ih=>
   intro hx;refine#[.ref x.2,r.map λx=>V.ref x.2,rfl,?_,ih λy hy=>hx y^Sc _ hy];let#[g1,g2,g3]:=s.inn x^hx x FM
   have zip2:∀xs:o_ (Str×Int),xs.map kv=(xs.map λx=>(.inr x.1:Key)).zip (xs.map λx=>V.int x.2):=λxs=>by
    induction xs with
    |nil=>rfl
    |cons x r ih=>rw[e8,ih];rfl
   refine#[x.2,(D8 N.ts x.1).map λx=>V.int x.2,rfl,#[f x.2,nd _ g1,by rw[Ls (TW.mpr #[x,hx x FM,rfl]) g3,zip2]],by rw[Ev,Ev],?_];generalize D8 N.ts x.1=xs
   induction xs with
   |nil=>rfl
   |cons x r ih=>exact#[.int x.2,_,rfl,rfl,ih]
 exact go as λ_ h=>h
end Nt
namespace L2
open PySem.W
section
variable {X:Cx}{zG:o_ (Addr×Obj)}{Z:L2.St}{H:Hp}{s:Shared}{h':Heap}
theorem Inv.adopt2{D e:Ch}{o:HO}(I:Inv X zG Z H s)(m:RN X zG D)(hn:H D=l_)(m2:RN X zG e)(hn2:H e=l_)(hne:D≠e)(k:∀b u,b≠D->b≠e->s.heap.get? b=P3 u->h'.get? b=P3 u)(new:ObjOk X.prog X.w (BF H D o) h' D o):Inv X zG Z (BF H D o) {s with heap:=h'}:=by
 have nin:∀b,b∉[D,e]->b≠D/\b≠e:=λb hc=>#[λz=>hc (by rw[z];exact FM),λz=>hc^by rw[z];exact Sc _ (On.mpr rfl)]
 refine I.step (g':=s.gens) (d':=s.drawn) (t':=s.toks) (ch:=[D,e]) (λb hb=>?_) (λb u _ _ hc q _=>k b u (nin b hc).1 (nin b hc).2 q) (λb u _ _ hc q _=>#[u.slots,k b u (nin b hc).1 (nin b hc).2 q]) (λb u hc q n=>?_)
  (λb u hc q=>#[u,k b u (nin b hc).1 (nin b hc).2 q]) (λb xs q=>?_) (λb u v q=>?_) (λb ps q=>#[#[],?_]) (λmm hm=>?_) (λb u q=>?_) I.bare
 .rcases UF.mp hb with rfl|hb
  .exact#[.inr m.new,m.loc,m.cell,m.pin]
  .rw[On.mp hb]
   exact#[.inr m2.new,m2.loc,m2.cell,m2.pin]
 .rw[AO (nin b hc).1];exact n
 .rw[AO^Aq q hn];exact q
 .rw[AO^Aq q hn];exact q
 .rw[AO^Aq q hn,q];simp
 .let#[u,es,ep,ho,r]:=hm
  exact#[u,es,ep,k _ u (fL m.loc) (fL m2.loc) ho,r]
 .by_cases hb:b=D
  .subst hb;rw[AW]at q;cases q;exact new
  .rw[AO hb]at q
   refine(I.hok b u q).stay (λc v hc q2=>k c v ?_ ?_ q2) (λc q2=>by rw[AO^Aq q2 hn];exact q2) λc xs q2=>by rw[AO^Aq q2 hn];exact q2
   .grind
   grind
def XH(K:Frag)(sp:Sp)(te:TE):TE:=λZ H Q=>te Z H λx H1=>∃(κ:Bool) (l:Ch) (vs:o_ V) (keys:o_^o_ Key) (J:o_ V->Hp->Prop),x=.ref l/\SqK κ K H1 l vs/\vs.length<64/\J [] H1 /\
 (∀ks H2 v,J ks H2->vs[ks.length]?=P3 v->sp [v] H2 (λk H3=>J (ks++[k]) H3) E0) /\
 ∀ks H2,J ks H2->ks.length=vs.length->KeysAt K H2 ks keys/\∀(ix:o_ Nat) (l:Ch),LA keys ix->H2 l=l_->Q (.ref l)^BF H2 l^.lst^ix.map λi=>vs.getD i .non
theorem SY{k:Nat}{f:Ch}{fd:fJ}{pn fn:Str}{sp:Sp}{te:TE}{e:eO}{p fp kp pos:Pos}(F:FnOk X.prog X.w X.K X.mg X.base G6 k f fd [pn] sp)(hr:Room (k+2) X.A)(hg:Gl X "sorted")(hm:X.mg "sorted"=l_)
  (hgf:Gl X fn) (hmf:X.mg fn=P3^.ref f) (hb:Binds X.K fd [pn] []) (he:PE X e te) (hs:starEach [e] X.env=[(n_,eval e X.env)]:=by rfl) (hdf:(fn==("__debug__":Str))=n_:=by decide):
  PE X (.Call (.Name "sorted" p) [e] [#[P3 "key",.Name fn fp,kp]] pos) (XH X.K sp te):=by
 intro zG s Z H Q I h;refine gC^Dg I hg hm jA ?_
 refine callWith_kw (thn (B_ he De hs pos zG s Z H (λvs H1=>∃x,vs=[x]/\∃(κ:Bool) (l:Ch) (vs:o_ V) (keys:o_^o_ Key) (J:o_ V->Hp->Prop),x=.ref l/\SqK κ X.K H1 l vs/\vs.length<64/\J [] H1 /\
   (∀ks H2 v,J ks H2->vs[ks.length]?=P3 v->sp [v] H2 (λk H3=>J (ks++[k]) H3) E0) /\
   ∀ks H2,J ks H2->ks.length=vs.length->KeysAt X.K H2 ks keys/\∀(ix:o_ Nat) (l:Ch),LA keys ix->H2 l=l_->Q (.ref l)^BF H2 l^.lst^ix.map λi=>vs.getD i .non) I ?first) λus s1 #[xs,H1,I1,r1,q1]=>kws_cons^Lp I1 hgf hmf (kws_nil ?_) hdf) (by rw[hs];rfl)^by rw[hs];rfl
 case first=>
  show te Z H _;refine cast (congrArg (te Z H) ?_) h
  funext x H1
  refine propext #[λz=>#[x,rfl,z],fun#[y,e,z]=>?_];cases e;exact z
 let#[x,rfl,κ,l,vs,keys,J,rfl,hq,h64,j0,jstep,jend]:=q1;let#[u,rfl,ru]:=vals1 r1;cases ru;show wpAny (model X.prog X.w) X.A (call (.builtin "sorted") [.ref l] [(fu "key",.ref f)]) _ _ s1;refine EV (ksk_s1 _ _) (λx=>ksk_l1 _ _)^NQ I1 hq λus s2 r2 hz I2=>#[by rw[←r2.length];exact hz,?_];rw[ksk_t1];have hl:=r2.length;generalize hD:s2.heap.objs.size=D;have hsz3:(s2.heap.push^seqObj "list" us.toArray 0).objs.size=D+1:=by rw[j1,hD]
 have hoD:(s2.heap.push^seqObj "list" us.toArray 0).get? D=P3^seqObj "list" us.toArray 0:=by rw[←hD];exact T0 _ rfl
 have mD:RN X zG D:=I2.mine (by rw[hD];exact Re _);have mK:RN X zG (D+2):=I2.mine (by rw[hD];exact kF _ _);have nD:H1 D=l_:=I2.hok.fresh (by rw[hD];exact Re _);have nK:H1 (D+2)=l_:=I2.hok.fresh (by rw[hD];exact kF _ _);have hne:D≠D+2:=eB^f_^iS D;have nstk:∀b,RN X zG b->b∉PP X.stack:=λb m z=>(UF.mp^I2.stkSub b z).elim m.loc m.fs
 refine Qb (s:={s2 with heap:=s2.heap.push^seqObj "list" us.toArray 0}) (n:=0) hoD (by rw[←hl];exact h64)
  (λks s'=>∃kV H',Vals kV ks/\J kV H'/\Inv X zG Z H' s'/\H' D=l_/\H' (D+2)=l_/\s'.heap.get? D=(Dr (s2.heap.push^seqObj "list" us.toArray 0) D us).get? D) (D+2) (by show D+2=(s2.heap.push _).objs.size+1;rw[hsz3]) (λe1 he1=>?_) (λks s' e v hJ hk hv=>?_) λe1 he1 ks s' hJ hkl=>?_
 .refine#[[],H1,.nil,j0,?_,nD,nK,rfl]
  exact I2.kept (t':=s2.toks) λb o q=>HG (by rw[←hD];exact eB^Uf q)^No _ q
 .let#[kV,H',rk,hJ,I',n1,n2,hD']:=hJ
  have hi:ks.length<us.length:=(de.mp hv).1;have hvi:vs[kV.length]?=P3 (vs[kV.length]'(by rw[rk.length];lk)):=Op _;let#[u',e2,ru]:=r2.get hvi;rw[rk.length,hv]at e2;cases e2;have hsp:=jstep kV H' _ hJ hvi;have E1:Env0 X.prog X.w X.K X.mg X.base X.A.in1.in1 X.stack s' H':=I'.env0.in1.in1;refine wpAny_call^j_ (F.run X.A.in1.in1 X.stack s' H' #[[v],[]] [v] _ _ E0 (hr.in1).in1 E1 (by simpa using hb s' [v] I'.kIn rfl) (.cons ru .nil) hsp) λr s'' hq'=>?_;cases r with
  |error e=>exact gF hq'
  | ok fl=>
   cases fl with
   |next=>exact gF hq'
   |brk=>exact gF hq'
   |cont=>exact gF hq'
   | ret u=>
    let#[w',H3,os,bare,un,hok,rw',q3]:=id hq'
    obtain⟨oD,eD⟩:∃o,s'.heap.get? D=P3 o:=by
     let#[c,hc,_]:=Iu hoD;exact#[_,hD'.trans hc]
    have kD:s''.heap.get? D=P3 oD:=un.keep D oD eD n1 (nstk D mD) (by simp);have kK:s''.heap.get? (D+2)=P3^seqObj "list" ks.toArray e:=un.keep _ _ hk n2 (nstk _ mK) (by simp);have f1:H3 D=l_:=un.free D oD eD n1 (by simp);have f2:H3 (D+2)=l_:=un.free _ _ hk n2 (by simp);have I3:Inv X zG Z H3 s'':=I'.call' os un hok bare (λb z=>absurd z^by simp);refine#[kK,kV++[w'],H3,rk.append^.cons rw' .nil,q3,?_,f1,f2,?_]
    .exact I3.turned (t':=s''.toks) (λb o hb q=>(d_ _ _^fL hb).trans q) f2 mK.loc (.inr mK.new) mK.cell mK.pin
    .show(s''.heap.update (D+2) _).get? D=_
     rw[d_ _ _^fL hne,kD,←eD,hD']
 .let#[kV,H',rk,hJ,I',n1,n2,hD']:=hJ
  let#[hka,q]:=jend kV H' hJ (by rw[rk.length,hkl,hl]);have hkk:keys.length=us.length:=by rw[←hka.len,rk.length,hkl]
  refine#[hD'.trans he1,λp=>p.Perm^eV^eZ us.length/\So.Srt QI (λi=>keys.getD i []) p us.length,λh2=>?_,λh1=>#[kP _,λi j hij hj=>?_],λp h' c hp hg hold hDn _=>#[rfl,?_]]
  .have ts:=KQ (prog:=X.prog) (w:=X.w) (A:=X.A.in1.in1) (keys:=keys) (hka.tups I' rk λb o e=>e) (by lk) (G:=λp s''=>s''=s'/\p.Perm^eV^eZ us.length/\So.Srt QI (λi=>keys.getD i []) p us.length) λp a b=>#[rfl,by rw[←hkl];exact a,by rw[←hkl];exact b]
   rw[hkl]at ts;exact ts
  .have:i=j:=by lk
   subst this;exact gA _
  .have hix:(p.toList.map λi=>vs.getD i .non).length=us.length:=by rw[Ev,fQ,hp]
   refine#[.ref D,BF H' D^.lst^p.toList.map λi=>vs.getD i .non,I'.adopt2 mD n1 mK n2 hne hold #[by rw[hix,←hl,fA];lk,_,c,Ij (HC r2) p.toList,hDn],rfl,q _ _ (Se hkk hg.1 hg.2) n1]
theorem Xx{P:eK}{w:eU}{k:Key}{u:Db}(h:(A_ P w).is k u=m_):RelV (kOf k) u:=by
 rcases BM h with⟨i,t,rfl,rfl⟩|⟨x,t,rfl,rfl⟩
 .exact#[t,rfl]
 .exact#[t,rfl]
theorem Gb{α β:Type}{F:α->β->Prop}:∀{l₁:o_ α}{l₂:o_ β}{j:Nat}{a:α}{b:β},Paired F l₁ l₂->l₁[j]?=P3 a->l₂[j]?=P3 b->F a b
 |_,_,_,_,_,.nil,h,_=>by simp at h
 |_,_,0,_,_,.cons r t,h1,h2=>by
  grind
 |_,_,j+1,_,_,.cons r t,h1,h2=>Gb (j:=j) t (by simp_all)^by simp_all
end
end L2
namespace Dp
open L2
section
variable {K:Frag}
def WY(ds:o_ D)(P:D->Prop):Prop:=match ds with
 |[.int i,.int j]=>P^.int (if j<i then j else i)
 |_=>False
def Z3(ds:o_ D)(P:D->Prop):Prop:=match ds with
 |[.int i]=>P^.int (if i<0 then -i else i)
 |_=>False
theorem YQ:DD K .sh (λxs H Q=>∃i j,xs=[.int i,.int j]/\Q (.int (if j<i then j else i)) H) WY:=by
 intro U M H ds vs P Q dom vM hp w q;unfold WY at w
 split at w
 .rename_i i j
  cases hp with
  | cons r1 r2=>cases r2 with
   |cons r3 r4=>
    cases r4;cases r1.int;cases r3.int;exact#[i,j,rfl,q _ H (.int _) .refl rfl w]
 grind
theorem aL:DD K .sh (λxs H Q=>∃i,xs=[.int i]/\Q (.int (if i<0 then -i else i)) H) Z3:=by
 intro U M H ds vs P Q dom vM hp w q;unfold Z3 at w
 split at w
 .rename_i i
  cases hp with
  |cons r1 r2=>
   cases r2;cases r1.int;exact#[i,rfl,q _ H (.int _) .refl rfl w]
 grind
end
def Cy:D->p_^o_ Key
 |.tup xs=>Ho xs
 |_=>l_
def Hz(kf:D->p_^o_ Key)(xs:o_ D):Prop:=xs.Pairwise λa b=>∀ka kb,kf a=P3 ka->kf b=P3 kb->BB kb ka=n_
def Keyed(kf:D->p_^o_ Key)(xs:o_ D):Prop:=(∀x∈xs,∃k,kf x=P3 k/\k≠[])/\∀x∈xs,∀y∈xs,∀ka kb,kf x=P3 ka->kf y=P3 kb->CL ka kb=m_
theorem range_getD(xs:o_ D):(eZ xs.length).map (λi=>xs.getD i .non)=xs:=by
 apply List.ext_getElem
 .simp
 simp_all
theorem PB{kf:D->p_^o_ Key}{xs:o_ D}{keys:o_^o_ Key}{ix:o_ Nat}(hl:keys.length=xs.length)(hk:∀(i:Nat) (x:D),xs[i]?=P3 x->∃k,keys[i]?=P3 k/\kf x=P3 k)(h:LA keys ix):
  (ix.map λi=>xs.getD i .non).Perm xs/\Hz kf (ix.map λi=>xs.getD i .non):=by
 let#[hp,hs]:=h;constructor
 .have:=hp.map λi=>xs.getD i D.non
  rw[hl,range_getD]at this;exact this
 .unfold Hz
  rw[jz];intro i j hi hj hij ka kb ea eb;rw[List.getElem_map]at ea eb;rw[Ev]at hi hj;have il:ix.length=keys.length:=by rw[hp.length_eq,gh]
  have g:∀i (h:i<ix.length) k,kf (xs.getD ix[i] .non)=P3 k->keys.getD (ix.getD i 0) []=k:=λi h k e=>by
   have hm:ix[i]<keys.length:=fK.mp^hp.mem_iff.mp^fk h;have hx:ix[i]<xs.length:=by rw[←hl];exact hm
   let#[k',e1,e2]:=hk ix[i] xs[ix[i]] (Op hx);have e3:xs.getD ix[i] .non=xs[ix[i]]:=by rw[eY,Op hx];rfl
   rw[e3,e2]at e;have e4:ix.getD i 0=ix[i]:=by rw[eY,Op h];rfl
   rw[e4,eY,e1];exact d6 e
  have:=hs i j (j9 hij)^by rw[←il];exact hj
  rw[g i hi ka ea,g j hj kb eb]at this;exact this
theorem FZ{kf:D->p_^o_ Key}:∀{xs:o_ D},(∀x∈xs,∃k,kf x=P3 k/\k≠[])->∃keys:o_^o_ Key,keys.length=xs.length/\(∀(i:Nat) (x:D),xs[i]?=P3 x->∃k,keys[i]?=P3 k/\kf x=P3 k/\k≠[])
 |[],_=>#[[],rfl,λi x e=>by simp at e]
 | x::xs,h=>by
  let#[k,e1,e2]:=h x FM;let#[keys,l,g]:=FZ (xs:=xs) λy hy=>h y^Sc _ hy;refine#[k::keys,by simp_all,λi y e=>?_];cases i with
  |zero=>
   simp_all
  |succ i=>
   simp_all
section
variable {K:Frag}{M:Addr->Prop}{H:Hp}
theorem Ats.getD:∀{ds:o_ D}{vs:o_ V},Ats K M H ds vs->∀i:Nat,At K M H (ds.getD i .non)^vs.getD i .non
 |[],vs,h,i=>by cases(h);simp[At]
 |d::ds,vs,h,0=>by
  let#[v,r,e,h1,h2]:=h
  grind
 |d::ds,vs,h,i+1=>by
  let#[v,r,e,h1,h2]:=h;subst e
  simpa using Ats.getD h2 i
theorem Ats.pick{ds:o_ D}{vs:o_ V}(h:Ats K M H ds vs):∀ix:o_ Nat,Ats K M H (ix.map λi=>ds.getD i .non)^ix.map λi=>vs.getD i .non
 |[]=>rfl
 |i::ix=>#[_,_,rfl,h.getD i,Ats.pick h ix]
theorem HS{kf:D->p_^o_ Key}{ds:o_ D}{vs:o_ V}{keys:o_^o_ Key}(hkf:∀d k v,d∈ds->kf d=P3 k->At K M H d v->∃a,v=.ref a/\SqT K H a^k.map kOf)(hs:Ats K M H ds vs)(hK:Keyed kf ds)(hl:keys.length=ds.length)(hk:∀(i:Nat) (x:D),ds[i]?=P3 x->∃k,keys[i]?=P3 k/\kf x=P3 k/\k≠[]):KeysAt K H vs keys:=by
 have from_:∀(i:Nat) (ns:o_ Key),keys[i]?=P3 ns->∃x,ds[i]?=P3 x/\kf x=P3 ns/\ns≠[]:=λi ns e=>by
  have hi:i<ds.length:=by rw[←hl];exact(de.mp e).1
  let#[k,e1,e2,e3]:=hk i ds[i] (Op hi);rw[e]at e1;cases e1;exact#[ds[i],Op hi,e2,e3]
 refine#[hs.length.trans hl.symm,λi ns e=>?_,λx hx y hy=>?_,λx hx=>?_]
 .let#[d,e1,e2,_]:=from_ i ns e
  let#[v,e3,h3]:=hs.get e1;let#[a,rfl,h4]:=hkf d ns v (fD e1) e2 h3;exact#[a,e3,h4]
 .let#[i,hi]:=gy.mp hx
  let#[j,hj]:=gy.mp hy;let#[d,e1,e2,_]:=from_ i x hi;let#[d',e1',e2',_]:=from_ j y hj;exact hK.2 d (fD e1) d' (fD e1') x y e2 e2'
 .let#[i,hi]:=gy.mp hx
  let#[d,e1,e2,e3]:=from_ i x hi;exact e3
theorem HV{d:D}{k:o_ Key}{v:V}(e:Cy d=P3 k)(h:At K M H d v):∃a,v=.ref a/\SqT K H a^k.map kOf:=by
 cases d with
 |tup xs=>
  let#[a,vs,e1,hn,hs]:=h
  have:=Gr (e) hs
  subst this;exact#[a,e1,hn.sq]
 |_=>cases e
def OP(ds:o_ D)(P:D->Prop):Prop:=∃d xs,ds=[d]/\Eu d=P3 xs/\xs.length<64/\Keyed Cy xs/\∀xs':o_ D,xs'.Perm xs->Hz Cy xs'->P^.lst xs'
theorem Pm:DD K .fr (SA K) OP:=by
 intro U M H ds vs P Q dom vM hp w q;let#[d,xs,rfl,e,h64,hK,w]:=w;let#[v,rfl,hx]:=Eo hp;let#[κ,a,us,rfl,hs,sq]:=LN hx e (λ_ z=>z) vM;let#[keys,hl,hk]:=FZ hK.1;refine#[κ,a,us,_,rfl,sq M H (Pres.refl _ _)^Ext.refl _ _,by rw[hs.length];exact h64,HS (λd k v _=>HV) hs hK hl hk,λix l ho hn=>?_];let#[o1,o2]:=PB (kf:=Cy) hl (λi x e=>by let#[k,a,b,_]:=hk i x e;simp_all) ho;exact q _ _ _ (A2 hn) (EK hn^hs.pick ix)^w _ o1 o2
end
section
variable {X:Cx}{a e:Expr}{zU:Kd}{wa:DW}{pos p fp kp:Pos}
def W1(W:W2)(wa:DW):DW:=λn ρ P=>wa n ρ λd n1=>∃(xs:o_ D) (rk:D->D),Eu d=P3 xs/\xs.length<64/\(∀x∈xs,∀Pd:D->Nat->Prop,Pd (rk x) n1->W [.sh x] n1 Pd)/\Keyed (λx=>Cy^rk x) xs /\
 ∀xs':o_ D,xs'.Perm xs->Hz (λx=>Cy^rk x) xs'->P (.lst xs') n1
theorem Td{k:Nat}{fn pn:Str}{W:W2}(G:Got X.prog X.w X.K X.mg X.base fn k [pn] .sh W)(hr:Room (k+2) X.A)(hg:Gl X "sorted")(hm:X.mg "sorted"=l_)(hgf:Gl X fn)(he:DE X e zU wa)
  (hs:starEach [e] X.env=[(n_,eval e X.env)]:=by rfl) (hdf:(fn==("__debug__":Str))=n_:=by decide):DE X (.Call (.Name "sorted" p) [e] [#[P3 "key",.Name fn fp,kp]] pos) .fr^W1 W wa:=by
 let#[f,fd,F,hmf,hkf,hb,hW]:=G;let#[t,h1,h2]:=he;refine#[_,SY F hr hg hm hgf hmf hb h1 hs hdf,λC M H n ρ Z P Q R w q=>?_];refine h2 C M H n ρ Z _ _ R w λv H1 d n1 e1 f1 r1 p=>?_;let#[xs,rk,hd,h64,hw,hK,w]:=p;have R1:=R.step e1 f1;let#[κ,l,us,rfl,hs,sq]:=LN (U:=C.U) (r1.tpOf R.dom R.vM) hd R.uV R1.vM;let#[keys,hl,hk]:=FZ hK.1;have hlen:=hs.length;refine#[κ,l,us,keys,λks H2=>Ext C.U H1 H2/\FeedC X.K C.F M H2 n1/\ks.length<=xs.length/\∀(i:Nat) (k:V),ks[i]?=P3 k->∃x,xs[i]?=P3 x/\At X.K M H2 (rk x) k,rfl,sq M H1 (Pres.refl _ _)^Ext.refl _ _,by rw[hlen];exact h64,#[Ext.refl _ _,f1,dq _,λi k z=>absurd (show(l_:p_ V)=P3 k from z) λh=>nomatch h],λks H2 v hJ hv=>?_,λks H2 hJ hkl=>?_]
 .let#[ex,fd2,hle,hat]:=hJ
  have R2':=R1.step ex fd2;have hi:ks.length<xs.length:=by rw[←hlen];exact(de.mp hv).1
  have hxi:xs[ks.length]?=P3 xs[ks.length]:=Op hi;let#[v',e2,hA]:=(hs.pres^R1.pres ex).get hxi;rw[hv]at e2;cases e2;refine#[rfl,C.F,C.U,C.V,M,n1,[.sh xs[ks.length]],λd n=>d=rk xs[ks.length]/\n=n1,#[R2'.dom,R2'.fU,R2'.uV,R2'.vM,fd2,.cons #[#[v,rfl,hA],rfl] .nil],hw _ (fk hi) _ #[rfl,rfl],λr H3 d n' ex3 f3 vr hd=>?_];let#[rfl,rfl]:=hd;refine#[ex.trans ex3,f3,by rw[XV,d8];lk,λi k hik=>?_]
  by_cases hlt:i<ks.length
  .rw[gW hlt]at hik
   let#[x,h3,h4]:=hat i k hik;exact#[x,h3,h4.pres^R2'.pres ex3]
  .rw[eT^by lk]at hik
   have hi0:i=ks.length:=by
    have:=(de.mp hik).1
    rw[d8]at this;lk
   subst hi0;rw[gc]at hik;cases(show P3 r=P3 k from hik);exact#[_,hxi,vr]
 .let#[ex,fd2,hle,hat]:=hJ
  have R2':=R1.step ex fd2;have hkx:ks.length=xs.length:=by rw[hkl,hlen]
  have hs2:Ats X.K M H2 (xs.map rk) ks:=by
   have go:∀(xs:o_ D) (ks:o_ V),ks.length=xs.length->(∀(i:Nat) (k:V),ks[i]?=P3 k->∃x,xs[i]?=P3 x/\At X.K M H2 (rk x) k)->Ats X.K M H2 (xs.map rk) ks:=by
    intro xs
    induction xs with
    |nil=>intro ks h _;exact gi.mp h
    | cons x xs ih=>
     intro ks h hh;cases ks with
     |nil=>cases h
     | cons k ks=>
      let#[x',e3,h3]:=hh 0 k rfl;cases(show P3 x=P3 x' from e3)
      exact#[k,ks,rfl,h3,ih ks (by simpa using h) λi k' e4=>by
       let#[y,e5,h5]:=hh (i+1) k' (by simpa using e4);exact#[y,by simpa using e5,h5]]
   exact go xs ks hkx hat
  have hK2:Keyed Cy^xs.map rk:=by
   refine#[λy hy=>?_,λy hy z hz ka kb ea eb=>?_]
   .let#[x,hx,rfl]:=TW.mp hy
    exact hK.1 x hx
   .let#[x,hx,rfl]:=TW.mp hy
    let#[x',hx',rfl]:=TW.mp hz;exact hK.2 x hx x' hx' ka kb ea eb
  refine#[HS (λd k v _=>HV) hs2 hK2 (by rw[hl,Ev]) λi x e=>?_,λix l ho hn=>?_]
  .rw[di]at e
   let#[x',hx',rfl]:=eq.mp e;exact hk i x' hx'
  .let#[o1,o2]:=PB (kf:=λx=>Cy^rk x) hl (λi x e=>by let#[k,a,b,_]:=hk i x e;exact#[k,a,b]) ho
   have g:Grow H2 (BF H2 l^.lst^ix.map λi=>us.getD i .non):=A2 hn;refine q _ _ (.lst^ix.map λi=>xs.getD i .non) n1 ((e1.trans ex).trans g.ext) (fd2.grow g) (VR.back (e1.trans ex) ?_)^w _ o1 o2;exact EK hn^(hs.pres^R1.pres ex).pick ix
def US:Key->D
 |.inl i=>.int i
 |.inr x=>.str x
def Lq:Key->Prop
 |.inl _=>True
 |.inr x=>x.length<=sizeLine
theorem Ti{K:Frag}{M:Ch->Prop}{H:Hp}{k:Key}(h:Lq k):At K M H (US k)^kOf k:=by
 cases k with
 |inl i=>exact rfl
 |inr x=>exact#[rfl,h]
end
end Dp
namespace L2
section
open PySem.MeetsSeq
open PySem.AutoSeq1 (wpAny_loadPart')
theorem R7(l:Ch)(items:Array Db)(n:Nat)(x:Db)(e:Db->Bool)(j:Nat)(hj:j<items.size)(hit:e items[j]=m_)(hs1:items.size<=sizeLine)(prog:eK)(w:eU)(A:eh)(R:Result->Rs->Prop)(hp:eC)(g:Array GenState)(d:Drawn)(tk:Nat)(os:_)
  (hl:hp.get? l=P3 {cls:=.type "list",dict:=l_,data:=.seq items n,slots:=#[]}) (he:∀y,y∈items->PySem.SeqAt.EqAt A.in1 #[hp,g,d,tk,os] y x^e y) (h:R (.ok^.ret .none) #[hp.update l^fG λxs=>xs.eraseIdxIfInBounds j,g,d,tk,os]):
  ∀k i:Nat,j - i=k->i<=j->(∀m (hm:m<items.size),i<=m->m<j->e items[m]=n_)->
   wpAny (model prog w) A.in1 (iQ.«list.remove.loop» #[[.ref l,x,rawInt i],[]]) (λfin s'=>match fin with|.done f=>R (.ok f) s'|.again c'=>c'.quiet=m_/\codeAny (model prog w) A c' R s') (λe s'=>R (.error e) s') #[hp,g,d,tk,os]:=by
 intro k
 induction k with
 |zero=>
  intro i hk hij hno;have hij':i=j:=by lk
  subst hij'
  wp_walk using fW hl
  have hi:items[((i:Nat):Int).toNat]?=P3 items[i]:=by simp[hj]
  rw[hi];refine Go^he _ (jx hj) prog w _ _ ?_;rw[hit];have hz':(items.eraseIdxIfInBounds i).size<=sizeLine+1:=eJ (size_erased items _)^Nat.le_succ_of_le hs1
  wp_walk using (iG hl rfl (hz:=hs1) (_hz':=hz')),fW hl
  simpa using h
 | succ k ih=>
  intro i hk hij hno;have hlt:i<items.size:=by lk
  wp_walk using fW hl
  have hi:items[((i:Nat):Int).toNat]?=P3 items[i]:=by simp[hlt]
  have hc:((i:Int)+1)=((i+1:Nat):Int):=by push_cast;rfl
  rw[hi];refine Go^he _ (jx hlt) prog w _ _ ?_;rw[hno i hlt (Re _)^by lk]
  wp_walk
  rw[hc]
  exact#[gO plain_remove_loop _,gB entry_remove_loop (by
   rw[gf plain_remove_loop _];exact ih (i+1) (by lk) (by lk) λm hm h1 h2=>hno m hm (by lk) h2)]
theorem R8{prog:eK}{w:eU}{A:eh}{E:Db->Rs->Prop}{s:Rs}{Q:Db->Rs->Prop}(l:Ch)(items:Array Db)(n:Nat)(x:Db)(e:Db->Bool)(j:Nat)(hj:j<items.size)(hit:e items[j]=m_)(hno:∀m (hm:m<items.size),m<j->e items[m]=n_)
  (hs1:items.size<=sizeLine) (hl:s.heap.get? l=P3 {cls:=.type "list",dict:=l_,data:=.seq items n,slots:=#[]}) (he:∀y,y∈items->PySem.SeqAt.EqAt A.in1 s y x^e y)
  (h:Q .none {s with heap:=s.heap.update l^fG λxs=>xs.eraseIdxIfInBounds j}):wpAny (model prog w) A (call (.builtin "list.remove") [.ref l,x]) Q E s:=by
 have key:wpAny (model prog w) A.in1 (iQ.«list.remove» #[[.ref l,x],[]]) (λfin s'=>match fin with|.done f=>wants Q E (.ok f) s'|.again c'=>c'.quiet=m_/\codeAny (model prog w) A c' (wants Q E) s') (λe s'=>wants Q E (.error e) s') s:=by
  let#[hp,g,d,tk,os]:=s
  wp_walk using fW hl
  exact#[gO plain_remove_loop _,gB entry_remove_loop (R7 l _ n x e j hj hit hs1 _ w A _ hp g d tk os hl he h _ 0 rfl (dq _) (λm hm _ h2=>hno m hm h2))]
 exact wpAny_call^codeAny_call_builtin PySem.F.slot_list_remove.plain PySem.F.entry_list_remove^PySem.F.slot_list_remove.check _ _ _ _ _ _ _ _ #[_,hl,rfl] (PySem.F.args_list_remove_2 _ _) key
end
section
variable {X:Cx}
def O0:V->o_ V->Hp->VK->Prop:=λx vs H Q=>∃(l:Ch) (xs:o_ V) (y:V) (ds:o_ iE) (d:iE) (j:Nat),x=.ref l/\vs=[y]/\H l=P3^.lst xs/\RVs H ds xs/\RV H d y/\gJ ds=m_/\d.canLay0=m_/\d.depth<=100 /\
 (∃dj,ds[j]?=P3 dj/\fO dj d=m_)/\(∀m dm,m<j->ds[m]?=P3 dm->fO dm d=n_)/\Q .non^BF H l^.lst^xs.eraseIdx j
theorem QU{k:Nat}(hr:Room k X.A):Yl X "list.remove" O0:=by
 intro zG s Z H x vs v us Q I rx rv h;let#[l,xs,y,ds,d,j,rfl,rfl,hH,hds,hd,c1,c2,dd,#[dj,hj,hit],hno,q]:=h;cases rx;let#[u,rfl,ru]:=rv.one;let#[z,its,n,r,hl,e]:=I.lstM hH;let#[as,ra]:=RVs.reads I hds r;let#[bs,rb]:=RV.reads I hd ru;have hm:=PySem.SeqAt.readsAll_map ds its as c1 ra;have hlen:ds.length=its.length:=by rw[←hm,Ev]
 have hu:=hr.un;have hmin:min (fi ds) d.depth<=d.depth:=jC _ _
 have at_:∀m dm,ds[m]?=P3 dm->∀(h:m<its.toArray.size),PySem.SeqAt.readOf s.heap its.toArray[m]=dm:=λm dm e h=>by
  rw[←hm,di]at e;have h':m<its.length:=by simpa using h
  rw[Op h']at e;have e:=d6 e
  simpa using e
 have hjl:j<its.length:=by rw[←hlen];exact(de.mp hj).1
 refine R8 l its.toArray n u (λy=>fO (PySem.SeqAt.readOf s.heap y) d) j (by rw[dn];exact hjl) (by rw[at_ j dj hj];exact hit) (λm hm' hlt=>?_) (by rw[dn];lk) e (PySem.SeqAt.items_eqAt (vs:=its.toArray) (by rw[List.toList_toArray];exact ra) rb c1 c2^by lk) ?_
 .have hml:m<ds.length:=by rw[hlen];simpa using hm'
  rw[at_ m ds[m] (Op hml) hm'];exact hno m ds[m] hlt (Op hml)
 .refine#[.non,_,I.lset (t':=s.toks) (its':=its.eraseIdx j) hH e ?_ (r.eraseIdx j) ?_,rfl,q]
  .show its.toArray.eraseIdxIfInBounds j=(its.eraseIdx j).toArray
   rw[List.eraseIdxIfInBounds_toArray]
  .have:=Kj xs j
   lk
end
end L2
namespace Dp
open L2
def b8(d:D)(ds:o_ D)(P:D->D->Prop):Prop:=∃(xs:o_ D) (y:D) (j:Nat),d=.lst xs/\ds=[y]/\Cg^.lst xs/\Cg y/\(∃x,xs[j]?=P3 x/\Dn x y=m_)/\(∀m x,m<j->xs[m]?=P3 x->Dn x y=n_)/\P (.lst^xs.eraseIdx j) .non
theorem aG{K:Frag}:V3 K O0 b8:=by
 intro M H a d ds vs P Q m t hv w q;let#[xs,y,j,rfl,rfl,#[n1,l1,_],#[n2,l2,d2],#[x,hx,hit],hno,w]:=w;let#[us,h1,h2]:=t;let#[u,r,rfl,hu,hr]:=hv;cases(show r=[]from hr)
 have get:∀(m:Nat) (p:iE),(BQ xs)[m]?=P3 p->∃x,xs[m]?=P3 x/\p=toPy x:=λm p e=>by
  rw[DP,di]at e;let#[x,e1,rfl]:=eq.mp e
  grind
 refine#[a,us,u,BQ xs,toPy y,j,rfl,rfl,h1,h2.rv n1,hu.rv n2,l1,l2,d2,#[toPy x,by rw[DP,di,hx];rfl,hit],λm p hm e=>?_,q _ (.lst^xs.eraseIdx j) .non _ #[us.eraseIdx j,AW,?_] rfl w]
 .let#[x',e1,rfl]:=get m p e
  exact hno m x' hm e1
 .exact(h2.eraseIdx j).pres^EZ m h1
def RZ(c:GJ)(wb:Au):Au:=λD2 n ρ=>∃W:Nat->Nat->o_ Slot->Prop,(∃m,W m n ρ)/\∀m n ρ,W m n ρ->
 c n ρ λb n1=>if b=m_ then ∃N:Nat->o_ Slot->Prop,(∀n' zY,N n' zY->∃m',m'<m/\W m' n' zY)/\wb {D2 with nx:=N,ct:=N,bk:=D2.nx} n1 ρ else D2.nx n1 ρ
section
variable {X:Cx}{κ:Kd}{c:Expr}{body:o_ Stmt}{wc:GJ}{wb:Au}{pos:Pos}
theorem Jl(hp:kL (model X.prog X.w) X.A X.env X.xe)(hc:DT X c wc)(hb:Ng X κ body wb):DS X κ (.While c body [] pos)^RZ wc wb:=by
 let#[tc,c1,c2]:=hc;let#[tb,b1,b2]:=hb;refine#[_,SN hp c1 b1,λC M H n ρ Z D2 E R L w=>?_];let#[W,#[m0,w0],turn]:=w;refine#[λm zZ H'=>∃M' n' zY,Rel X.K C M' H' n' zY zZ/\W m n' zY,#[m0,M,n,ρ,R,w0],?_];rintro m zZ H' ⟨M',n',zY,R',w'⟩;refine c2 C M' H' n' zY zZ _ _ R' (turn m n' zY w') λb H2 n2 e f p=>?_;have R2:=R'.step e f;cases b with
 | true=>
  rw[if_pos rfl]at p ⊢;let#[N,hN,p]:=p;refine#[λzV H3=>∃M3 n3 zP,Rel X.K C M3 H3 n3 zP zV/\N n3 zP,λzV H3 #[M3,n3,zP,R3,w3]=>?_,?_]
  .let#[m',hm,w4]:=hN n3 zP w3
   exact#[m',hm,M3,n3,zP,R3,w4]
  .exact b2 C M' H2 n2 zY zZ {D2 with nx:=N,ct:=N,bk:=D2.nx} _ R2 #[λM4 H4 n4 zR zQ R4 w4=>#[M4,n4,zR,R4,w4],L.rt,λM4 H4 n4 zR zQ R4 w4=>L.nx M4 H4 n4 zR zQ R4 w4,λM4 H4 n4 zR zQ R4 w4=>#[M4,n4,zR,R4,w4]] p
 |false=>
  rw[if_neg^by cbv]at p ⊢;exact L.nx M' H2 n2 zY zZ R2 p
theorem HB{D2:E2}{n:Nat}{ρ:o_ Slot}(I:Nat->Nat->o_ Slot->Prop)(m0:Nat)(h0:I m0 n ρ)
  (hs:∀m n ρ (N:Nat->o_ Slot->Prop),I m n ρ->(∀m' n' zY,m'<m->I m' n' zY->N n' zY)->wc n ρ λb n1=>if b=m_ then wb {D2 with nx:=N,ct:=N,bk:=D2.nx} n1 ρ else D2.nx n1 ρ)
  (mono:∀n ρ (P Q:Bool->Nat->Prop),(∀b n1,P b n1->Q b n1)->wc n ρ P->wc n ρ Q):RZ wc wb D2 n ρ:=by
 refine#[I,#[m0,h0],λm n ρ h=>?_];refine mono n ρ _ _ (λb n1 p=>?_)^hs m n ρ (λn' zY=>∃m',m'<m/\I m' n' _) h λm' n' zY hm hi=>#[m',hm,hi];cases b with
 |true=>exact#[_,λ_ _ z=>z,p]
 |false=>exact p
end
end Dp
namespace Nt
open L2 Dp
def Y6(s t:Tie):Decidable (s=t):=
 if h:s.a=t.a/\s.b=t.b/\s.len=t.len then .isTrue (by let#[a,b,l]:=s;let#[a',b',l']:=t;let#[h1,h2,h3]:=h;simp only at h1 h2 h3;subst h1 h2 h3;rfl)else .isFalse λe=>h^by rw[e];exact#[rfl,rfl,rfl]
instance:DecidableEq Tie:=Y6
abbrev EF(Pd:D->Nat->Prop):E2:={nx:=λn _=>Kd.fr=.sh/\Pd .non n,rt:=Pd}
def BY(t:Tie):o_ Key:=[.inl t.len,.inr t.a,.inr t.b]
def A5(ts:o_ Tie):Prop:=ts.Pairwise λs t=>BB (BY t)^BY s=n_
def WC:D->D
 |.tup [x,y,z]=>.tup [z,x,y]
 |d=>d
def be(x:Str×Int):D:=.tup [.str x.1,.int x.2]
abbrev aO:W2:=λss n P=>∃x y z:D,ss=[.sh^.tup [x,y,z]]/\P (.tup [z,x,y]) n
def UE:W2:=λss n P=>∃(d:D) (ts:o_ Tie),ss=[.sh d]/\Eu d=P3^ts.map AN/\ts.length<64/\∀ts':o_ Tie,ts'.Perm ts->A5 ts'->P (.lst^ts'.map AN) n
theorem GW{s t:Tie}(h:BY s=BY t):s=t:=by
 let#[a,b,l]:=s;let#[a',b',l']:=t;unfold BY at h
 grind
theorem LW{α:Type}{R:α->α->Prop}(anti:∀a b,R a b->R b a->a=b):∀{l1 l2:o_ α},l1.Perm l2->l1.Pairwise R->l2.Pairwise R->l1=l2
 |[],l2,p,_,_=>(List.nil_perm.mp p).symm
 |a::l1,[],p,_,_=>absurd (List.perm_nil.mp p)^gn _ _
 | a::l1,b::l2,p,h1,h2=>by
  have e:a=b:=by
   rcases UF.mp^p.mem_iff.mp FM with e|h
   .exact e
   .rcases UF.mp^p.mem_iff.mpr^FM with e|h'
    .exact e.symm
    .exact anti a b ((fE.mp h1).1 b h')^(fE.mp h2).1 a h
  subst e;rw[LW anti ((List.perm_cons a).mp p) (fE.mp h1).2 (fE.mp h2).2]
theorem Av{l1 l2:o_ Tie}(p:l1.Perm l2)(h1:A5 l1)(h2:A5 l2):l1=l2:=LW (λa b x y=>GW^B5 _ _ y x) p h1 h2
theorem Rj{α:Type}{f:α->D}{g:D->α}(hg:∀x,g^f x=x){xs:o_ D}{ts:o_ α}(h:xs.Perm^ts.map f):∃ts':o_ α,ts'.Perm ts/\xs=ts'.map f:=by
 refine#[xs.map g,?_,?_]
 .have:=h.map g
  rw[fY,show g∘f=id from funext hg,jc]at this;exact this
 .rw[fY]
  have:∀x∈xs,(f∘g) x=x:=λx hx=>by
   let#[t,_,rfl]:=TW.mp^h.mem_iff.mp hx
   grind
  rw[iW this,List.map_id']
def Tb:D->Tie
 |.tup [.str a,.str b,.int l]=>#[a,b,l]
 |_=>#["","",0]
section
theorem Sd{ts:o_ Tie}(h:Hz (λx=>Cy^WC x)^ts.map AN):A5 ts:=by
 unfold Hz at h;rw[iO]at h;exact h.imp λ{s t} z=>z _ _ rfl rfl
theorem Lm{N:Net}(ok:N.Ok){x:Str}{p:Str×Int}(h:p∈D8 N.ts x):p.1∈N.ps/\1<=p.2/\p.2<=1000000/\∃t∈N.ts,t.len=p.2/\((t.a=x/\t.b=p.1)\/(t.b=x/\t.a=p.1)):=by
 let#[t,ht,h]:=gQ.mp h;let#[m1,m2,m3,m4,m5]:=ok.tin t ht
 rcases ZB.mp h with h|h
 .split at h
  .rename_i e
   rw[On.mp h];exact#[m2,m4,m5,t,ht,rfl,.inl #[e,rfl]]
  .cases h
 .split at h
  .rename_i e
   rw[On.mp h];exact#[m1,m4,m5,t,ht,rfl,.inr #[e,rfl]]
  .cases h
theorem Qf(s t:Tie):Fh (BY s)^BY t=BB (BY s)^BY t:=Gn _ _ rfl
theorem IR(s t:Tie):Dn (AN s)^AN t=m_↔s=t:=by
 let#[a,b,l]:=s;let#[a',b',l']:=t;show(a==a'&&(b==b'&&(l==l'&&m_)))=m_↔_
 simp_all
theorem HR{xs:o_ D}(h:∀d∈xs,item d):Cg^.lst xs:=by
 have d1:=dps_le.mpr λd hd=>(h d hd).2.2;exact C_ (by cbv) (fines_iff.mpr λd hd=>(h d hd).1)^by show IU xs+1<=100;lk
theorem Kt{α β:Type}(f:α->β):∀(l:o_ α) (i:Nat),(l.map f).eraseIdx i=(l.eraseIdx i).map f
 |[],i=>rfl
 |x::l,0=>rfl
 |x::l,i+1=>by
  show f x::(l.map f).eraseIdx i=f x::(l.eraseIdx i).map f;rw[Kt f l i]
theorem Va{N:Net}(ok:N.Ok){x o:Str}{s t:Tie}(hs:s∈N.ts)(ht:t∈N.ts)(e:Bm s t)(h1:(s.a=x/\s.b=o)\/(s.b=x/\s.a=o))(h2:(t.a=x/\t.b=o)\/(t.b=x/\t.a=o)):False:=by
 have ls:=(ok.tin s hs).2.2.1;have lt:=(ok.tin t ht).2.2.1;have irr:∀a,¬cs a<cs a:=λa=>gH _
 rcases h1 with⟨a1,b1⟩|⟨a1,b1⟩ <;>rcases h2 with⟨a2,b2⟩|⟨a2,b2⟩ <;>rw[a1,b1]at ls <;>rw[a2,b2]at lt
 .rcases e with e|⟨_,e⟩
  .rw[a1,a2]at e;exact irr _ e
  grind
 .grind
 .exact irr _^iB ls lt
 .rcases e with e|⟨_,e⟩
  .rw[b1,b2]at e;exact irr _ e
  grind
theorem QS{N:Net}(ok:N.Ok)(x:Str):((D8 N.ts x).map (·.1)).Nodup:=by
 have go:∀ts:o_ Tie,(∀t∈ts,t∈N.ts)->ts.Pairwise Bm->((D8 ts x).map (·.1)).Nodup:=by
  intro ts
  induction ts with
  |nil=>intro _ _;exact ef
  | cons t ts ih=>
   intro hin hp;have i1:=ih (λs hs=>hin s^Sc _ hs) (fE.mp hp).2;have lt:=(ok.tin t^hin t FM).2.2.1
   have new:∀y,((t.a=x/\t.b=y)\/(t.b=x/\t.a=y))->y∉(D8 ts x).map (·.1):=λy hy hm=>by
    let#[s,hs,h]:=Ll hm;exact Va ok (hin t FM) (hin s^Sc _ hs) ((fE.mp hp).1 s hs) hy h
   have e:D8 (t::ts) x=((if t.a=x then [(t.b,t.len)]else [])++(if t.b=x then [(t.a,t.len)]else []))++D8 ts x:=by
    unfold D8;rw[i9]
   rw[e]
   by_cases h1:t.a=x
   .have h2:¬t.b=x:=λz=>by rw[h1,z]at lt;exact gH _ lt
    rw[if_pos h1,if_neg h2,dk,gz,e8,eI];exact#[new _^.inl #[h1,rfl],i1]
   .rw[if_neg h1,eA]
    by_cases h2:t.b=x
    .rw[if_pos h2,gz,e8,eI]
     exact#[new _^.inr #[h2,rfl],i1]
    .rw[if_neg h2,eA]
     exact i1
 exact go N.ts (λ_ h=>h) ok.trise
end
def Et(t:Tie):o_ Key:=[.inr t.a,.inr t.b,.inl t.len]
def Fw(ts:o_ Tie):Prop:=ts.Pairwise λs t=>BB (Et t)^Et s=n_
def Oc(N:Net)(d:D):Prop:=∃ts:o_ Tie,d=.tup [.tup^N.ps.map .str,.tup^ts.map AN]/\(∀t∈ts,t∈N.ts)/\ts.Pairwise Bm
noncomputable def thinB(N:Net)(d:D):Bool:=@decide (Oc N d)^fS _
theorem thinB_iff{N:Net}{d:D}:thinB N d=m_↔Oc N d:=by
 unfold thinB
 grind
theorem TN{N:Net}{d:D}{b:Bool}(h:b=m_↔Oc N d):b=thinB N d:=by
 rw[e9,thinB_iff];exact h
def Y5(N:Net)(d:D):Prop:=∃s∈N.ts,d=AN s
noncomputable def HE(N:Net)(d:D):Bool:=@decide (Y5 N d)^fS _
theorem tofB_iff{N:Net}{d:D}:HE N d=m_↔Y5 N d:=by
 unfold HE
 grind
theorem We{a:Str}{x:D}(h:Dn (.str a) x=m_):x=.str a:=by
 cases x with
 |str b=>
  have h:(a==b)=m_:=h
  grind
 |_=>cases h
theorem Z6{a:Str}{x:D}(h:Dn x^.str a=m_):x=.str a:=by
 cases x with
 |str b=>
  have h:(b==a)=m_:=h
  grind
 |_=>cases h
theorem Hu:∀{xs:o_ D}{ps:o_ Str},iU (BQ xs)^BQ^ps.map .str=m_->xs=ps.map .str
 |[],[],_=>rfl
 |[],_::_,h=>by cases h
 |_::_,[],h=>by cases h
 |x::xs,p::ps,h=>by
  have h:(fO _ _&&iU _ _)=m_:=h;rw[dh]at h;rw[Z6 h.1,Hu h.2];rfl
theorem eqvAll_refl:∀ps:o_ Str,iU (BQ^ps.map .str)^BQ^ps.map .str=m_
 |[]=>rfl
 |p::ps=>by
  show((p==p)&&iU _ _)=m_;rw[beq_self_eq_true,eqvAll_refl ps];rfl
theorem eqD_strs{p:D}{ps:o_ Str}:Dn p^.tup^ps.map .str=m_↔p=.tup^ps.map .str:=by
 constructor
 .intro h
  cases p with
  |tup xs=>rw[Hu h]
  |_=>cases h
 .rintro rfl
  exact eqvAll_refl ps
theorem Qt{s:Tie}{d:D}(h:Dn (AN s) d=m_):∃z,d=.tup [.str s.a,.str s.b,z]/\∀i,z=.int i->i=s.len:=by
 cases d with
 | tup xs=>
  match xs,h with
  |[x,y,z],h=>
   have h:(fO (toPy^.str s.a)^toPy x&&(fO (toPy^.str s.b)^toPy y&&(fO (.int s.len)^toPy z&&m_)))=m_:=h;rw[Bool.and_true,dh,dh]at h;refine#[z,by rw[We (a:=s.a) (x:=x) h.1,We (a:=s.b) (x:=y) h.2.1],λi e=>?_];subst e;have h3:(s.len==i)=m_:=h.2.2
   grind
  |[],h=>cases h
  |[x],h=>exact absurd h^by show ¬((fO (toPy^.str s.a)^toPy x&&n_)=m_);simp
  |[x,y],h=>exact absurd h^by show ¬((fO (toPy^.str s.a)^toPy x&&(fO (toPy^.str s.b)^toPy y&&n_))=m_);simp
  |x::y::z::u::r,h=>exact absurd h^by show ¬((fO (toPy^.str s.a)^toPy x&&(fO (toPy^.str s.b)^toPy y&&(fO (.int s.len)^toPy z&&n_)))=m_);simp
 |_=>cases h
theorem L8{f:Tie->D}{k:Tie->o_ Key}(hk:∀s t,UQ (f s)^f t=P3^BB (k s)^k t):∀{ts:o_ Tie},RS^ts.map f=m_↔ts.Pairwise λs t=>BB (k s)^k t=m_
 |[]=>#[λ_=>.nil,λ_=>rfl]
 |[t]=>#[λ_=>i6 _ _,λ_=>rfl]
 | s::t::r=>by
  show((UQ _ _==P3 _)&&RS^(t::r).map f)=m_↔_;rw[dh,L8 hk (ts:=t::r),hk,fE (a:=s)];constructor
  .rintro⟨h1,h2⟩
   have h1:=d6^eq_of_beq h1;refine#[λu hu=>?_,h2]
   rcases UF.mp hu with rfl|hu
   .exact h1
   .exact Cw _ _ _ h1^(fE.mp h2).1 u hu
  simp_all
theorem Ln(s t:Tie):UQ (AN s)^AN t=P3^BB (Et s)^Et t:=by
 show(if(m_&&(m_&&(m_&&m_)))=m_ then P3^Fh (Et s)^Et t else l_)=_;rw[if_pos (show(m_&&(m_&&(m_&&m_)))=m_ from rfl),Gn _ _ rfl]
theorem KC(s:Tie):¬Bm s s:=by
 rintro(h|⟨_,h⟩) <;>exact DX _ h
theorem Oq{s t:Tie}(h:Bm s t):BB (Et s)^Et t=m_:=by
 show(if f7 _=.inr _ then(if f7 _=.inr _ then(if iV _=.inl _ then n_ else decide _)else decide (cs _<cs _))else decide (cs _<cs _))=m_
 rcases h with h|⟨h,h'⟩
 .rw[if_neg λe=>DX s.a^by simp_all,decide_eq_true h]
 .rw[if_pos (by rw[h]),if_neg λe=>DX s.b^by grind,decide_eq_true h']
theorem FU:∀{ts:o_ Tie},ts.Pairwise Bm->∀s∈ts,∀t∈ts,s.a=t.a->s.b=t.b->s=t
 |[],_,s,hs,_,_,_,_=>by cases hs
 | x::ts,h,s,hs,t,ht,e1,e2=>by
  have h:=fE.mp h
  rcases UF.mp hs with es|hs
  .rcases UF.mp ht with et|ht
   .rw[es,et]
   .rcases h.1 t ht with h|⟨_,h⟩
    .grind
    grind
  .rcases UF.mp ht with et|ht
   .rcases h.1 s hs with h|⟨_,h⟩
    .rw[←et,e1]at h;exact absurd h^DX _
    grind
   .exact FU h.2 s hs t ht e1 e2
theorem VZ{N:Net}(ok:N.Ok){s t:Tie}(hs:s∈N.ts)(ht:t∈N.ts)(h:BB (Et s)^Et t=m_):Bm s t:=by
 have h:(if f7 _=.inr _ then(if f7 _=.inr _ then(if iV _=.inl _ then n_ else decide _)else decide _)else decide _)=m_:=h
 by_cases h1:s.a=t.a
 .rw[if_pos^by rw[h1]]at h
  by_cases h2:s.b=t.b
  .rw[if_pos (by rw[h2]),if_pos^by rw[FU ok.trise s hs t ht h1 h2]]at h
   cases h
  .rw[if_neg λe=>h2^hX e,decide_eq_true_eq]at h
   exact .inr #[h1,h]
 .rw[if_neg λe=>h1^hX e,decide_eq_true_eq]at h
  exact .inl h
theorem AV{ts:o_ Tie}(h:ts.Pairwise Bm):ts.Nodup:=h.imp λ{s t} h e=>by rw[e]at h;exact KC _ h
theorem sub_len{l m:o_ Tie}(hl:l.Nodup)(hm:m.Nodup)(h:∀t∈l,t∈m):l.length<=m.length:=by
 have:l.Perm (m.filter λt=>decide (t∈l)):=(g9 hl^hm.filter _).mpr λt=>by
  simp_all
 rw[this.length_eq];exact fP _ _
theorem Io{N:Net}(ok:N.Ok){ts:o_ Tie}(h:∀t∈ts,t∈N.ts)(hp:ts.Pairwise Bm):Net.Ok #[N.ps,ts]:=#[ok.names,ok.rise,λt ht=>ok.tin t^h t ht,hp]
theorem KR{P:Tie->Prop}:∀{xs:o_ D},(∀d∈xs,∃s,P s/\d=AN s)->∃ts:o_ Tie,xs=ts.map AN/\∀t∈ts,P t
 |[],_=>#[[],rfl,λt h=>by cases h]
 |d::xs,h=>by
  let#[s,hs,rfl]:=h d FM;let#[ts,rfl,ht]:=KR λe he=>h e^Sc _ he;refine#[s::ts,rfl,λt z=>?_]
  grind
theorem MQ{N:Net}{xs:o_ D}(h:xs.all^HE N=m_):∃ts:o_ Tie,xs=ts.map AN/\∀t∈ts,t∈N.ts:=
 KR λd hd=>by
  let#[s,hs,e]:=tofB_iff.mp^fX.mp h d hd;exact#[s,hs,e]
theorem KS{N:Net}(ok:N.Ok)(p:D)(xs:o_ D):(Dn p^.tup^N.ps.map .str&&(xs.all^HE N&&RS xs))=thinB N^.tup [p,.tup xs]:=by
 refine TN #[λh=>?_,λh=>?_]
 .rw[dh,dh]at h
  let#[ts,rfl,hts]:=MQ h.2.1;refine#[ts,by rw[eqD_strs.mp h.1],hts,?_]
  have:=(L8 Ln).mp h.2.2
  exact this.imp_of_mem λ{s t} hs ht z=>VZ ok (hts s hs) (hts t ht) z
 .let#[ts,e,hts,hp]:=h
  cases e;rw[dh,dh];refine#[eqD_strs.mpr rfl,fX.mpr λd hd=>?_,(L8 Ln).mpr^hp.imp λ{s t} z=>Oq z];let#[t,ht,rfl]:=TW.mp hd;exact tofB_iff.mpr #[t,hts t ht,rfl]
theorem MP{N:Net}{d:D}(h:∀p xs,d≠.tup [p,.tup xs]):thinB N d=n_:=by
 rw[ft];intro z;let#[ts,e,_]:=thinB_iff.mp z;exact h _ _ e
end Nt
namespace L2
open PySem.W
section
variable {X:Cx}
theorem Md(is:o_ Int):∀(n:Nat) (f:Nat->Int),(∀i,i<n->is[i]?=P3^f i)->is.length=n->preSum f n=is.sum:=by
 have go:∀(n:Nat) (f:Nat->Int),(∀i,i<n->is[i]?=P3^f i)->n<=is.length->preSum f n=(is.take n).sum:=by
  intro n
  induction n with
  |zero=>intro f h _;rfl
  |succ n ih=>
   intro f h hl;show preSum f n+f n=_;rw[List.take_add_one,h n^by lk,ih f (λi hi=>h i^by lk)^by lk];simp
 grind
theorem Tq(hc:X.calm=m_):Cq X (.builtin "sum") (λxs H Q=>∃(p:Ch) (is:o_ Int),xs=[.ref p]/\SqL X.K H p^is.map V.int/\Q (.int is.sum) H):=by
 intro zG s Z H xs us Q I r h;let#[p,is,rfl,hq,q]:=h;let#[u,rfl,rx]:=vals1 r;cases rx;let#[its,r',pl,hz]:=I.list hq;have hlen:=r'.length;rw[Ev]at hlen;have hl:s.heap.IsList p its.toArray:=pl.isList;have hlt:p<s.heap.objs.size:=by let#[_,e,_]:=id hl;exact Uf e
 refine call_sum_walkAnyS^fq hl ?_
 refine#[s.heap.objs.size,_,_,_,_,_,_,λi=>(is[i]?).getD 0,rfl,(Walks.list (A:=X.A.in1) (I.ok.hd hc) _ p (eB hlt) its.toArray).toS,
  #[#[_,T0 _ rfl,rfl,rfl],hl.push _],λb hb=>?_,λi v hP=>?_,λs' t' hm=>?_]
 .rcases UF.mp hb with rfl|hb
  .exact Uf (T0 _ rfl)
  .obtain rfl:=On.mp hb
   exact eW hlt^by show s.heap.objs.size<=(s.heap.push _).objs.size;rw[j1];exact fj _
 .have hv:its[i]?=P3 v:=by simpa using hP
  have hi:i<its.length:=(de.mp hv).1;have eb:is[i]?=P3 (is[i]'(by lk)):=Op (by lk);let#[u,eu,ru]:=r'.get (i:=i) (x:=.int (is[i]'(by lk))) (by rw[di,eb];rfl);rw[hv]at eu;cases eu;let#[t,rfl]:=ru;exact#[t,by show _=kq ((is[i]?).getD 0) t;rw[eb];rfl]
 .let#[h',g',d',tk',os']:=s'
  have e1:g'=s.gens:=hm.gens;have e2:d'=s.drawn:=hm.drawn;have e3:os'=s.os:=hm.os;subst e1 e2 e3;refine#[.int is.sum,H,I.kept (t':=tk') λb x e=>hm.heap b x (λhb=>by rw[On.mp hb]at e;exact fC _^Uf e)^No _ e,?_,q];rw[Md is its.toArray.size _ (λi hi=>by rw[dn]at hi;rw[Op (show i<is.length by lk)];rfl)^by rw[dn];lk];exact#[t',rfl]
end
end L2
namespace Dp
open L2
section
variable {K:Frag}
def Tw:o_ D->p_^o_ Int
 |[]=>P3 []
 |.int b::r=>(Tw r).map (b::·)
 |_::_=>l_
theorem Pj{M:Ch->Prop}{H:Hp}:∀{ds:o_ D}{vs:o_ V}{bs:o_ Int},Tw ds=P3 bs->Ats K M H ds vs->vs=bs.map V.int
 |[],vs,bs,e,h=>by cases e;exact h
 | d::ds,vs,bs,e,h=>by
  let#[v,r,e1,h1,h2]:=h;cases d with
  |int b=>
   let#[bs',e2,rfl]:=eq.mp^e;rw[e1,Pj e2 h2]
   congr 1
  |_=>cases e
theorem NX{α:Type}(f:α->Int):∀l:o_ α,Tw (l.map λa=>.int^f a)=P3^l.map f
 |[]=>rfl
 |a::l=>by
  show(Tw _).map _=_;rw[NX f l];rfl
def b7(ds:o_ D)(P:D->Prop):Prop:=∃xs is,ds=[.lst xs]/\Tw xs=P3 is/\P^.int is.sum
theorem aF:DD K .sh (λxs H Q=>∃(p:Ch) (is:o_ Int),xs=[.ref p]/\SqL K H p^is.map V.int/\Q (.int is.sum) H) b7:=by
 intro U M H ds vs P Q dom vM hp w q;let#[xs,is,rfl,e,w]:=w;let#[v,rfl,hx]:=Eo hp;let#[a,us,rfl,_,ha,hs]:=hx
 have:=Pj e hs
 subst this;exact#[a,is,rfl,.inl ha,q _ H (.int _) .refl rfl w]
end
end Dp
namespace Nt
open L2 Dp
def look(ts:o_ Tie)(x y:Str):p_ Int:=((D8 ts x).find? λz=>decide (z.1=y)).map (·.2)
def Lo(ts:o_ Tie):Str->o_ Str->Int->p_ Int
 |_,[],s=>P3 s
 |x,y::r,s=>match look ts x y with
  |some l=>Lo ts y r (s+l)
  |none=>l_
def XS:p_ Int->D
 |some i=>.int i
 |none=>.non
def FC:D->Bool
 |.str _=>m_
 |_=>n_
def Xr(N:Net):o_ Str->D
 |x::r=>if x∈N.ps then XS^Lo N.ts x r 0 else .non
 |[]=>.non
def Xs(N:Net):D->D
 |.tup xs=>if xs.all FC then Xr N^strsOf xs else .non
 |_=>.non
def X7(d:D):Prop:=Ew (10 ^ 40) d/\Np d<=160000/\Kw d<=50
abbrev cL:W2:=λss n P=>∃(N:Net) (d:D),ss=[.sh^enc N,.sh d]/\N.Ok/\N.ps.length<=26/\N.ts.length<=60/\X7 d/\P (Xs N d) n
theorem MX:∀{xs:o_ D},xs.all FC=m_->∃ys:o_ Str,xs=ys.map .str
 |[],_=>#[[],rfl]
 |d::r,h=>by
  rw[jn,dh]at h;let#[ys,e]:=MX h.2;cases d with
  |str x=>exact#[x::ys,by grind]
  |_=>cases h.1
theorem all_strs(ys:o_ Str):(ys.map D.str).all FC=m_:=by rw[List.all_map];exact fX.mpr λ_ _=>rfl
theorem II{g:Str->D}{x:Str}:∀{ps:o_ Str},BO (ps.map .inr) (ps.map g)^.inr x=if x∈ps then P3^g x else l_
 |[]=>rfl
 |p::ps=>by
  show(if f7 p=.inr x then P3 _ else BO _ _ _)=_;rw[II]
  grind
theorem IJ{y:Str}:∀{xs:o_ (Str×Int)},BO (xs.map λx=>.inr x.1) (xs.map λx=>.int x.2)^.inr y=((xs.find? λz=>decide (z.1=y)).map (·.2)).map .int
 |[]=>rfl
 |p::ps=>by
  show(if f7 _=.inr y then P3 _ else BO _ _ _)=_;rw[IJ]
  by_cases e:p.1=y
  .simp_all
  simp_all
theorem Ss{N:Net}(ok:N.Ok){x y:Str}{l:Int}(h:look N.ts x y=P3 l):y∈N.ps/\1<=l/\l<=1000000:=by
 unfold look at h;cases c:(D8 N.ts x).find? λz=>decide (z.1=y)with
 |none=>grind
 |some z=>
  have h1:=List.find?_some c;let#[t,ht,hz]:=gQ.mp^j6 c;let#[m1,m2,_,m3,m4]:=ok.tin t ht
  rcases ZB.mp hz with hz|hz
  .simp_all
  simp_all
section
variable {n:Nat}
theorem M5{N:Net}(ok:N.Ok){D2:E2}{b0 b1:Slot}:∀(r:o_ Str) (x:Str) (s:Int) (s4 s5:Slot),x∈N.ps->(match Lo N.ts x r s with|some l=>∀s4 s5,D2.nx n [b0,b1,.sh^ET N,.sh^.int l,s4,s5]|none=>D2.rt .non n)->
  A9 (D_ 2^An (Ae 4)^An (Ae 5) CU) (Bz (CK (A8^BC (Qs m_) (AI 5)^BC Dl (AI 2)^AI 4) (CY^wC D.non) Bj)^V7 3^BC Dl (BC Dl (AI 2)^AI 4)^AI 5) D2 (DY ((x::r).map .str)^r.map .str) n [b0,b1,.sh^ET N,.sh^.int s,s4,s5]
 |[],x,s,s4,s5,hx,h=>h s4 s5
 | y::r,x,s,s4,s5,hx,h=>by
  have v1:BO (N.ps.map .inr) (N.ps.map^Sk N.ts)^.inr x=P3^Sk N.ts x:=by rw[II,if_pos hx]
  refine#[rfl,rfl,?_];refine#[_,_,.inr x,_,rfl,rfl,v1,_,_,.inr y,rfl,rfl,?_];rw[IJ];unfold Lo at h;have hl:((D8 N.ts x).find? λz=>decide (z.1=y)).map (·.2)=look N.ts x y:=rfl;rw[hl];cases c:look N.ts x y with
  |none=>rw[c]at h;exact Ci h
  |some l=>
   rw[c]at h;have v2:BO ((D8 N.ts x).map λz=>.inr z.1) ((D8 N.ts x).map λz=>.int z.2)^.inr y=P3^.int l:=by rw[IJ,hl,c];rfl
   refine A1 #[s,rfl,_,_,.inr x,_,rfl,rfl,v1,_,_,.inr y,_,rfl,rfl,v2,l,rfl,?_];exact M5 ok r y (s+l) _ _ (Ss ok c).1 h
theorem EI{b:BW}{tt:GJ}{te:DW}{P:o_ D->Nat->Prop}(c:D->Bool)(g:D->D)(I:o_ Slot->Prop):∀(ds acc:o_ D) (n:Nat) (ρ:o_ Slot),
  (∀d∈ds,∀(ρ:o_ Slot) (n:Nat) (nx:D->Nat->o_ Slot->Prop) (sk:Nat->o_ Slot->Prop),I ρ->(∀zY,I zY->c d=m_->nx (g d) n zY)->(∀zY,I zY->c d=n_->sk n zY)->b d ρ λzT=>tt n zT λc n1=>if c=m_ then te n1 zT λy n2=>nx y n2 zT else sk n1 zT)->I ρ->P (acc++(ds.filter c).map g) n->Ce b tt te P ds acc n ρ
 |[],acc,n,ρ,_,_,h=>by rw[List.filter_nil,im,dk]at h;exact h
 |d::ds,acc,n,ρ,ht,hρ,h=>ht d FM ρ n _ _ hρ
  (λzY hρ' hc=>EI c g I ds _ n _ (λd hd=>ht d^Sc _ hd) hρ'^by simp_all)
  (λzY hρ' hc=>EI c g I ds _ n _ (λd hd=>ht d^Sc _ hd) hρ'^by grind)
def bY:D->D
 |.tup [_,_,l]=>l
 |d=>d
end
def cI:W2:=λss n P=>∃(N:Net) (d:D),ss=[.sh^enc N,.sh d]/\N.Ok/\Cg d/\P (.bl^HE N d) n
def aN:W2:=λss n P=>∃(N:Net) (d:D),ss=[.sh^enc N,.sh d]/\N.Ok/\N.ps.length<=24/\N.ts.length<=60/\Ew (10 ^ 41) d/\Np d<=200000/\Kw d<=90/\P (.bl^thinB N d) n
def aQ:W2:=λss n P=>∃(N:Net) (ts:o_ Tie),ss=[.sh^enc N,.sh^enc #[N.ps,ts]]/\N.Ok/\N.ts.length<64/\(∀t∈ts,t∈N.ts)/\∀ts':o_ Tie,ts'.Perm (N.ts.filter λt=>decide (t∉ts))->A5 ts'->P (.lst^ts'.map AN) n
theorem O_{ts:o_ Tie}(h:Hz Cy^ts.map AN):Fw ts:=by
 unfold Hz at h;rw[iO]at h;exact h.imp λ{s t} z=>z _ _ rfl rfl
theorem CH{N:Net}(ok:N.Ok){ts:o_ Tie}(h:∀t∈ts,t∈N.ts):Cg^.tup^ts.map AN/\Cg^.lst^ts.map AN:=by
 have it:∀d∈ts.map AN,item d:=λd hd=>by
  let#[t,ht,rfl]:=TW.mp hd;exact FA ok _^TW.mpr #[t,h t ht,rfl]
 have d1:IU^ts.map AN<=1:=dps_le.mpr λd hd=>(it d hd).2.2;exact#[C_ (B:=1000001) (by cbv) (fines_iff.mpr λd hd=>(it d hd).1) (by show IU^ts.map AN+1<=100;lk),HR it]
theorem Br{N:Net}(ok:N.Ok){t:Tie}(h:t∈N.ts):Cg^AN t:=by
 have it:=FA ok _^TW.mpr #[t,h,rfl];exact C_ (B:=1000001) (by cbv) it.1^by have:=it.2.2;lk
theorem Cp{ts:o_ Tie}{t:Tie}:((ts.map AN).any λy=>Dn y^AN t)=decide (t∈ts):=by
 rw[e9,h9,decide_eq_true_eq];constructor
 .rintro⟨d,hd,e⟩
  let#[s,hs,rfl]:=TW.mp hd;rw[←(IR s t).mp e];exact hs
 .intro h
  exact#[AN t,TW.mpr #[t,h,rfl],(IR t t).mpr rfl]
theorem PH:∀xs:o_ D,xs.length<=Jz xs
 |[]=>dq _
 |x::xs=>by
  have:=PH xs
  show xs.length+1<=Np x+1+Jz xs;lk
theorem M7:∀ts:o_ Tie,200*ts.length<=Jz^ts.map AN
 |[]=>dq _
 |t::ts=>by
  have:=M7 ts
  show 200*(ts.length+1)<=t.a.length+1+(t.b.length+1+(200+1+0))+1+Jz^ts.map AN;lk
theorem Rq{s t:Tie}(h:Et s=Et t):s=t:=by
 let#[a,b,l]:=s;let#[a',b',l']:=t;unfold Et at h;simp only[List.cons.injEq,Sum.inl.injEq,Sum.inr.injEq,and_true]at h;let#[rfl,rfl,rfl]:=h;rfl
theorem Cs{l1 l2:o_ Tie}(p:l1.Perm l2)(h1:Fw l1)(h2:Fw l2):l1=l2:=LW (λa b x y=>Rq^B5 _ _ y x) p h1 h2
theorem CP{ts:o_ Tie}(h:ts.Pairwise Bm):Fw ts:=h.imp λ{s t} z=>by
 cases e:BB (Et t)^Et s with
 |false=>rfl
 |true=>
  have:=Cw _ _ _ (Oq z) e
  rw[B6]at this;cases this
def YY:W2:=λss n P=>ss=[.fd]/\3<=n/\∀(t b:Int) (n':Nat),1<=b->b<=t->t<=1000000->n - 3<=n'->P (.tup [.int t,.int b]) n'
def MB:W2:=λss n P=>∃l t b x:Int,ss=[.sh^.int l,.sh^.tup [.int t,.int b],.sh^.int x]/\1<=b/\b<=1000000/\1<=t/\t<=1000000/\P (.bl (decide (l*b<=x*t))) n
section
theorem cr{i j:Int}(h0:0<=j)(h1:j<=1000000):CMul i j:=.inr #[by lk,by lk]
theorem dN{i j:Int}(h0:0<=i)(h1:i<=1000000):CMul i j:=.inl #[by lk,by lk]
end
end Nt
namespace L2
open PySem.W
section
variable {prog:Program}{w:World}{A:Around}{E:Value->Shared->Prop}{R:Result->Shared->Prop}{I:Addr}{fp wr:o_ Addr}{n:Nat}{P:Nat->Value->Prop}{St:Nat->Heap->Prop}
def Wv(prog:eK)(w:eU)(A:eh)(op:CmpOp)(P:Nat->Db->Prop)(Cm:eC->Prop)(bt:Nat->Nat->Bool):Prop:=
 ∀i j vi vj (s:Rs) (Q:Db->Rs->Prop) (E:Db->Rs->Prop),Cm s.heap->P i vi->P j vj->Q (.bool^bt i j) s->wpAny (model prog w) A (richCompare op vi vj) Q E s
theorem QX(W:Walks prog w A.in1 I fp wr n P St)(bt:Nat->Nat->Bool)(Cm:eC->Prop)(hcmp:Wv prog w A.in1 .Lt P Cm bt)(S:Ch)(hSf:S∉fp)(hmono:∀h h':eC,Cm h->(∀b o,b∉wr->b≠S->h.get? b=P3 o->h'.get? b=P3 o)->Cm h'):
  ∀(k j:Nat) (s:Rs) (vb:Db) (c:Nat),n - (j+1)=k->j+1<=n->St (j+1) s.heap->Cm s.heap->P (argBest bt j) vb->
  s.heap.get? S=P3 {cls:=.type "list",dict:=l_,data:=.seq #[ vb,vb] c,slots:=#[]}->
  (∀v h' tk,P (argBest bt (n - 1)) v->(∀b o,b∉wr->b≠S->s.heap.get? b=P3 o->h'.get? b=P3 o)->R (.ok^.ret v) {s with heap:=h',toks:=tk})->
  codeAny (model prog w) A (.builtin "min.loop" #[[.ref I,.none,.ref S],[]]) R s:=by
 have hSw:S∉wr:=λh=>hSf^W.sub _ h;have hname:(toString "min"++toString ".loop":String)="min.loop":=by cbv
 intro k
 induction k with
 |zero=>
  intro j s vb c hk hj hst hcm hPb hS hR;have hin:j+1=n:=by lk
  refine gB PySem.F.entry_min_loop ?_;rw[gf PySem.F.plain_min_loop _];show wpAny _ A.in1 (seqItems?^.ref S >>=_) _ _ s;refine Go (f9 hS rfl ?_);show wpAny _ A.in1 (tryCatch (pyNext^.ref I) _ >>=_) _ _ s;refine Go^jZ^W.done s _ _ (hin▸hst) λh' tk hk'=>?_;have hS':=hk' S _ hSw hS;show wpAny _ A.in1 (updateSeq S (λ_=>#[]) >>=_) _ _ _;refine Go ?_;refine iG hS' rfl (Go^iK^df ?_);refine hR vb _ tk (by rw[←hin];exact hPb) λb o hbw hbS e=>(d_ _ _^fL hbS).trans^hk' b o hbw e
 | succ k ih=>
  intro j s vb c hk hj hst hcm hPb hS hR;have hlt:j+1<n:=by lk
  refine gB PySem.F.entry_min_loop ?_;rw[gf PySem.F.plain_min_loop _];show wpAny _ A.in1 (seqItems?^.ref S >>=_) _ _ s;refine Go (f9 hS rfl ?_);show wpAny _ A.in1 (tryCatch (pyNext^.ref I) _ >>=_) _ _ s;refine Go^jZ^W.item (j+1) s _ _ hlt hst λv h' tk hP hst' hk'=>?_;have hS':=hk' S _ hSw hS;have hcm':Cm h':=hmono _ _ hcm λb o h1 _ e=>hk' b o h1 e;show wpAny _ A.in1 (tryCatch (holding [v,v] (richCompare .Lt v vb >>=_)) _ >>=_) _ _ _;refine Go^jZ^gE^Go^hcmp (j+1) (argBest bt j) v vb _ _ _ hcm' hP hPb ?_;refine Go^gE^fo ?_;refine Go^iK^df ?_;cases hb:bt (j+1)^argBest bt j with
  | true=>
   simp only[if_true];refine Go ?_;refine iG hS' rfl (Go^iK ?_);rw[hname]
   refine df #[gO PySem.F.plain_min_loop _,ih (j+1) _ v _ (by lk) hlt (W.frame _ _ _ hst' λb hbf o e=>?_) (hmono _ _ hcm' λb o _ h2 e=>(d_ _ _^fL h2).trans e) (by simp only[argBest,hb,if_true];exact hP) (gS _ hS' rfl)
    λv' h'' tk'' hP' hk''=>?_]
   .exact(d_ _ _ λh:S=b=>hSf^by rw[h];exact hbf).trans e
   .exact hR v' h'' tk'' hP' λb o hbw hbS e=>hk'' b o hbw hbS^(d_ _ _^fL hbS).trans^hk' b o hbw e
  |false=>
   simp only[gT,if_false];refine Go^iK ?_;rw[hname];refine df #[gO PySem.F.plain_min_loop _,ih (j+1) _ vb c (by lk) hlt hst' hcm' (by simp only[argBest,hb,gT,if_false];exact hPb) hS' λv' h'' tk'' hP' hk''=>?_];exact hR v' h'' tk'' hP' λb o hbw hbS e=>hk'' b o hbw hbS^hk' b o hbw e
theorem OD(W:Walks prog w A.in1 I fp wr n P St)(bt:Nat->Nat->Bool)(Cm:eC->Prop)(hcmp:Wv prog w A.in1 .Lt P Cm bt)(S:Ch)(hSf:S∉fp)(hmono:∀h h':eC,Cm h->(∀b o,b∉wr->b≠S->h.get? b=P3 o->h'.get? b=P3 o)->Cm h')(hn:0<n){s:Rs}{c:Nat}(hst:St 0 s.heap)(hcm:Cm s.heap)
  (hS:s.heap.get? S=P3 {cls:=.type "list",dict:=l_,data:=.seq #[] c,slots:=#[]})
  (hR:∀v h' tk,P (argBest bt (n - 1)) v->(∀b o,b∉wr->b≠S->s.heap.get? b=P3 o->h'.get? b=P3 o)->R (.ok^.ret v) {s with heap:=h',toks:=tk}):
  codeAny (model prog w) A (.builtin "min.loop" #[[.ref I,.none,.ref S],[]]) R s:=by
 have hSw:S∉wr:=λh=>hSf^W.sub _ h;have hname:(toString "min"++toString ".loop":String)="min.loop":=by cbv
 refine gB PySem.F.entry_min_loop ?_;refine Go (f9 hS rfl ?_);refine Go^jZ^W.item 0 s _ _ hn hst λv h' tk hP hst' hk'=>?_;have hS':=hk' S _ hSw hS;have hcm':Cm h':=hmono _ _ hcm λb o h1 _ e=>hk' b o h1 e;show wpAny _ A.in1 (updateSeq S (λ_=>#[ v,v]) >>=_) _ _ _;refine Go ?_;refine iG hS' rfl ?_;rw[hname];refine df #[gO PySem.F.plain_min_loop _,QX W bt Cm hcmp S hSf hmono _ 0 _ v _ rfl hn (W.frame _ _ _ hst' λb hbf o e=>?_) (hmono _ _ hcm' λb o _ h2 e=>(d_ _ _^fL h2).trans e) hP (gS _ hS' rfl) λv' h'' tk'' hP' hk''=>?_]
 .exact(d_ _ _ λh:S=b=>hSf^by grind).trans e
 .exact hR v' h'' tk'' hP' λb o hbw hbS e=>hk'' b o hbw hbS^(d_ _ _^fL hbS).trans^hk' b o hbw e
theorem min_list{s:Rs}{l:Ch}{items:Array Db}{Q:Db->Rs->Prop}(bt:Nat->Nat->Bool)(hh:A.handled=l_)(hl:s.heap.IsList l items)(hn:0<items.size)
  (hcmp:∀i j vi vj (s':Rs) (Q:Db->Rs->Prop) (E:Db->Rs->Prop),(∀b o,s.heap.get? b=P3 o->s'.heap.get? b=P3 o)->items[i]?=P3 vi->items[j]?=P3 vj->Q (.bool^bt i j) s'->wpAny (model prog w) A.in1 (richCompare .Lt vi vj) Q E s')
  (h:∀v h' tk,items[argBest bt (items.size - 1)]?=P3 v->(∀b o,s.heap.get? b=P3 o->h'.get? b=P3 o)->Q v {s with heap:=h',toks:=tk}):wpAny (model prog w) A (call (.builtin "min") [.ref l]) Q E s:=by
 have hname:(toString "min"++toString ".loop":String)="min.loop":=by cbv
 have hlt:l<s.heap.objs.size:=by let#[_,e,_]:=hl;exact Uf e
 refine call_function_tree PySem.F.kind_min PySem.F.plain_min PySem.F.entry_min (PySem.F.args_min1 _) ?_;show wpAny _ A.in1 (jg "min" ["key","default"] 0 #[[],[]] >>=_) _ _ s;refine Go^wpAny_of_eq (show jg "min" ["key","default"] 0 #[[],[]]=pure [l_,l_]from rfl) ?_;refine Go^df ?_;refine Go^fq hl ?_;refine Go^gg ?_;rw[hname];have W:=Walks.list (prog:=prog) (w:=w) (A:=A.in1) hh s.heap.objs.size l (eB hlt) items;have hs1:(s.heap.push {cls:=.type "list_iterator",data:=.fields #[ .ref l,.int 0 0]}).objs.size=s.heap.objs.size+1:=fe _ _;refine df #[gO PySem.F.plain_min_loop _,OD W bt (λh'=>∀b o,s.heap.get? b=P3 o->h'.get? b=P3 o) (λi j vi vj s' Q E hc h1 h2 q=>hcmp i j vi vj s' Q E hc h1 h2 q) (s.heap.push {cls:=.type "list_iterator",data:=.fields #[ .ref l,.int 0 0]}).objs.size (λhm=>?_) (λh1 h2 hc hk b o e=>hk b o (λhm=>?_) ?_^hc b o e) hn #[#[_,No _ (T0 _ rfl),rfl,rfl],(hl.push _).push _] (λb o e=>No _^No _ e) (T0 _ rfl) λv h' tk hP hk=>?_]
 .rw[hs1]at hm
  rcases UF.mp hm with e|hm
  .exact absurd e^Nat.succ_ne_self _
  .rw[←On.mp hm]at hlt
   exact absurd hlt^iw.mpr^fj _
 .rw[On.mp hm]at e
  exact absurd (Uf e)^fC _
 .rw[hs1]
  exact eB^f_^Uf e
 .refine h v h' tk hP λb o e=>hk b o (λhm=>?_) ?_^No _^No _ e
  .rw[On.mp hm]at e
   exact absurd (Uf e)^fC _
  .rw[hs1]
   exact eB^f_^Uf e
end
theorem Jv(keys:o_^o_ Key):∀m:Nat,argBest (λi j=>BB (keys.getD i [])^keys.getD j []) m<=m/\∀i,i<=m->BB (keys.getD i [])^keys.getD (argBest (λi j=>BB (keys.getD i [])^keys.getD j []) m) []=n_
 |0=>#[Re _,λi hi=>by
  have:i=0:=by lk
  subst this;exact B6 _]
 | m+1=>by
  let#[h1,h2]:=Jv keys m;unfold argBest
  by_cases c:BB (keys.getD (m+1) [])^keys.getD (argBest (λi j=>BB (keys.getD i [])^keys.getD j []) m) []=m_
  .rw[if_pos c]
   refine#[Re _,λi hi=>?_]
   by_cases e:i=m+1
   .subst e;exact B6 _
   .cases z:BB (keys.getD i [])^keys.getD (m+1) [] with
    |false=>rfl
    |true=>
     have:=Cw _ _ _ z c
     rw[h2 i^by lk]at this;cases this
  grind
section
variable {X:Cx}
def WL(K:Frag):o_ V->Hp->VK->Prop:=λxs H Q=>∃(p:Ch) (vs:o_ V) (keys:o_^o_ Key),xs=[.ref p]/\SqL K H p vs/\0<vs.length/\KeysAt K H vs keys /\
 ∀j v,vs[j]?=P3 v->(∀i,i<vs.length->BB (keys.getD i [])^keys.getD j []=n_)->Q v H
theorem Q6{k:Nat}(hr:Room k X.A):Cq X (.builtin "min")^WL X.K:=by
 intro zG s Z H xs us Q I r h;let#[p,vs,keys,rfl,hq,hn,hk,q]:=h;let#[u,rfl,rx]:=vals1 r;cases rx;let#[its,r',pl,hz]:=I.list hq;have hl:=r'.length;have tk:=hk.tups I r' λb o e=>e;have hu:=hr.un;refine min_list (λi j=>BB (keys.getD i [])^keys.getD j []) hr.hd pl.isList (by rw[dn];lk) (λi j vi vj s' Q' E' hold h1 h2 q'=>?_) λv h' tk' hv hold=>?_
 .have hi:i<keys.length:=by rw[←hk.len,hl];have:=(jr.mp h1).1;simpa using this
  have hj:j<keys.length:=by rw[←hk.len,hl];have:=(jr.mp h2).1;simpa using this
  let#[a,#[cls,dd,data,sl],xs,n,e1,e2,e3,e4,e5]:=tk.at_ i keys[i] (Op hi);let#[a',#[cls',dd',data',sl'],xs',n',e1',e2',e3',e4',e5']:=tk.at_ j keys[j] (Op hj);simp only at e3 e4 e3' e4';subst e3 e4 e3' e4';have e1:its.toArray[i]?=P3^.ref a:=by rw[←e1];simp
  have e1':its.toArray[j]?=P3^.ref a':=by rw[←e1'];simp
  rw[e1]at h1;rw[e1']at h2;cases h1;cases h2;have hsm:=hk.same _ (fk hi) _^fk hj;have g1:keys.getD i []=keys[i]:=by rw[eY,Op hi];rfl
  have g2:keys.getD j []=keys[j]:=by rw[eY,Op hj];rfl
  simp only[g1,g2]at q';rw[←Gn _ _ hsm]at q'
  exact richCompare_meets_room (op:=.Lt) #[_,hold _ _ e2,rfl] #[_,hold _ _ e2',rfl] PySem.F.slot_tuple_lt PySem.F.entry_tuple_lt (PySem.F.args_tuple_lt_2 _ _) (Fk a a' xs xs' n n' dd dd' sl sl' keys[i] keys[j] e5 e5' hsm)
   #[hold _ _ e2,hold _ _ e2',show jI (Fh keys[i] keys[j])≠Value.notImplemented/\Q' (.bool (Fh keys[i] keys[j])) s' from#[(λx=>nomatch x),q']] (by show X.A.units+1<cLine;lk)
 .let#[b1,b2]:=Jv keys (its.toArray.size - 1)
  rw[dn]at hv b1 b2;have hj:argBest (λi j=>BB (keys.getD i [])^keys.getD j []) (its.length - 1)<vs.length:=by lk
  let#[u,e1,ru]:=r'.get^Op hj;have e2:its.toArray[argBest (λi j=>BB (keys.getD i [])^keys.getD j []) (its.length - 1)]?=P3 u:=by rw[←e1];simp
  rw[e2]at hv;cases hv;exact#[_,H,I.kept (t':=tk') hold,ru,q _ _ (Op hj) λi hi=>b2 i^by lk]
end
end L2
namespace Dp
open L2
def Zz(ds:o_ D)(P:D->Prop):Prop:=∃xs,ds=[.lst xs]/\0<xs.length/\Keyed Cy xs/\∀x∈xs,(∀y∈xs,∀kx ky,Cy x=P3 kx->Cy y=P3 ky->BB ky kx=n_)->P x
theorem YO{K:Frag}:DD K .sh (WL K) Zz:=by
 intro U M H ds vs P Q dom vM hp w q;let#[xs,rfl,hn,hK,w]:=w;let#[v,rfl,hx]:=Eo hp;let#[a,us,rfl,_,hq,hs]:=hx;let#[keys,hl,hk]:=FZ hK.1;have hlen:=hs.length;refine#[a,us,keys,rfl,.inl hq,by lk,HS (λd k v _=>HV) hs hK hl hk,λj v hv hle=>?_];have hj:j<xs.length:=by rw[←hlen];exact(de.mp hv).1
 let#[v',e1,h1]:=hs.get^Op hj;rw[hv]at e1;cases e1;refine q v H xs[j] .refl h1 (w _ (fk hj) λy hy kx ky ex ey=>?_);let#[i,hi]:=gy.mp hy;have hil:i<xs.length:=(de.mp hi).1;let#[k1,a1,b1,_]:=hk i y hi;let#[k2,a2,b2,_]:=hk j xs[j] (Op hj)
 grind
end Dp
namespace L2
def cW(d:Ch)(o:Obj)(kvs:o_ (Key×V)):It:=
 #[λi H=>H d=P3^.frz o^.dK kvs/\i<kvs.length,λi H x H'=>∃T p,x=.ref T/\H T=l_/\kvs[i]?=P3 p/\H'=BF H T^.tup [kV p.1,p.2],λi H=>H d=P3^.frz o^.dK kvs/\kvs.length<=i]
theorem Sz{P:eK}{w:eU}{k:Key}{u:Db}(h:(A_ P w).is k u=m_):RelV (kV k) u:=by
 rcases BM h with⟨i,t,rfl,rfl⟩|⟨x,t,rfl,rfl⟩
 .exact#[t,rfl]
 .exact#[t,rfl]
theorem Fd{X:Cx}{zG:o_ (Ch×Obj)}{Z:L2.St}{H:Hp}{s:Rs}{d:Ch}{o:Obj}{kvs:o_ (Key×V)}{es:Array DictEntry}{ep:Nat}(I:Inv X zG Z H s)(h:H d=P3^.frz o^.dK kvs)(hd:o.data=.dict es ep):
  ∃ws,KV kvs ws/\s.heap.DictAt (A_ X.prog X.w) d ws ep:=by
 let#[e0,_,_,ws,kv,o',es',ep',e1,e2,e3,e4]:=(I.hok d _ h);rw[e0]at e1;cases e1;rw[hd]at e3;cases e3;exact#[ws,kv,o,es,e0,e2,hd,e4]
theorem Nk{P:eK}{w:eU}{K:Frag}{els:o_ eO}{j:Nat}{pos:Pos}(d it:Ch)(o:Obj)(kvs:o_ (Key×V))(es:Array DictEntry)(ep:Nat)(hdat:o.data=.dict es ep):
  Turn P w K (.Tuple els j pos) (cW d o kvs) [it] it (λi h=>∃ok ov,IsItemIter h it d i kvs.length ep ok ov) where
 mem:=by simp
 obj:=λi h #[ok,ov,st] c hc=>by
  rw[On.mp hc];exact#[_,st,λv q=>by cases q]
 keep:=λi h h' #[ok,ov,st] k=>#[ok,ov,k it (by simp) _ st]
 item:=by
  intro X hP hw hK hc i zG s Z H E I hf st hg;subst hP hw hK;let#[hH,hi]:=hg;let#[ok,ov,st]:=st;let#[ws,kv,D]:=Fd I hH hdat
  have hl:=kv.length;have hiw:i<ws.length:=by lk
  rw[hl]at st;obtain⟨k,v,hkv⟩:∃k v,ws[i]=(k,v):=#[_,_,rfl];have hx:ws[i]?=P3 (k,v):=by rw[Op hiw,hkv]
  have hp:kvs[i]?=P3 kvs[i]:=Op hi;let#[ek,rv]:=Gb kv hp hx;have ek:kvs[i].1=k:=ek;refine wpAny_pyNext_items_item st D hx λkey h' hkey hout htup hsz hold=>#[_,rfl,?_];refine wpAny_letOwnedTupleGo_items hout λh2 hit2 hsame=>?_;have hT:H s.heap.objs.size=l_:=I.hok.fresh^Re _;have nit:s.heap.objs.size≠it:=ig^Uf st
  have kk:∀c o,c∉[it]->s.heap.get? c=P3 o->h2.get? c=P3 o:=λc o hc e=>by
   have hc:c≠it:=λz=>hc (by rw[z];exact On.mpr rfl);exact(hsame.2 c hc).trans^hold c o hc e
  have I2:Inv X zG Z (BF H s.heap.objs.size^.tup [kV kvs[i].1,kvs[i].2]) {s with heap:=h2}:=by
   refine I.turnLaid (t':=s.toks) (ch:=[it]) (λc hc=>hf c hc) kk (Re _) ?_;exact#[by show 2<=sizeLine;decide,[key,v],.cons (Sz^by rw[ek];exact hkey)^.cons rv .nil,#[_,(hsame.2 _ nit).trans htup,rfl,_,rfl,rfl,rfl]]
  refine#[.ref s.heap.objs.size,_,I2,rfl,#[_,_,rfl,hT,hp,rfl],#[key,v,by rw[hl];exact hit2],λc hc=>?_];rw[On.mp hc,AO^fL nit];exact(hf it^by simp).1
 done:=by
  intro X hP hw hK hc i zG s Z H E I hf st hg;subst hP hw hK;let#[hH,hi]:=hg;let#[ok,ov,st]:=st;let#[ws,kv,D]:=Fd I hH hdat
  have hl:=kv.length;rw[hl]at st;refine wpAny_pyNext_items_end (I.ok.hd hc) st D (jH^by lk) λh' ext=>#[rfl,?_];exact I.turnedL (t':=s.toks) (ch:=[it]) (λc hc=>hf c hc) λc o hc e=>ext c o (λz=>hc^by rw[z];exact On.mpr rfl) e
 self:=λA i s Q E #[ok,ov,st] h=>PySem.W.kcp_self st h
def X5(to:TE):TI:=λZ H R=>to Z H λx H1=>∃d o kvs,x=.ref d/\H1 d=P3^.frz o^.dK kvs/\∀r,H1 r=l_->R (cW d o kvs)^BF H1 r^.ext λh=>h.IsItemsView r d
theorem SW{X:Cx}{e:eO}{els:o_ eO}{j:Nat}{tpos apos cpos:Pos}{to:TE}(ho:PE X e to)(hbase:attributeBase e "items" X.env^eval e X.env=eval e X.env:=by rfl)(hline:(apos.endLine==cpos.line)=m_:=by rfl):
  PI X (.Tuple els j tpos) (.Call (.Attribute e "items" apos) [] [] cpos) (X5 to):=by
 intro zG s Z H R I h;refine wpAny_Call_method0_late hbase hline^thn (ho zG s Z H _ I h) λv s1 zz=>?_;let#[x,H1,I1,r1,d,o,kvs,ex,hd,q]:=zz;subst ex;cases r1;let#[h1,h2,lo]:=S7 I1^.inl #[kvs,.inr #[o,hd]];let#[_,_,ws,kv,D]:=Fv I1.hok^.inr #[o,hd];refine#["dict","dict.items",PySem.F.plainAttrs_dict,PySem.F.slot_dict_items,PySem.F.type_dict_items,h1,h2,iJ rfl (PySem.evalArgs_none ?_)];refine call_meetsIn PySem.F.slot_dict_items D.typeIs PySem.F.entry_dict_items (PySem.F.args_dict_items_1 _) (meets_dict_items (A_ X.prog X.w) d lo) #[#[ws,D],?_];have hf:H1 s1.heap.objs.size=l_:=I1.fresh;have hv:(s1.heap.push {cls:=.type "dict_items",data:=.fields #[ .ref d]}).IsItemsView s1.heap.objs.size d:=#[_,T0 _ rfl,rfl,rfl]
 have I2:Inv X zG Z (BF H1 s1.heap.objs.size^.ext λh=>h.IsItemsView s1.heap.objs.size d) {s1 with heap:=s1.heap.push {cls:=.type "dict_items",data:=.fields #[ .ref d]}}:=
  I1.laid (t':=s1.toks) (λb o e=>No _ e) (Re _) #[hv,#[_,T0 _ rfl],λh1 h2 #[o,e,c] k=>#[o,k o e,c]]
 have hd2:(BF H1 s1.heap.objs.size^.ext λh=>h.IsItemsView s1.heap.objs.size d) d=P3^.frz o^.dK kvs:=by rw[AO^Aq hd hf];exact hd
 obtain⟨es,ep,hdat⟩:∃es ep,o.data=.dict es ep:=by
  let#[e0,_,_,ws,kv,o',es',ep',e1,e2,e3,e4]:=(show ObjOk X.prog X.w H1 s1.heap d^.frz o^.dK kvs from I1.hok d _ hd)
  grind
 let#[ws2,kv2,D2]:=Fd I2 hd2 hdat
 have hl:=kv2.length;refine wpAny_pyIter_items (s:={s1 with heap:=s1.heap.push {cls:=.type "dict_items",data:=.fields #[ .ref d]}}) hv D2 ?_;refine#[_,[(s1.heap.push {cls:=.type "dict_items",data:=.fields #[ .ref d]}).objs.size],_,cW d o kvs,_,rfl,I2.kept (t':=s1.toks) λb o e=>No _ e,Nk d _ o kvs es ep hdat,#[.none,.none,by rw[hl];exact T0 _ rfl],λc hc=>?_,q _ hf];rw[On.mp hc];exact I2.fpOk (Re _) I2.fresh
end L2
namespace Dp
open L2
def wItems(wa:DW):Dq:=λn ρ P=>wa n ρ λd n1=>∃ks ds,d=.fdi ks ds/\(∀k∈ks,Lq k)/\P (DY (ks.map US) ds) n1
theorem S0(k:Key):kV k=kOf k:=by cases k <;>rfl
section
variable {X:Cx}{a:Expr}{zU:Kd}{wa:DW}{els:o_ Expr}{j:Nat}{tpos apos cpos:Pos}
theorem Ta(ha:DE X a zU wa)(hbase:attributeBase a "items" X.env^eval a X.env=eval a X.env:=by rfl)(hline:(apos.endLine==cpos.line)=m_:=by rfl):DI X (.Tuple els j tpos) (.Call (.Attribute a "items" apos) [] [] cpos)^wItems wa:=by
 let#[t,a1,a2]:=ha;refine#[_,SW a1 hbase hline,λC M H n ρ Z P Rr R w q=>?_];refine a2 C M H n ρ Z _ _ R w λv H1 d n1 ee f1 r1 p=>?_;let#[ks,ds,rfl,hfit,p]:=p;have R1:=R.step ee f1;obtain⟨ad,vs,rfl,⟨o,nM,hd⟩,hlen,hs⟩:∃a vs,v=.ref a/\NdF M H1 a ks vs/\ks.length=ds.length/\Ats X.K M H1 ds vs:=r1.tpOf R.dom R.vM;have hl:=hs.length;refine#[ad,o,_,rfl,hd,λr hr=>?_];have g:Grow H1 (BF H1 r^.ext λh=>h.IsItemsView r ad):=A2 hr;refine q _ _ _ n1 (ee.trans g.ext) (f1.grow g) (λi M' H' pr dom=>?_) p;have pr2:Pres M H1 M' H':=g.pres.trans pr;have hd':H' ad=P3^.frz o^.dK^ks.zip vs:=(pr2.nd nM hd).2;have zl:(ks.zip vs).length=ks.length:=by rw[kQ];lk
 have zd:(DY (ks.map US) ds).length=ks.length:=by unfold DY;rw[jW,Ev];lk
 refine#[λe he=>?_,λhle=>#[hd',by lk]];have hi:i<ks.length:=by rw[←zd];exact(de.mp he).1
 have hid:i<ds.length:=by lk
 refine#[#[hd',by lk],λx H2 y=>?_];let#[T,pp,rfl,hT,hp,rfl]:=y;let#[v',e1,h1]:=(hs.pres pr2).get^Op hid
 have e2:(ks.zip vs)[i]?=P3 (ks[i],v'):=by
  rw[j7];exact#[Op hi,e1]
 rw[e2]at hp;cases hp
 have e3:e=.tup [US ks[i],ds[i]]:=by
  unfold DY at he;rw[jG,di,Op hi,Op hid]at he;exact(d6 he).symm
 subst e3;refine#[A2 hT,Dk dom hT #[_,_,rfl,?_,_,_,rfl,h1,rfl]];show At X.K M' H' (US ks[i]) (kV ks[i]);rw[S0];exact Ti^hfit _^fk hi
end
section
variable {K:Frag}{C:Fm}{M:Addr->Prop}{H:Hp}{n:Nat}{ρ:o_ Slot}{Z:L2.St}
theorem Rel.hold(R:Rel K C M H n ρ Z){p:Ch}{o:HO}(hp:H p=l_):Rel K C (λb=>M b\/b=p) (BF H p o) n ρ Z:=by
 have g:Grow H^BF H p o:=A2 hp;have pr:Pres M H _^BF H p o:=GA hp;refine#[R.len,λa z=>.inl^R.sub a z,λa z=>?_,R.ext.trans g.ext,R.fU,R.uV,λa z=>.inl^R.vM a z,(R.feed.grow g).more p λf hf q=>?_,λi s q=>(R.sl i s q).pres pr (λ_ z=>.inl z) g.ext R.uV,λq hq=>(R.pin q hq).trans pr,R.br0,R.new,R.two,λq hq=>?_]
 .rcases z with z|z
  .let#[u,h1]:=R.dom a z
   exact#[u,g.all a u h1]
  .rw[z];exact#[o,AW]
 .let#[_,_,_,_,_,h3,_]:=R.feed f hf
  have:=h3.2
  grind
 .let#[h1,h2,h3,h4]:=R.kept q hq
  exact#[g.all _ _ h1,.inl h2,h3,h4]
end
def Je(ks:o_ Key)(k:Key):Bool:=ks.any λk0=>decide (k0=k)
theorem hasK_iff{ks:o_ Key}{k:Key}:Je ks k=m_↔k∈ks:=by
 unfold Je
 simp_all
def C5(ks:o_ Key)(k:Key):o_ Key:=if Je ks k=m_ then ks else ks++[k]
def DA{α:Type}(ks:o_ Key)(ds:o_ α)(k:Key)(d:α):o_ α:=if Je ks k=m_ then ip (λk0 d0=>if k0=k then d else d0) ks ds else ds++[d]
theorem Vl{ks:o_ Key}{vs:o_ V}(hl:ks.length=vs.length)(k:Key):((ks.zip vs).any λkv=>decide (kv.1=k))=Je ks k:=by
 rw[e9,h9,hasK_iff];constructor
 .rintro⟨⟨a,b⟩,hm,e⟩
  have e:=of_decide_eq_true e;rw[←e];exact(iX hm).1
 .intro h
  let#[i,hi,e]:=List.mem_iff_getElem.mp h;exact#[(ks[i],vs[i]'(by lk)),List.mem_iff_getElem.mpr #[i,by grind,by grind],by grind]
theorem SJ{ks:o_ Key}{vs:o_ V}(hl:ks.length=vs.length)(k:Key)(v:V):putK (ks.zip vs) k v=(C5 ks k).zip^DA ks vs k v:=by
 unfold putK C5 DA;rw[Vl hl]
 by_cases h:Je ks k=m_
 .have go:∀(ks:o_ _) (vs:o_ V),((ks.zip vs).map λkv=>if kv.1=k then(kv.1,v)else kv)=ks.zip^ip (λk0 d0=>if k0=k then v else d0) ks vs:=by
   intro ks
   induction ks with
   |nil=>intro vs;rfl
   | cons a ks ih=>
    intro vs;cases vs with
    |nil=>rfl
    |cons b vs=>
     show(if a=k then(a,v)else(a,b))::_=(a,if a=k then v else b)::_;exact List.cons_eq_cons.mpr #[by split <;>rfl,ih vs]
  simp_all
 .rw[if_neg h,if_neg h,if_neg h,List.zip_append hl]
  rfl
theorem Ats.put{K:Frag}{M:Ch->Prop}{H:Hp}{k:Key}{d:D}{v:V}(hd:At K M H d v):∀{ks:o_ Key}{ds:o_ D}{vs:o_ V},Ats K M H ds vs->Ats K M H (ip (λk0 d0=>if k0=k then d else d0) ks ds)^ip (λk0 d0=>if k0=k then v else d0) ks vs
 |[],ds,vs,h=>rfl
 |a::ks,[],vs,h=>by cases(h);rfl
 |a::ks,e::ds,vs,h=>by
  let#[u,r,rfl,h1,h2]:=h;refine#[_,_,rfl,?_,Ats.put hd h2]
  grind
theorem Ats.putX{K:Frag}{M:Ch->Prop}{H:Hp}{k:Key}{d:D}{v:V}{ks:o_ Key}{ds:o_ D}{vs:o_ V}(hd:At K M H d v)(h:Ats K M H ds vs):Ats K M H (DA ks ds k d)^DA ks vs k v:=by
 unfold DA
 split
 .exact Ats.put hd h
 .exact h.append^Ats.one hd
theorem O4{α:Type}{ks:o_ Key}{ds:o_ α}{k:Key}{d:α}(hl:ks.length=ds.length):(C5 ks k).length=(DA ks ds k d).length:=by
 unfold C5 DA
 grind
theorem KP:∀{ks:o_ Key}{ds:o_ D}{k:Key},k∉ks->BO ks ds k=l_
 |[],ds,k,_=>by rfl
 |a::ks,[],k,_=>rfl
 |a::ks,d::ds,k,h=>by
  unfold BO;rw[if_neg λe=>h^by grind];exact KP λz=>h^Sc _ z
theorem HD:∀{ks:o_ Key}{ds:o_ D}{k:Key},ks.length=ds.length->k∈ks->∃z,BO ks ds k=P3 z
 |[],ds,k,_,h=>by cases h
 |a::ks,[],k,h,_=>by cases h
 | a::ks,d::ds,k,hl,h=>by
  unfold BO
  by_cases e:a=k
  .simp_all
  .rw[if_neg e]
   exact HD (by simp_all)^(UF.mp h).resolve_left λz=>e z.symm
theorem Rh{ks:o_ Key}{ds:o_ D}{k:Key}{d:D}(hl:ks.length=ds.length)(j:Key):BO (C5 ks k) (DA ks ds k d) j=if j=k then P3 d else BO ks ds j:=by
 unfold C5 DA
 by_cases h':Je ks k=m_
 .have h:=hasK_iff.mp h'
  rw[if_pos h',if_pos h']
  have go:∀(ks:o_ Key) (ds:o_ D),ks.length=ds.length->(j=k->k∈ks)->BO ks (ip (λk0 d0=>if k0=k then d else d0) ks ds) j=if j=k then P3 d else BO ks ds j:=by
   intro ks
   induction ks with
   |nil=>
    intro ds _ hm
    by_cases e:j=k
    .exact absurd (hm e) d9
    .rw[if_neg e];cases ds <;>rfl
   | cons a ks ih=>
    intro ds hl hm;cases ds with
    |nil=>cases hl
    | cons e ds=>
     show(if a=j then P3 (if a=k then d else e)else BO ks _ j)=if j=k then P3 d else if a=j then P3 e else BO ks ds j
     by_cases e1:a=j
     .rw[if_pos e1,if_pos e1]
      by_cases e2:j=k
      .rw[if_pos e2,if_pos^e1.trans e2]
      .rw[if_neg e2,if_neg λz=>e2^e1.symm.trans z]
     .rw[if_neg e1,if_neg e1]
      refine ih ds (by simpa using hl) λz=>(UF.mp^hm z).resolve_left λw=>e1^w.symm.trans z.symm
  exact go ks ds hl λ_=>h
 .have h:k∉ks:=λz=>h'^hasK_iff.mpr z
  rw[if_neg h',if_neg h']
  have go:∀(ks:o_ Key) (ds:o_ D),ks.length=ds.length->k∉ks->BO (ks++[k]) (ds++[d]) j=if j=k then P3 d else BO ks ds j:=by
   intro ks
   induction ks with
   | nil=>
    intro ds hl _;cases ds with
    |nil=>
     show(if k=j then P3 d else l_)=if j=k then P3 d else l_
     by_cases e:j=k
     .rw[if_pos e,if_pos e.symm]
     .rw[if_neg e,if_neg λz=>e z.symm]
    |cons e ds=>cases hl
   | cons a ks ih=>
    intro ds hl hm;cases ds with
    |nil=>cases hl
    |cons e ds=>
     show(if a=j then P3 e else BO (ks++[k]) (ds++[d]) j)=if j=k then P3 d else if a=j then P3 e else BO ks ds j
     rw[ih ds (by simpa using hl) λz=>hm^Sc _ z]
     by_cases e1:a=j
     .rw[if_pos e1,if_pos e1,if_neg λz=>hm^by rw[←z,←e1];exact FM]
     .rw[if_neg e1,if_neg e1]
  exact go ks ds hl h
section
variable {X:Cx}{a b e:Expr}{κ zU zO:Kd}{wa wb:DW}{pos pos':Pos}
def W5(wk wv:DW):DW:=λn ρ P=>wk n ρ λk n1=>wv n1 ρ λd n2=>∃key,keyOf k=P3 key/\P (.dic [key] [d]) n2
theorem NN(ha:DE X a zU wa)(hb:DE X b zO wb)(hk:zO≠.tp:=by intro z;cases z):DE X (.Dict [P3 a] [b] pos) .fr^W5 wa wb:=by
 let#[t,h1,h2]:=ha;let#[u,g1,g2]:=hb;refine#[_,U1 (SR h1 g1 Uu) rfl rfl (gn _ _) (by show 1<=15;decide),λC M H n ρ Z P Q R w q=>λp hp=>?_];have R1:=R.hold (o:=.dK []) hp
 have np:¬C.U p:=λz=>by
  let#[o,w]:=R.dom p^R.vM p^R.uV p z;rw[hp]at w;cases w
 refine h2 C _ _ n ρ Z _ _ R1 w λx H2 k n1 e1 f1 r1 p1=>?_;have R2:=R1.step e1 f1;refine g2 C _ _ n1 ρ Z _ _ R2 p1 λy H3 d n2 e2 f2 r2 p2=>?_;let#[key,hkey,p2]:=p2;have R3:=R2.step e2 f2;have hat:At X.K (λb=>M b\/b=p) H3 d y:=r2.shOf R2.dom hk;have hp3:H3 p=P3^.dK []:=e2.keep (e1.keep AW np) np;have hx:x=kV key:=EJ hkey^r1.tpOf R1.dom R1.vM;refine#[hp3,[(key,y)],by rw[hx];rfl,by show 1<=15;decide,?_];show Q (.ref p)^BF H3 p^.dK [(key,y)];refine q _ _ (.dic [key] [d]) n2 (λb o eb=>?_) ?_ #[p,rfl,hp,[y],AW,rfl,?_] p2
 .have nb:b≠p:=Aq eb hp
  let#[o1,z1,k1,t1]:=e1 b o (by rw[AO nb];exact eb);let#[o2,z2,k2,t2]:=e2 b o1 z1;exact#[o2,by rw[AO nb];exact z2,λnu=>(k2 nu).trans^k1 nu,λvs z=>(t2 vs^(t1 vs z).trans z).trans^t1 vs z]
 .refine f2.pres #[λb o eb nb=>by rw[AO λz=>nb^.inr z];exact eb,λb z=>.inl^.inl z,λb vs eb=>by rw[AO λz=>by rw[z,hp3]at eb;cases eb];exact eb] λf o hf eb=>?_
  rw[AO λz=>np^by rw[←z];exact R.fU f hf];exact eb
 .exact#[y,[],rfl,hat.pres^EZ (.inr rfl) hp3,rfl]
def GQ(i:Nat)(wk wv:DW):Au:=λD2 n ρ=>∃ks ds,ρ[i]?=P3^.ow^.dic ks ds/\wv n ρ λd n1=>wk n1 ρ λk n2=>∃key,keyOf k=P3 key/\ks.length<sizeLine/\D2.nx n2^ρ.set i^.ow^.dic (C5 ks key)^DA ks ds key d
theorem Gw{i k:Nat}{x:eO}(hr:Room k X.A)(hx:PE X x^CG i)(ha:DE X a zU wa)(hb:DE X b zO wb)(hk:zO≠.tp:=by intro z;cases z)
  (hs:swapsWith b (P3^.Subscript x a pos') pos.line X.env=pure n_:=by rfl):DS X κ (.Assign [.Subscript x a pos'] b pos)^GQ i wa wb:=by
 let#[t,h1,h2]:=ha;let#[u,g1,g2]:=hb;refine#[_,IM (Kq hr) hx h1 g1 hs,λC M H n ρ Z D2 E R L w=>?_];let#[ks,ds,hd,w]:=w;refine g2 C M H n ρ Z _ _ R w λv H1 d n1 e1 f1 r1 p=>?_;have R1:=R.step e1 f1;let#[ad,ea,m,nv,tt]:=R1.sl i _ hd;refine#[.ref ad,getD_some ea,?_];refine h2 C M H1 n1 ρ Z _ _ R1 p λy H2 kk n2 e2 f2 r2 p=>?_;let#[key,hkey,hlt,p]:=p;have R2:=R1.step e2 f2;let#[ad',ea',m',nv',tt']:=R2.sl i _ hd;rw[ea]at ea';cases ea';let#[vs,hH,hl,hs']:=tt';have hat:At X.K M H2 d v:=(r1.shOf R.dom hk).pres^R1.pres e2;have hvl:ks.length=vs.length:=by rw[hl,hs'.length]
 refine#[ad,_,rfl,by rw[EJ hkey^r2.tpOf R1.dom R1.vM];exact DPut.k hH (by rw[kQ];lk),L.nx M _ n2 _ Z (R2.mut (e:=.dic (C5 ks key)^DA ks ds key d) hd ea #[DA ks vs key v,by rw[AW,SJ hvl],O4 hl,(hs'.putX hat).pres^EZ m' hH]) p]
def Y4:D->p_ Bool
 |.lst xs=>P3 (!xs.isEmpty)
 |.tup xs=>P3 (!xs.isEmpty)
 |.bl b=>P3 b
 |.non=>P3 n_
 |_=>l_
def Yx(wa:DW):GJ:=λn ρ P=>wa n ρ λd n1=>∃c,Y4 d=P3 c/\P c n1
theorem K6{K:Frag}{M:Ch->Prop}{H:Hp}{ds:o_ D}{vs:o_ V}(h:Ats K M H ds vs):vs.isEmpty=ds.isEmpty:=by
 have:=h.length
 cases vs <;>cases ds <;>first|rfl|cases this
theorem XB{U M:Ch->Prop}{H:Hp}{K:Frag}{d:D}{x:V}{c:Bool}(h:AtT K U M H d x)(e:Y4 d=P3 c):Yg K x H c:=by
 cases d with
 |lst ds=>cases e;let#[a,vs,rfl,_,hq,hs]:=h;exact .inl #[vs,.inl hq,by rw[K6 hs]]
 |tup ds=>cases e;let#[a,vs,rfl,hq,hs]:=h;exact .inr^.inl #[vs,.inl^.inl hq,by rw[K6 hs]]
 |bl b=>cases e;rw[h.bl];exact rfl
 |non=>cases e;rw[h];exact rfl
 |_=>cases e
theorem TV(h:DE X e κ wa)(he:∀whole,isTrue e X.env whole=(do let v ←whole;standAt e.pos;holding [v]^truthy v):=by intro _;rfl):DT X e^Yx wa:=by
 let#[t,h1,h2]:=h;refine#[_,SK h1 he,λC M H n ρ Z P Q R w q=>?_];refine h2 C M H n ρ Z _ _ R w λv H' d n' e1 f1 r1 p=>?_;let#[c,hc,p]:=p;exact#[c,XB (r1.tpOf R.dom R.vM) hc,q c H' n' e1 f1 p]
def Ex(neg:Bool)(d e:D)(P:D->Prop):Prop:=e=.non/\P^.bl (if neg then !S2 d else S2 d)
theorem C8{K:Frag}:Er K .sh (λx y H Q=>y=.non/\Q (.bl (decide (x=.non))) H)^Ex n_:=λU M H d e x y P Q dom vM hx hy w q=>by
 let#[rfl,w]:=w;exact#[hy,q _ H _ .refl (by rw[NB hx];rfl) w]
theorem Ek{K:Frag}:Er K .sh (λx y H Q=>y=.non/\Q (.bl (!decide (x=.non))) H)^Ex m_:=λU M H d e x y P Q dom vM hx hy w q=>by
 let#[rfl,w]:=w;exact#[hy,q _ H _ .refl (by rw[NB hx];rfl) w]
variable {apos cpos:Pos}{f:Expr}{κf:Kd}{wf:DW}
def Rc(wa wk wx:DW):DW:=λn ρ P=>wa n ρ λd n1=>∃ks ds,Jm d=P3 (ks,ds)/\wk n1 ρ λk n2=>wx n2 ρ λz n3=>∃key,keyOf k=P3 key/\P ((BO ks ds key).getD z) n3
theorem W7{U M:Ch->Prop}{H:Hp}{K:Frag}{d z:D}{x v:V}{ks:o_ Key}{ds:o_ D}{key:Key}(e:Jm d=P3 (ks,ds))(h:AtT K U M H d x)(hz:At K M H z v):∃a o,x=.ref a/\DGet H a (kV key) o/\At K M H ((BO ks ds key).getD z)^o.getD v:=by
 let#[a,vs,rfl,ha,hs]:=HZ e h;refine#[a,_,rfl,IW ha,?_];have h:=GR (k:=key) (ks:=ks) hs;cases c:BO ks ds _ with
 |none=>simp_all
 |some y=>rw[c]at h;let#[u,h1,h2]:=h;grind
theorem X2{U M:Ch->Prop}{H:Hp}{K:Frag}{d:D}{x:V}{ks:o_ Key}{ds:o_ D}(e:Jm d=P3 (ks,ds))(h:AtT K U M H d x):∃a,x=.ref a/\cX H a:=by
 let#[a,vs,rfl,ha,hs]:=HZ e h;exact#[a,rfl,.inl #[_,ha]]
theorem Vg{k:Nat}(hr:Room k X.A)(ha:DE X a zU wa)(hb:DE X b zO wb)(hf:DE X f κf wf)(hk:κf≠.tp:=by intro z;cases z)(m:M2 X a "get" apos b f cpos:=by exact#[rfl,rfl,rfl,rfl]):DE X (.Call (.Attribute a "get" apos) [b,f] [] cpos) .sh^Rc wa wb wf:=by
 let#[t,h1,h2]:=ha;let#[u,g1,g2]:=hb;let#[u2,k1,k2]:=hf;refine#[_,Sb (Kq hr) h1 g1 k1 m,λC M H n ρ Z P Q R w q=>?_];refine h2 C M H n ρ Z _ _ R w λv H1 d n1 e1 f1 r1 p=>?_;let#[ks,ds,hd,p]:=p;have R1:=R.step e1 f1;let#[ad,rfl,hI]:=X2 hd^r1.tpOf R.dom R.vM;refine#[ad,rfl,hI,?_];refine g2 C M H1 n1 ρ Z _ _ R1 p λy H2 kk n2 e2 f2 r2 p=>?_;have R2:=R1.step e2 f2;refine k2 C M H2 n2 ρ Z _ _ R2 p λz H3 dz n3 e3 f3 r3 p=>?_;let#[key,hkey,p]:=p;have R3:=R2.step e3 f3;have hat:=((r1.tpOf R.dom R.vM).pres (R1.pres e2) e2 R.uV).pres (R2.pres e3) e3 R.uV;have hy:=(r2.tpOf R1.dom R1.vM).pres (R2.pres e3) e3 R.uV;let#[ad',o,ex,g,hz]:=W7 (key:=key) hd hat^r3.shOf R2.dom hk;cases ex;exact#[o,by rw[EJ hkey hy];exact g,q _ H3 _ n3 ((e1.trans e2).trans e3) f3 hz p]
end
end Dp
namespace L2
open AutoSeq1 (wpAny_loadPart')
theorem QO:typeLookup (.type "list_reverseiterator") "__len__"=pure l_:=by kernel_rfl
theorem TC:typeLookup (.type "list_reverseiterator") "__length_hint__"=pure^P3^.builtin "list_reverseiterator.__length_hint__":=by kernel_rfl
theorem boot_reversed:bootBuiltins "reversed"=P3^.type "reversed":=by decide +kernel
def aj(prog:eK)(w:eU)(St:Nat->Rs->Prop)(I:Ch):Prop:=∀(A:eh) (E:Db->Rs->Prop) (s':Rs) (Q:Bool->Rs->Prop),St 0 s'->(∀b tk,s'.toks<=tk->Q b {s' with toks:=tk})->wpAny (model prog w) A (jh^.ref I) Q E s'
section
variable {prog:Program}{w:World}{A:Around}{E:Value->Shared->Prop}{s:Shared}{I:Addr}{fp wr:o_ Addr}{G:Array GenState->Array GenState->Prop}{n:Nat}{P:Nat->Value->Prop}{St:Nat->Shared->Prop}{c:String}
theorem OU{Q:o_ Db->Rs->Prop}(nc:(fF c==fF "list")=n_/\(fF c==fF "tuple")=n_)(hH:aj prog w St I)
  (W:WalksS prog w A.in1 I fp wr G n P St) (hT:∀i s,St i s->s.TypeIs (.ref I) c) (hst:St 0 s) (hfp:∀b∈fp,b<s.heap.objs.size) (hI:I∈fp)
  (hQ:∀s' acc,Moved wr G s s'->ItemsOf P acc n->Q acc.toList s') (hn:n<=sizeLine):wpAny (model prog w) A (collect^.ref I) Q E s:=by
 have hSf:s.heap.objs.size∉fp:=λhm=>fC _^hfp _ hm;have hSI:s.heap.objs.size≠I:=λe=>hSf (e▸hI);unfold collect;refine Go^wpAny_runValue^gB F.entry_proto_collect ?_;rw[gf F.plain_proto_collect _];show wpAny _ A.in1 (newList [] >>=λl=>again^.builtin "list.__iadd__" #[[l,.ref I],[]]) _ _ s;refine Go^gg ?_;refine df #[gO F.plain_list_iadd _,gB F.entry_list_iadd ?_];rw[gf F.plain_list_iadd _];have hst₁:=W.frame 0 s (s.heap.push {cls:=.type "list",data:=.seq ([]:o_ Db).toArray}) s.toks hst (Re _) λb _ o e=>No _ e;have hS₁:(s.heap.push {cls:=.type "list",data:=.seq ([]:o_ Db).toArray}).get? s.heap.objs.size=P3 {cls:=.type "list",data:=.seq ([]:o_ Db).toArray}:=T0 _ rfl;have h1:kH (.ref s.heap.objs.size)^.ref I=n_:=by simp[kH,hSI]
 show wpAny _ A.in1 (gw (.ref s.heap.objs.size) (.ref I)^.ref s.heap.objs.size) _ _ _;unfold gw;refine Go^ii (hT 0 _ hst₁) ?_;rw[if_neg^by rw[h1,nc.1,nc.2];decide];refine Go^W.self 0 _ _ _ hst₁ ?_;refine Go^gE ?_;refine hH _ _ _ _ hst₁ λb tk htk=>?_
 have fin:∀(h:eC) (c₁ tk':Nat),s.toks<=tk'->St 0 {s with heap:=h,toks:=tk'}->h.get? s.heap.objs.size=P3 {cls:=.type "list",data:=.seq #[] c₁}->(∀b o,b≠s.heap.objs.size->s.heap.get? b=P3 o->h.get? b=P3 o)->
   ∀R:Result->Rs->Prop,(∀s' acc c,s'.heap.get? s.heap.objs.size=P3 {cls:=.type "list",dict:=l_,data:=.seq acc c,slots:=#[]}->Moved wr G s s'->ItemsOf P acc n->R (.ok^.ret^.ref s.heap.objs.size) s')->
   codeAny (model prog w) A (.builtin "list.extend.loop" #[[.ref s.heap.objs.size,.ref I,.ref s.heap.objs.size],[]]) R {s with heap:=h,toks:=tk'}:=by
  intro h c₁ tk' ht st0 hS hk R hR;refine codeAny_extend_loopS W hn _ hSf _ n 0 _ _ _ rfl (dq _) st0 hS (ItemsOf.nil P) λs' acc' c' hm hS' hacc=>hR s' acc' c' hS' #[λb o hb e=>hm.heap b o (λhmem=>?_)^hk b o (eB^Uf e) e,hm.gens,hm.drawn,hm.os,eJ ht hm.toks] hacc
  rcases UF.mp hmem with e'|hmem
  .exact absurd (Uf e)^by rw[e'];exact fC _
  .exact hb hmem
 have last:∀s' acc c,s'.heap.get? s.heap.objs.size=P3 {cls:=.type "list",dict:=l_,data:=.seq acc c,slots:=#[]}->Moved wr G s s'->ItemsOf P acc n->wpAny (model prog w) A (load s.heap.objs.size >>=λo=>match o.data with
   |.seq xs _=>pure xs.toList
   |_=>unsupported "internal:collect") Q E s':=λs' acc c h1 h2 h3=>Go^wpAny_load h1^df^hQ s' acc h2 h3
 have st2:=W.frame 0 _ (s.heap.push {cls:=.type "list",data:=.seq ([]:o_ Db).toArray}) tk hst₁ htk λb _ o e=>e;refine wpAny_ite_split (λ_=>?_) λ_=>df #[gO F.plain_extend_loop _,fin _ 0 tk htk st2 hS₁ (λb o _ e=>No _ e) _ last];refine Go^jO ?_;refine Go ?_;show wpAny _ _ (updateSeq s.heap.objs.size (·.push .none) >>=λ_=>updateSeq s.heap.objs.size (·.pop)) _ _ _;refine Go (iG hS₁ rfl ?_);have hS₂:=gS (fG (·.push fB)) hS₁ rfl;refine iG (hz:=by seq_fits) hS₂ rfl ?_;have hS₃:=gS (fG (·.pop)) hS₂ rfl;refine df #[gO F.plain_extend_loop _,fin _ _ tk htk ?_ hS₃ (λb o hb e=>?_) _ last]
 .refine W.frame 0 {s with heap:=s.heap.push {cls:=.type "list",data:=.seq ([]:o_ Db).toArray},toks:=tk} _ tk st2 (Re _) λb hb o e=>?_
  have hbS:b≠s.heap.objs.size:=λh=>hSf (h▸hb);exact(d_ _ _^fL hbS).trans^(d_ _ _^fL hbS).trans e
 .exact(d_ _ _^fL hb).trans^(d_ _ _^fL hb).trans^No _ e
theorem KD{Q₁:Db->Rs->Prop}(nc:(fF c==fF "list")=n_/\(fF c==fF "tuple")=n_)(hH:aj prog w St I)(W:WalksS prog w A.in1.in1 I fp wr G n P St)(hT:∀i s,St i s->s.TypeIs (.ref I) c)(hst:St 0 s)(hfp:∀b∈fp,b<s.heap.objs.size)(hI:I∈fp)
  (h:∀s' acc,Moved wr G s s'->ItemsOf P acc n->Q₁ (.ref s'.heap.objs.size) {s' with heap:=s'.heap.push {cls:=.type "tuple",data:=.seq acc}}) (hsz:n<=sizeLine):
  codeAny (model prog w) A (.call (.builtin "tuple.__new__") #[[.type "tuple",.ref I],[]]) (wants Q₁ E) s:=by
 refine codeAny_of_tree ?_;show wpAny _ A.in1 (do checkBuiltinCall "tuple.__new__" #[[.type "tuple",.ref I],[]];again^.builtin "tuple.__new__" #[[.type "tuple",.ref I],[]]) _ _ s;refine Go^wpAny_of_eq (F.newCall_tuple_1 _)^df #[gO F.plain_tuple_new _,gB F.entry_tuple_new ?_];rw[gf F.plain_tuple_new _];have hsub:=sub_tuple_self;have hinit:=init_tuple_lookup;have hmh:=madeHere_tuple;have hTI:=hT 0 s hst;have nc2:=nc.2
 wp_walk using ii hTI,OU (hn:=hsz) nc hH W hT hst hfp hI
 intro s' acc hm hacc;show wpAny _ _ (ij acc.toList.toArray >>=λv=>ret v) _ _ _;unfold ij;refine Go (gg ?_^by show acc.toList.toArray.size<=sizeLine;simp only[Array.toArray_toList];rw[hacc.1];exact hsz);refine df ?_;have e:acc.toList.toArray=acc:=by simp
 rw[e];exact h s' acc hm hacc
theorem KG{Q:Db->Rs->Prop}(nc:(fF c==fF "list")=n_/\(fF c==fF "tuple")=n_)(hH:aj prog w St I)(W:WalksS prog w A.in1.in1.in1 I fp wr G n P St)(hT:∀i s,St i s->s.TypeIs (.ref I) c)(hst:St 0 s)(hfp:∀b∈fp,b<s.heap.objs.size)(hI:I∈fp)
  (hQ:∀s' acc,Moved wr G s s'->ItemsOf P acc n->Q (.ref s'.heap.objs.size) {s' with heap:=s'.heap.push {cls:=.type "tuple",data:=.seq acc}}) (hsz:n<=sizeLine):
  wpAny (model prog w) A (call (.type "tuple") [.ref I]) Q E s:=by
 refine callType_codes (Q₁:=λobj s₁=>s₁.TypeIs obj "tuple"/\Q obj s₁) kY (F.typeCall_tuple_1 _) F.entry_object_init
  (KD (hsz:=hsz) nc hH W hT hst hfp hI λs' acc hm hacc=>#[#[_,T0 _ rfl,rfl],hQ s' acc hm hacc]) λobj s₁ h₁=>?_
 exact#[h₁.1,F.args_object_init_2 obj _,object_init_meets kY.init.lookup kY.made (by cbv) prog w A.in1 _ s₁ #[h₁.1,rfl,h₁.2]]
theorem Sq(hT:∀i s,St i s->s.TypeIs (.ref I) "list_reverseiterator"):aj prog w St I:=by
 intro A E s Q hst h;have h0:=hT 0 _ hst;unfold jh;refine Go^kM h0 QO ?_;show wpAny _ A (specialOf (fR I)^fu "__length_hint__" >>=_) _ _ _;refine Go (kM h0 TC ?_)
 (generalize hid:("list_reverseiterator.__length_hint__":String)=id0;wp_delta;rw[show splitId id0=P3 ("list_reverseiterator","__length_hint__")from by subst hid;decide +kernel];subst hid)
 refine Go^wpAny_isInstance (b:=m_) h0 (by rw[isSubtype_type];kernel_rfl) ?_;exact df^h _ _^Re _
end
section
variable {X:Cx}{e:Expr}{te:TE}{p1 p2 q1 q2:Pos}
def aU(X:Cx)(R:Ch->o_ V->Hp->Prop):Prop:=∀{zG:o_ (Ch×Obj)}{Z:St}{H1:Hp}{s1:Rs}{l:Ch}{xs:o_ V},Inv X zG Z H1 s1->R l xs H1->∃its:o_ Db,Vals xs its/\xs.length<=sizeLine/\l<s1.heap.objs.size /\
 ∀{A:eh}{E:Db->Rs->Prop}{Q:Db->Rs->Prop},(∀(o:Obj) (tk0:Nat) (c:String) (St0:Nat->Rs->Prop),o.isFreed=n_->(fF c==fF "list")=n_/\(fF c==fF "tuple")=n_->WalksS X.prog X.w X.A.in1.in1.in1 s1.heap.objs.size [s1.heap.objs.size,l] [s1.heap.objs.size] (λa b=>b=a) its.toArray.size (λi v=>its.toArray[its.toArray.size - 1 - i]?=P3 v) St0->
  (∀i s,St0 i s->s.TypeIs (.ref s1.heap.objs.size) c)->aj X.prog X.w St0 s1.heap.objs.size->St0 0 {s1 with heap:=s1.heap.push o,toks:=tk0}->Q (.ref s1.heap.objs.size) {s1 with heap:=s1.heap.push o,toks:=tk0})->wpAny (model X.prog X.w) A (call (.type "reversed") [.ref l]) Q E s1
def V9(R:Ch->o_ V->Hp->Prop)(te:TE):TE:=λZ H Q=>te Z H λx H1=>∃l xs,x=.ref l/\R l xs H1/\∀r,H1 r=l_->Q (.ref r)^BF H1 r^.tup xs.reverse
theorem Uz{R:Ch->o_ V->Hp->Prop}(ok:aU X R)(he:PE X e te)(hg1:Gl X "tuple")(hm1:X.mg "tuple"=l_)(hg2:Gl X "reversed")(hm2:X.mg "reversed"=l_)(h1:starEach [ji (.Name "reversed" p2) [e] [] q2] X.env=[(n_,eval (ji (.Name "reversed" p2) [e] [] q2) X.env)])
  (h2:starEach [e] X.env=[(n_,eval e X.env)]):PE X (.Call (.Name "tuple" p1) [.Call (.Name "reversed" p2) [e] [] q2] [] q1)^V9 R te:=by
 intro zG s Z H Q I h;refine gC^Dg I hg1 hm1 boot_tuple ?_;refine fI ?_ h1 rfl;rw[h1];refine gR ?_;refine gC^Dg I hg2 hm2 boot_reversed ?_;refine fI ?_ h2 rfl;rw[h2];refine gR^thn (he zG s Z H _ I h) λu s1 zz=>?_;let#[x,H1,I1,r1,l,xs,ex,hq,q]:=zz;refine g_ ?_;subst ex;cases r1;let#[its,r',hz,hlt,go]:=ok I1 hq;have hlen:=r'.length;refine go λo tk0 c St0 fr nc W hT hH h0=>g_ ?_;have hn1:H1 s1.heap.objs.size=l_:=I1.fresh;have I2:Inv X zG Z H1 {s1 with heap:=s1.heap.push o,toks:=tk0}:=I1.kept (t':=tk0) λb o e=>No _ e;have fpk:Fj X zG H1 s1.heap.objs.size:=I1.fpOk (Re _) hn1;refine KG nc hH W hT h0 (λb hb=>?_) FM (λs' acc hm hacc=>?_)^by rw[dn,←hlen];exact hz
 .rcases UF.mp hb with rfl|hb
  .exact Uf^T0 _ fr
  .obtain rfl:=On.mp hb
   exact eW hlt^by show s1.heap.objs.size<=(s1.heap.push _).objs.size;rw[j1];exact fj _
 .let#[h',g',d',tk',os']:=s'
  have e1:g'=s1.gens:=hm.gens;have e2:d'=s1.drawn:=hm.drawn;have e3:os'=s1.os:=hm.os;subst e1 e2 e3;have I3':=I2.turnedL (h':=h') (t':=tk') (ch:=[s1.heap.objs.size]) (λc hc=>by rw[On.mp hc];exact fpk) λb o hb e=>hm.heap b o hb e;have I3:Inv X zG Z H1 {s1 with heap:=h',toks:=tk'}:=I3'
  have hv:acc.toList=its.reverse:=by
   refine List.ext_getElem? λi=>?_;let#[a1,a2]:=hacc;have e0:acc.toList[i]?=acc[i]?:=by simp
   rw[e0]
   by_cases hi:i<its.length
   .have hi2:i<acc.size:=by rw[a1,dn];exact hi
    have a3:=a2 i acc[i] (ic hi2);rw[kZ hi,ic hi2,←a3,dn];simp
   .rw[jH^by rw[gj];lk]
    exact Array.getElem?_eq_none^by rw[a1,dn];lk
  have hv2:acc=its.reverse.toArray:=by rw[←hv]
  have rr:Vals xs.reverse its.reverse:=r'.reverse;refine#[.ref h'.objs.size,BF H1 h'.objs.size^.tup xs.reverse,I3.laid (t':=tk') (λb o e=>No _ e) (Re _) (show ObjOk X.prog X.w _ _ _^.tup xs.reverse from#[by rw[gj];exact hz,its.reverse,rr,by rw[hv2];exact IsTupN.new _ _]),rfl,q _^I3.hok.fresh^Re _]
def Uh(K:Frag)(te:TE):TE:=V9 (λl xs H=>SqL K H l xs) te
theorem QH(hc:X.calm=m_)(he:PE X e te)(hg1:Gl X "tuple")(hm1:X.mg "tuple"=l_)(hg2:Gl X "reversed")(hm2:X.mg "reversed"=l_)(h1:starEach [ji (.Name "reversed" p2) [e] [] q2] X.env=[(n_,eval (ji (.Name "reversed" p2) [e] [] q2) X.env)]:=by rfl)
  (h2:starEach [e] X.env=[(n_,eval e X.env)]:=by rfl):PE X (.Call (.Name "tuple" p1) [.Call (.Name "reversed" p2) [e] [] q2] [] q1)^Uh X.K te:=by
 refine Uz (λ{zG Z H1 s1 l xs} I1 hq=>?_) he hg1 hm1 hg2 hm2 h1 h2;let#[its,r',pl,hz]:=I1.list hq;have hl:s1.heap.IsList l its.toArray:=pl.isList;have hlt:l<s1.heap.objs.size:=by let#[_,e,_]:=id hl;exact Uf e
 refine#[its,r',hz,hlt,λ{A E Q} k=>call_reversed_list hl (k (revObj l ((its.toArray.size:Int) - 1)) s1.toks "list_reverseiterator" _ rfl (by cbv) (ki (A:=X.A.in1.in1.in1) (I1.ok.hd hc) s1.heap.objs.size l (eB hlt) its.toArray).toS (λi s' hs=>hs.2.1.typeIs) (Sq λi s' hs=>hs.2.1.typeIs) #[dq _,#[_,T0 _ rfl,rfl,by show Data.fields _=_;simp[revObj]],hl.push _])]
end
end L2
namespace Dp
open L2
def UZ(wa:DW):DW:=λn ρ P=>wa n ρ λd n1=>∃xs,d=.lst xs/\P (.tup xs.reverse) n1
section
variable {X:Cx}{a:Expr}{zU:Kd}{wa:DW}{p1 p2 q1 q2:Pos}
theorem Qy(hc:X.calm=m_)(ha:DE X a zU wa)(hg1:Gl X "tuple")(hm1:X.mg "tuple"=l_)(hg2:Gl X "reversed")(hm2:X.mg "reversed"=l_)(h1:starEach [ji (.Name "reversed" p2) [a] [] q2] X.env=[(n_,eval (ji (.Name "reversed" p2) [a] [] q2) X.env)]:=by rfl)
  (h2:starEach [a] X.env=[(n_,eval a X.env)]:=by rfl):DE X (.Call (.Name "tuple" p1) [.Call (.Name "reversed" p2) [a] [] q2] [] q1) .sh^UZ wa:=by
 let#[t,a1,a2]:=ha;refine#[_,QH hc a1 hg1 hm1 hg2 hm2 h1 h2,λC M H n ρ Z P Q R w q=>?_];refine a2 C M H n ρ Z _ _ R w λv H1 d n1 e1 f1 r1 p=>?_;let#[xs,rfl,p]:=p;have R1:=R.step e1 f1;let#[ad,vs,rfl,nV,hq,hs]:=r1.tpOf R.dom R.vM;refine#[ad,vs,rfl,.inl hq,λr hr=>?_];have g:Grow H1^BF H1 r^.tup vs.reverse:=A2 hr;exact q _ _ (.tup _) n1 (e1.trans g.ext) (f1.grow g) (Dk R1.dom hr^hs.reverse) p
end
end Dp
namespace Nt
open L2 Dp
def Ed(N:Net)(x y:Str)(l:Int):Prop:=(y,l)∈D8 N.ts x
inductive Wk (N:Net) (s:Str):Str->Int->Prop
 |nil:Wk N s s 0
 |snoc {x y:Str}{d l:Int}:Wk N s x d->Ed N x y l->Wk N s y (d+l)
def Least(N:Net)(s x:Str)(d:Int):Prop:=Wk N s x d/\∀d',Wk N s x d'->d<=d'
theorem Ed.pos{N:Net}(ok:N.Ok){x y:Str}{l:Int}(h:Ed N x y l):1<=l/\l<=1000000:=by
 let#[_,h1,h2,_]:=Lm ok h
 simp_all
theorem Ed.ins{N:Net}(ok:N.Ok){x y:Str}{l:Int}(h:Ed N x y l):y∈N.ps:=(Lm ok h).1
theorem Wk.pos{N:Net}(ok:N.Ok){s x:Str}{d:Int}(h:Wk N s x d):0<=d:=by
 induction h with
 |nil=>lk
 |snoc _ he ih=>have:=he.pos ok;lk
theorem Least.unique{N:Net}{s x:Str}{d d':Int}(h:Least N s x d)(h':Least N s x d'):d=d':=by
 have:=h.2 d' h'.1
 have:=h'.2 d h.1
 lk
theorem G1{N:Net}{s:Str}{F:Str->p_ Int}(h0:∃d,F s=P3 d/\d<=0)(hw:∀x d,F x=P3 d->Wk N s x d)(hc:∀x d y l,F x=P3 d->Ed N x y l->∃d',F y=P3 d'/\d'<=d+l):
  (∀x d,F x=P3 d->Least N s x d)/\∀x d,Wk N s x d->F x≠l_:=by
 have main:∀x d,Wk N s x d->∃d',F x=P3 d'/\d'<=d:=by
  intro x d h
  induction h with
  |nil=>exact h0
  |snoc _ he ih=>
   grind
 refine#[λx d e=>#[hw x d e,λd' h=>?_],λx d h e=>?_]
 .let#[d1,e1,h1]:=main x d' h
  simp_all
 .let#[d1,e1,_]:=main x d h
  grind
theorem CB{N:Net}{t:Tie}(ht:t∈N.ts):Ed N t.a t.b t.len/\Ed N t.b t.a t.len:=by
 constructor
 .exact gQ.mpr #[t,ht,Tk _^by simp_all]
 .exact gQ.mpr #[t,ht,TM _^by simp_all]
theorem Ed.tie{N:Net}(ok:N.Ok){x y:Str}{l:Int}(h:Ed N x y l):∃t∈N.ts,t.len=l/\((t.a=x/\t.b=y)\/(t.b=x/\t.a=y)):=by
 let#[_,_,_,t,ht,e,h]:=Lm ok h;exact#[t,ht,e,h]
structure Dmap (ks:List Key) (ds:List D) (enc:α->D) (F:Str->Option α):Prop where
 len:ks.length=ds.length
 at_:∀x:Str,BO ks ds^.inr x=(F x).map enc
 dom:∀k∈ks,∃x:Str,k=.inr x
 nd:ks.Nodup
theorem Dmap.mem{α:Type}{ks:o_ Key}{ds:o_ D}{enc:α->D}{F:Str->p_ α}(h:Dmap ks ds enc F)(x:Str):(.inr x∈ks)↔F x≠l_:=by
 constructor
 .intro hm e
  let#[z,hz]:=HD h.len hm;rw[h.at_,e]at hz;cases hz
 .intro hn
  by_cases hm:f7 x∈ks
  .exact hm
  .have:=KP (ds:=ds) hm
   rw[h.at_]at this
   simp_all
theorem Dmap.one{α:Type}{enc:α->D}{s:Str}{a:α}:Dmap [.inr s] [enc a] enc (λx=>if x=s then P3 a else l_):=by
 refine#[rfl,λx=>?_,λk hk=>#[s,On.mp hk],eI.mpr #[d9,ef]];show(if f7 s=.inr x then P3 _ else l_)=(if x=s then P3 a else l_).map _
 by_cases e:x=s
 .simp_all
 .rw[if_neg e,if_neg λz=>e (hX z).symm];rfl
def GU{α:Type}(F:Str->p_ α)(x:Str)(a:α):Str->p_ α:=λy=>if y=x then P3 a else F y
theorem BX{α:Type}{F:Str->p_ α}{x:Str}{a:α}:GU F x a x=P3 a:=if_pos rfl
theorem BR{α:Type}{F:Str->p_ α}{x y:Str}{a:α}(h:y≠x):GU F x a y=F y:=if_neg h
theorem Dmap.put{α:Type}{ks:o_ Key}{ds:o_ D}{enc:α->D}{F:Str->p_ α}(h:Dmap ks ds enc F)(x:Str)(a:α):Dmap (C5 ks^.inr x) (DA ks ds (.inr x)^enc a) enc^GU F x a:=by
 refine#[O4 h.len,λy=>?_,λk hk=>?_,?_]
 .rw[Rh h.len]
  unfold GU
  by_cases e:y=x
  .rw[if_pos e,if_pos^by rw[e]];rfl
  .rw[if_neg e,if_neg λz=>e^hX z,h.at_]
 .unfold C5 at hk
  split at hk
  .exact h.dom k hk
  .rcases ZB.mp hk with hk|hk
   .exact h.dom k hk
   simp_all
 .unfold C5
  split
  .exact h.nd
  .rename_i hn
   rw[eP];refine#[h.nd,eI.mpr #[d9,ef],λa ha b hb e=>hn^hasK_iff.mpr ?_]
   grind
theorem Dmap.le{α:Type}{ks:o_ Key}{ds:o_ D}{enc:α->D}{F:Str->p_ α}(h:Dmap ks ds enc F){ps:o_ Str}(hp:∀x,F x≠l_->x∈ps):ks.length<=ps.length:=by
 have:∀(ks:o_ Key) (ps:o_ Str),ks.Nodup->(∀k∈ks,∃x:Str,k=.inr x/\x∈ps)->ks.length<=ps.length:=by
  intro ks
  induction ks with
  |nil=>simp_all
  | cons k ks ih=>
   intro ps hn hm;let#[x,rfl,hx]:=hm k FM;have hn:=eI.mp hn
   have h1:=ih (ps.erase x) hn.2 λj hj=>by
    let#[y,rfl,hy]:=hm j^Sc _ hj
    grind
   grind
 refine this ks ps h.nd λk hk=>?_;let#[x,rfl]:=h.dom k hk;exact#[x,rfl,hp x^(h.mem x).mp hk]
abbrev KJ:=Str->p_ (Int×p_ Str)
structure Dj (N:Net) (s:Str) (F:KJ) (Wt:List Str):Prop where
 start:F s=P3 (0,l_)
 ins:∀x,F x≠l_->x∈N.ps
 wk:∀x d p,F x=P3 (d,p)->Wk N s x d
 prev:∀x d p,F x=P3 (d,p)->(p=l_/\x=s)\/∃y dy q l,p=P3 y/\F y=P3 (dy,q)/\y∉Wt/\Ed N y x l/\d=dy+l
 wfound:∀x∈Wt,F x≠l_
 nd:Wt.Nodup
 done:∀x d p y l,F x=P3 (d,p)->x∉Wt->Ed N x y l->∃dy q,F y=P3 (dy,q)/\dy<=d+l
 near:∀x d p y dy q,F x=P3 (d,p)->x∉Wt->F y=P3 (dy,q)->y∈Wt->d<=dy
theorem Dj.init{N:Net}{s:Str}(hs:s∈N.ps):Dj N s (λx=>if x=s then P3 (0,l_)else l_) [s]:=by
 have iff:∀x d p,(if x=s then P3 ((0:Int),(l_:p_ Str))else l_)=P3 (d,p)->x=s/\d=0/\p=l_:=λx d p e=>by
  grind
 refine#[if_pos rfl,λx e=>?_,λx d p e=>?_,λx d p e=>?_,λx hx=>?_,eI.mpr #[d9,ef],λx d p y l e hx=>?_,λx d p y dy q e hx=>?_]
 .grind
 .let#[rfl,rfl,rfl]:=iff x d p e
  exact .nil
 .let#[rfl,rfl,rfl]:=iff x d p e
  exact .inl #[rfl,rfl]
 .simp_all
 .exact absurd (On.mpr (iff x d p e).1) hx
 .exact absurd (On.mpr (iff x d p e).1) hx
structure Dm (N:Net) (s:Str) (F:KJ) (Wt:List Str) (v:Str) (dv:Int) (seen:List (Str×Int)):Prop where
 start:F s=P3 (0,l_)
 ins:∀x,F x≠l_->x∈N.ps
 wk:∀x d p,F x=P3 (d,p)->Wk N s x d
 prev:∀x d p,F x=P3 (d,p)->(p=l_/\x=s)\/∃y dy q l,p=P3 y/\F y=P3 (dy,q)/\y∉Wt/\Ed N y x l/\d=dy+l
 wfound:∀x∈Wt,F x≠l_
 nd:Wt.Nodup
 done:∀x d p y l,F x=P3 (d,p)->x∉Wt->x≠v->Ed N x y l->∃dy q,F y=P3 (dy,q)/\dy<=d+l
 near:∀x d p y dy q,F x=P3 (d,p)->x∉Wt->F y=P3 (dy,q)->y∈Wt->d<=dy
 here:∃p,F v=P3 (dv,p)
 out:v∉Wt
 least:∀x d p,F x=P3 (d,p)->x∉Wt->d<=dv
 gone:∀y l,(y,l)∈seen->∃dy q,F y=P3 (dy,q)/\dy<=dv+l
theorem Dj.take{N:Net}{s:Str}{F:KJ}{Wt:o_ Str}(h:Dj N s F Wt){v:Str}{dv:Int}{p:p_ Str}(hv:v∈Wt)(e:F v=P3 (dv,p))(hmin:∀y∈Wt,∀dy q,F y=P3 (dy,q)->dv<=dy):Dm N s F (Wt.erase v) v dv []:=by
 have sub:∀x,x∈Wt.erase v->x∈Wt:=λx hx=>List.mem_of_mem_erase hx;have out:v∉Wt.erase v:=λz=>(h.nd.mem_erase_iff.mp z).1 rfl
 have back:∀x,x∉Wt.erase v->x=v\/x∉Wt:=λx hx=>by
  grind
 refine#[h.start,h.ins,h.wk,λx d q ex=>?_,λx hx=>h.wfound x^sub x hx,h.nd.erase v,λx d q y l ex hx nx he=>?_,λx d q y dy q2 ex hx ey hy=>?_,#[p,e],out,λx d q ex hx=>?_,λy l hy=>by cases hy]
 .rcases h.prev x d q ex with z|⟨y,dy,q2,l,e1,e2,e3,e4,e5⟩
  .exact .inl z
  .exact .inr #[y,dy,q2,l,e1,e2,λz=>e3^sub y z,e4,e5]
 .rcases back x hx with z|z
  .exact absurd z nx
  .exact h.done x d q y l ex z he
 .rcases back x hx with z|z
  .subst z
   rw[e]at ex;cases ex;exact hmin y (sub y hy) dy q2 ey
  .exact h.near x d q y dy q2 ex z ey^sub y hy
 .rcases back x hx with z|z
  .grind
  .exact h.near x d q v dv p ex z e hv
theorem Dm.finish{N:Net}{s:Str}{F:KJ}{Wt:o_ Str}{v:Str}{dv:Int}{seen:o_ (Str×Int)}(h:Dm N s F Wt v dv seen)(hs:∀y l,Ed N v y l->(y,l)∈seen):Dj N s F Wt:=by
 refine#[h.start,h.ins,h.wk,h.prev,h.wfound,h.nd,λx d p y l e hx he=>?_,h.near]
 by_cases z:x=v
 .subst z
  let#[p',e']:=h.here;rw[e']at e;cases e;exact h.gone y l^hs y l he
 .exact h.done x d p y l e hx z he
theorem Dm.find{N:Net}(ok:N.Ok){s:Str}{F:KJ}{Wt:o_ Str}{v:Str}{dv:Int}{seen:o_ (Str×Int)}(h:Dm N s F Wt v dv seen){y:Str}{l:Int}(he:Ed N v y l)(hy:F y=l_):Dm N s (GU F y (dv+l,P3 v)) (Wt++[y]) v dv (seen++[(y,l)]):=by
 have hpos:=(he.pos ok).1;let#[pv,ev]:=h.here;have ne:∀x d p,F x=P3 (d,p)->x≠y:=λx d p e z=>by rw[z,hy]at e;cases e
 have keep:∀x d p,F x=P3 (d,p)->GU F y (dv+l,P3 v) x=P3 (d,p):=λx d p e=>by rw[BR^ne x d p e];exact e
 have yW:y∉Wt:=λz=>h.wfound y z hy
 have cases_:∀x d p,GU F y (dv+l,P3 v) x=P3 (d,p)->(x=y/\d=dv+l/\p=P3 v)\/(x≠y/\F x=P3 (d,p)):=λx d p e=>by
  by_cases z:x=y
  .rw[z,BX]at e;cases e;exact .inl #[z,rfl,rfl]
  .rw[BR z]at e;exact .inr #[z,e]
 have inW:∀x,x∉Wt++[y]->x∉Wt/\x≠y:=λx hx=>#[λz=>hx^Tk _ z,λz=>hx^TM _^by rw[z];exact On.mpr rfl]
 have vW:v∉Wt++[y]:=λz=>by
  rcases ZB.mp z with z|z
  .exact h.out z
  .exact ne v dv pv ev^On.mp z
 refine#[keep _ _ _ h.start,λx hx=>?_,λx d p e=>?_,λx d p e=>?_,λx hx=>?_,?_,λx d p z l2 e hx nx he2=>?_,λx d p z dz q e hx ez hz=>?_,#[pv,keep _ _ _ ev],vW,λx d p e hx=>?_,λz l2 hz=>?_]
 .by_cases z:x=y
  .rw[z];exact he.ins ok
  .rw[BR z]at hx;exact h.ins x hx
 .rcases cases_ x d p e with⟨rfl,rfl,_⟩|⟨_,e⟩
  .exact .snoc (h.wk v dv pv ev) he
  .exact h.wk x d p e
 .rcases cases_ x d p e with⟨rfl,rfl,rfl⟩|⟨_,e⟩
  .exact .inr #[v,dv,pv,l,rfl,keep _ _ _ ev,vW,he,rfl]
  .rcases h.prev x d p e with z|⟨u,du,q,l2,e1,e2,e3,e4,e5⟩
   .exact .inl z
   .refine .inr #[u,du,q,l2,e1,keep _ _ _ e2,λz=>?_,e4,e5]
    rcases ZB.mp z with z|z
    .exact e3 z
    .exact ne u du q e2^On.mp z
 .rcases ZB.mp hx with hx|hx
  .have:=h.wfound x hx
   cases e:F x with
   |none=>exact absurd e this
   |some a=>rw[keep x a.1 a.2 e];intro z;cases z
  .rw[On.mp hx,BX];intro z;cases z
 .rw[eP]
  exact#[h.nd,eI.mpr #[d9,ef],λa ha b hb e=>yW^by rw[←On.mp hb,←e];exact ha]
 .let#[w1,w2]:=inW x hx
  rcases cases_ x d p e with⟨z,_⟩|⟨_,e⟩
  .exact absurd z w2
  .let#[d3,q3,e3,h3]:=h.done x d p z l2 e w1 nx he2
   exact#[d3,q3,keep _ _ _ e3,h3]
 .let#[w1,w2]:=inW x hx
  rcases cases_ x d p e with⟨z,_⟩|⟨_,ex⟩
  .exact absurd z w2
  .rcases cases_ z dz q ez with⟨_,e2,_⟩|⟨nz,ez⟩
   .have:=h.least x d p ex w1
    lk
   .rcases ZB.mp hz with hz|hz
    .exact h.near x d p z dz q ex w1 ez hz
    .exact absurd (On.mp hz) nz
 .let#[w1,w2]:=inW x hx
  rcases cases_ x d p e with⟨z,_⟩|⟨_,e⟩
  .exact absurd z w2
  .exact h.least x d p e w1
 .rcases ZB.mp hz with hz|hz
  .let#[d3,q3,e3,h3]:=h.gone z l2 hz
   exact#[d3,q3,keep _ _ _ e3,h3]
  .cases On.mp hz
   exact#[_,_,BX,gM _]
theorem Dm.nearer{N:Net}(ok:N.Ok){s:Str}{F:KJ}{Wt:o_ Str}{v:Str}{dv:Int}{seen:o_ (Str×Int)}(h:Dm N s F Wt v dv seen){y:Str}{l dy:Int}{qy:p_ Str}(he:Ed N v y l)(hy:F y=P3 (dy,qy))(hlt:dv+l<dy):Dm N s (GU F y (dv+l,P3 v)) Wt v dv (seen++[(y,l)]):=by
 have hpos:=(he.pos ok).1;let#[pv,ev]:=h.here
 have yW:y∈Wt:=by
  by_cases z:y∈Wt
  .exact z
  .have:=h.least y dy qy hy z
   lk
 have vy:v≠y:=λz=>h.out (by rw[z];exact yW);have keep:∀x,x∉Wt->GU F y (dv+l,P3 v) x=F x:=λx hx=>BR λz=>hx^by rw[z];exact yW
 have cases_:∀x d p,GU F y (dv+l,P3 v) x=P3 (d,p)->(x=y/\d=dv+l/\p=P3 v)\/(x≠y/\F x=P3 (d,p)):=λx d p e=>by
  by_cases z:x=y
  .rw[z,BX]at e;cases e;exact .inl #[z,rfl,rfl]
  .rw[BR z]at e;exact .inr #[z,e]
 have less:∀x d p,F x=P3 (d,p)->∃d' q,GU F y (dv+l,P3 v) x=P3 (d',q)/\d'<=d:=λx d p e=>by
  by_cases z:x=y
  .subst z
   rw[hy]at e;cases e;exact#[_,_,BX,by lk]
  .exact#[d,p,by rw[BR z];exact e,gM _]
 have sy:s≠y:=λz=>by
  have:=h.start
  rw[z,hy]at this;cases this
  have:=(h.wk v dv pv ev).pos ok
  lk
 refine#[by rw[BR sy];exact h.start,λx hx=>?_,λx d p e=>?_,λx d p e=>?_,λx hx=>?_,h.nd,λx d p z l2 e hx nx he2=>?_,λx d p z dz q e hx ez hz=>?_,#[pv,by rw[BR vy];exact ev],h.out,λx d p e hx=>?_,λz l2 hz=>?_]
 .by_cases z:x=y
  .rw[z];exact he.ins ok
  .rw[BR z]at hx;exact h.ins x hx
 .rcases cases_ x d p e with⟨rfl,rfl,_⟩|⟨_,e⟩
  .exact .snoc (h.wk v dv pv ev) he
  .exact h.wk x d p e
 .rcases cases_ x d p e with⟨rfl,rfl,rfl⟩|⟨_,e⟩
  .exact .inr #[v,dv,pv,l,rfl,by rw[BR vy];exact ev,h.out,he,rfl]
  .rcases h.prev x d p e with z|⟨u,du,q,l2,e1,e2,e3,e4,e5⟩
   .exact .inl z
   .exact .inr #[u,du,q,l2,e1,by rw[keep u e3];exact e2,e3,e4,e5]
 .by_cases z:x=y
  .rw[z,BX];intro w;cases w
  .rw[BR z];exact h.wfound x hx
 .rw[keep x hx]at e
  let#[d3,q3,e3,h3]:=h.done x d p z l2 e hx nx he2;let#[d4,q4,e4,h4]:=less z d3 q3 e3;exact#[d4,q4,e4,by lk]
 .rw[keep x hx]at e
  rcases cases_ z dz q ez with⟨rfl,rfl,_⟩|⟨nz,ez⟩
  .have:=h.least x d p e hx
   lk
  .exact h.near x d p z dz q e hx ez hz
 .rw[keep x hx]at e
  exact h.least x d p e hx
 .rcases ZB.mp hz with hz|hz
  .let#[d3,q3,e3,h3]:=h.gone z l2 hz
   let#[d4,q4,e4,h4]:=less z d3 q3 e3;exact#[d4,q4,e4,by lk]
  .cases On.mp hz
   exact#[_,_,BX,gM _]
theorem Dm.skip{N:Net}{s:Str}{F:KJ}{Wt:o_ Str}{v:Str}{dv:Int}{seen:o_ (Str×Int)}(h:Dm N s F Wt v dv seen){y:Str}{l dy:Int}{qy:p_ Str}(hy:F y=P3 (dy,qy))(hle:dy<=dv+l):Dm N s F Wt v dv (seen++[(y,l)]):=by
 refine#[h.start,h.ins,h.wk,h.prev,h.wfound,h.nd,h.done,h.near,h.here,h.out,h.least,λz l2 hz=>?_]
 rcases ZB.mp hz with hz|hz
 .exact h.gone z l2 hz
 simp_all
structure Told (N:Net) (s:Str) (F:KJ):Prop where
 start:F s=P3 (0,l_)
 ins:∀x,F x≠l_->x∈N.ps
 least:∀x d p,F x=P3 (d,p)->Least N s x d
 all:∀x d,Wk N s x d->F x≠l_
 prev:∀x d p,F x=P3 (d,p)->(p=l_/\x=s)\/∃y dy q l,p=P3 y/\F y=P3 (dy,q)/\Ed N y x l/\d=dy+l
theorem Dj.told{N:Net}{s:Str}{F:KJ}(h:Dj N s F []):Told N s F:=by
 have cl:=G1 (N:=N) (s:=s) (F:=λx=>(F x).map (·.1)) #[0,by rw[h.start];rfl,gM _] (λx d e=>by
  let#[#[d',p],e1,e2]:=eq.mp e;cases e2;exact h.wk x _ p e1) (λx d y l e he=>by
  let#[#[d',p],e1,e2]:=eq.mp e;cases e2;let#[dy,q,e3,h3]:=h.done x _ p y l e1 d9 he;exact#[dy,by rw[e3];rfl,h3])
 refine#[h.start,h.ins,λx d p e=>cl.1 x d (by rw[e];rfl),λx d hw e=>cl.2 x d hw (by rw[e];rfl),λx d p e=>?_]
 rcases h.prev x d p e with z|⟨y,dy,q,l,e1,e2,_,e4,e5⟩
 .exact .inl z
 simp_all
abbrev Kn:=Str->p_ Int
structure Bf (N:Net) (s:Str) (c:Nat) (K:Kn):Prop where
 start:∃d,K s=P3 d/\d<=0
 ins:∀x,K x≠l_->x∈N.ps
 wk:∀x d,K x=P3 d->Wk N s x d
 top:∀x d,K x=P3 d->d<=1000000*(c:Int)
def big:Nat:=27000001
def wt(K:Kn)(x:Str):Nat:=match K x with
 |some d=>d.toNat
 |none=>big
def RQ(ps:o_ Str)(K:Kn):Nat:=(ps.map^wt K).sum
theorem Ry{f g:Str->Nat}:∀{ps:o_ Str},(∀x∈ps,f x<=g x)->(ps.map f).sum<=(ps.map g).sum
 |[],_=>Re _
 |x::ps,h=>by
  have h2:=Ry λy hy=>h y^Sc _ hy
  grind
theorem Rx{f g:Str->Nat}:∀{ps:o_ Str},(∀x∈ps,f x<=g x)->(∃x∈ps,f x<g x)->(ps.map f).sum<(ps.map g).sum
 |[],_,#[x,hx,_]=>by cases hx
 | x::ps,h,#[y,hy,hl]=>by
  have h1:=h x FM;rw[e8,e8,kh,kh]
  rcases UF.mp hy with rfl|hy
  .have h2:=Ry λy hy=>h y^Sc _ hy
   lk
  .have h2:=Rx (λy hy=>h y^Sc _ hy) #[y,hy,hl]
   lk
theorem Bf.put {N:Net} (ok:N.Ok) {s:Str}{c c':Nat}{K:Kn} (h:Bf N s c K) (hc:c' ≤ 26) (hcc:c ≤ c') {x y:Str}{d l:Int} (hx:K x=P3 d) (he:Ed N x y l) (hn:K y=l_ → c'=c + 1) (hl:∀ d',K y=P3 d' → d + l < d'):Bf N s c'^GU K y (d + l) ∧ RQ N.ps^GU K y (d + l) < RQ N.ps K:=by
  have hp:=he.pos ok;have hd:=(h.wk x d hx).pos ok;have hw:Wk N s y (d + l):=.snoc (h.wk x d hx) he;have td:=h.top x d hx
  have ht : d + l ≤ 1000000 * (c':Int):=by
    cases e:K y with
    | none => rw[hn e];have:((c + 1:Nat):Int)=(c:Int) + 1:=by lk
              rw[this,Int.mul_add];lk
    | some d'=>
      have h1:=hl d' e;have h2:=h.top y d' e;have:(1000000:Int) * (c:Int) ≤ 1000000 * (c':Int):=fV (by lk) (by lk);lk
  refine#[#[?_,λz hz=>?_,λz dz e=>?_,λz dz e=>?_],Rx (λz _=>?_) #[y,he.ins ok,?_]]
  · let#[d0,e0,h0]:=h.start
    by_cases z:s=y
    · have:=hl d0^by rw[←z];exact e0
      lk
    .exact#[d0,by rw[BR z];exact e0,h0]
  · by_cases e:z=y
    .rw[e];exact he.ins ok
    .rw[BR e]at hz;exact h.ins z hz
  · by_cases w:z=y
    .rw[w,BX]at e;cases e;rw[w];exact hw
    .rw[BR w]at e;exact h.wk z dz e
  · by_cases w:z=y
    .rw[w,BX]at e;cases e;exact ht
    · rw[BR w]at e
      have h2:=h.top z dz e;have:(1000000:Int) * (c:Int) ≤ 1000000 * (c':Int):=fV (by lk) (by lk);lk
  · unfold wt
    by_cases w:z=y
    · rw[w,BX]
      cases e:K y with
      |none=>show(d + l).toNat ≤ big;unfold big;lk
      |some d'=>show(d + l).toNat ≤ d'.toNat;have:=hl d' e;lk
    · rw[BR w]
      exact Re _
  · unfold wt
    rw[BX];cases e:K y with
    |none=>show(d + l).toNat < big;unfold big;lk
    |some d'=>show(d + l).toNat < d'.toNat;have:=hl d' e;lk
theorem Bf.init{N:Net}{s:Str}(hs:s∈N.ps):Bf N s 1 (λx=>if x=s then P3 0 else l_):=by
 have iff:∀x d,(if x=s then P3 (0:Int)else l_)=P3 d->x=s/\d=0:=λx d e=>by
  grind
 refine#[#[0,if_pos rfl,gM _],λx e=>by grind,λx d e=>?_,λx d e=>?_]
 .let#[rfl,rfl]:=iff x d e
  exact .nil
 .let#[rfl,rfl]:=iff x d e
  decide
def Im(K:Kn)(e:Str×Str×Int):Prop:=∀d,K e.1=P3 d->∃d',K e.2.1=P3 d'/\d'<=d+e.2.2
structure Ws (N:Net) (s:Str) (K:Kn):Prop where
 ins:∀x,K x≠l_->x∈N.ps
 least:∀x d,K x=P3 d->Least N s x d
 all:∀x d,Wk N s x d->K x≠l_
 top:∀x d,K x=P3 d->d<=30000000
theorem Bf.told{N:Net}(ok:N.Ok){s:Str}{c:Nat}{K:Kn}(h:Bf N s c K)(hc:c<=26)(ht:∀t∈N.ts,Im K (t.a,t.b,t.len)/\Im K (t.b,t.a,t.len)):Ws N s K:=by
 have cl:=G1 h.start h.wk (λx d y l e he=>by
  let#[t,hm,e1,h2]:=he.tie ok;subst e1
  rcases h2 with⟨rfl,rfl⟩|⟨rfl,rfl⟩
  .exact(ht t hm).1 d e
  .exact(ht t hm).2 d e)
 exact#[h.ins,cl.1,cl.2,λx d e=>by have:=h.top x d e;lk]
def walk(N:Net):o_ Str->Int->Prop
 |[],_=>False
 |[_],d=>d=0
 |x::y::r,d=>∃l e,Ed N x y l/\walk N (y::r) e/\d=l+e
theorem P4{N:Net}{x y:Str}{r:o_ Str}{d l:Int}(he:Ed N x y l)(h:walk N (y::r) d):walk N (x::y::r) (l+d):=#[l,d,he,h,rfl]
def Far(N:Net)(a b:Str):p_ Int->Prop
 |some d=>Least N a b d
 |none=>∀d,¬Wk N a b d
theorem Far.unique{N:Net}{a b:Str}{o o':p_ Int}(h:Far N a b o)(h':Far N a b o'):o=o':=by
 cases o with
 |none=>
  cases o' with
  |none=>rfl
  |some d=>exact absurd (h'.1)^h d
 |some d=>
  cases o' with
  |none=>exact absurd (h.1)^h' d
  |some d'=>rw[Least.unique (h) h']
theorem Told.far{N:Net}{s:Str}{F:KJ}(h:Told N s F)(x:Str):Far N s x ((F x).map (·.1)):=by
 cases e:F x with
 |none=>exact λd hw=>h.all x d hw e
 |some a=>exact h.least x _ _ e
def Way(N:Net)(a b:Str)(o:p_^o_ Str):Prop:=match o with
 |some w=>∃d r,w=a::r/\w.getLast?=P3 b/\walk N w d/\Least N a b d/\w.length<=30/\∀x∈w,x∈N.ps
 |none=>∀d,¬Wk N a b d
def Zg:p_ Str->D
 |some y=>.str y
 |none=>.non
def HH:p_ Int->D
 |some y=>.int y
 |none=>.non
def Gd:p_^o_ Str->D
 |some w=>.tup^w.map .str
 |none=>.non
def HY(p:Int×p_ Str):D:=.tup [.int p.1,Zg p.2]
def okN(N:Net):Prop:=N.Ok/\N.ps.length<=25/\N.ts.length<=60
def aP:W2:=λss n P=>∃(Wt:o_ Str) (ks:o_ Key) (ds:o_ D) (F:KJ),ss=[.br^.lst^Wt.map .str,.br^.dic ks ds]/\Dmap ks ds HY F/\(∀x∈Wt,F x≠l_)/\Wt≠[]/\Wt.length<=100 /\
 ∀v∈Wt,(∀y∈Wt,∀dv pv dy py,F v=P3 (dv,pv)->F y=P3 (dy,py)->dv<=dy)->P (.str v) n
def Yd:W2:=λss n P=>∃(N:Net) (s:Str),ss=[.sh^enc N,.sh^.str s]/\okN N/\s∈N.ps/\∀(ks:o_ Key) (ds:o_ D) (F:KJ),Dmap ks ds HY F->Told N s F->P (.dic ks ds) n
def RJ:W2:=λss n P=>∃(N:Net) (a b:Str),ss=[.sh^enc N,.sh^.str a,.sh^.str b]/\okN N/\a∈N.ps/\b∈N.ps/\∀o,Far N a b o->P (HH o) n
def YW:W2:=λss n P=>∃(N:Net) (a b:Str),ss=[.sh^enc N,.sh^.str a,.sh^.str b]/\okN N/\a∈N.ps/\b∈N.ps/\∀o,Way N a b o->P (Gd o) n
theorem cF{i j:Int}{x y:Str}(h:BB [.inl j,.inr y] [.inl i,.inr x]=n_):i<=j:=by
 have h:(if iV j=.inl i then(if f7 y=.inr x then n_ else decide _)else decide _)=n_:=h
 grind
section
theorem Al(x:Str):keyOf^.str x=P3^.inr x:=rfl
theorem QT{N:Net}(ok:N.Ok){xs:o_ Str}(h:∀x∈xs,x∈N.ps):Cg^.lst^xs.map .str:=HR λd hd=>by
  let#[x,hx,rfl]:=TW.mp hd;exact DU^ok.names x^h x hx
theorem LD{N:Net}{Wt:o_ Str}(hn:Wt.Nodup)(h:∀x∈Wt,x∈N.ps):Wt.length<=N.ps.length:=by
 have:∀(xs ps:o_ Str),xs.Nodup->(∀x∈xs,x∈ps)->xs.length<=ps.length:=by
  intro xs
  induction xs with
  |nil=>grind
  |cons x xs ih=>
   intro ps hn hm;have hx:=hm x FM;have hn:=eI.mp hn;have h1:=ih (ps.erase x) hn.2 λj hj=>(List.mem_erase_of_ne λe=>hn.1^by simp_all).mpr^hm j^Sc _ hj
   grind
 simp_all
theorem JC(ks:o_ Key)(k:Key):(C5 ks k).length=if Je ks k=m_ then ks.length else ks.length+1:=by
 unfold C5
 split
 .rfl
 simp_all
theorem Dmap.has{α:Type}{ks:o_ Key}{ds:o_ D}{enc:α->D}{F:Str->p_ α}(h:Dmap ks ds enc F){x:Str}:(F x=l_->Je ks^.inr x=n_)/\(F x≠l_->Je ks^.inr x=m_):=by
 constructor
 .intro e
  cases c:Je ks _ with
  |false=>rfl
  |true=>exact absurd e^(h.mem x).mp^hasK_iff.mp c
 .intro e
  exact hasK_iff.mpr^(h.mem x).mpr e
theorem KY{N:Net}{x:Str}(hx:x∈N.ps):BO (N.ps.map .inr) (N.ps.map^Sk N.ts)^.inr x=P3^Sk N.ts x:=by
 have go:∀ps:o_ _,x∈ps->BO (ps.map .inr) (ps.map^Sk N.ts)^.inr x=P3^Sk N.ts x:=by
  intro ps
  induction ps with
  |nil=>grind
  | cons q ps ih=>
   intro h;show(if f7 q=.inr x then P3 _ else BO _ _ _)=_
   by_cases e:q=x
   .grind
   .rw[if_neg λz=>e^hX z]
    exact ih^(UF.mp h).resolve_left λz=>e z.symm
 simp_all
theorem UV(l:o_ (Str×Int)):DY ((l.map λx=>(.inr x.1:Key)).map US) (l.map λx=>.int x.2)=l.map be:=by
 induction l with
 |nil=>rfl
 |cons p l ih=>
  show D.tup _::DY _ _=be p::l.map _;rw[←ih];rfl
end
structure WInv (N:Net) (F:KJ) (b:Str) (db:Int) (acc:List Str) (pl:Option Str):Prop where
 st:(acc=[]/\pl=P3 b)\/∃z r dz,acc.reverse=z::r/\F z=P3 (dz,pl)/\walk N acc.reverse (db - dz)/\acc.reverse.getLast?=P3 b
 nd:acc.Nodup
 ins:∀x∈acc,x∈N.ps
 less:∀y dy q,pl=P3 y->F y=P3 (dy,q)->∀x∈acc,∃dx qx,F x=P3 (dx,qx)/\dy<dx
 fnd:∀y,pl=P3 y->F y≠l_
def wm(F:KJ):p_ Str->Nat
 |none=>0
 |some y=>((F y).getD (0,l_)).1.toNat+1
theorem WInv.step{N:Net}(ok:N.Ok){a:Str}{F:KJ}(T:Told N a F){b:Str}{db:Int}{qb:p_ Str}(eb:F b=P3 (db,qb)){acc:o_ Str}{y:Str}{dy:Int}{qy:p_ Str}(h:WInv N F b db acc^P3 y)(ey:F y=P3 (dy,qy)):WInv N F b db (acc++[y]) qy/\wm F qy<wm F^P3 y:=by
 have hy0:=(T.least y dy qy ey).1.pos ok
 have nx:∀w dw q,qy=P3 w->F w=P3 (dw,q)->dw<dy:=λw dw q e ew=>by
  rcases T.prev y dy qy ey with⟨z,_⟩|⟨w',dw',q',l,e1,e2,e3,e4⟩
  .rw[e]at z;cases z
  .rw[e]at e1
   cases e1;rw[ew]at e2;cases e2
   have:=(e3.pos ok).1
   lk
 have hf:∀w,qy=P3 w->F w≠l_:=λw e=>by
  rcases T.prev y dy qy ey with⟨z,_⟩|⟨w',dw',q',l,e1,e2,_⟩
  .rw[e]at z;cases z
  .rw[e]at e1
   cases e1;rw[e2];intro z;cases z
 refine#[#[.inr ?_,?_,λx hx=>?_,λw dw q e ew x hx=>?_,hf],?_]
 .rw [List.reverse_append,List.reverse_singleton,gz]
  rcases h.st with⟨rfl,e⟩|⟨z,r,dz,e1,e2,e3,e4⟩
  .cases e
   rw[eb]at ey;cases ey;exact#[_,_,_,rfl,eb,(by show db - db=0;lk),rfl]
  .refine#[y,acc.reverse,dy,rfl,ey,?_,?_]
   .rw[e1]at e3 ⊢
    rcases T.prev z dz (P3 y) e2 with⟨w,_⟩|⟨w',dw',q',l,k1,k2,k3,k4⟩
    .cases w
    .cases k1
     rw[ey]at k2;cases k2
     have:=P4 k3 e3
     rw[show l+(db - dz)=db - dy by lk]at this;exact this
   .rw[e1]at e4 ⊢
    exact e4
 .rw[eP]
  refine#[h.nd,eI.mpr #[d9,ef],λx hx z hz e=>?_];rw[On.mp hz]at e;let#[dx,qx,ex,hlt]:=h.less y dy qy rfl ey x hx;rw[e,ey]at ex;cases ex;lk
 .rcases ZB.mp hx with hx|hx
  .exact h.ins x hx
  .rw[On.mp hx]
   exact T.ins y^by rw[ey];intro z;cases z
 .have h1:=nx w dw q e ew
  rcases ZB.mp hx with hx|hx
  .let#[dx,qx,ex,hlt]:=h.less y dy qy rfl ey x hx
   exact#[dx,qx,ex,by lk]
  .rw[On.mp hx]
   exact#[dy,qy,ey,h1]
 .cases qy with
  |none=>exact Nat.succ_pos _
  | some w=>
   cases ew:F w with
   |none=>exact absurd ew (hf w rfl)
   |some p=>
    have h1:=nx w p.1 p.2 rfl ew;have h2:=(T.least w p.1 p.2 ew).1.pos ok;show((F w).getD (0,l_)).1.toNat+1<((F y).getD (0,l_)).1.toNat+1;rw[ew,ey];show p.1.toNat+1<dy.toNat+1;lk
theorem VH{w:o_ Str}{b:Str}(h:w.getLast?=P3 b):atI (w.map D.str) (-1)=P3^.str b:=by
 let#[ys,rfl]:=List.getLast?_eq_some_iff.mp h;rw[eX];exact Tu _ _
theorem Fz{N:Net}(okn:okN N):Ew 1000001^enc N/\Np^enc N<=48000/\Kw^enc N<=3:=W_ (VM okn.1) (FA okn.1) (by rw[Ev];have:=okn.2.1;lk)^by rw[Ev];have:=okn.2.2;lk
end Nt
namespace Dp
open L2
def Y2(i:Nat)(b:BW)(body:Au):Au:=λD2 n ρ=>∃d ds,ρ[i]?=P3^.br d/\Eu d=P3 ds/\A9 b body D2 ds n ρ
section
variable {X:Cx}{κ:Kd}{tg:Expr}{body:o_ Stmt}{b:BW}{wb:Au}{pos p:Pos}{x:Str}{i:Nat}
theorem Rel.lessKp{K:Frag}{C:Fm}{q:Ch×HO}{M:Ch->Prop}{H:Hp}{n:Nat}{ρ:o_ Slot}{Z:L2.St}(R:Rel K {C with kp:=q::C.kp} M H n ρ Z):Rel K C M H n ρ Z:=
 #[R.len,R.sub,R.dom,R.ext,R.fU,R.uV,R.vM,R.feed,R.sl,R.pin,R.br0,R.new,R.two,λp hp=>R.kept p^Sc _ hp]
theorem Vc(hp:kL (model X.prog X.w) X.A X.env X.xe)(hc:X.calm=m_)(h:PE X (.Name x p)^CG i)(hg:DG X tg b)(hb:Ng X κ body wb)
  (hs:∀y,foldedSetIterable (.Name x p) X.env y=pure y:=by intro _;rfl):DS X κ (.For tg (.Name x p) body [] pos)^Y2 i b wb:=by
 let#[g,g1,g2]:=hg;let#[tb,b1,b2]:=hb;refine#[_,LS hp hc (N1 h) g1 b1 hs,λC M H n ρ Z D2 E R L w=>?_];let#[d,ds,hi,hd,w]:=w;let#[v,e1,hAt]:=R.sl i _ hi;cases d with
 | tup ds'=>
  cases hd;let#[a,vs,rfl,hn,hat]:=hAt;refine#[.ref a,getD_some e1,.inr^.inl #[a,rfl,#[vs,hn.sq],?_]];obtain⟨kp',ek⟩:∃kp',kp'=C.kp:=#[_,rfl];have R1:Rel X.K {C with kp:=kp'} M H n ρ Z:=by rw[ek];exact R
  have less:∀{M H n ρ Z},Rel X.K {C with kp:=kp'} M H n ρ Z->Rel X.K C M H n ρ Z:=λR=>by rw[ek]at R;exact R
  have st:∀M' H' n' zY zZ,Rel X.K {C with kp:=kp',zG:=(M,H)::C.zG} M' H' n' zY zZ->SqT X.K H' a vs:=λM' H' n' zY zZ R'=>(hn.pres^R'.pin (M,H) FM).sq;refine#[λi m zZ H'=>m=ds.length - i/\i<=ds.length/\∃M' n' zY,Rel X.K {C with kp:=kp',zG:=(M,H)::C.zG} M' H' n' zY zZ/\A9 b wb D2 (ds.drop i) n' zY,#[ds.length,by simp,dq _,M,n,ρ,R1.pinned,w],?_];rintro i m zZ H' ⟨rfl,hil,M',n',zY,R',w'⟩;have pr:Pres M H M' H':=R'.pin (M,H) FM;have hq:=st M' H' n' zY zZ R'
  by_cases hlt:i<ds.length
  .have ed:ds.drop i=ds[i]::ds.drop (i+1):=gX hlt
   rw[ed]at w';let#[v,ev,hv]:=(hat.pres pr).get^Op hlt;refine .inr #[#[vs,v,hq,ev],λzN H2=>∃M2 n2 zL,Rel X.K {C with kp:=kp',zG:=(M,H)::C.zG} M2 H2 n2 zL zN/\A9 b wb D2 (ds.drop (i+1)) n2 zL,λzN H2 #[M2,n2,zL,R2',w2]=>#[ds.length - (i+1),by lk,rfl,hlt,M2,n2,zL,R2',w2],λy H2 hy=>?_];let#[e2,hy]:=hy;subst e2
   have:P3 v=P3 y:=ev.symm.trans^hy vs hq
   cases this;refine g2 _ M' H2 n' zY zZ ds[i] v _ _ R' hv w' λzP zV R3 w3=>?_;refine b2 _ M' H2 n' zP zV {D2 with nx:=A9 b wb D2^ds.drop (i+1),ct:=A9 b wb D2^ds.drop (i+1),bk:=D2.nx} _ R3 #[λM4 H4 n4 zR zQ R4 w4=>#[M4,n4,zR,R4,w4],L.rt,λM4 H4 n4 zR zQ R4 w4=>L.nx M4 H4 n4 zR zQ (less R4.unpin) w4,λM4 H4 n4 zR zQ R4 w4=>#[M4,n4,zR,R4,w4]] w3
  .have e:i=ds.length:=by lk
   subst e;rw[iT]at w';exact .inl #[#[vs,hq,by rw[hat.length];exact Re _],L.nx M' H' n' zY zZ (less R'.unpin) w']
 | lst ds'=>
  cases hd;let#[a,vs,rfl,nV,hH,hat]:=hAt
  obtain⟨o,ho,hro⟩:∃o,H a=P3 o/\∀H':Hp,H' a=P3 o->SqL X.K H' a vs:=by
   rcases hH with z|⟨u,z⟩
   .exact#[_,z,λH' e=>.inl^.inl e]
   .exact#[_,z,λH' e=>.inl^.inr #[u,e]]
  refine#[.ref a,getD_some e1,.inl #[a,rfl,#[vs,hro H ho],?_]]
  obtain⟨kp',R1,less,st⟩:∃kp',Rel X.K {C with kp:=kp'} M H n ρ Z/\(∀{M H n ρ Z},Rel X.K {C with kp:=kp'} M H n ρ Z->Rel X.K C M H n ρ Z)/\(∀M' H' n' zY zZ,Rel X.K {C with kp:=kp',zG:=(M,H)::C.zG} M' H' n' zY zZ->SqL X.K H' a vs):=by
   by_cases hM:M a
   .refine#[(a,o)::C.kp,#[R.len,R.sub,R.dom,R.ext,R.fU,R.uV,R.vM,R.feed,R.sl,R.pin,R.br0,R.new,R.two,λq hq=>?_],λR=>R.lessKp,λM' H' n' zY zZ R'=>hro H' (R'.kept (a,o) FM).1]
    rcases UF.mp hq with rfl|hq
    .refine#[ho,hM,nV,λj e q z=>?_]
     let#[u,hu]:=R.br0 i _ a hi e1
     have:=(R.new j _ a q rfl z).2
     rw[hu]at this;cases this
    .exact R.kept q hq
   .exact#[C.kp,R,λR=>R,λM' H' n' zY zZ R'=>hro H'^(R'.pin (M,H) FM).1 a o ho hM]
  refine#[λi m zZ H'=>m=ds.length - i/\i<=ds.length/\∃M' n' zY,Rel X.K {C with kp:=kp',zG:=(M,H)::C.zG} M' H' n' zY zZ/\A9 b wb D2 (ds.drop i) n' zY,#[ds.length,by simp,dq _,M,n,ρ,R1.pinned,w],?_];rintro i m zZ H' ⟨rfl,hil,M',n',zY,R',w'⟩;have pr:Pres M H M' H':=R'.pin (M,H) FM;have hq:=st M' H' n' zY zZ R'
  by_cases hlt:i<ds.length
  .have ed:ds.drop i=ds[i]::ds.drop (i+1):=gX hlt
   rw[ed]at w';let#[v,ev,hv]:=(hat.pres pr).get^Op hlt;refine .inr #[#[vs,v,hq,ev],λzN H2=>∃M2 n2 zL,Rel X.K {C with kp:=kp',zG:=(M,H)::C.zG} M2 H2 n2 zL zN/\A9 b wb D2 (ds.drop (i+1)) n2 zL,λzN H2 #[M2,n2,zL,R2',w2]=>#[ds.length - (i+1),by lk,rfl,hlt,M2,n2,zL,R2',w2],λy H2 hy=>?_];let#[e2,hy]:=hy;subst e2
   have:P3 v=P3 y:=ev.symm.trans^hy vs hq
   cases this;refine g2 _ M' H2 n' zY zZ ds[i] v _ _ R' hv w' λzP zV R3 w3=>?_;refine b2 _ M' H2 n' zP zV {D2 with nx:=A9 b wb D2^ds.drop (i+1),ct:=A9 b wb D2^ds.drop (i+1),bk:=D2.nx} _ R3 #[λM4 H4 n4 zR zQ R4 w4=>#[M4,n4,zR,R4,w4],L.rt,λM4 H4 n4 zR zQ R4 w4=>L.nx M4 H4 n4 zR zQ (less R4.unpin) w4,λM4 H4 n4 zR zQ R4 w4=>#[M4,n4,zR,R4,w4]] w3
  .have e:i=ds.length:=by lk
   subst e;rw[iT]at w';exact .inl #[#[vs,hq,by rw[hat.length];exact Re _],L.nx M' H' n' zY zZ (less R'.unpin) w']
 |_=>cases hd
end
end Dp
namespace Nt
open L2 Dp
def sub(N:Net)(kept:o_ Tie):Net:=#[N.ps,N.ts.filter λu=>decide (u∈kept)]
def Bu(N:Net)(t b:Int)(u:Tie):Prop:=∃d,Least N u.a u.b d/\d*b<=u.len*t
noncomputable def CT(N:Net)(t b:Int)(u:Tie):Bool:=@decide (Bu N t b u)^fS _
theorem nearB_iff{N:Net}{t b:Int}{u:Tie}:CT N t b u=m_↔Bu N t b u:=by
 unfold CT
 grind
noncomputable def Aa(N:Net)(t b:Int):o_ Tie->o_ Tie->o_ Tie
 |kept,[]=>kept
 |kept,u::r=>if CT (sub N kept) t b u=m_ then Aa N t b kept r else Aa N t b (kept++[u]) r
def Em:W2:=λss n P=>∃(N:Net) (z:D) (ts:o_ Tie),ss=[.sh^enc N,.br z]/\Eu z=P3^ts.map AN/\ts.length<64/\∀ts':o_ Tie,ts'.Perm ts->Fw ts'->P (enc #[N.ps,ts']) n
def MC:W2:=λss n P=>∃(N:Net) (u:Tie) (t b:Int),ss=[.sh^enc N,.sh^.tup [.int t,.int b],.sh^AN u]/\okN N/\u.a∈N.ps/\u.b∈N.ps/\1<=b/\b<=1000000/\1<=t/\t<=1000000/\∀o:p_^o_ Str,(∀w,o=P3 w->Way N u.a u.b^P3 w/\CT N t b u=m_)->(o=l_->CT N t b u=n_)->P (Gd o) n
def T6:W2:=λss n P=>∃(N:Net) (t b:Int),ss=[.sh^enc N,.sh^.tup [.int t,.int b]]/\okN N/\1<=b/\b<=1000000/\1<=t/\t<=1000000/\∀ord:o_ Tie,ord.Perm N.ts->A5 ord->P (enc^sub N^Aa N t b [] ord) n
def UI:W2:=λss n P=>∃(N:Net) (s:Str) (z:D) (us:o_ Tie),ss=[.br z,.sh^.str s]/\Eu z=P3^us.map AN/\(∀u,u∈us↔u∈N.ts)/\okN N/\s∈N.ps/\∀(ks:o_ Key) (ds:o_ D) (K:Kn),Dmap ks ds D.int K->Ws N s K->P (.dic ks ds) n
theorem sub_mem{N:Net}{kept:o_ Tie}{u:Tie}:u∈(sub N kept).ts↔u∈N.ts/\u∈kept:=by
 show u∈N.ts.filter _↔_
 simp_all
theorem BJ{N:Net}(okn:okN N)(kept:o_ Tie):okN^sub N kept:=#[Io okn.1 (λt h=>(sub_mem.mp h).1)^okn.1.trise.filter _,okn.2.1,eJ (fP _ _) okn.2.2]
theorem F1{N:Net}(ok:N.Ok){kept ts:o_ Tie}(hk:∀t∈kept,t∈N.ts)(nd:kept.Nodup)(hp:ts.Perm kept)(hb:Fw ts):(#[N.ps,ts]:Net)=sub N kept:=by
 congr 1
 refine Cs ((g9 (hp.nodup_iff.mpr nd)^(AV ok.trise).filter _).mpr λt=>?_) hb^CP^ok.trise.filter _;rw[hp.mem_iff]
 simp_all
theorem Cz{N:Net}{t b:Int}{kept r:o_ Tie}{u:Tie}:Aa N t b kept (u::r)=if CT (sub N kept) t b u=m_ then Aa N t b kept r else Aa N t b (kept++[u]) r:=rfl
theorem Bx{N:Net}{t b:Int}:∀{rest kept:o_ Tie},(∀u∈kept,u∈Aa N t b kept rest)/\∀u∈Aa N t b kept rest,u∈kept\/u∈rest
 |[],kept=>#[λu h=>h,λu h=>.inl h]
 | v::r,kept=>by
  unfold Aa
  split
  .let#[h1,h2]:=Bx
   exact#[h1,λu hu=>(h2 u hu).imp id λz=>Sc _ z]
  .let#[h1,h2]:=Bx (N:=N) (t:=t) (b:=b) (rest:=r) (kept:=kept++[v])
   grind
theorem F_{N:Net}{t b:Int}:∀{rest kept:o_ Tie}{u:Tie},u∈rest->u∈Aa N t b kept rest\/∃k',(∀v∈k',v∈Aa N t b kept rest)/\Bu (sub N k') t b u
 |[],kept,u,h=>by cases h
 | v::r,kept,u,h=>by
  unfold Aa
  split
  .rename_i hn
   rcases UF.mp h with rfl|h
   .exact .inr #[_,(Bx).1,nearB_iff.mp hn]
   .exact F_ h
  .rcases UF.mp h with rfl|h
   .exact .inl^(Bx).1 u^TM _ (On.mpr rfl)
   .exact F_ h
theorem Wk.mono{N N':Net}(h:∀t∈N.ts,t∈N'.ts){s x:Str}{d:Int}(hw:Wk N s x d):Wk N' s x d:=by
 induction hw with
 |nil=>exact .nil
 |snoc _ he ih=>
  refine .snoc ih ?_;let#[t,ht,z]:=gQ.mp he;exact gQ.mpr #[t,h t ht,z]
theorem JR{α β:Type}:∀{l:o_ (α×β)},(l.map (·.1)).Nodup->∀{p q:α×β},p∈l->q∈l->p.1=q.1->p=q
 |a::l,nd,p,q,hp,hq,e=>by
  rw[e8,eI]at nd
  rcases UF.mp hp with hp2|hp2 <;>rcases UF.mp hq with hq2|hq2
  .rw[hp2,hq2]
  .grind
  .exact absurd (TW.mpr #[p,hp2,by rw[e,hq2]]) nd.1
  .exact JR nd.2 hp2 hq2 e
theorem IQ{N:Net}(ok:N.Ok){x y:Str}{l:Int}(h:Ed N x y l):look N.ts x y=P3 l:=by
 unfold look;cases e:(D8 _ x).find? _ with
 |none=>exact absurd (List.find?_eq_none.mp e _ h)^by simp
 |some q=>
  have e1:=of_decide_eq_true^List.find?_some (p:=λz=>decide _) e;rw[JR (QS ok x) (j6 e) h e1];rfl
theorem GN{N:Net}(ok:N.Ok):∀{r:o_ Str}{x:Str}{s d:Int},walk N (x::r) d->Lo N.ts x r s=P3 (s+d)
 |[],x,s,d,h=>by
  have:=h
  subst this;show P3 s=P3 _
  grind
 |y::r,x,s,d,h=>by
  let#[l,e,he,hw,rfl]:=h;show(match look _ x y with|some l=>Lo _ y r _|none=>l_)=_;rw[IQ ok he];show Lo _ y r _=_;rw[GN ok hw,jt]
theorem PD{N:Net}(ok:N.Ok){x:Str}{r:o_ Str}{d:Int}(hx:x∈N.ps)(hw:walk N (x::r) d):Xs N^.tup^(x::r).map .str=.int d:=by
 show(if((x::r).map _).all _ then Xr N _ else .non)=_;rw[if_pos^all_strs _,Ip];show(if x∈N.ps then XS _ else .non)=_;rw[if_pos hx,GN ok hw,h_];rfl
theorem FQ{N:Net}{B:Nat}(ok:N.Ok):∀{w:o_ Str},(∀x∈w,x∈N.ps)->Fs B^w.map .str/\Jz^w.map .str<=9*w.length/\IU^w.map .str<=0
 |[],_=>#[trivial,Re _,Re _]
 | x::r,h=>by
  let#[a,b,c]:=FQ ok λy hy=>h y^Sc _ hy;have hx:=ok.names x^h x FM;refine#[#[λch hc=>by have:=hx.2.2 ch hc;lk,a],?_,?_]
  .show x.length+1+Jz _<=9*(r.length+1)
   have:=hx.2.1
   lk
  assumption
theorem RY{N:Net}(ok:N.Ok){w:o_ Str}(hl:w.length<=30)(h:∀x∈w,x∈N.ps):X7^.tup^w.map .str:=by
 let#[a,b,c]:=FQ ok h;exact#[a,by show Jz _<=160000;lk,by show IU _+1<=50;lk]
end Nt
namespace L2
open PySem.AutoSeq1 (wpAny_loadPart')
theorem Ue{prog:eK}{w:eU}{A:eh}{R:Result->Rs->Prop}{s:Rs}(t:Ch)(items:Array Db)(n:Nat)(x:Db)(e:Db->Bool)(j:Nat)(hj:j<items.size)(hit:e items[j]=m_)(hno:∀m (hm:m<items.size),m<j->e items[m]=n_)
  (hl:s.heap.get? t=P3 {cls:=.type "tuple",dict:=l_,data:=.seq items n,slots:=#[]}) (he:∀y,y∈items->PySem.SeqAt.EqAt A.in1 s y x^e y)
  (h:R (.ok^.ret^.int (j:Int) s.toks) {s with toks:=s.toks+1}):
  wpAny (model prog w) A.in1 (iQ.«tuple.index» #[[.ref t,x],[]]) (λfin s'=>match fin with|.done f=>R (.ok f) s'|.again c'=>c'.quiet=m_/\codeAny (model prog w) A c' R s') (λe s'=>R (.error e) s') s:=by
 let#[hp,g,d,tk,os]:=s
 wp_walk using fW hl
 have go:∀(Q:p_ _×Unit->Rs->Prop) (E:Db->Rs->Prop),(∀r,Q (P3 r,()) #[hp,g,d,tk+1,os]\/True)->∀(k i:Nat),i<=j->i+k=items.size->
   (∀r:Fin,r=.done^.ret^.int (j:Int) tk->Q (P3 r,()) #[hp,g,d,tk+1,os])->
   wpAny (model prog w) A.in1 (forIn (List.range' i k 1) ((l_:p_ Fin),()) (fun(i:Nat) __s=>match items[i]? with
      | some y=>do
       let __do_lift ←eqBool y x
       if __do_lift=m_ then do
         let __do_lift ←retInt (i:Int)
         pure (ForInStep.done (P3 __do_lift,()))
        else pure^gZ (l_,())
      |x=>pure^gZ (l_,()))) Q E #[hp,g,d,tk,os]:=by
  intro Q E _ k
  induction k with
  |zero=>intro i h1 h2;lk
  | succ k ih=>
   intro i h1 h2 hQ;have hlt:i<items.size:=by lk
   rw[List.range'_succ,iZ];have hi:items[i]?=P3 items[i]:=ic hlt;simp only[hi];refine Go^Go^he _ (jx hlt) prog w _ _ ?_
   by_cases c:i=j
   .subst c
    rw[hit]
    wp_walk
    exact hQ _ rfl
   .rw[hno i hlt^by lk]
    wp_walk
    exact ih (i+1) (by lk) (by lk) hQ
 show wpAny (model prog w) A.in1 (forIn [:min items.size items.size] ((l_:p_ Fin),()) _) _ _ _;rw[Std.Legacy.Range.forIn_eq_forIn_range']
 have er:List.range' (Std.Legacy.Range.start [:min items.size items.size]) (ke [:min items.size items.size])^Std.Legacy.Range.step [:min items.size items.size]=List.range' 0 items.size 1:=by
  simp[ke]
 rw[er];refine go _ _ (λ_=>.inr trivial) items.size 0 (dq _) (Nat.zero_add _) λr er=>?_;subst er;exact df h
section
variable {X:Cx}
def ZI:V->o_ V->Hp->VK->Prop:=λx vs H Q=>∃(a:Ch) (xs:o_ V) (y:V) (ds:o_ iE) (d:iE) (j:Nat),x=.ref a/\vs=[y]/\H a=P3^.tup xs/\RVs H ds xs/\RV H d y/\gJ ds=m_/\d.canLay0=m_/\d.depth<=100 /\
 (∃dj,ds[j]?=P3 dj/\fO dj d=m_)/\(∀m dm,m<j->ds[m]?=P3 dm->fO dm d=n_)/\Q (.int (j:Int)) H
theorem Xo{k:Nat}(hr:Room k X.A):Yl X "tuple.index" ZI:=by
 intro zG s Z H x vs v us Q I rx rv h;let#[l,xs,y,ds,d,j,rfl,rfl,hH,hds,hd,c1,c2,dd,#[dj,hj,hit],hno,q]:=h;cases rx;let#[u,rfl,ru]:=rv.one;let#[z,its,r,#[#[cls,dt,data,sl],e,e2,n,e3,e4,e5]]:=(show ObjOk X.prog X.w H s.heap l^.tup xs from I.hok l _ hH);simp only at e2 e3 e4 e5;subst e2 e3 e4 e5;let#[as,ra]:=RVs.reads I hds r;let#[bs,rb]:=RV.reads I hd ru;have hm:=PySem.SeqAt.readsAll_map ds its as c1 ra;have hlen:ds.length=its.length:=by rw[←hm,Ev]
 have hu:=hr.un;have hmin:min (fi ds) d.depth<=d.depth:=jC _ _
 have at_:∀m dm,ds[m]?=P3 dm->∀(h:m<its.toArray.size),PySem.SeqAt.readOf s.heap its.toArray[m]=dm:=λm dm e h=>by
  rw[←hm,di]at e;have h':m<its.length:=by simpa using h
  simp_all
 have hjl:j<its.length:=by grind
 have key:=Ue (prog:=X.prog) (w:=X.w) (A:=X.A) (R:=wants (EP X zG Z Q) X.xe) l its.toArray n u (λy=>fO (PySem.SeqAt.readOf s.heap y) d) j (by lk) (by simp_all) (λm hm' hlt=>by
  have hml:m<ds.length:=by simp_all
  rw[at_ m ds[m] (Op hml) hm'];exact hno m ds[m] hlt (Op hml)) e (PySem.SeqAt.items_eqAt (vs:=its.toArray) (by lk) rb c1 c2^by lk) #[.int j,H,I.tok _,#[_,rfl],q]
 exact wpAny_call^codeAny_call_builtin PySem.F.slot_tuple_index.plain PySem.F.entry_tuple_index^PySem.F.slot_tuple_index.check _ _ _ _ _ _ _ _ #[_,e,rfl] (PySem.F.args_tuple_index_2 _ _) key
def bL(r:V->o_ V->Hp->VK->Prop)(to:TE)(t:TA):TE:=λZ H Q=>to Z H λx H1=>(∃a xs,x=.ref a/\H1 a=P3^.tup xs)/\t Z H1 λxs H2=>r x xs H2 Q
theorem Xe{o e:eO}{es:o_ eO}{to:TE}{t:TA}{name:Str}{apos cpos:Pos}{id:String}{r:V->o_ V->Hp->VK->Prop}(slot:Slot "tuple" name id)(hty:typeOf^.builtin id=pure^.type "method_descriptor")(hm:Yl X id r)(ho:PE X o to)(ha:PA X (e::es) t)
  (hbase:attributeBase o name X.env^eval o X.env=eval o X.env:=by rfl)
  (hfew:((backTo cpos^starEach (e::es) X.env).all (λx=>!x.1)&&(backToKw cpos^keywordEach [] X.env).all (λx=>x.1.isSome)
   && decide ((e::es).length+([]:o_ hZ).length+(if([]:o_ hZ).isEmpty then 0 else 1)<30))=m_:=by rfl)
  (hline:(apos.endLine==cpos.line)=m_:=by rfl) (hs:starEach (e::es) X.env=(n_,eval e X.env)::starEach es X.env:=by rfl) (hplain:(backTo cpos^starEach es X.env).any (·.1)=n_:=by rfl):
  PE X (.Call (.Attribute o name apos) (e::es) [] cpos) (bL r to t):=by
 intro zG s Z H Q I h;refine wpAny_Call_method_late hbase hfew hline rfl (thn (ho zG s Z H _ I h) λv s1 zz=>?_);let#[x,H1,I1,r1,#[a,xs,ex,hx],q1]:=zz;subst ex;have ev:v=fR a:=r1;subst ev;let#[z,its,_,o,e1,e2,n,e3,e4,e5]:=(I1.hok a _ hx);refine#["tuple",id,PySem.F.plainAttrs_tuple,slot,hty,#[o,e1,e2],λb eb=>by simp_all,?_];have hA:=ha cpos zG s1 Z H1 _ I1 q1;rw[hs]at hA ⊢;refine iJ (by grind)^jL ?_;refine thn hA λus s2 zz=>?_;let#[vs,H2,I2,r2,q2]:=zz;exact hm zG s2 Z H2 (.ref a) vs (.ref a) us Q I2 r1 r2 q2
end
end L2
namespace Dp
open L2
section
variable {X:Cx}{zU:Kd}{a e:Expr}{es:o_ Expr}{wa:DW}{ws:Dq}
def Zx(d:D)(ds:o_ D)(P:D->Prop):Prop:=∃(xs:o_ D) (y:D) (j:Nat),d=.tup xs/\ds=[y]/\Cg^.tup xs/\Cg y/\(∃x,xs[j]?=P3 x/\Dn x y=m_)/\(∀m x,m<j->xs[m]?=P3 x->Dn x y=n_)/\P^.int (j:Int)
def a_(wo:DW)(ws:Dq):DW:=λn ρ P=>wo n ρ λd n1=>(∃xs,d=.tup xs)/\ws n1 ρ λds n2=>Zx d ds λz=>P z n2
theorem aE{K:Frag}:cR K .sh "tuple" ZI Zx:=by
 intro U M H d ds x vs P Q dom vM hx hp w q;let#[xs,y,j,rfl,rfl,#[n1,l1,_],#[n2,l2,d2],#[x0,hx0,hit],hno,w]:=w;let#[v,rfl,hy]:=Eo hp;let#[a,us,rfl,hn,hs]:=hx.tup
 have get:∀(m:Nat) (p:iE),(BQ xs)[m]?=P3 p->∃x,xs[m]?=P3 x/\p=toPy x:=λm p e=>by
  rw[DP,di]at e;let#[x,e1,rfl]:=eq.mp e
  grind
 refine#[a,us,v,_,_,j,rfl,rfl,hn,hs.rv n1,hy.rv n2,l1,l2,d2,#[_,by rw[DP,di,hx0];rfl,hit],λm p hm e=>?_,q _ H (.int j) .refl rfl w];let#[x',e1,rfl]:=get m p e;exact hno m x' hm e1
theorem Tc{k:Nat}{apos cpos:Pos}(hr:Room k X.A)(ho:DE X a zU wa)(ha:UU X (e::es) ws)
  (hbase:attributeBase a "index" X.env^eval a X.env=eval a X.env:=by rfl)
  (hfew:((backTo cpos^starEach (e::es) X.env).all (λx=>!x.1)&&(backToKw cpos^keywordEach [] X.env).all (λx=>x.1.isSome)
   && decide ((e::es).length+([]:o_ hZ).length+(if([]:o_ hZ).isEmpty then 0 else 1)<30))=m_:=by rfl)
  (hline:(apos.endLine==cpos.line)=m_:=by rfl) (hs:starEach (e::es) X.env=(n_,eval e X.env)::starEach es X.env:=by rfl) (hplain:(backTo cpos^starEach es X.env).any (·.1)=n_:=by rfl):
  DE X (.Call (.Attribute a "index" apos) (e::es) [] cpos) .sh (a_ wa ws):=by
 let#[t,h1,h2]:=ho;let#[u,g1,g2]:=ha;refine#[_,Xe PySem.F.slot_tuple_index PySem.F.type_tuple_index (Xo hr) h1 g1 hbase hfew hline hs hplain,λC M H n ρ Z P Q R w q=>?_];refine h2 C M H n ρ Z _ _ R w λx H1 d n1 e1 f1 r1 p=>?_;have R1:=R.step e1 f1;have tx:=r1.tpOf R.dom R.vM;let#[#[xs,rfl],p]:=p;refine#[by let#[a,us,rfl,hn,hs]:=tx.tup;exact#[a,us,rfl,hn],?_];refine g2 C M H1 n1 ρ Z _ _ R1 p λvs H2 ds n2 e2 f2 r2 p2=>?_;have R2':=R1.step e2 f2;refine aE C.V M H2 (.tup xs) ds x vs _ _ R2'.dom R2'.vM (tx.pres (R1.pres e2) e2 R.uV) r2 p2 λv H3 z g vr pz=>?_;exact q v H3 z n2 ((e1.trans e2).trans g.ext) (f2.grow g) (VR.back (e1.trans e2) vr) pz
end
end Dp
namespace L2
open PySem.W
end L2
namespace Dp
open L2
end Dp
namespace Nt
open L2 Dp
def RR:D->Bool
 |.int i=>decide (0<=i)
 |_=>n_
def Yt(N:Net):D->Bool
 |.tup xs=>((xs.length:Int)==(N.ps.length:Int))&&xs.all RR
 |_=>n_
def bU:D->Int
 |.int i=>i
 |_=>0
def IB(N:Net)(xs:o_ D)(a:Str):Int:=bU^(BO (N.ps.map .inr) xs^.inr a).getD .non
def EA(i:Int):Int:=if i<0 then -i else i
def Ft(N:Net):D->Bool
 |.tup xs=>Yt N^.tup xs&&N.ts.all λt=>decide (EA (IB N xs t.a - IB N xs t.b)<=t.len)
 |_=>n_
def CC(m:Int):p_ Int->Int
 |some d=>if d<m then d else m
 |none=>m
def Vs:W2:=λss n P=>∃(N:Net) (d:D),ss=[.sh^enc N,.sh d]/\okN N/\P (.bl^Yt N d) n
def cN:W2:=λss n P=>∃(N:Net) (xs:o_ D) (a b:Str),ss=[.sh^enc N,.sh^.tup xs,.sh^.str a,.sh^.str b]/\okN N/\xs.length=N.ps.length/\(∀x∈xs,RR x=m_)/\a∈N.ps/\b∈N.ps/\P (.int^EA (IB N xs a - IB N xs b)) n
def aR:W2:=λss n P=>∃(N:Net) (d:D),ss=[.sh^enc N,.sh d]/\okN N/\P (.bl^Ft N d) n
def UB:W2:=λss n P=>∃(N:Net) (s:Str) (m:Int),ss=[.sh^enc N,.sh^.str s,.sh^.int m]/\okN N/\s∈N.ps/\∀F:KJ,Told N s F->P (.tup (N.ps.map λx=>.int (CC m ((F x).map (·.1))))) n
theorem Oi:∀{ks:o_ Key}{ds:o_ D}{k:Key}{z:D},BO ks ds k=P3 z->z∈ds
 |[],_,k,z,h=>by cases h
 |_::_,[],k,z,h=>by cases h
 |k0::ks,d::ds,k,z,h=>by
  have h':(if k0=k then P3 d else BO ks ds k)=P3 z:=h
  split at h'
  .grind
  .exact Sc _^Oi h'
theorem Rg:∀{ps:o_ Str}{xs:o_ D}{j:Nat}{a:Str},ps.Nodup->ps[j]?=P3 a->BO (ps.map .inr) xs^.inr a=xs[j]?
 |[],xs,j,a,_,h=>by simp at h
 |p::ps,[],j,a,_,h=>by rfl
 | p::ps,x::xs,j,a,nd,h=>by
  rw[eI]at nd;show(if f7 p=.inr a then P3 x else BO _ xs _)=_;cases j with
  |zero=>
   grind
  |succ j=>
   rw[if_neg λz=>nd.1 (by rw[hX z];exact fD h),Rg nd.2 h];simp
theorem ge_int{d:D}(h:RR d=m_):∃i,d=.int i/\0<=i:=by
 cases d with
 |int i=>exact#[i,rfl,of_decide_eq_true h]
 |_=>cases h
theorem Oz{ps:o_ Str}(h:rising ps):ps.Nodup:=List.Pairwise.imp (λ{a b} z e=>by grind) h
theorem bF{N:Net}{xs:o_ D}(hl:xs.length=N.ps.length)(hg:∀x∈xs,RR x=m_){a:Str}(ha:a∈N.ps):BO (N.ps.map .inr) xs^.inr a=P3^.int^IB N xs a:=by
 let#[z,hz]:=HD (ds:=xs) (by grind)^TW.mpr #[a,ha,rfl];let#[i,rfl,_]:=ge_int^hg z^Oi hz;unfold IB;rw[hz];rfl
section
theorem WV{N:Net}(okn:okN N){xs:o_ D}(hl:xs.length=N.ps.length)(hg:∀x∈xs,RR x=m_){a:Str}(ha:a∈N.ps):∃j:Nat,xs[j]?=P3^.int^IB N xs a/\Cg^.tup^N.ps.map .str/\Cg^.str a/\(∃x,(N.ps.map D.str)[j]?=P3 x/\Dn x^.str a=m_)/\∀(m:Nat) (x:D),m<j->(N.ps.map D.str)[m]?=P3 x->Dn x^.str a=n_:=by
 have nd:=Oz okn.1.rise;let#[j,hj]:=gy.mp ha;refine#[j,by rw[←Rg nd hj,bF hl hg ha],FX okn.1.names,?_,#[.str a,by simp_all,by rw[IS,beq_self_eq_true]],λm x hm hx=>?_]
 .exact C_ (B:=0) (by cbv) (λc hc=>by have:=(okn.1.names a ha).2.2 c hc;lk)^dq _
 .rw[di]at hx
  let#[y,hy,rfl]:=eq.mp hx;rw[IS,beq_eq_false_iff_ne];intro e;subst e;let#[h1,e1]:=de.mp hy;let#[h2,e2]:=de.mp hj
  have:=(List.getElem_inj nd).mp^e1.trans e2.symm
  lk
end
theorem Jn{m:Int}(hm:0<=m){o:p_ Int}(ho:∀d,o=P3 d->0<=d):0<=CC m o/\CC m o<=m:=by
 cases o with
 |none=>exact#[hm,gM _]
 |some d=>
  show 0<=(if d<m then d else m)/\(if d<m then d else m)<=m
  grind
end Nt
set_option maxHeartbeats 400000
namespace Nt
open L2 Dp
inductive Ca where
 |en
 |fa (u:Tie) (p:List Int)
 |sp (u:Tie) (c d:Ca)
def Ca.cnt:Ca->Nat
 |.sp _ c d=>1+c.cnt+d.cnt
 |_=>1
def Ca.dep:Ca->Nat
 |.sp _ c d=>1+max c.dep d.dep
 |_=>1
def Ca.D:Ca->D
 |.en=>.tup [.str "enough"]
 |.fa u p=>.tup [.str "far",AN u,.tup^p.map .int]
 |.sp u c d=>.tup [.str "split",AN u,c.D,d.D]
def DH(N:Net)(gone:o_ Tie):Net:=#[N.ps,N.ts.filter λt=>decide (t∉gone)]
def Qr(N:Net)(t b:Int)(gone:o_ Tie)(u:Tie)(p:o_ Int):Bool:=Ft (DH N gone)^.tup^p.map .int&&decide (u.len*t<EA (IB N (p.map .int) u.a - IB N (p.map .int) u.b)*b)
def VA(N:Net)(t b:Int)(many:Nat):o_ Tie->o_ Tie->Ca->Bool
 |kept,_,.en=>decide (many<=kept.length)
 |_,gone,.fa u p=>decide (u∈N.ts)&&decide (u∈gone)&&Qr N t b gone u p
 |kept,gone,.sp u c d=>decide (u∈N.ts)&&decide (u∉kept)&&decide (u∉gone)&&VA N t b many (kept++[u]) gone c&&VA N t b many kept (gone++[u]) d
def Nf(N:Net)(t b:Int)(S:o_ Tie):Prop:=∀u∈N.ts,∃d,Wk #[N.ps,S] u.a u.b d/\d*b<=u.len*t
theorem U6{N:Net}(ok:N.Ok)(gone:o_ Tie):(DH N gone).Ok:=#[ok.names,ok.rise,λt ht=>ok.tin t (eE.mp ht).1,ok.trise.sublist gL]
inductive Made (N:Net) (t b:Int) (many:Nat):List Tie->List Tie->List Tie->Ca->Prop
 |en {kept gone left:List Tie}:many<=kept.length->Made N t b many kept gone left .en
 |fa {kept gone left:List Tie}{u:Tie}{p:List Int}:u∈gone->Qr N t b gone u p=m_->Made N t b many kept gone left (.fa u p)
 |no {kept gone:List Tie}:(∀u∈gone,∃d,Wk (DH N gone) u.a u.b d/\d*b<=u.len*t)->Made N t b many kept gone [] .en
 |sp {kept gone left rest:List Tie}{u:Tie}{c d:Ca}:left.Perm (u::rest)->Made N t b many (kept++[u]) gone rest c->Made N t b many kept (gone++[u]) rest d->Made N t b many kept gone left (.sp u c d)
theorem Made.dep{N:Net}{t b:Int}{many:Nat}{kept gone left:o_ Tie}{c:Ca}(h:Made N t b many kept gone left c):c.dep<=left.length+1/\c.cnt+1<=2 ^ (left.length+1):=by
 induction h with
 |@en _ _ left _=>exact#[gm^dq _,by have:=Nat.two_pow_pos left.length;show 1+1<=_;lk]
 |@fa _ _ left _ _ _ _=>exact#[gm^dq _,by show 1+1<=_;grind]
 |no _=>exact#[Re _,Re _]
 | sp hp _ _ ih1 ih2=>
  have e:=hp.length_eq;rw[dg]at e;rw[e];let#[a1,a2]:=ih1;let#[b1,b2]:=ih2;refine#[?_,?_]
  .show 1+max _ _<=_
   lk
  .show 1+_+_+1<=_
   lk
theorem Made.shows{N:Net}(ok:N.Ok){t b:Int}(h0:0<=b)(hbt:b<=t){many:Nat}(hm:∀S:o_ Tie,S.Sublist N.ts->Nf N t b S->many<=S.length){kept gone left:o_ Tie}{c:Ca}(h:Made N t b many kept gone left c)(hp:(kept++gone++left).Perm N.ts):VA N t b many kept gone c=m_:=by
 have nN:N.ts.Nodup:=AV ok.trise
 induction h with
 |en h=>exact decide_eq_true h
 |fa hu hf=>
  unfold VA;rw[hf,decide_eq_true hu,decide_eq_true^hp.subset^Tk _^TM _ hu];rfl
 | @no kept gone hw=>
  rw[dk]at hp;have nd:=hp.nodup_iff.mpr nN;refine decide_eq_true ?_
  have hk:Nf N t b (DH N gone).ts:=λu hu=>by
   by_cases hg:u∈gone
   .exact hw u hg
   .have hu':u∈(DH N gone).ts:=eE.mpr #[hu,decide_eq_true hg]
    refine#[u.len,?_,fV hbt^by have:=(ok.tin u hu).2.2.2.1;lk]
    have:=Wk.snoc (Wk.nil (N:=DH N gone) (s:=u.a)) (CB hu').1
    rw[h_]at this;exact this
  have h1:=hm (DH N gone).ts gL hk
  have h2:(DH N gone).ts.length<=kept.length:=by
   refine sub_len (nN.sublist gL) (eP.mp nd).1 λx hx=>?_;let#[x1,x2]:=eE.mp hx
   rcases ZB.mp^hp.symm.subset x1 with z|z
   .exact z
   .exact absurd z^of_decide_eq_true x2
  lk
 | @sp kept gone left rest u c d hl _ _ ih1 ih2=>
  have hu:u∈left:=hl.symm.subset FM;have nd:=hp.nodup_iff.mpr nN;have hx:u∉kept++gone:=λz=>(eP.mp nd).2.2 u z u hu rfl
  have p1:(kept++[u]++gone++rest).Perm N.ts:=by
   refine iH ?_ hp;refine iH ?_^gU _ hl.symm;simp only[da,gz];exact gU _^List.perm_middle.symm
  have p2:(kept++(gone++[u])++rest).Perm N.ts:=by
   refine iH ?_ hp;refine iH ?_^gU _ hl.symm;simp only[da,gz];exact List.Perm.refl _
  unfold VA;rw[ih1 p1,ih2 p2,decide_eq_true^hp.subset^TM _ hu,decide_eq_true (show ¬u∈kept from λz=>hx^Tk _ z),decide_eq_true (show ¬u∈gone from λz=>hx^TM _ z)];rfl
end Nt
set_option maxHeartbeats 4000000
namespace Nt
open L2 Dp
theorem Iw{N:Net}(okn:okN N):Oy^enc N:=by
 let#[f1,f2,f3]:=Fz okn;exact Uo (B:=1000001) (by cbv) f1 (by lk)^by lk
end Nt
namespace L2
open AutoSeq1 (wpAny_loadPart')
theorem boot_enumerate:bootBuiltins "enumerate"=P3^.type "enumerate":=by decide +kernel
section
variable {prog:Program}{w:World}{A:Around}{E:Value->Shared->Prop}{s:Shared}
theorem Qx{κ:Bool}(hh:A.handled=l_)(it l:Ch)(hne:l≠it)(items:Array Db):Draws prog w A it [it,l] items.size (λi v=>items[i]?=P3 v) (λi h=>ItAt κ h it l i/\SqAt κ h l items) where
 live:=λ_ _ st=>let #[o,ho,_]:=st.1.lies;#[o,ho]
 frame:=λ_ _ _ st k=>#[st.1.mv λo e=>k it (by simp) o e,st.2.mv λo e=>k l (by simp) o e]
 item:=λi s Q E hi st hQ=>Fc st.1 st.2 (x:=items[i]) (by simp[hi]) λh' a b=>hQ _ h' s.toks (by simp[hi]) #[a,st.2.eb b.extBut hne] b
 done:=λs Q E st hE=>Gx hh st.1 st.2 (by simp) hE
theorem OS{κ:Bool}(hh:A.handled=l_)(it l:Ch)(items:Array Db)(k:Nat)(hk:items[k]?=l_):Draws prog w A it [it,l] k (λ_ _=>True) (λi h=>ItAt κ h it l i/\SqAt κ h l items/\i=k) where
 live:=λ_ _ st=>let #[o,ho,_]:=st.1.lies;#[o,ho]
 frame:=λ_ _ _ st k=>#[st.1.mv λo e=>k it (by simp) o e,st.2.1.mv λo e=>k l (by simp) o e,st.2.2]
 item:=λi s Q E hi st hQ=>absurd st.2.2^eB hi
 done:=λs Q E st hE=>Gx hh st.1 st.2.1 hk hE
theorem Sj(κ:Bool)(l:Ch)(items:Array Db):Meets (iQ.«enumerate.__new__» #[[.type "enumerate",.ref l],[]]) (λ_ R s=>SqAt κ s.heap l items /\
   R (.ok^.ret^.ref (s.heap.push^Hq κ l).objs.size) {s with heap:=(s.heap.push^Hq κ l).push {cls:=.type "enumerate",data:=.fields #[ .none,.bool n_,.ref s.heap.objs.size,rawInt 0,.none,.none]}}):=
 .of_wp λprog w A R s h=>by
  let#[hp,g,d,tk,os]:=s;let#[hl,h]:=h
  have hsub:=sub_enumerate;cases κ with
  | true=>
   have hL:kU (iL #[hp,g,d,tk,os]) l items:=hl;let#[#[c,dct,dt,sl],ho,hc,n,hd]:=id hL;replace hc:c=.type "list":=hc;replace hd:dt=.seq items n:=hd;subst hc hd
   wp_walk using fW ho
   refine wpAny_stack_any λst=>df ?_
   split
   .rename_i c _ _ _ _ _
    cases(c==fF "enumerate") <;>(wp_walk using fW ho,fq hL;exact#[_,rfl,h])
   ·(wp_walk using fW ho,fq hL;exact#[_,rfl,h])
  | false=>
   have hL:kB (iL #[hp,g,d,tk,os]) l items:=hl;let#[#[c,dct,dt,sl],ho,hc,n,hd]:=id hL;replace hc:c=.type "tuple":=hc;replace hd:dt=.seq items n:=hd;subst hc hd
   wp_walk using fW ho
   refine wpAny_stack_any λst=>df ?_
   split
   .rename_i c _ _ _ _ _
    cases(c==fF "enumerate") <;>(wp_walk using fW ho,fg hL;exact#[_,rfl,h])
   ·(wp_walk using fW ho,fg hL;exact#[_,rfl,h])
theorem KI{κ:Bool}{l:Ch}{items:Array Db}{Q:Db->Rs->Prop}(hl:SqAt κ s.heap l items)
  (h:∀h',IsEnum h' (s.heap.objs.size+1) s.heap.objs.size 0 .none->ItAt κ h' s.heap.objs.size l 0->(∀b o,s.heap.get? b=P3 o->h'.get? b=P3 o)->Q (.ref (s.heap.objs.size+1)) {s with heap:=h'}):
  wpAny (model prog w) A (call (.type "enumerate") [.ref l]) Q E s:=by
 refine callType_new F.called_enumerate (by cbv) (F.typeCall_enumerate_1 _) (F.newCall_enumerate_1 _) (λobj=>F.args_object_init_2 obj _) F.entry_enumerate_new (Sj κ l items) #[hl,?_];have hz:(s.heap.push^Hq κ l).objs.size=s.heap.objs.size+1:=fe ..;have g1:((s.heap.push^Hq κ l).push {cls:=.type "enumerate",data:=.fields #[ .none,.bool n_,.ref s.heap.objs.size,rawInt 0,.none,.none]}).get? (s.heap.push^Hq κ l).objs.size=P3 _:=T0 _ rfl;rw[hz]at g1;refine#[#[_,by rw[hz];exact g1,rfl],?_];rw[hz];exact h _ g1 ((Jb κ s.heap l).mv λo e=>No _ e) λb o e=>No _^No _ e
end
def Yw(K:Frag)(κ:Bool)(a:Ch)(xs:o_ V):It:=
 #[λi H=>SqK κ K H a xs/\i<xs.length,λi H x H'=>∃T p,x=.ref T/\H T=l_/\H'=BF H T^.tup [.int i,p]/\xs[i]?=P3 p,λi H=>SqK κ K H a xs/\xs.length<=i]
structure Yp (κ:Bool) (e it a:Ch) (k:Nat) (h:eC):Prop where
 e:∃old,IsEnum h e it (k:Int) old
 i:ItAt κ h it a k
theorem P8{P:eK}{w:eU}{K:Frag}{es:o_ eO}{j:Nat}{pos:Pos}(κ:Bool)(e it a:Ch)(xs:o_ V)(ei:e≠it)(ae:a≠e)(ai:a≠it):
  Turn P w K (.Tuple es j pos) (Yw K κ a xs) [e,it] e (Yp κ e it a) where
 mem:=by simp
 obj:=λi h st c hc=>by
  simp only[UF,d9,or_false]at hc
  rcases hc with rfl|rfl
  .let#[o,q]:=st.e
   exact#[_,q,λv q=>by cases q]
  .exact st.i.lies
 keep:=λi h h' st k=>by
  let#[o,q]:=st.e;exact#[#[o,k e (by simp) _ q],st.i.mv λo e=>k it (by simp) o e]
 item:=by
  intro X hP hw hK hc i zG s Z H E I hf st hg;subst hP hw hK;let#[ha,hi]:=hg;let#[us,r1,q1]:=ha.at I;let#[u,hu,ru]:=r1.get^Op hi;let#[old,ee]:=st.e;have l1:=r1.length;refine wpAny_pyNext_enum_itemD (Qx (κ:=κ) (A:=X.A.in1) (I.ok.hd hc) it a ai us.toArray) ee #[st.i,q1] (by simp;lk) ei (by simp[ei,ae.symm]) λx h' tk hp a1 a2 a3 a4 a5=>#[_,rfl,?_]
  have hxu:x=u:=by
   have e2:us[i]?=P3 x:=by simpa using hp
   rw[hu]at e2;exact(d6 e2).symm
  subst hxu;refine wpAny_letOwnedTupleGo_enum a1 λh2 b1 b2=>?_;have hT:H s.heap.objs.size=l_:=I.hok.fresh^Re _
  have kk:∀c o,c∉[e,it]->s.heap.get? c=P3 o->h2.get? c=P3 o:=λc o hc z=>by
   simp only[UF,d9,or_false,not_or]at hc;exact b2.extBut _ _ hc.1^a5 c o hc.1 hc.2 z
  have I2:Inv X zG Z (BF H s.heap.objs.size^.tup [.int i,xs[i]]) {s with heap:=h2,toks:=tk+1}:=by
   refine I.turnLaid (t':=tk+1) (ch:=[e,it]) hf kk (Re _) ?_;have nT:s.heap.objs.size≠e:=ig^Uf ee;exact#[by show 2<=sizeLine;decide,[.int i tk,x],.cons #[_,rfl]^.cons ru .nil,#[_,b2.extBut _ _ nT a3,rfl,_,rfl,rfl,rfl]]
  refine#[.ref s.heap.objs.size,_,I2,rfl,#[_,_,rfl,hT,rfl,Op hi],#[#[_,b1],a2.1.eb b2.extBut ei.symm],λc hc=>?_];have hcn:H c=l_:=(hf c hc).1
  have hlt:c≠s.heap.objs.size:=λz=>by
   obtain⟨o,ho⟩:∃o,s.heap.get? c=P3 o:=by
    simp only[UF,d9,or_false]at hc
    rcases hc with rfl|rfl
    .exact#[_,ee]
    .let#[o,q,_]:=st.i.lies;exact#[o,q]
   rw[z]at ho;exact fC _^Uf ho
  rw[AO hlt];exact hcn
 done:=by
  intro X hP hw hK hc i zG s Z H E I hf st hg;subst hP hw hK;let#[ha,hi]:=hg;let#[us,r1,q1]:=ha.at I;let#[old,ee]:=st.e;have l1:=r1.length;refine wpAny_pyNext_enum_endD (OS (κ:=κ) (A:=X.A.in1) (I.ok.hd hc) it a us.toArray i^by simp;lk) ee #[st.i,q1,rfl] λh' kk=>#[rfl,?_];refine I.turnedL (t':=s.toks) (ch:=[e,it]) hf λc o hc e=>?_;simp only[UF,d9,or_false,not_or]at hc;exact kk c o hc.2 e
 self:=λA i s Q E st h=>by
  let#[old,ee]:=st.e;exact wpAny_pyIter_enum ee h
section
variable {X:Cx}{e1:Expr}{es:o_ Expr}{j:Nat}{tpos p pos:Pos}{te:TE}
def Zq(K:Frag)(te:TE):TI:=λZ H R=>te Z H λv H1=>∃κ a xs,v=.ref a/\SqK κ K H1 a xs/\R (Yw K κ a xs) H1
theorem Uy(hg:Gl X "enumerate")(hm:X.mg "enumerate"=l_)(he:PE X e1 te)(hs:starEach [e1] X.env=[(n_,eval e1 X.env)]:=by rfl):
  PI X (.Tuple es j tpos) (.Call (.Name "enumerate" p) [e1] [] pos) (Zq X.K te):=by
 intro zG s Z H R I h;refine gC^Dg I hg hm boot_enumerate ?_;refine fI ?_ hs rfl;rw[hs];refine gR^thn (he zG s Z H _ I h) λu s1 zz=>?_;let#[x,H1,I1,r1,κ,a,xs,ex,hq,q]:=zz;refine g_ ?_;subst ex;cases r1;let#[us,r1',q1]:=hq.at I1;have la:a<s1.heap.objs.size:=by let#[o,e]:=q1.lies;exact Uf e
 refine KI q1 λh' hz hi hk=>?_;refine wpAny_pyIter_enum hz ?_;refine#[s1.heap.objs.size+1,[s1.heap.objs.size+1,s1.heap.objs.size],_,Yw X.K κ a xs,H1,rfl,I1.kept (t':=s1.toks) hk,P8 κ _ _ a xs (by show(_:Nat)≠(_:Nat);lk) (eB^f_ la)^eB la,#[#[_,hz],hi],λc hc=>?_,q]
 have hge:s1.heap.objs.size<=c:=by
  simp only[UF,d9,or_false]at hc
  rcases hc with rfl|rfl
  .exact fj _
  .exact Re _
 exact I1.fpOk hge^I1.hok.fresh hge
end
end L2
namespace Dp
open L2
def C7:Nat->o_ D->o_ D
 |_,[]=>[]
 |k,x::r=>.tup [.int (k:Int),x]::C7 (k+1) r
theorem Ku:∀(k:Nat) (ds:o_ D),(C7 k ds).length=ds.length
 |_,[]=>rfl
 |k,x::r=>by show(C7 (k+1) r).length+1=r.length+1;rw[Ku (k+1) r]
theorem Kv:∀(k:Nat) (ds:o_ D) (i:Nat),(C7 k ds)[i]?=(ds[i]?).map λx=>.tup [.int ((k+i:Nat):Int),x]
 |_,[],i=>by simp[C7]
 |k,x::r,0=>rfl
 |k,x::r,i+1=>by
  show(C7 (k+1) r)[i]?=(r[i]?).map _;rw[Kv (k+1) r i,show k+1+i=k+(i+1) by lk]
section
variable {K:Frag}
theorem NK{M:Ch->Prop}{H:Hp}{κ:Bool}{a:Ch}{vs:o_ V}{ds:o_ D}(hs:Ats K M H ds vs){i:Nat}{M':Ch->Prop}{H':Hp}(pr:Pres M H M' H')(h1:SqK κ K H' a vs)(dom:∀a,M' a->∃o,H' a=P3 o):
  (∀d,(C7 0 ds)[i]?=P3 d->(Yw K κ a vs).go i H'/\∀x H2,(Yw K κ a vs).yld i H' x H2->Grow H' H2/\At K M' H2 d x)/\((C7 0 ds).length<=i->(Yw K κ a vs).stop i H'):=by
 have l1:=hs.length;refine#[λd hd=>?_,λhl=>#[h1,by rw[Ku]at hl;lk]];rw[Kv,Nat.zero_add]at hd;cases q1:ds[i]? with
 |none=>rw[q1]at hd;cases hd
 |some d1=>
  rw[q1]at hd;have hd':D.tup [.int (i:Int),d1]=d:=d6 hd;have i1:i<ds.length:=(de.mp q1).1;refine#[#[h1,by lk],λx H2 y=>?_];let#[T,p,rfl,hT,rfl,e1]:=y;let#[v1,f1,a1]:=(hs.pres pr).get q1;rw[e1]at f1;cases f1;subst hd';exact#[A2 hT,Dk dom hT #[.int (i:Int),[p],rfl,rfl,p,[],rfl,a1,rfl]]
end
section
variable {X:Cx}{e1:Expr}{es:o_ Expr}{j:Nat}{tpos p pos:Pos}{κ:Kd}{wa:DW}
def Y3(wa:DW):Dq:=λn ρ P=>wa n ρ λd n1=>∃xs,Eu d=P3 xs/\P (C7 0 xs) n1
theorem Ej(hg:Gl X "enumerate")(hm:X.mg "enumerate"=l_)(h:DE X e1 κ wa)(hk:κ≠.tp:=by intro z;cases z)(hs:starEach [e1] X.env=[(n_,eval e1 X.env)]:=by rfl):
  DI X (.Tuple es j tpos) (.Call (.Name "enumerate" p) [e1] [] pos) (Y3 wa):=by
 let#[t,a1,a2]:=h;refine#[_,Uy hg hm a1 hs,λC M H n ρ Z P Rr R w q=>?_];refine a2 C M H n ρ Z _ _ R w λv H1 d n1 ee f1 r1 p=>?_;let#[xs,hd,p]:=p;let#[zX,a,us,rfl,h1,s1]:=Nw (r1.shOf R.dom hk) hd;exact#[zX,a,us,rfl,s1 M H1^Pres.refl _ _,q _ H1 _ n1 ee f1 (λi M' H' pr dom=>NK h1 pr (s1 M' H' pr) dom) p]
end
def Fy:Au:=λ_ _ _=>False
section
variable {X:Cx}{κ:Kd}{st:Stmt}
theorem Bl:DS X κ st Fy:=#[_,λ_ _ _ _ _ _ h=>h.elim,λ_ _ _ _ _ _ _ _ _ _ w=>w]
end
end Dp
namespace Nt
open L2 Dp
def thn(N:Net)(ts:o_ Tie):Prop:=(∀t∈ts,t∈N.ts)/\ts.Pairwise Bm
def JW(N:Net)(ts:o_ Tie):o_ Tie:=N.ts.filter λt=>decide (t∉ts)
abbrev CW(w:o_ Str):D:=.tup^w.map .str
def Ud(t b:Int):Prop:=1<=b/\b<=1000000/\1<=t/\t<=1000000
def walkedK(k:Nat)(M:Net)(a b:Str)(w:o_ Str)(d:Int):Prop:=(∃r,w=a::r)/\w.getLast?=P3 b/\walk M w d/\w.length<=k/\∀x∈w,x∈M.ps
abbrev walked:=walkedK 1000
def PapOkK(k:Nat)(M:Net)(t b:Int):o_ Tie->o_^o_ Str->Prop
 |[],[]=>True
 |u::us,w::ws=>(∃d,walkedK k M u.a u.b w d/\d*b<=u.len*t)/\PapOkK k M t b us ws
 |_,_=>False
abbrev Wp:=PapOkK 1000
theorem PapOkK.up{k:Nat}(hk:k<=1000){M:Net}{t b:Int}:∀{us:o_ Tie}{ws:o_^o_ Str},PapOkK k M t b us ws->Wp M t b us ws
 |[],[],_=>trivial
 |u::us,w::ws,#[#[d,#[h1,h2,h3,h4,h5],h6],h]=>#[#[d,#[h1,h2,h3,eJ h4 hk,h5],h6],PapOkK.up hk h]
 |[],_::_,h=>h.elim
 |_::_,[],h=>h.elim
def Wm:W2:=λss n P=>∃(M:Net) (a b:Str) (w:o_ Str) (d:Int),ss=[.sh^enc M,.sh^.str a,.sh^.str b,.sh^CW w]/\okN M/\walked M a b w d/\P (.int d) n
def Pu:W2:=λss n P=>∃(M:Net) (t b:Int) (u:Tie) (w:o_ Str) (d:Int),ss=[.sh^enc M,.sh^.tup [.int t,.int b],.sh^AN u,.sh^CW w]/\okN M/\Ud t b/\walked M u.a u.b w d/\d*b<=u.len*t/\P .non n
def JH(k:Nat)(N:Net)(ts:o_ Tie)(t b:Int)(ws:o_^o_ Str):Prop:=∀lo:o_ Tie,lo.Perm^JW N ts->A5 lo->PapOkK k #[N.ps,ts] t b lo ws
abbrev U5:=JH 1000
def Ob:W2:=λss n P=>∃(N:Net) (ts:o_ Tie) (t b:Int) (ws:o_^o_ Str),ss=[.sh^enc N,.sh^.tup [.int t,.int b],.sh^enc #[N.ps,ts],.sh^.tup^ws.map CW]/\okN N/\N.ps.length<=24/\thn N ts/\Ud t b/\U5 N ts t b ws/\P (.bl m_) n
def Ps:W2:=λss n P=>∃(N:Net) (ts:o_ Tie) (t b:Int),ss=[.sh^enc N,.sh^.tup [.int t,.int b],.sh^enc #[N.ps,ts]]/\okN N/\thn N ts/\Ud t b /\
 (∀ws,JH N.ps.length N ts t b ws->(∀u∈JW N ts,Bu #[N.ps,ts] t b u)->P (.tup^ws.map CW) n)/\((∃u∈JW N ts,¬Bu #[N.ps,ts] t b u)->P .non n)
def L7(N:Net)(ts:o_ Tie)(t b:Int):Prop:=∀u∈N.ts,Bu #[N.ps,ts] t b u
theorem P2{N:Net}(ok:N.Ok){w:o_ Str}(hl:w.length<=1000)(h:∀x∈w,x∈N.ps):X7^.tup^w.map .str:=by
 let#[a,b,c]:=FQ ok h;exact#[a,by show Jz _<=160000;lk,by show IU _+1<=50;lk]
theorem thn.okN{N:Net}(okn:okN N){ts:o_ Tie}(h:thn N ts):okN #[N.ps,ts]:=#[Io okn.1 h.1 h.2,okn.2.1,by
 have:=sub_len (AV h.2) (AV okn.1.trise) h.1
 have:=okn.2.2
 grind]
theorem thn.thinB{N:Net}{ts:o_ Tie}(h:thn N ts):thinB N^enc #[N.ps,ts]=m_:=thinB_iff.mpr #[ts,rfl,h.1,h.2]
theorem PapOkK.len{k:Nat}{M:Net}{t b:Int}:∀{us:o_ Tie}{ws:o_^o_ Str},PapOkK k M t b us ws->ws.length=us.length
 |[],[],_=>rfl
 |u::us,w::ws,h=>by rw[dg,dg,PapOkK.len h.2]
theorem Cf{N:Net}(ok:N.Ok){s x:Str}:∀(k:Nat) (d:Int),d.toNat<=k->Wk N s x d->∃e,Least N s x e/\e<=d
 | k,d,hk,h=>by
  by_cases c:∃d',Wk N s x d'/\d'<d
  .let#[d',h',lt]:=c
   have p':=h'.pos ok
   match k with
   |0=>lk
   |k+1=>
    let#[e,he,hle]:=Cf ok k d' (by lk) h'
    grind
  .exact#[d,#[h,λd' h'=>gY λz=>c #[d',h',by lk]],gM _]
theorem JS{N:Net}(okn:okN N){ts:o_ Tie}(h:thn N ts){t b:Int}(bt:b<=t)(b0:1<=b){u:Tie}(hu:u∈ts):Bu #[N.ps,ts] t b u:=by
 have okm:=h.okN okn;have ed:=(CB (N:=#[N.ps,ts]) hu).1;have hw:Wk _ _ _ _:=.snoc .nil ed;rw[h_]at hw;let#[e,he,hle]:=Cf okm.1 _ _ (Re _) hw;have lp:=(ed.pos okm.1).1;refine#[e,he,?_];have h1:e*b<=u.len*b:=e_ hle (by lk);have h2:u.len*b<=u.len*t:=fV bt (by lk);lk
theorem OG{M:Net}(okm:okN M){a b:Str}{w:o_ Str}{d:Int}(h:walked M a b w d):Xs M^CW w=.int d:=by
 let#[#[r,rfl],_,hw,_,hin]:=h;exact PD okm.1 (hin _ FM) hw
section
def RM(M:Net)(t b:Int):o_ Tie->o_^p_^o_ Str->Prop
 |[],[]=>True
 |u::us,o::os=>((∀w,o=P3 w->Way M u.a u.b^P3 w/\CT M t b u=m_)/\(o=l_->CT M t b u=n_))/\RM M t b us os
 |_,_=>False
theorem Wk.cons{N:Net}{x y z:Str}{l d:Int}(e:Ed N x y l)(h:Wk N y z d):Wk N x z (l+d):=by
 induction h with
 |nil=>rw[Int.add_comm];exact .snoc .nil e
 |snoc h f ih=>rw[←jt];exact .snoc ih f
theorem HA{N:Net}(ok:N.Ok){b:Str}:∀{w:o_ Str}{d:Int},walk N w d->w.getLast?=P3 b->∀x∈w,∃e,Wk N x b e/\e<=d
 |[],_,h,_,_,_=>h.elim
 |[y],d,h,hl,x,hx=>by
  cases hl;rw[On.mp hx,show d=0 from h];exact#[0,.nil,gM _]
 | y::z::r,d,h,hl,x,hx=>by
  let#[l,f,e1,e2,rfl]:=h;rw[List.getLast?_cons_cons]at hl
  have:=(e1.pos ok).1
  rcases UF.mp hx with rfl|hx
  .let#[e,h1,h2]:=HA ok e2 hl z FM
   exact#[l+e,Wk.cons e1 h1,by lk]
  .let#[e,h1,h2]:=HA ok e2 hl x hx
   grind
theorem M8{N:Net}(ok:N.Ok){b:Str}:∀{r:o_ Str}{a:Str}{d:Int},walk N (a::r) d->(a::r).getLast?=P3 b->(∀d',Wk N a b d'->d<=d')->(a::r).Nodup
 |[],a,d,_,_,_=>eI.mpr #[by simp,ef]
 | z::r,a,d,h,hl,hd=>by
  let#[l,f,e1,e2,rfl]:=h;refine eI.mpr #[λhm=>?_,M8 ok e2 hl λd' hw=>?_]
  .let#[e,h1,h2]:=HA ok e2 hl a hm
   have:=hd e h1
   have:=(e1.pos ok).1
   lk
  .have:=hd _^Wk.cons e1 hw
   lk
theorem Mg{M:Net}(ok:M.Ok){t b:Int}:∀{us:o_ Tie}{os:o_^p_^o_ Str},RM M t b us os->(∃ws,os=ws.map P3/\PapOkK M.ps.length M t b us ws/\∀u∈us,Bu M t b u)\/(os.any kj=m_/\∃u∈us,¬Bu M t b u)
 |[],[],_=>.inl #[[],rfl,trivial,λu hu=>by cases hu]
 |u::us,l_::os,h=>.inr #[rfl,u,FM,λz=>by
  have:=h.1.2 rfl
  rw[nearB_iff.mpr z]at this;cases this]
 | u::us,P3 w::os,h=>by
  let#[hw,hn]:=h.1.1 w rfl;have hn:=nearB_iff.mp hn
  rcases Mg ok h.2 with⟨ws,rfl,h1,h2⟩|⟨h1,v,h2,h3⟩
  .refine .inl #[w::ws,rfl,#[?_,h1],λv hv=>?_]
   .let#[d,r,e1,e2,e3,e4,e5,e6]:=hw
    let#[d',f1,f2]:=hn;subst e1;exact#[d,#[#[r,rfl],e2,e3,LD (M8 ok e3 e2 e4.2) e6,e6],by rw[Least.unique e4 f1];exact f2]
   grind
  .exact .inr #[by rw[jm,h1,Bool.or_true],v,Sc _ h2,h3]
theorem Pg:∀os:o_^p_^o_ Str,((os.map Gd).any λy=>Dn y .non)=os.any kj
 |[]=>rfl
 |none::os=>rfl
 |some w::os=>by
  rw[e8,jm,Pg os];rfl
theorem OH{M:Net}(ok:M.Ok){t b:Int}:∀{us:o_ Tie}{os:o_^p_^o_ Str},RM M t b us os->Fs 0^os.map Gd/\IU^os.map Gd<=1
 |[],[],_=>#[trivial,dq _]
 |u::us,l_::os,h=>by
  let#[h1,h2]:=OH ok h.2;exact#[#[trivial,h1],by assumption]
 |u::us,P3 w::os,h=>by
  let#[h1,h2]:=OH ok h.2;let#[d,r,e1,e2,e3,e4,e5,e6]:=(h.1.1 w rfl).1;let#[f1,_,f3]:=FQ ok e6;exact#[#[f1,h1],by show max (IU _+1) _<=1;lk]
theorem LH{N:Net}(okn:okN N){ts:o_ Tie}(h:ts.Sublist N.ts):thn N ts:=#[λt ht=>h.subset ht,okn.1.trise.sublist h]
end
end Nt
namespace Dp
open L2
mutual
def flat:D->Bool
 |.tup ds=>TK ds
 |.lst _=>n_
 |.dic _ _=>n_
 |.fdi _ _=>n_
 |.dit _ _=>n_
 |_=>m_
def TK:o_ D->Bool
 |[]=>m_
 |d::ds=>flat d&&TK ds
end
section
variable {K:Frag}{M M':Addr->Prop}{H:Hp}
mutual
theorem VQ:∀(d:D) {v:V},flat d=m_->At K M H d v->At K M' H d v
 |.non,_,_,h=>h
 |.bl _,_,_,h=>h
 |.int _,_,_,h=>h
 |.str _,_,_,h=>h
 |.tup ds,_,f,#[a,vs,e,n,h]=>#[a,vs,e,n,NF ds f h]
 |.lst _,_,f,_=>by cases f
 |.dic _ _,_,f,_=>by cases f
 |.fdi _ _,_,f,_=>by cases f
 |.dit _ _,_,f,_=>by cases f
theorem NF:∀(ds:o_ D) {vs:o_ V},TK ds=m_->Ats K M H ds vs->Ats K M' H ds vs
 |[],_,_,h=>h
 |d::ds,_,f,#[v,r,e,h,hs]=>#[v,r,e,VQ d (dh _ _▸f:_/\_).1 h,NF ds (dh _ _▸f:_/\_).2 hs]
end
end
end Dp
set_option maxHeartbeats 400000
namespace Dp
open L2
end Dp
namespace Nt
open L2 Dp
abbrev G7(t b:Int):D:=.tup [.int t,.int b]
def JA(k:Nat)(A:Net)(t b:Int)(u:Tie)(row:D):Prop:=
 (CT A t b u=n_/\∃p:o_ Int,row=.tup [.str "in",.tup^p.map .int]/\(∀x∈p,x<=10 ^ 29)/\Ft A^.tup^p.map .int=m_/\u.len*t<EA (IB A (p.map .int) u.a - IB A (p.map .int) u.b)*b) \/
 (CT A t b u=m_/\∃(w:o_ Str) (d:Int),row=.tup [.str "out",CW w]/\walkedK k A u.a u.b w d/\d*b<=u.len*t)
abbrev ZH:=JA 100
def PapGK(k:Nat)(N:Net)(t b:Int):o_ Tie->o_ Tie->o_ D->Prop
 |_,[],[]=>True
 |kept,u::r,row::rs=>JA k (sub N kept) t b u row/\PapGK k N t b (Aa N t b kept [u]) r rs
 |_,_,_=>False
abbrev aX:=PapGK 100
theorem PapGK.len{k:Nat}{N:Net}{t b:Int}:∀{kept us:o_ Tie}{rs:o_ D},PapGK k N t b kept us rs->rs.length=us.length
 |_,[],[],_=>rfl
 |_,u::us,r::rs,h=>by rw[dg,dg,PapGK.len h.2]
 |_,[],_::_,h=>h.elim
 |_,_::_,[],h=>h.elim
theorem DR{N:Net}{t b:Int}:∀(pre:o_ Tie) {kept r:o_ Tie},Aa N t b kept (pre++r)=Aa N t b (Aa N t b kept pre) r
 |[],_,_=>rfl
 |u::pre,kept,r=>by
  rw[kI,Cz,Cz]
  split <;>exact DR _
section
variable {N:Net}{t b:Int}{pre post:o_ Tie}{u:Tie}
theorem M_(nd:(pre++u::post).Nodup):u∈Aa N t b [] (pre++u::post)↔CT (sub N^Aa N t b [] pre) t b u=n_:=by
 let#[_,n2,n3]:=eP.mp nd;have hu:u∉Aa N t b [] _:=λz=>((Bx).2 u z).elim (λz=>absurd z d9) λz=>n3 u z u FM rfl;rw[DR,Cz];cases e:CT _ t b u with
 |true=>
  refine#[λz=>?_,λz=>by cases z]
  rcases(Bx).2 u z with z|z
  .grind
  grind
 |false=>
  exact#[λ_=>rfl,λ_=>(Bx).1 u^TM _ (On.mpr rfl)]
theorem Q_(nd:(pre++u::post).Nodup)(hr:A5 (pre++u::post)){v:Tie}:(v∈Aa N t b [] (pre++u::post)/\BB (BY v)^BY u=m_)↔v∈Aa N t b [] pre:=by
 let#[_,n2,n3]:=eP.mp nd;let#[_,r2,r3]:=hU.mp hr;constructor
 .rintro⟨hv,hlt⟩
  rw[DR]at hv
  rcases(Bx (rest:=u::post)).2 v hv with z|z
  .exact z
  .rcases UF.mp z with rfl|z
   .rw[B6]at hlt;cases hlt
   simp_all
 .intro hv
  have hp:v∈pre:=((Bx (rest:=pre)).2 v hv).elim (λz=>absurd z d9) id;refine#[by rw[DR];exact(Bx (rest:=u::post)).1 v hv,?_];cases e:BB (BY v)^BY u with
  |true=>rfl
  |false=>exact absurd (GW^B5 _ _ e^r3 v hp u FM)^n3 v hp u FM
theorem Hc(nd:(pre++u::post).Nodup)(hr:A5 (pre++u::post)):(#[(sub N^Aa N t b [] (pre++u::post)).ps,(sub N^Aa N t b [] (pre++u::post)).ts.filter λv=>BB (BY v)^BY u]:Net)=sub N^Aa N t b [] pre:=by
 unfold sub
 congr 1
 rw[iq];refine gK λv _=>?_;rw[e9,dh,decide_eq_true_eq,decide_eq_true_eq,and_comm];exact Q_ nd hr
end
def FO:W2:=λss n P=>∃(M:Net) (u:Tie),ss=[.sh^enc M,.sh^AN u]/\okN M/\P (enc #[M.ps,M.ts.filter λv=>BB (BY v)^BY u]) n
def K_:W2:=λss n P=>∃t b l:Int,ss=[.sh^G7 t b,.sh^.int l]/\Ud t b/\P (.int (l*t / b+1)) n
def RF:W2:=λss n P=>∃(M:Net) (t b:Int) (u:Tie) (xs:o_ D),ss=[.sh^enc M,.sh^G7 t b,.sh^AN u,.sh^.tup xs]/\okN M/\Ud t b/\u.a∈M.ps/\u.b∈M.ps/\Ft M^.tup xs=m_/\u.len*t<EA (IB M xs u.a - IB M xs u.b)*b/\P .non n
def K8:W2:=λss n P=>∃(N:Net) (t b:Int) (pre post:o_ Tie) (u:Tie) (row:D),ss=[.sh^G7 t b,.sh^enc^sub N^Aa N t b [] (pre++u::post),.sh^AN u,.sh row]/\okN N/\Ud t b/\(pre++u::post).Perm N.ts/\A5 (pre++u::post)/\ZH (sub N^Aa N t b [] pre) t b u row/\P .non n
def RI:W2:=λss n P=>∃(s:Str) (y:D),ss=[.sh^.tup [.str s,y]]/\(s="in"\/s="out")/\P (.bl m_) n
def UJ:W2:=λss n P=>∃(N:Net) (t b:Int) (ord:o_ Tie) (rs:o_ D),ss=[.sh^enc N,.sh^G7 t b,.sh^enc^sub N^Aa N t b [] ord,.sh^.tup rs]/\okN N/\N.ps.length<=24/\Ud t b/\ord.Perm N.ts/\A5 ord/\aX N t b [] ord rs/\P (.bl m_) n
def RH:W2:=λss n P=>∃(N:Net) (t b:Int),ss=[.sh^enc N,.sh^G7 t b]/\okN N/\Ud t b/\∀(ord:o_ Tie) (rs:o_ D),ord.Perm N.ts->A5 ord->PapGK 30 N t b [] ord rs->P (.tup rs) n
def Zr:Au:=(Bz (Cr 5^Ag FO^AG (AK^AI 2)^AG (AK^AI 4) Am)
 (CK (A8^BC (VY n_) (AI 4)^BC EL (AI 2)^wC^D.int 1) (Rb 3 "list" Ji^Ao (MG^Ao (wC^D.str "in")^Ao (Ag UB^AG (AK^AI 5)^AG (AK^BC EL (AI 4)^wC^D.int 0)^AG (AK^Ag K_^AG (AK^AI 1)^AG (AK^BC EL (AI 4)^wC^D.int 2) Am) Am) BZ) BZ)^Rb 3 "list" Ji^Ao (MG^Ao (wC^D.str "out")^Ao (Ag YW^AG (AK^AI 5)^AG (AK^BC EL (AI 4)^wC^D.int 0)^AG (AK^BC EL (AI 4)^wC^D.int 1) Am) BZ) BZ))
def Zk:Au:=(Bz (Cr 6^Ag K8^AG (AK^AI 1)^AG (AK^AI 2)^AG (AK^AI 5)^AG (AK^BC EL (AI 3)^AI 4) Am)
 (CK (A8^BC (Ex m_) (AI 6)^wC D.non) Fy Bj))
theorem FR{N:Net}(okn:okN N)(S:o_ Tie):thn N (sub N S).ts:=LH okn gL
theorem walkedK.up{k:Nat}(hk:k<=1000){M:Net}{a b:Str}{w:o_ Str}{d:Int}(h:walkedK k M a b w d):walked M a b w d:=#[h.1,h.2.1,h.2.2.1,eJ h.2.2.2.1 hk,h.2.2.2.2]
theorem VS{M:Net}{xs:o_ D}(h:Ft M^.tup xs=m_):xs.length=M.ps.length/\∀x∈xs,RR x=m_:=by
 have h:=(dh _ _▸h).1;have h:=dh _ _▸h
 grind
theorem Ih{M:Net}(ok:M.Ok){x y:Str}{d:Int}(h:Wk M x y d):Wk M y x d:=by
 induction h with
 |nil=>exact .nil
 |snoc _ he ih=>
  let#[t,ht,rfl,hx]:=he.tie ok;let#[d1,d2]:=CB ht;rw[Int.add_comm];refine Wk.cons ?_ ih
  grind
theorem Du{N:Net}(g:Str->Int){a:Str}(ha:a∈N.ps):IB N ((N.ps.map g).map .int) a=g a:=by
 unfold IB;rw[fY,II,if_pos ha];rfl
theorem HW{M:Net}(ok:M.Ok)(g:Str->Int)(h0:∀x∈M.ps,0<=g x)(h:∀t∈M.ts,EA (g t.a - g t.b)<=t.len):Ft M^.tup^(M.ps.map g).map .int=m_:=by
 show(((((M.ps.map g).map _).length==(M.ps.length:Int))&&((M.ps.map g).map _).all _)&&M.ts.all _)=m_;rw[Ev,Ev,beq_self_eq_true,dh];refine#[fX.mpr λd hd=>?_,fX.mpr λt ht=>?_]
 .let#[i,hi,rfl]:=TW.mp hd
  let#[x,hx,rfl]:=TW.mp hi;exact decide_eq_true^h0 x hx
 .let#[m1,m2,_]:=ok.tin t ht
  rw[Du g m1,Du g m2]
  simp_all
theorem Gs{M:Net}(ok:M.Ok){s x:Str}{o:p_ Int}(h:Far M s x o):∀d,o=P3 d->0<=d:=λd e=>by
 rw[e]at h;exact(h).1.pos ok
theorem GD{M:Net}(ok:M.Ok){s:Str}{G:Kn}(hG:∀x,Far M s x^G x){m:Int}{t:Tie}(ht:t∈M.ts):EA (CC m^G t.a - CC m^G t.b)<=t.len:=by
 let#[_,_,_,l1,_]:=ok.tin t ht;let#[d1,d2]:=CB ht
 have up:∀{y z:Str}{l:Int},Ed M y z l->∀d,G y=P3 d->∃d',G z=P3 d'/\d'<=d+l:=λ{y z l} he d e=>by
  have hy:=hG y;rw[e]at hy;have hw:Wk M s z (d+l):=Wk.snoc (show Least M s y d from hy).1 he;have hz:=hG z;cases ez:G z with
  |none=>rw[ez]at hz;exact absurd hw^hz _
  |some d'=>rw[ez]at hz;exact#[d',rfl,(show Least M s z d' from hz).2 _ hw]
 have u1:=up d1;have u2:=up d2;cases ea:G t.a with
 |none=>
  cases eb:G t.b with
  |none=>unfold EA CC;split <;>lk
  |some b=>grind
 | some a=>
  cases eb:G t.b with
  |none=>grind
  |some b=>
   let#[b',z1,h1]:=u1 a ea;rw[eb]at z1;cases z1
   let#[a',z2,h2]:=u2 b eb;rw[ea]at z2;cases z2
   show(if(if a<m then a else m) - (if b<m then b else m)<0 then -((if a<m then a else m) - (if b<m then b else m))else(if a<m then a else m) - (if b<m then b else m))<=t.len
   split <;>split <;>split <;>lk
theorem X4{k:Nat}{A:Net}(okn:okN A){t b:Int}(tm:Ud t b){u:Tie}(ha:u.a∈A.ps)(hb:u.b∈A.ps)(hlen:0<=u.len)(hn:CT A t b u=n_){s y:Str}(hs:(s=u.a/\y=u.b)\/(s=u.b/\y=u.a)){G:Kn}(hG:∀x,Far A s x^G x){m more:Int}(hm0:0<=m)(hm1:m<=10 ^ 20)(hm:u.len*t<m*b)(h0:0<=more)(h1:more<=10 ^ 28):JA k A t b u^.tup [.str "in",.tup^(A.ps.map λx=>more+CC m^G x).map .int]:=by
 have ok:=okn.1;refine .inl #[hn,_,rfl,λx hx=>?_,HW ok _ (λx _=>?_) λv hv=>?_,?_]
 .let#[z,_,rfl]:=TW.mp hx
  have:=(Jn hm0^Gs ok^hG z).2
  show more+CC m^G z<=_;lk
 .have:=(Jn hm0^Gs ok^hG x).1
  show 0<=more+CC m^G x;lk
 .have:=GD ok hG (m:=m) hv
  rw[show more+CC m^G v.a - (more+CC m^G v.b)=CC m^G v.a - CC m (G v.b) by lk];exact this
 .rw [Du _ ha,Du _ hb]
  have start:CC m^G s=0:=by
   have h:=hG s;cases e:G s with
   |none=>rw[e]at h;exact absurd .nil^h 0
   |some d=>
    rw[e]at h;have h:Least A s s d:=h;have e0:d=0:=Int.le_antisymm (h.2 0 .nil)^h.1.pos ok;subst e0;show(if(0:Int)<m then 0 else m)=0
    split <;>lk
  have far:u.len*t<CC m^G y*b:=by
   have h:=hG y;cases e:G y with
   |none=>exact hm
   | some d=>
    rw[e]at h;have h:Least A s y d:=h;show _<(if d<m then d else m)*b
    split
    .refine gY λc=>?_
     have:CT A t b u=m_:=nearB_iff.mpr #[d,?_,by lk]
     .rw[hn]at this;cases this
     .rcases hs with⟨rfl,rfl⟩|⟨rfl,rfl⟩
      .exact h
      .exact#[Ih ok h.1,λd' hd'=>h.2 d'^Ih ok hd']
    .exact hm
  have pos:0<=CC m^G y:=(Jn hm0^Gs ok^hG y).1
  have gap:EA (more+CC m^G u.a - (more+CC m^G u.b))=CC m^G y:=by
   rcases hs with⟨rfl,rfl⟩|⟨rfl,rfl⟩
   .rw[start];unfold EA;split <;>lk
   .rw[start];unfold EA;split <;>lk
  rw[gap];exact far
theorem PapGK.snoc{k:Nat}{N:Net}{t b:Int}{u:Tie}{row:D}:∀{pre kept:o_ Tie}{rs:o_ D},PapGK k N t b kept pre rs->JA k (sub N^Aa N t b kept pre) t b u row->PapGK k N t b kept (pre++[u]) (rs++[row])
 |[],kept,[],_,h=>#[h,trivial]
 |v::pre,kept,r::rs,h,h2=>#[h.1,PapGK.snoc h.2^by rw[←DR _];exact h2]
 |[],_,_::_,h,_=>h.elim
 |_::_,_,[],h,_=>h.elim
theorem PapGK.up{k m:Nat}(hk:k<=m){N:Net}{t b:Int}:∀{kept us:o_ Tie}{rs:o_ D},PapGK k N t b kept us rs->PapGK m N t b kept us rs
 |_,[],[],_=>trivial
 |_,u::us,r::rs,h=>#[h.1.imp id fun#[a,w,d,e,#[w1,w2,w3,w4,w5],c]=>#[a,w,d,e,#[w1,w2,w3,eJ w4 hk,w5],c],PapGK.up hk h.2]
 |_,[],_::_,h=>h.elim
 |_,_::_,[],h=>h.elim
section
theorem QB{k:Nat}{A:Net}{t b:Int}{u:Tie}{row:D}(h:JA k A t b u row):∃(s:Str) (y:D),row=.tup [.str s,y]/\(s="in"\/s="out"):=by
 rcases h with⟨_,xs,rfl,_⟩|⟨_,w,d,rfl,_⟩
 .exact#[_,_,rfl,.inl rfl]
 simp_all
theorem PapGK.shape{k:Nat}{N:Net}{t b:Int}:∀{kept us:o_ Tie}{rs:o_ D},PapGK k N t b kept us rs->∀r∈rs,∃(s:Str) (y:D),r=.tup [.str s,y]/\(s="in"\/s="out")
 |_,[],[],_=>λr hr=>absurd hr d9
 |_,u::us,r::rs,h=>λx hx=>(UF.mp hx).elim (λe=>by rw[e];exact QB h.1)^PapGK.shape h.2 x
 |_,[],_::_,h=>h.elim
 |_,_::_,[],h=>h.elim
theorem Q9{l t b:Int}(b1:1<=b):l*t<(l*t / b+1)*b:=gq _^by lk
end
end Nt
set_option maxHeartbeats 4000000
namespace Nt
open L2 Dp
def SQ(N:Net)(p:o_ Int):Prop:=p.length=N.ps.length/\∀x∈p,0<=x/\x<=10 ^ 14
def NU(N:Net):Ca->Prop
 |.en=>True
 |.fa u p=>u∈N.ts/\SQ N p
 |.sp u c d=>u∈N.ts/\NU N c/\NU N d
def LG(t b:Int):Prop:=1<=b/\b<=1000000/\1<=t/\t<=1000000
def MW(N:Net)(l:o_ Tie):Prop:=(∀u∈l,u∈N.ts)/\l.length<=100
abbrev Hg(t b:Int):D:=.tup [.int t,.int b]
abbrev Ro(l:o_ Tie):D:=.lst^l.map AN
def Vn:W2:=λss n P=>∃(N0 N:Net) (z:D) (gone:o_ Tie),ss=[.sh^enc N,.sh z]/\Eu z=P3^gone.map AN/\okN N0/\okN N/\MW N0 gone/\P (enc^DH N gone) n
def Vr:W2:=λss n P=>∃(N:Net) (t b:Int) (gone:o_ Tie) (u:Tie) (p:o_ Int),ss=[.sh^enc N,.sh^Hg t b,.sh^Ro gone,.sh (Ca.fa u p).D]/\okN N/\LG t b/\MW N gone/\u∈N.ts/\u∈gone/\Qr N t b gone u p=m_/\P (.bl m_) n
def Yb(j:Nat):W2:=λss n P=>∃(N:Net) (t b:Int) (many:Nat) (kept gone:o_ Tie) (deep:Nat) (c:Ca),ss=[.sh^enc N,.sh^Hg t b,.sh^.int (many:Int),.sh^Ro kept,.sh^Ro gone,.sh^.int (deep:Int),.sh c.D]/\okN N/\LG t b/\MW N kept/\MW N gone/\kept.length+c.dep<=90/\gone.length+c.dep<=90/\NU N c/\c.dep<=deep/\c.dep<=j+1/\VA N t b many kept gone c=m_/\P (.bl m_) n
def UL(j:Nat):W2:=λss n P=>∃c:Ca,ss=[.sh c.D]/\c.dep<=j+1/\P (.int (c.cnt:Int)) n
def T9:W2:=λss n P=>∃(N:Net) (t b:Int) (many:Nat) (c:Ca),ss=[.sh^enc N,.sh^Hg t b,.sh^.int (many:Int),.sh c.D]/\okN N/\LG t b/\NU N c/\c.dep<=11/\c.cnt<=4000/\VA N t b many [] [] c=m_/\P (.bl m_) n
theorem Om{N:Net}{u:Tie}(h:u∈N.ts):HE N^AN u=m_:=tofB_iff.mpr #[u,h,rfl]
theorem OI{N:Net}(ok:N.Ok){l:o_ Tie}(h:MW N l):Cg^Ro l:=(CH ok h.1).2
theorem Gc{N:Net}(h:okN N)(gone:o_ Tie):okN^DH N gone:=#[U6 h.1 gone,h.2.1,eJ (fP _ _) h.2.2]
theorem Gy:∀c:Ca,1<=c.dep
 |.en=>Re _
 |.fa _ _=>Re _
 |.sp _ _ _=>kF _ _
theorem Ib{N:Net}(ok:N.Ok):∀c:Ca,NU N c->Ew (10 ^ 14) c.D/\Kw c.D<=c.dep+1
 |.en,_=>#[#[(show ∀c∈cs "enough",c<1114112 by decide +kernel),trivial],by show max 0 0+1<=2;decide]
 | .fa u p,#[hu,hp]=>by
  have it:=FA ok _^TW.mpr #[u,hu,rfl]
  have hf:∀d∈p.map D.int,Ew (10 ^ 14) d/\Kw d=0:=λd hd=>by
   let#[x,hx,rfl]:=TW.mp hd;exact#[by show x.natAbs<=_;have:=hp.2 x hx;lk,rfl]
  refine#[#[(show ∀c∈cs "far",c<1114112 by decide +kernel),(C1 (by cbv) _).1 _ (Re _) it.1,FD λd hd=>(hf d hd).1,trivial],?_];have h1:=it.2.2;have h2:IU^p.map D.int<=0:=dps_le.mpr λd hd=>jM (hf d hd).2;show max 0^max (Kw^AN u)^max (IU^p.map D.int+1) 0+1<=2;lk
 |.sp u c d,#[hu,hc,hd]=>by
  have it:=FA ok _^TW.mpr #[u,hu,rfl];let#[c1,c2]:=Ib ok c hc;let#[d1,d2]:=Ib ok d hd;refine#[#[(show ∀c∈cs "split",c<1114112 by decide +kernel),(C1 (by cbv) _).1 _ (Re _) it.1,c1,d1,trivial],?_];have h1:=it.2.2;have h3:=Gy c;show max 0^max (Kw^AN u)^max (Kw c.D)^max (Kw d.D) 0+1<=1+max c.dep d.dep+1;lk
theorem Ts{N:Net}(ok:N.Ok){c:Ca}(h:NU N c)(hd:c.dep<=98):Cg c.D:=C_ (B:=10 ^ 14) (by cbv) (Ib ok c h).1 (by have:=(Ib ok c h).2;lk)
end Nt
namespace Dp
open L2
section
variable {X:Cx}
theorem PZ{κ:Kd}{body:o_ f8}{wb:Au}{h₀:ExceptHandler}{hs:o_ ExceptHandler}{pos:Pos}(hx:∀e s,X.xe e s->False)(hb:Ng X κ body wb):DS X κ (.Try body (h₀::hs) [] [] pos) wb:=by
 let#[t,b1,b2]:=hb;refine#[t,λzG s Z H D I h=>?_,b2];refine wpAny_Try_except ?_;refine fM (b1 zG s Z H D I h) (λf s1 q=>?_) λe s1 q=>(hx e s1 q).elim;cases f with
 |next=>exact df q
 |_=>exact q
end
end Dp
namespace Nt
open L2 Dp
def bS:p_ Tie->D
 |none=>.non
 |some u=>AN u
structure FewR (N:Net) (t b:Int) (ts us r:List Tie):Prop where
 th:thn N r
 kp:Nf N t b r
 sub:∀x∈r,x∈ts
 sup:∀x∈ts,x∉us->x∈r
 few:∀S,thn N S->Nf N t b S->(∀x∈S,x∈ts)->(∀x∈ts,x∉us->x∈S)->r.length<=S.length
theorem Sx{N:Net}{t b:Int}{S S':o_ Tie}(h:∀x∈S,x∈S')(k:Nf N t b S):Nf N t b S':=λu hu=>by
 let#[d,h1,h2]:=k u hu;exact#[d,Wk.mono h h1,h2]
theorem E_{N:Net}(okn:okN N){t b:Int}(tm:LG t b)(bt:b<=t){ts:o_ Tie}(ht:thn N ts):(∀u∈JW N ts,Bu #[N.ps,ts] t b u)↔Nf N t b ts:=by
 constructor
 .intro h u hu
  by_cases hi:u∈ts
  .refine#[_,?_,fV bt^by have:=(okn.1.tin u hu).2.2.2.1;lk]
   have:=Wk.snoc (Wk.nil) (CB (N:=#[N.ps,ts]) hi).1
   grind
  .let#[d,h1,h2]:=h u^eE.mpr #[hu,decide_eq_true hi]
   exact#[d,h1.1,h2]
 .intro h u hu
  let#[d,h1,h2]:=h u (eE.mp hu).1;let#[e,he,hle]:=Cf (ht.okN okn).1 _ _ (Re _) h1;exact#[e,he,iR (e_ hle^by have:=tm.1;lk) h2]
theorem FewR.nil{N:Net}{t b:Int}{ts:o_ Tie}(th:thn N ts)(k:Nf N t b ts):FewR N t b ts [] ts:=#[th,k,λ_ h=>h,λ_ h _=>h,λS hS _ _ h=>sub_len (AV th.2) (AV hS.2) λx hx=>h x hx^by simp]
abbrev OT(ts:o_ Tie)(u:Tie):o_ Tie:=ts.filter λv=>decide (v∉[u])
theorem Ug{N:Net}{ts:o_ Tie}(h:thn N ts)(u:Tie):thn N^OT ts u:=#[λx hx=>h.1 x (eE.mp hx).1,h.2.filter _]
theorem mem_cut{ts:o_ Tie}{u x:Tie}:x∈OT ts u↔x∈ts/\x≠u:=by simp
theorem FewR.skip{N:Net}{t b:Int}{ts us r:o_ Tie}{u:Tie}(h:FewR N t b ts us r)(hn:¬Nf N t b^OT ts u):FewR N t b ts (u::us) r:=#[h.th,h.kp,h.sub,λx hx hn=>h.sup x hx λz=>hn^Sc _ z,λS hS kS s1 s2=>by
 by_cases hu:u∈S
 .refine h.few S hS kS s1 λx hx hx2=>?_
  grind
 .exact absurd (Sx (λx hx=>mem_cut.mpr #[s1 x hx,λe=>hu^by simp_all]) kS) hn]
theorem FewR.pick{N:Net}{t b:Int}{ts us r1 r2:o_ Tie}{u:Tie}(h1:FewR N t b ts us r1)(h2:FewR N t b (OT ts u) us r2):FewR N t b ts (u::us) (if r2.length<r1.length then r2 else r1):=by
 have few:∀S,thn N S->Nf N t b S->(∀x∈S,x∈ts)->(∀x∈ts,x∉u::us->x∈S)->r1.length<=S.length\/r2.length<=S.length:=λS hS kS s1 s2=>by
  by_cases hu:u∈S
  .refine .inl^h1.few S hS kS s1 λx hx hx2=>?_
   grind
  .refine .inr^h2.few S hS kS (λx hx=>mem_cut.mpr #[s1 x hx,fun(e:x=u)=>hu^by grind]) λx hx hx2=>?_
   grind
 split
 .refine#[h2.th,h2.kp,λx hx=>(mem_cut.mp^h2.sub x hx).1,λx hx hn=>h2.sup x (mem_cut.mpr #[hx,λe=>hn^by simp[e]]) λz=>hn^Sc _ z,λS a b c d=>?_]
  rcases few S a b c d with z|z <;>lk
 .refine#[h1.th,h1.kp,h1.sub,λx hx hn=>h1.sup x hx λz=>hn^Sc _ z,λS a b c d=>?_]
  rcases few S a b c d with z|z <;>lk
def Yf(j:Nat):W2:=λss n P=>∃(N:Net) (t b:Int) (ts us:o_ Tie),ss=[.sh^enc N,.sh^Hg t b,.sh^enc #[N.ps,ts],.sh^.tup^us.map AN]/\okN N/\LG t b/\b<=t/\thn N ts/\(∀u∈us,u∈N.ts)/\Nf N t b ts/\us.length<=j/\us.length<=60/\∀r,FewR N t b ts us r->P (enc #[N.ps,r]) n
def Vv:W2:=λss n P=>∃(M:Net) (t b:Int) (out:o_ Tie),ss=[.sh^enc M,.sh^Hg t b,.sh^Ro out]/\okN M/\LG t b/\(∀u∈out,u.a∈M.ps/\u.b∈M.ps)/\∀o:p_ Tie,(o=l_->∀u∈out,Bu M t b u)->(∀u,o=P3 u->u∈out/\¬Bu M t b u)->P (bS o) n
def Jg(N:Net)(t b:Int)(many:Nat):Prop:=∀S:o_ Tie,S.Sublist N.ts->Nf N t b S->many<=S.length
def Vz(j:Nat):W2:=λss n P=>∃(N:Net) (t b:Int) (many:Nat) (kept gone left:o_ Tie),ss=[.sh^enc N,.sh^Hg t b,.sh^.int (many:Int),.sh^Ro kept,.sh^Ro gone]/\okN N/\LG t b/\b<=t/\(kept++gone++left).Perm N.ts/\left.length<=j/\Jg N t b many/\∀c:Ca,Made N t b many kept gone left c->NU N c->P c.D n
def ME(N:Net)(t b:Int)(d:D):Prop:=∃(r:o_ Tie) (ws:o_^o_ Str) (c:Ca),d=.tup [enc #[N.ps,r],.tup^ws.map CW,c.D]/\thn N r/\Nf N t b r/\Jg N t b r.length/\JH N.ps.length N r t b ws/\Made N t b r.length [] [] N.ts c/\NU N c
def UH:W2:=λss n P=>∃(N:Net) (t b:Int),ss=[.sh^enc N,.sh^Hg t b]/\okN N/\LG t b/\b<=t/\N.ts.length<=10/\∀d,ME N t b d->P d n
theorem VG{N:Net}(ok:N.Ok){z:D}{l:o_ Tie}(hz:Eu z=P3^l.map AN)(h:MW N l):Cg z:=by
 have:=CH ok h.1
 cases z with
 |tup xs=>cases hz;exact this.1
 |lst xs=>cases hz;exact this.2
 |_=>cases hz
theorem Vk(x:D)(xs:o_ D):Dp.cutD (x::xs) l_^P3 1=[x]:=by
 rfl
section
theorem MO(l:o_ Tie)(u:Tie):Ro (l++[u])=.lst (l.map AN++[AN u]):=by
 grind
theorem Zw{N:Net}(okn:okN N){t b:Int}(tm:LG t b){gone:o_ Tie}{u:Tie}(hu:u∈N.ts)(hn:¬Bu (DH N gone) t b u){F:KJ}(T:Told (DH N gone) u.a F):Qr N t b gone u (N.ps.map λx=>CC (u.len*t / b+1) ((F x).map (·.1)))=m_/\SQ N (N.ps.map λx=>CC (u.len*t / b+1) ((F x).map (·.1))):=by
 let#[b1,b2,t1,t2]:=tm;let#[ha,hb,_,l1,l2]:=okn.1.tin u hu;have okd:=Gc okn gone;have dv:u.len*t<(u.len*t / b+1)*b:=gq (u.len*t) (show 0<b by lk);have lt0:0<=u.len*t:=iy (by lk) (by lk);have m0:0<=u.len*t / b:=jS lt0 (by lk);have m1:u.len*t / b<=u.len*t:=Int.ediv_le_self _ lt0;have m2:u.len*t<=1000000*1000000:=Int.mul_le_mul l2 t2 (by lk) (by lk);have ge:=λx=>Jn (m:=u.len*t / b+1) (by lk)^Gs okd.1^T.far x;refine#[?_,by rw[Ev],λx hx=>?_]
 .unfold Qr
  rw[dh];refine#[HW (M:=DH N gone) okd.1 _ (λx _=>(ge x).1) λv hv=>GD okd.1 T.far hv,decide_eq_true ?_];rw[Du _ ha,Du _ hb,T.start];have g0:=(ge u.b).1
  have gp:EA (CC (u.len*t / b+1) ((P3 ((0:Int),(l_:p_ Str))).map (·.1)) - CC (u.len*t / b+1) ((F u.b).map (·.1)))=CC (u.len*t / b+1) ((F u.b).map (·.1)):=by
   show EA ((if(0:Int)<u.len*t / b+1 then 0 else u.len*t / b+1) - _)=_;rw[if_pos^by lk];unfold EA
   split <;>lk
  rw[gp];cases e:(F u.b).map (·.1)with
  |none=>exact dv
  |some d=>
   have hd:=T.far u.b;rw[e]at hd;show _<(if d<u.len*t / b+1 then d else u.len*t / b+1)*b
   split
   .exact kg.mp λz=>hn #[d,hd,z]
   .exact dv
 grind
end
end Nt
namespace Dp
open L2
end Dp
namespace Nt
open L2 Dp
def pairD(p:Str×Str):D:=.tup [.str p.1,.str p.2]
theorem YJ(x:Str):¬cs x<cs x:=gH _
theorem w1{n k j:Nat}(h:n<=k:=by assumption)(e:Nat.ble (k+1) j=m_:=by rfl):n<j:=eJ (gm h)^Nat.le_of_ble_eq_true e
theorem Nv{ts:o_ Tie}{z:D}{P:D->Prop}(hz:Eu z=P3^ts.map AN)(h64:ts.length<64)(p:∀ts':o_ Tie,ts'.Perm ts->Fw ts'->P^.lst^ts'.map AN):OP [z] P:=by
 refine#[z,_,rfl,hz,by simp_all,#[λx hx=>?_,λx hx y hy ka kb ea eb=>?_],λxs' hp ho=>?_]
 .let#[t,_,rfl]:=TW.mp hx
  exact#[_,rfl,gn _ _]
 .let#[t,_,rfl]:=TW.mp hx
  let#[u,_,rfl]:=TW.mp hy;cases(ea);cases(eb);rfl
 .let#[ts',h1,rfl]:=Rj (g:=Tb) (λ_=>rfl) hp
  exact p _ h1^O_ ho
end Nt
namespace L2
def Yo(K:Frag)(l:Ch)(xs:o_ V):It:=
 #[λi H=>SqL K H l xs/\i<xs.length,λi H x H'=>H'=H/\xs.reverse[i]?=P3 x,λi H=>SqL K H l xs/\xs.length<=i]
def aV(n:Nat)(it l:Ch)(i:Nat)(h:eC):Prop:=i<=n/\h.IsRevIter it l ((n:Int) - 1 - (i:Int))
theorem Rn{P:eK}{w:eU}{K:Frag}{tg:eO}(it l:Ch)(xs:o_ V)(hl:l≠it):Turn P w K tg (Yo K l xs) [it] it (aV xs.length it l) where
 mem:=by simp
 obj:=λi h st c hc=>by
  rw[On.mp hc];let#[_,o,ho,_,d]:=st;exact#[o,ho,λv z=>by rw[d]at z;cases z]
 keep:=λi h h' st k=>#[st.1,st.2.at λo e=>k it (by simp) o e]
 item:=by
  intro X hP hw hK hc i zG s Z H E I hf st hg;subst hP hw hK;let#[hq,hi]:=hg;let#[its,r,pl,hz]:=I.list hq;have l1:=r.length;have W:=ki (prog:=X.prog) (w:=X.w) (A:=X.A) (I.ok.hd hc) it l hl its.toArray;have sz:its.toArray.size=xs.length:=by rw[dn,l1]
  refine W.item i s _ _ (by rw[sz];exact hi) #[by rw[sz];exact st.1,by rw[sz];exact st.2,pl.isList] λv h' tk hp st2 kk=>#[v,rfl,?_];let#[s1,s2,_]:=st2;rw[sz]at s1 s2;let#[o,ho,oc,od]:=id s2;refine Kr ho oc od (by cbv) ?_;have I2:Inv X zG Z H {s with heap:=h',toks:=tk}:=I.turnedL (t':=tk) (ch:=[it]) hf kk
  have hv:its.reverse[i]?=P3 v:=by
   have hp':its.toArray[its.toArray.size - 1 - i]?=P3 v:=hp;rw[kZ^by lk];rw[dn]at hp'
   simpa using hp'
  have hr:xs.reverse[i]?=P3 (xs.reverse[i]'(by rw[gj];exact hi)):=Op _;let#[u,e1,e2]:=r.reverse.get hr;rw[hv]at e1;cases e1;exact#[_,H,I2,e2,#[rfl,hr],#[s1,s2],λb hb=>(hf b hb).1]
 done:=by
  intro X hP hw hK hc i zG s Z H E I hf st hg;subst hP hw hK;let#[hq,hi]:=hg;let#[its,r,pl,hz]:=I.list hq;have l1:=r.length;have W:=ki (prog:=X.prog) (w:=X.w) (A:=X.A) (I.ok.hd hc) it l hl its.toArray;have sz:its.toArray.size=i:=by rw[dn,←l1];have:=st.1;lk
  have si:xs.length=i:=by have:=st.1;lk
  refine W.done s _ _ #[Re _,by rw[sz];have:=st.2;rw[si]at this;exact this,pl.isList] λh' tk kk=>#[rfl,I.turnedL (t':=tk) (ch:=[it]) hf kk]
 self:=λA i s Q E st h=>wpAny_pyIter_revIter st.2 h
section
variable {X:Cx}{e1 tg:Expr}{p pos:Pos}{te:TE}
def bn(K:Frag)(te:TE):TI:=λZ H R=>te Z H λv H1=>∃a xs,v=.ref a/\SqL K H1 a xs/\R (Yo K a xs) H1
theorem Xc(hg:Gl X "reversed")(hm:X.mg "reversed"=l_)(he:PE X e1 te)(hs:starEach [e1] X.env=[(n_,eval e1 X.env)]:=by rfl):PI X tg (.Call (.Name "reversed" p) [e1] [] pos)^bn X.K te:=by
 intro zG s Z H R I h;refine gC^Dg I hg hm boot_reversed ?_;refine fI ?_ hs rfl;rw[hs];refine gR^thn (he zG s Z H _ I h) λu s1 zz=>?_;let#[x,H1,I1,r1,a,xs,ex,hq,q]:=zz;refine g_ ?_;subst ex;cases r1;let#[its,r',pl,hz]:=I1.list hq;have hl:s1.heap.IsList a its.toArray:=pl.isList;have hlt:a<s1.heap.objs.size:=by let#[_,e,_]:=id hl;exact Uf e
 have l1:=r'.length;refine call_reversed_list hl ?_;have it0:(s1.heap.push^revObj a ((its.toArray.size:Int) - 1)).IsRevIter s1.heap.objs.size a ((xs.length:Int) - 1 - ((0:Nat):Int)):=#[_,T0 _ rfl,rfl,by show Data.fields _=_;simp[revObj,l1]];refine wpAny_pyIter_revIter it0 ?_;refine#[s1.heap.objs.size,[s1.heap.objs.size],_,Yo X.K a xs,H1,rfl,I1.kept (t':=s1.toks) λb o e=>No _ e,Rn _ a xs^eB hlt,#[dq _,it0],λc hc=>?_,q];rw[On.mp hc];exact I1.fpOk (Re _)^I1.hok.fresh^Re _
end
end L2
namespace Dp
open L2
section
variable {X:Cx}{e1 tg:Expr}{p pos:Pos}{κ:Kd}{wa:DW}
def Yz(wa:DW):Dq:=λn ρ P=>wa n ρ λd n1=>∃xs,d=.lst xs/\P xs.reverse n1
theorem YE(hg:Gl X "reversed")(hm:X.mg "reversed"=l_)(h:DE X e1 κ wa)(hk:κ≠.tp:=by intro z;cases z)(hs:starEach [e1] X.env=[(n_,eval e1 X.env)]:=by rfl):
  DI X tg (.Call (.Name "reversed" p) [e1] [] pos) (Yz wa):=by
 let#[t,a1,a2]:=h;refine#[_,Xc hg hm a1 hs,λC M H n ρ Z P Rr R w q=>?_];refine a2 C M H n ρ Z _ _ R w λv H1 d n1 ee f1 r1 p=>?_;let#[xs,rfl,p]:=p;let#[a,vs,rfl,hn,hs]:=r1.shOf R.dom hk;refine#[a,vs,rfl,hn.sq,q _ H1 _ n1 ee f1 (λi M' H' pr dom=>?_) p];have hq:SqL X.K H' a vs:=(hn.pres pr).sq;have l1:=hs.length;refine#[λd hd=>#[#[hq,?_],λx H2 y=>?_],λhl=>#[hq,by rw[gj]at hl;lk]]
 .have:=(de.mp hd).1
  rw[gj]at this;lk
 .let#[rfl,e1]:=y
  let#[v1,f1,a1]:=(hs.pres pr).reverse.get hd;rw[e1]at f1;cases f1;exact#[.refl,a1]
end
end Dp
namespace Nt
open L2 Dp
def Ah(M:Net)(u:Tie):Net:=#[M.ps,M.ts.filter λv=>decide (v≠u)]
abbrev EN:=o_ (Str×Str)
def keepsP(N:Net)(t b:Int)(ps:EN)(M:Net):Prop:=∀p∈ps,∀d,Least N p.1 p.2 d->∃d',Least M p.1 p.2 d'/\d'*b<=d*t
noncomputable def CD(N:Net)(t b:Int)(ps:EN)(M:Net):Bool:=@decide (keepsP N t b ps M)^fS _
theorem keepsB_iff{N:Net}{t b:Int}{ps:EN}{M:Net}:CD N t b ps M=m_↔keepsP N t b ps M:=by
 unfold CD;exact @decide_eq_true_iff _^fS _
noncomputable def BD(N:Net)(t b:Int)(ps:EN):Net->o_ Tie->Net
 |M,[]=>M
 |M,u::r=>if CD N t b ps (Ah M u)=m_ then BD N t b ps (Ah M u) r else BD N t b ps M r
def RO(N:Net):EN->o_^p_ Int->Prop
 |[],[]=>True
 |p::ps,o::os=>Far N p.1 p.2 o/\RO N ps os
 |_,_=>False
def LV(N:Net)(ps:EN):Prop:=ps.length<=30/\∀p∈ps,p.1∈N.ps/\p.2∈N.ps
def D4(t b:Int):Prop:=1<=b/\b<=1000000/\1<=t/\t<=1000000
def G5:W2:=λss n P=>∃(M:Net) (u:Tie),ss=[.sh^enc M,.sh^.lst [AN u]]/\okN M/\(NC u.a/\NC u.b/\1<=u.len/\u.len<=1000000)/\P (enc^Ah M u) n
def UK:W2:=λss n P=>∃(N:Net) (ps:EN),ss=[.sh^enc N,.sh^.tup^ps.map pairD]/\okN N/\LV N ps/\∀os,RO N ps os->P (.lst^os.map HH) n
def Xq(N M:Net)(t b:Int)(ps:EN)(os:o_^p_ Int)(i:Int):Prop:=∃(j:Nat) (q:Str×Str) (d:Int),i=(j:Int)/\ps[j]?=P3 q/\os[j]?=P3^P3 d/\Least N q.1 q.2 d/\∀d',Least M q.1 q.2 d'->¬d'*b<=d*t
def Wl:W2:=λss n P=>∃(N M:Net) (t b:Int) (ps:EN) (os:o_^p_ Int),ss=[.sh^.tup [.int t,.int b],.sh^.tup^ps.map pairD,.sh^.lst^os.map HH,.sh^enc M]/\okN M/\M.ps=N.ps/\D4 t b/\LV N ps/\RO N ps os /\
 ∀o:p_ Int,(o=l_->CD N t b ps M=m_)->(∀i,o=P3 i->CD N t b ps M=n_/\Xq N M t b ps os i)->P (HH o) n
def cJ:W2:=λss n P=>∃(N:Net) (t b:Int) (ps:EN),ss=[.sh^enc N,.sh^.tup [.int t,.int b],.sh^.tup^ps.map pairD]/\okN N/\D4 t b/\LV N ps/\∀ord:o_ Tie,ord.Perm N.ts->A5 ord->P (enc^BD N t b ps N ord.reverse) n
theorem Bv{M:Net}(okm:okN M)(u:Tie):okN^Ah M u:=#[Io okm.1 (λt h=>(eE.mp h).1)^okm.1.trise.filter _,okm.2.1,eJ (fP _ _) okm.2.2]
theorem FT{N:Net}{t b:Int}{ps:EN}:∀{ord:o_ Tie}{M:Net},okN M->okN^BD N t b ps M ord
 |[],M,h=>h
 |u::r,M,h=>by
  show okN (if CD N t b ps (Ah M u)=m_ then BD N t b ps (Ah M u) r else BD N t b ps M r)
  split
  .exact FT^Bv h u
  .exact FT h
theorem Nq{N:Net}(ok:N.Ok){ts ts':o_ Tie}(h:ts.Pairwise Bm)(hp:ts'.Perm ts)(hb:Fw ts'):ts'=ts:=Cs hp hb^CP h
section
theorem Dd{M:Net}(ok:M.Ok):∀t∈M.ts,NC t.a/\NC t.b/\1<=t.len/\t.len<=1000000:=λt ht=>by
 let#[a,b,_,c]:=ok.tin t ht;exact#[ok.names _ a,ok.names _ b,c]
end
end Nt
set_option maxRecDepth 10000
namespace St
open PySem.SetTable
def st(t:ja)(p:Probe):Nat->Probe
 |0=>p
 |n+1=>t.advance^st t p n
structure Ok (t:ja) (p:Probe):Prop where
 more:p.more<=9
 i:p.i<=t.mask
 j:p.j+p.more<=t.mask
 per:p.perturb<2 ^ 64
def it(m:Nat)(i:Nat):Nat->Nat
 |0=>i
 |n+1=>(it m i n*5+1) % (m+1)
def dW(m:Nat):Prop:=∀a,a<=m->∀b,b<=m->∃n,n<=m/\it m a n=b
def Up(xs:Array Nat):Prop:=∀i k:Nat,i<k->∀a b:Nat,xs[i]?=P3 a->xs[k]?=P3 b->a<b
def In(t:ja)(j:Nat):Prop:=∃i:Nat,t.place[i]?=P3 j
structure Tab (t:ja) (hs:Nat->Option Int):Prop where
 cov:dW t.mask
 dum:t.dummies=#[]
 up:Up t.place
 le:∀i j:Nat,t.place[i]?=P3 j->j<=t.mask
 few:t.place.size<=t.mask
 has:∀i j:Nat,t.place[i]?=P3 j->∃x,hs i=P3 x/\∃k:Nat,(st t (t.probeStart x) k).j=j/\∀k':Nat,k'<k->In t (st t (t.probeStart x) k').j
structure Lay (t:ja) (done:List Int) (o:Array^Option Nat):Prop where
 size:o.size=t.mask+1
 own:∀j q:Nat,o[j]?=P3^P3 q->∃x,done[q]?=P3 x/\∃k:Nat,(st t (t.probeStart x) k).j=j/\∀k':Nat,k'<k->∃q':Nat,o[(st t (t.probeStart x) k').j]?=P3 (P3 q')
 all:∀q:Nat,q<done.length->∃j:Nat,o[j]?=P3 (P3 q)
 inj:∀j j' q:Nat,o[j]?=P3^P3 q->o[j']?=P3^P3 q->j=j'
end St
set_option maxRecDepth 10000
set_option maxHeartbeats 1000000
namespace St
open PySem.SetTable
section
variable {prog:Program}{w:World}{K:Type}[DecidableEq K](knd:KeyKind prog w K)
def Holds(h:eC)(e:Int×Db)(k:o_ K):Prop:=e.1=tupleKeyHash knd k/\∃b,e.2=.ref b/\IsTupleKey knd h k b
inductive V4 (h:eC):List (Int×Db)->List^List K->Prop
 |nil:V4 h [] []
 |cons {e:Int×Db}{k:List K}{es:List (Int×Db)}{ks:List^List K}:Holds knd h e k->V4 h es ks->V4 h (e::es) (k::ks)
variable {knd}
variable (knd)
structure c5 (B h:eC) (a:Ch) (ks:List^List K) (o:Obj) (es:Array (Int×Db)) (ep:Nat) (t:ja):Prop where
 sub:∀b o,B.get? b=P3 o->h.get? b=P3 o
 out:B.get? a=l_
 obj:h.get? a=P3 o
 ex:o.ExactSet
 dat:o.data=.set es ep t
 tab:Tab t (λi=>es[i]?.map (·.1))
 size:t.place.size=es.size
 mask:(t.mask=7/\es.size<=4)\/t.mask=31
 few:es.size<=18
 ents:∃kk,V4 knd B es.toList kk/\List.Perm kk ks
 nd:ks.Nodup
 plain:es.size=0\/t.plain=n_
 led:t.led=!(w.params.followText "set-order")
variable {knd}
end
end St
set_option maxHeartbeats 4000000
namespace St
open PySem.SetTable
section
variable {w:World}
variable {o:Obj}{es:Array (Int×Value)}{ep:Nat}{t:SetTable}
structure Rw (w:eU) (o:Obj) (es:Array (Int×Db)) (ep:Nat) (t:ja):Prop where
 ex:o.ExactSet
 dat:o.data=.set es ep t
 fit:t.fits es.size=m_
 up:Up t.place
 size:t.place.size=es.size
 few:es.size<=sizeLine
 led:w.params.followText "set-order"=n_->t.led=m_
end
end St
namespace L2
open PySem.W
structure cQ (keys:List^List Key) (js:List Nat):Prop where
 lt:∀j∈js,j<keys.length
 nd:(js.map λj=>keys.getD j []).Nodup
 all:∀x∈keys,x∈js.map λj=>keys.getD j []
 ord:∀i j,i<=j->j<js.length->BB (keys.getD (js.getD j 0) [])^keys.getD (js.getD i 0) []=n_
end L2
namespace Dp
open L2
end Dp
namespace L2
open PySem.W
end L2
namespace Dp
open L2
section
variable {X:Cx}{pos:Pos}
def W6:DW:=λn _ P=>P (.dic [] []) n
theorem Th:DE X (.Dict [] [] pos) .fr W6:=by
 refine#[_,JG,λC M H n ρ Z P Q R w q=>λp hp=>?_];have g:Grow H^BF H p^.dK []:=A2 hp;exact q _ _ (.dic [] []) n g.ext (R.feed.grow g) #[p,rfl,hp,[],AW,rfl,rfl] w
end
end Dp
namespace L2
def cV(d:Ch)(o:Obj)(kvs:o_ (Key×V)):It:=
 #[λi H=>H d=P3^.frz o^.dK kvs/\i<kvs.length,λi H x H'=>H'=H/\∃p,kvs[i]?=P3 p/\x=kV p.1,λi H=>H d=P3^.frz o^.dK kvs/\kvs.length<=i]
theorem P7{P:eK}{w:eU}{K:Frag}{tg:eO}(d it:Ch)(o:Obj)(kvs:o_ (Key×V))(es:Array DictEntry)(ep:Nat)(hdat:o.data=.dict es ep):
  Turn P w K tg (cV d o kvs) [it] it (λi h=>h.IsKeyIter it d i kvs.length ep) where
 mem:=by simp
 obj:=λi h st c hc=>by
  rw[On.mp hc];let#[u,hu,_,hd]:=st;exact#[u,hu,λv q=>by rw[hd]at q;cases q]
 keep:=λi h h' st k=>st.at λu e=>k it (by simp) u e
 item:=by
  intro X hP hw hK hc i zG s Z H E I hf st hg;subst hP hw hK;let#[hH,hi]:=hg;let#[ws,kv,D]:=Fd I hH hdat
  have hl:=kv.length;have hiw:i<ws.length:=by lk
  rw[hl]at st;obtain⟨k,v,hkv⟩:∃k v,ws[i]=(k,v):=#[_,_,rfl];have hx:ws[i]?=P3 (k,v):=by rw[Op hiw,hkv]
  have hp:kvs[i]?=P3 kvs[i]:=Op hi;let#[ek,rv]:=Gb kv hp hx;have ek:kvs[i].1=k:=ek;refine wpAny_pyNext_dict_item st D hx λkey h' hkey hit hsame=>#[_,rfl,?_];let#[u,hu,hcu,hdu]:=id hit;refine Kr hu hcu hdu (by cbv) ?_;have I2:Inv X zG Z H {s with heap:=h'}:=I.turnedL (t':=s.toks) (ch:=[it]) hf λc o hc e=>hsame.extBut c o (λz=>hc^by rw[z];exact On.mpr rfl) e;exact#[_,H,I2,Sz (by rw[←ek]at hkey;exact hkey),#[rfl,_,hp,rfl],by rw[hl];exact hit,λb hb=>(hf b hb).1]
 done:=by
  intro X hP hw hK hc i zG s Z H E I hf st hg;subst hP hw hK;let#[hH,hi]:=hg;let#[ws,kv,D]:=Fd I hH hdat
  have hl:=kv.length;rw[hl]at st;refine wpAny_pyNext_dict_end (I.ok.hd hc) st D (jH^by lk) λh' ext=>#[rfl,?_];exact I.turnedL (t':=s.toks) (ch:=[it]) hf λc o hc e=>ext c o (λz=>hc^by rw[z];exact On.mpr rfl) e
 self:=λA i s Q E st h=>wpAny_pyIter_keyiter st h
def Zp(te:TE):TI:=λZ H R=>te Z H λx H1=>∃d o kvs,x=.ref d/\H1 d=P3^.frz o^.dK kvs/\R (cV d o kvs) H1
theorem Ux{X:Cx}{e tg:eO}{te:TE}(he:PE X e te):PI X tg e^Zp te:=by
 intro zG s Z H R I h;refine thn (he zG s Z H _ I h) λu s1 zz=>?_;let#[x,H1,I1,r1,d,o,kvs,ex,hd,q]:=zz;subst ex;cases r1;let#[_,lo,_]:=Fv I1.hok^.inr #[o,hd]
 obtain⟨es,ep,hdat⟩:∃es ep,o.data=.dict es ep:=by
  let#[e0,_,_,ws,kv,o',es',ep',e1,e2,e3,e4]:=(show ObjOk X.prog X.w H1 s1.heap d^.frz o^.dK kvs from I1.hok d _ hd);rw[e0]at e1;cases e1;exact#[es',ep',e3]
 let#[ws,kv,D]:=Fd I1 hd hdat
 have hl:=kv.length;refine wpAny_pyIter_dict lo D ?_;refine#[s1.heap.objs.size,[s1.heap.objs.size],_,cV d o kvs,H1,rfl,I1.kept (t':=s1.toks) λb o e=>No _ e,P7 d _ o kvs es ep hdat,#[_,T0 _ rfl,rfl,by rw[hl];rfl],λc hc=>?_,q];rw[On.mp hc];exact I1.fpOk (Re _)^I1.hok.fresh^Re _
end L2
namespace Dp
open L2
section
variable {X:Cx}{a tg:Expr}{zU:Kd}{wa:DW}
def Y0(wa:DW):Dq:=λn ρ P=>wa n ρ λd n1=>∃ks ds,d=.fdi ks ds/\(∀k∈ks,Lq k)/\P (ks.map US) n1
theorem Ve(ha:DE X a zU wa):DI X tg a^Y0 wa:=by
 let#[t,a1,a2]:=ha;refine#[_,Ux a1,λC M H n ρ Z P Rr R w q=>?_];refine a2 C M H n ρ Z _ _ R w λv H1 d n1 ee f1 r1 p=>?_;let#[ks,ds,rfl,hfit,p]:=p;have R1:=R.step ee f1;obtain⟨ad,vs,rfl,⟨o,nM,hd⟩,hlen,hs⟩:∃a vs,v=.ref a/\NdF M H1 a ks vs/\ks.length=ds.length/\Ats X.K M H1 ds vs:=r1.tpOf R.dom R.vM;have hl:=hs.length;refine#[ad,o,_,rfl,hd,q _ _ _ n1 ee f1 (λi M' H' pr dom=>?_) p];have hd':H' ad=P3^.frz o^.dK^ks.zip vs:=(pr.nd nM hd).2;have zl:(ks.zip vs).length=ks.length:=by rw[kQ];lk
 refine#[λe he=>?_,λhle=>#[hd',by rw[Ev]at hle;lk]];have hi:i<ks.length:=by have:=(de.mp he).1;rw[Ev]at this;exact this
 refine#[#[hd',by lk],λx H2 y=>?_];let#[rfl,pp,hp,rfl]:=y
 have e2:(ks.zip vs)[i]?=P3 (ks[i],vs[i]'(by lk)):=by
  rw[j7];exact#[Op hi,Op^by lk]
 rw[e2]at hp;cases hp
 have e3:e=US ks[i]:=by
  rw[di,Op hi]at he;exact(d6 he).symm
 subst e3;refine#[.refl,?_];rw[S0];exact Ti^hfit _^fk hi
def Y1(wa:DW):DW:=λn ρ P=>wa n ρ λd n1=>∃ks ds,d=.dic ks ds/\CO ds=m_/\P (.fdi ks ds) n1
mutual
theorem At.frz{K:Frag}{M:Ch->Prop}{H:Hp}{a:Ch}{f:Ch->Obj}{kvs:o_ (Key×V)}(ha:H a=P3^.dK kvs):∀{d:D}{v:V},Ep d=m_->At K M H d v->At K M (Fi H [a] f) d v
 |.non,v,_,h=>h
 |.bl b,v,_,h=>h
 |.int i,v,_,h=>h
 |.str x,v,_,h=>h
 |.tup ds,v,hn,h=>by
  let#[b,vs,e,n2,hs]:=h;refine#[b,vs,e,?_,Ats.frz ha hn hs];unfold NdT at n2 ⊢;rw[Di λz=>by rw[On.mp z,ha]at n2;cases n2];exact n2
 |.lst ds,v,hn,h=>by
  let#[b,vs,e,#[n1,n2],hs]:=h;refine#[b,vs,e,#[n1,?_],Ats.frz ha hn hs];rw[Di λz=>by rw[On.mp z,ha]at n2;cases n2];exact n2
 |.dic _ _,v,hn,h=>by cases hn
 |.fdi _ _,v,hn,h=>by cases hn
 |.dit _ _,v,hn,h=>by cases hn
theorem Ats.frz{K:Frag}{M:Ch->Prop}{H:Hp}{a:Ch}{f:Ch->Obj}{kvs:o_ (Key×V)}(ha:H a=P3^.dK kvs):∀{ds:o_ D}{vs:o_ V},CO ds=m_->Ats K M H ds vs->Ats K M (Fi H [a] f) ds vs
 |[],vs,_,h=>h
 |d::ds,vs,hn,h=>by
  let#[v,r,e,h1,h2]:=h;have hn:(Ep d&&CO ds)=m_:=hn;rw[dh]at hn;exact#[v,r,e,At.frz ha hn.1 h1,Ats.frz ha hn.2 h2]
end
theorem Tg(ha:DE X a .fr wa):DE X a .sh^Y1 wa:=by
 let#[t,a1,a2]:=ha;refine#[_,Sa a1,λC M H n ρ Z P Q R w q=>?_];refine a2 C M H n ρ Z _ _ R w λv H1 d n1 e1 f1 r1 p=>?_;let#[ks,ds,rfl,hnd,p]:=p;let#[b,rfl,hb,vs,hH,hl,hs]:=r1;refine#[[b],λc hc=>by rw[On.mp hc];exact#[_,hH],λf=>?_];have nM:¬M b:=λz=>by let#[o,w]:=R.dom b z;rw[hb]at w;cases w
 have out:∀{c:Ch},c≠b->Fi H1 [b] f c=H1 c:=λh=>Di λz=>h^On.mp z;refine q _ _ (.fdi ks ds) n1 (λc o ec=>?_) ?_ #[b,vs,rfl,#[f b,nM,Ls (On.mpr rfl) hH],hl,Ats.frz hH hnd ?_] p
 .have nb:c≠b:=Aq ec hb
  let#[o1,z1,k1]:=e1 c o ec;exact#[o1,by rw[out nb];exact z1,k1]
 .intro g hg
  let#[at_,rest,cells,h1,h2,#[n3,h3],h4]:=f1 g hg;exact#[at_,rest,cells,by rw[out λz=>by rw[z,hH]at h1;cases h1];exact h1,h2,#[n3,by rw[out λz=>by rw[z,hH]at h3;cases h3];exact h3],h4]
 .exact hs.pres^Pres.less (M':=M) λ_ z=>.inl z
end
def Ri:o_^o_ Key->o_ D->o_ Key->p_ D
 |k0::ks,d::ds,k=>if k0=k then P3 d else Ri ks ds k
 |_,_,_=>l_
end Dp
namespace L2
open PySem.W
end L2
namespace Dp
open L2
end Dp
namespace L2
section
variable {prog:Program}{w:World}{A:Around}{E:Value->Shared->Prop}{s:Shared}{x y:Str}{t u:Tok}
def Rk(x y:Str)(i:Nat):Str:=if i=0 then x else y
theorem Oj{i:Nat}{v:Db}(h:(#[ hV x t,hV y u]:Array Db)[i]?=P3 v):∃k,v=.str (Rk x y i) k:=by
 match i with
 |0=>exact#[t,(d6 h).symm]
 |1=>exact#[u,(d6 h).symm]
 |i+2=>simp at h
theorem Q3:CmpOf prog w A .Lt (λi v=>(#[ hV x t,hV y u]:Array Db)[i]?=P3 v) (λi j=>decide ((Rk x y i).cps.toList<(Rk x y j).cps.toList)):=λi j vi vj s Q E hi hj h=>by
 let#[a,rfl]:=Oj hi;let#[b,rfl]:=Oj hj;exact richCompare_gives (op:=.Lt) (iu s _ a) (iu s _ b) PySem.F.slot_str_lt PySem.F.entry_str_lt (PySem.F.args_str_lt_2 _ _) (gives_str_lt _ _ a b) (λe=>nomatch e) h
theorem Q4:CmpOf prog w A .Gt (λi v=>(#[ hV x t,hV y u]:Array Db)[i]?=P3 v) (λi j=>decide ((Rk x y j).cps.toList<(Rk x y i).cps.toList)):=λi j vi vj s Q E hi hj h=>by
 let#[a,rfl]:=Oj hi;let#[b,rfl]:=Oj hj;exact richCompare_gives (op:=.Gt) (iu s _ a) (iu s _ b) PySem.F.slot_str_gt PySem.F.entry_str_gt (PySem.F.args_str_gt_2 _ _) (gives_str_gt _ _ a b) (λe=>nomatch e) h
theorem Rl{n c:Nat}(h:c∈[n+1,n]):c<n+1+1:=by
 simp only[UF,d9,or_false]at h;lk
theorem ML{bt:Nat->Nat->Bool}{v:Db}(h:(#[ hV x t,hV y u]:Array Db)[argBest bt 1]?=P3 v):v=if bt 1 0=m_ then .str y u else .str x t:=by
 have e:argBest bt 1=if bt 1 0=m_ then 1 else 0:=rfl
 rw[e]at h;cases c:bt 1 0 with
 |true=>rw[c]at h;exact(d6 h).symm
 |false=>rw[c]at h;exact(d6 h).symm
theorem QW{Q:Db->Rs->Prop}(hh:A.handled=l_)(h:∀h' tk,(∀c o,s.heap.get? c=P3 o->h'.get? c=P3 o)->Q (if decide (y.cps.toList<x.cps.toList)=m_ then .str y u else .str x t) {s with heap:=h',toks:=tk}):
  wpAny (model prog w) A (call (.builtin "min") [.str x t,.str y u]) Q E s:=by
 have hT:(s.heap.push {cls:=.type "tuple",data:=.seq #[ .str x t,.str y u]}).IsTuple s.heap.objs.size #[ .str x t,.str y u]:=#[_,T0 _ rfl,rfl,0,rfl];refine call_min_two^fg hT ?_;have z1:(s.heap.push {cls:=.type "tuple",data:=.seq #[ .str x t,.str y u]}).objs.size=s.heap.objs.size+1:=fe ..;refine#[_,[_,s.heap.objs.size],[_],_,_,_,_,rfl,Walks.tuple (A:=A.in1) hh _ s.heap.objs.size (by rw[z1];exact eB^iS _) #[ .str x t,.str y u],#[#[_,T0 _ rfl,rfl,rfl],hT.push _],λc hc=>?_,by simp,Q3,λv h' tk hP k=>?_]
 .rw[fe,z1];rw[z1]at hc;exact Rl hc
 .rw[ML hP]
  refine h h' tk λc o e=>k c o (λm=>?_)^No _^No _ e;have l:=Uf e;rw[On.mp m,z1]at l;exact absurd l^iw.mpr^fj _
theorem QY{Q:Db->Rs->Prop}(hh:A.handled=l_)(h:∀h' tk,(∀c o,s.heap.get? c=P3 o->h'.get? c=P3 o)->Q (if decide (x.cps.toList<y.cps.toList)=m_ then .str y u else .str x t) {s with heap:=h',toks:=tk}):
  wpAny (model prog w) A (call (.builtin "max") [.str x t,.str y u]) Q E s:=by
 have hT:(s.heap.push {cls:=.type "tuple",data:=.seq #[ .str x t,.str y u]}).IsTuple s.heap.objs.size #[ .str x t,.str y u]:=#[_,T0 _ rfl,rfl,0,rfl];refine call_max_two^fg hT ?_;have z1:(s.heap.push {cls:=.type "tuple",data:=.seq #[ .str x t,.str y u]}).objs.size=s.heap.objs.size+1:=fe ..;refine#[_,[_,s.heap.objs.size],[_],_,_,_,_,rfl,Walks.tuple (A:=A.in1) hh _ s.heap.objs.size (by rw[z1];exact eB^iS _) #[ .str x t,.str y u],#[#[_,T0 _ rfl,rfl,rfl],hT.push _],λc hc=>?_,by simp,Q4,λv h' tk hP k=>?_]
 .rw[fe,z1];rw[z1]at hc;exact Rl hc
 .rw[ML hP]
  refine h h' tk λc o e=>k c o (λm=>?_)^No _^No _ e;have l:=Uf e;rw[On.mp m,z1]at l;exact absurd l^iw.mpr^fj _
end
section
variable {X:Cx}
def WK:o_ V->Hp->VK->Prop:=λxs H Q=>∃x y:Str,xs=[.str x,.str y]/\Q (.str (if decide (y.cps.toList<x.cps.toList)=m_ then y else x)) H
def WM:o_ V->Hp->VK->Prop:=λxs H Q=>∃x y:Str,xs=[.str x,.str y]/\Q (.str (if decide (x.cps.toList<y.cps.toList)=m_ then y else x)) H
theorem Q5(hc:X.calm=m_):Cq X (.builtin "min") WK:=by
 intro zG s Z H xs us Q I r h;let#[x,y,rfl,q]:=h;let#[u,w',rfl,#[t,rfl],#[t',rfl]]:=vals2 r;refine QW (I.ok.hd hc) λh' tk k=>#[_,H,I.kept k,?_,q];cases decide (y.cps.toList<x.cps.toList) <;>exact#[_,rfl]
theorem Q8(hc:X.calm=m_):Cq X (.builtin "max") WM:=by
 intro zG s Z H xs us Q I r h;let#[x,y,rfl,q]:=h;let#[u,w',rfl,#[t,rfl],#[t',rfl]]:=vals2 r;refine QY (I.ok.hd hc) λh' tk k=>#[_,H,I.kept k,?_,q];cases decide (x.cps.toList<y.cps.toList) <;>exact#[_,rfl]
end
end L2
namespace Dp
open L2
section
variable {K:Frag}
def WX(ds:o_ D)(P:D->Prop):Prop:=∃x y:Str,ds=[.str x,.str y]/\P^.str (if decide (y.cps.toList<x.cps.toList)=m_ then y else x)
def WZ(ds:o_ D)(P:D->Prop):Prop:=∃x y:Str,ds=[.str x,.str y]/\P^.str (if decide (x.cps.toList<y.cps.toList)=m_ then y else x)
theorem MK{U M:Ch->Prop}{H:Hp}{x y:Str}{vs:o_ V}(hp:Paired (λv d=>AtT K U M H d v) vs [.str x,.str y]):vs=[.str x,.str y]/\x.length<=sizeLine/\y.length<=sizeLine:=by
 cases hp with
 | cons r1 r2=>cases r2 with
  |cons r3 r4=>
   cases r4;let#[rfl,l1]:=r1.str;let#[rfl,l2]:=r3.str;exact#[rfl,l1,l2]
theorem YN:DD K .sh WK WX:=by
 intro U M H ds vs P Q dom vM hp w q;let#[x,y,rfl,w]:=w;let#[e,l1,l2]:=MK hp;exact#[x,y,e,q _ H (.str _) .refl #[rfl,by split <;>assumption] w]
theorem YR:DD K .sh WM WZ:=by
 intro U M H ds vs P Q dom vM hp w q;let#[x,y,rfl,w]:=w;let#[e,l1,l2]:=MK hp;exact#[x,y,e,q _ H (.str _) .refl #[rfl,by split <;>assumption] w]
end
end Dp
namespace Nt
open L2 Dp
structure cy (N:Net) (s:Str) (F:KJ) (c:Nat) (T:List Tie):Prop where
 ins:∀t∈T,t∈N.ts
 nd:T.Nodup
 many:T.length+1=c
 wk:∀x d q,F x=P3 (d,q)->Wk (sub N T) s x d
inductive Cn (K:List Tie) (x:Str):Str->Prop
 |refl:Cn K x x
 |step {y z:Str}:Cn K x y->(∃t∈K,(t.a=y/\t.b=z)\/(t.b=y/\t.a=z))->Cn K x z
theorem Cn.trans{K:o_ Tie}{x y z:Str}(h:Cn K x y)(g:Cn K y z):Cn K x z:=by
 induction g with
 |refl=>exact h
 |step _ e ih=>exact .step ih e
theorem Cn.tie{K:o_ Tie}{t:Tie}(h:t∈K):Cn K t.a t.b/\Cn K t.b t.a:=#[.step .refl #[t,h,.inl #[rfl,rfl]],.step .refl #[t,h,.inr #[rfl,rfl]]]
theorem Cn.symm{K:o_ Tie}{x y:Str}(h:Cn K x y):Cn K y x:=by
 induction h with
 |refl=>exact .refl
 |step _ e ih=>
  let#[t,ht,e]:=e;refine Cn.trans (.step .refl #[t,ht,?_]) ih;exact e.elim (λe=>.inr #[e.2,e.1]) λe=>.inl #[e.2,e.1]
theorem Cn.bridge{K K':o_ Tie}(hk:∀t∈K,Cn K' t.a t.b){x y:Str}(h:Cn K x y):Cn K' x y:=by
 induction h with
 |refl=>exact .refl
 |step _ e ih=>
  obtain⟨t,ht,⟨rfl,rfl⟩|⟨rfl,rfl⟩⟩:=e
  .exact ih.trans^hk t ht
  .exact ih.trans (hk t ht).symm
theorem Cn.mono{K K':o_ Tie}(hk:∀t∈K,t∈K'){x y:Str}(h:Cn K x y):Cn K' x y:=h.bridge λt ht=>(Cn.tie^hk t ht).1
theorem Cn.add{B K:o_ Tie}{t:Tie}(hk:∀s∈K,s∈B\/s=t){x y:Str}(h:Cn K x y):Cn B x y\/(Cn B x t.a/\Cn B t.b y)\/(Cn B x t.b/\Cn B t.a y):=by
 induction h with
 |refl=>exact .inl .refl
 | step _ e ih=>
  let#[s,hs,e]:=e
  rcases hk s hs with hb|rfl
  .have st:∀{w y z:Str},((s.a=y/\s.b=z)\/(s.b=y/\s.a=z))->Cn B w y->Cn B w z:=λe h=>.step h #[s,hb,e]
   rcases ih with h|⟨h1,h2⟩|⟨h1,h2⟩
   .exact .inl^st e h
   .exact .inr^.inl #[h1,st e h2]
   .exact .inr^.inr #[h1,st e h2]
  .rcases e with⟨rfl,rfl⟩|⟨rfl,rfl⟩
   .rcases ih with h|⟨h1,h2⟩|⟨h1,h2⟩
    .exact .inr^.inl #[h,.refl]
    .exact .inr^.inl #[h1,.refl]
    .exact .inl h1
   .rcases ih with h|⟨h1,h2⟩|⟨h1,h2⟩
    .exact .inr^.inr #[h,.refl]
    .exact .inl h1
    .exact .inr^.inr #[h1,.refl]
theorem Wk.cn{N:Net}(ok:N.Ok){s x:Str}{d:Int}(h:Wk N s x d):Cn N.ts s x:=by
 induction h with
 |nil=>exact .refl
 |snoc _ he ih=>
  let#[t,ht,_,e]:=he.tie ok;exact .step ih #[t,ht,e]
theorem Cn.wk{N:Net}{s x:Str}(h:Cn N.ts s x):∃d,Wk N s x d:=by
 induction h with
 |refl=>exact#[0,.nil]
 |step _ e ih=>
  let#[d,hd]:=ih;obtain⟨t,ht,⟨rfl,rfl⟩|⟨rfl,rfl⟩⟩:=e
  .exact#[_,.snoc hd (CB ht).1]
  .exact#[_,.snoc hd (CB ht).2]
theorem X6{N:Net}(ok:N.Ok){a b:Str}{o:p_ Int}(h:Far N a b o):o=l_↔¬Cn N.ts a b:=by
 cases o with
 |none=>exact#[λ_ z=>by let#[d,hd]:=z.wk;exact h d hd,λ_=>rfl]
 |some d=>exact#[(λz=>by cases z),λz=>absurd (Wk.cn ok (show Wk N a b d from h.1)) z]
noncomputable def ax(K:o_ Tie)(x y:Str):Bool:=@decide (Cn K x y)^fS _
theorem cnB_iff{K:o_ Tie}{x y:Str}:ax K x y=m_↔Cn K x y:=by
 unfold ax;exact @decide_eq_true_iff _^fS _
noncomputable def BP:o_ Tie->o_ Tie->o_ Tie
 |kept,[]=>kept
 |kept,u::r=>if ax kept u.a u.b=m_ then BP kept r else BP (kept++[u]) r
theorem BH{kept r:o_ Tie}{u:Tie}:BP kept (u::r)=if ax kept u.a u.b=m_ then BP kept r else BP (kept++[u]) r:=rfl
def tot(K:o_ Tie):Int:=(K.map Tie.len).sum
theorem ES:∀(K L:o_ Tie),tot (K++L)=tot K+tot L
 |[],L=>by show tot L=0+tot L;rw[h_]
 |t::K,L=>by
  have:=ES K L
  show t.len+tot (K++L)=(t.len+tot K)+tot L;lk
theorem Ol:∀{K:o_ Tie},(∀t∈K,1<=t.len)->0<=tot K
 |[],_=>gM _
 |t::K,h=>by
  have:=Ol λs hs=>h s^Sc _ hs
  have:=h t FM
  show 0<=t.len+tot K;lk
theorem Rp{K L:o_ Tie}(h:K.Perm L):tot K=tot L:=by
 induction h with
 |nil=>rfl
 |@cons t l1 l2 _ ih=>show t.len+tot l1=t.len+tot l2;rw[ih]
 |swap s t l=>show t.len+(s.len+tot l)=s.len+(t.len+tot l);lk
 |trans _ _ ih1 ih2=>exact ih1.trans ih2
theorem GB{a b:Str}:∀(R B:o_ Tie),¬Cn B a b->Cn (B++R) a b->∃R1 t R2,R=R1++t::R2/\¬Cn (B++R1) a b/\Cn (B++R1++[t]) a b
 |[],B,h1,h2=>by rw[dk]at h2;exact absurd h2 h1
 | t::R,B,h1,h2=>by
  by_cases c:Cn (B++[t]) a b
  .exact#[[],t,R,rfl,by rw[dk];exact h1,by rw[dk];exact c]
  .let#[R1,s,R2,e,g1,g2]:=GB R (B++[t]) c^by rw[da];exact h2
   refine#[t::R1,s,R2,by rw[e];rfl,?_,?_]
   .rw[da]at g1;exact g1
   .rw[da B [t] R1]at g2;exact g2
theorem F9:∀(rest kept R:o_ Tie),(∀u∈rest,Cn (kept++R) u.a u.b)->(∀r∈R,r∈rest\/Cn kept r.a r.b)->(rest.Pairwise λu v=>u.len<=v.len)->(∀r∈R,1<=r.len)->tot^BP kept rest<=tot (kept++R)
 |[],kept,R,_,_,_,hp=>by
  have:=Ol hp
  rw[ES];show tot kept<=_;lk
 | u::rest,kept,R,h1,h2,h3,hp=>by
  rw[fE]at h3;rw[BH]
  by_cases c:Cn kept u.a u.b
  .rw[if_pos^cnB_iff.mpr c]
   refine F9 rest kept R (λv hv=>h1 v^Sc _ hv) (λr hr=>?_) h3.2 hp
   rcases h2 r hr with h|h
   .rcases UF.mp h with e|h
    .rw[e];exact .inr c
    .exact .inl h
   .exact .inr h
  .rw [if_neg λz=>c^cnB_iff.mp z]
   let#[R1,t,R2,rfl,g1,g2]:=GB R kept c^h1 u FM;have ht:t∈R1++t::R2:=TM _ FM
   have sub:∀s∈kept++R1,s∈(kept++[u])++(R1++R2):=λs hs=>by
    rcases ZB.mp hs with hs|hs
    .exact Tk _^Tk _ hs
    .exact TM _^Tk _ hs
   have join:=Cn.add (B:=kept++R1) (t:=t) (λs hs=>by
    rcases ZB.mp hs with hs|hs
    .exact .inl hs
    .exact .inr^On.mp hs) g2
   have hu:u∈(kept++[u])++(R1++R2):=Tk _^TM _ FM
   have tj:Cn ((kept++[u])++(R1++R2)) t.a t.b:=by
    rcases join with h|⟨h1,h2⟩|⟨h1,h2⟩
    .exact absurd h g1
    .exact((h1.mono sub).symm.trans (Cn.tie hu).1).trans (h2.mono sub).symm
    .exact(h2.mono sub).trans ((Cn.tie hu).2.trans^h1.mono sub)
   have lent:u.len<=t.len:=by
    rcases h2 t ht with h|h
    .rcases UF.mp h with e|h
     .rw[e];exact gM _
     .exact h3.1 t h
    .refine absurd (g2.bridge λs hs=>?_) g1
     rcases ZB.mp hs with hs|hs
     .exact(Cn.tie hs).1
     .rw[On.mp hs]
      exact h.mono λs hs=>Tk _ hs
   have ih:=F9 rest (kept++[u]) (R1++R2) (λv hv=>(h1 v^Sc _ hv).bridge λs hs=>?_) (λr hr=>?_) h3.2 λr hr=>hp r ?_
   .have e1:=ES kept (R1++t::R2)
    have e2:=ES R1 (t::R2);have e3:tot (t::R2)=t.len+tot R2:=rfl;have e4:=ES (kept++[u]) (R1++R2);have e5:=ES kept [u];have e6:tot [u]=u.len+0:=rfl;have e7:=ES R1 R2;lk
   .rcases ZB.mp hs with hs|hs
    .exact(Cn.tie^Tk _^Tk _ hs).1
    .rcases ZB.mp hs with hs|hs
     .exact(Cn.tie^TM _^Tk _ hs).1
     .rcases UF.mp hs with rfl|hs
      .exact tj
      .exact(Cn.tie^TM _^TM _ hs).1
   .have hr':r∈R1++t::R2:=by
     rcases ZB.mp hr with hr|hr
     .exact Tk _ hr
     .exact TM _^Sc _ hr
    rcases h2 r hr' with h|h
    .rcases UF.mp h with e|h
     .rw[e];exact .inr (Cn.tie^TM _ FM).1
     .exact .inl h
    .exact .inr^h.mono λs hs=>Tk _ hs
   .rcases ZB.mp hr with hr|hr
    .exact Tk _ hr
    .exact TM _^Sc _ hr
theorem E9:∀{rest kept:o_ Tie},(∀u∈BP kept rest,u∈kept\/u∈rest)
 |[],kept,u,hu=>.inl hu
 | v::rest,kept,u,hu=>by
  rw[BH]at hu
  split at hu
  .exact(E9 u hu).imp id λh=>Sc _ h
  .rcases E9 u hu with h|h
   .rcases ZB.mp h with h|h
    .exact .inl h
    .rw[On.mp h];exact .inr FM
   .exact .inr^Sc _ h
theorem Eg:∀{rest kept:o_ Tie},(kept++rest).Nodup->(BP kept rest).Nodup
 |[],kept,h=>by rw[dk]at h;exact h
 | v::rest,kept,h=>by
  rw[BH]
  split
  .refine Eg^h.sublist ?_
   exact(List.Sublist.refl kept).append^List.sublist_cons_self _ _
  .refine Eg ?_
   rw[da];exact h
theorem FY{N:Net}(okn:okN N){t b:Int}:∀{rest kK kG:o_ Tie},(∀u∈kK,u∈kG)->(∀g∈kG,Cn kK g.a g.b)->∀u∈BP kK rest,u∈Aa N t b kG rest
 |[],kK,kG,h1,_,u,hu=>h1 u hu
 | v::rest,kK,kG,h1,h2,u,hu=>by
  rw[BH]at hu;rw[Cz]
  by_cases c:Cn kK v.a v.b
  .rw[if_pos^cnB_iff.mpr c]at hu
   split
   .exact FY okn h1 h2 u hu
   .refine FY okn (λs hs=>Tk _^h1 s hs) (λg hg=>?_) u hu
    rcases ZB.mp hg with hg|hg
    .exact h2 g hg
    .rw[On.mp hg];exact c
  .rw[if_neg λz=>c^cnB_iff.mp z]at hu
   have hn:¬CT (sub N kG) t b v=m_:=λz=>by
    let#[d,hd,_]:=nearB_iff.mp z;refine c^(Wk.cn (BJ okn kG).1 hd.1).bridge λg hg=>h2 g (sub_mem.mp hg).2
   rw[if_neg hn];refine FY okn (λs hs=>?_) (λg hg=>?_) u hu
   .rcases ZB.mp hs with hs|hs
    .exact Tk _^h1 s hs
    .exact TM _ hs
   .rcases ZB.mp hg with hg|hg
    .exact(h2 g hg).mono λs hs=>Tk _ hs
    .rw[On.mp hg];exact(Cn.tie^TM _ FM).1
def Wj:W2:=λss n P=>∃N:Net,ss=[.sh^enc N]/\okN N/\∀ord:o_ Tie,ord.Perm N.ts->A5 ord->P (enc^sub N^BP [] ord) n
def FK:Au:=(Bz (MH 1^H_ BZ)
 (Bz (P5 (Ii^Ag UE^AG (AK^BC EL (AI 0)^wC^D.int 1) Am) (Ae 2)^CK (A8^BC (Ex n_) (Ag RJ^AG (AK^Ag Em^AG (AK^AI 0)^AG (ER^Bn 1) Am)^AG (AK^BC EL (AI 2)^wC^D.int 0)^AG (AK^BC EL (AI 2)^wC^D.int 1) Am)^wC D.non) (Rb 1 "list" Ji^Ao (AI 2) BZ) Bj)
 (CY^Ag Em^AG (AK^AI 0)^AG (ER^Bn 1) Am)))
theorem sub_cn{N:Net}{kept:o_ Tie}(hk:∀t∈kept,t∈N.ts){x y:Str}:Cn (sub N kept).ts x y↔Cn kept x y:=
 #[λh=>h.mono λt ht=>(sub_mem.mp ht).2,λh=>h.mono λt ht=>sub_mem.mpr #[hk t ht,ht]]
section
variable {ss:o_ Slot}{n:Nat}{Pd:D->Nat->Prop}
theorem IA(h:Wj ss n Pd):FK (EE Pd) n (ss++fN 2 .no):=by
 let#[N,rfl,okn,p]:=h;have ok:=okn.1;have l60:=okn.2.2;have szl:=PySem.sizeLine_eq;unfold FK;refine#[z0,_,AE (j:=1) rfl,_,N.ts,rfl,rfl,by lk,λord o1 o2=>?_];have ndo:ord.Nodup:=o1.nodup_iff.mpr^AV ok.trise
 have go:∀(rest done kept:o_ Tie) (s2:Slot),done++rest=ord->(∀u∈kept,u∈done)->kept.Nodup->BP kept rest=BP [] ord->
   A9 (Ae 2) (CK (A8^BC (Ex n_) (Ag RJ^AG (AK^Ag Em^AG (AK^AI 0)^AG (ER^Bn 1) Am)^AG (AK^BC EL (AI 2)^wC^D.int 0)^AG (AK^BC EL (AI 2)^wC^D.int 1) Am)^wC D.non) (Rb 1 "list" Ji^Ao (AI 2) BZ) Bj) {EE Pd with nx:=CY (Ag Em^AG (AK^AI 0)^AG (ER^Bn 1) Am)^EE Pd} (rest.map AN) n [.sh^enc N,.ow^.lst^kept.map AN,s2]:=by
  intro rest
  induction rest with
  |nil=>
   intro done kept s2 e h1 h2 h3;rw[dk]at e;subst e;have hin:∀u∈kept,u∈N.ts:=λu hu=>o1.mem_iff.mp^h1 u hu;have hkl:=sub_len h2 (AV ok.trise) hin;refine#[N,_,kept,rfl,rfl,by lk,λts' p1 p2=>?_];rw[F1 ok hin h2 p1 p2,show kept=BP [] done from h3];exact p done o1 o2
  | cons u rest ih=>
   intro done kept s2 e h1 h2 h3;have hin:∀v∈kept,v∈N.ts:=λv hv=>o1.mem_iff.mp (by rw[←e];exact Tk _^h1 v hv);have hkl:=sub_len h2 (AV ok.trise) hin;have hu:u∈N.ts:=o1.mem_iff.mp^by rw[←e];exact TM _ FM
   have hud:u∉done:=by
    rw[←e,eP]at ndo;exact λz=>ndo.2.2 u z u FM rfl
   have e':(done++[u])++rest=ord:=by rw[da];exact e
   let#[m1,m2,_]:=ok.tin u hu;refine#[N,_,kept,rfl,rfl,by lk,λts' p1 p2=>?_];rw[F1 ok hin h2 p1 p2];refine#[_,AE (j:=0) rfl,_,AE (j:=1) rfl,sub N kept,u.a,u.b,rfl,BJ okn kept,m1,m2,λo ho=>#[rfl,?_]];have fc:=X6 (BJ okn kept).1 ho;rw[sub_cn hin]at fc;rw[BH]at h3;cases o with
   |some d=>
    have c:Cn kept u.a u.b:=gY λz=>by cases fc.mpr z
    rw[if_pos^cnB_iff.mpr c]at h3;exact ih (done++[u]) kept _ e' (λv hv=>Tk _^h1 v hv) h2 h3
   | none=>
    rw[if_neg λz=>(fc.mp rfl)^cnB_iff.mp z]at h3;refine#[_,rfl,rfl,_,_,rfl,rfl,by rw[Ev];lk,?_]
    have:=ih (done++[u]) (kept++[u]) (.sh^AN u) e' (λv hv=>by
     rcases ZB.mp hv with hv|hv
     .exact Tk _^h1 v hv
     .exact TM _ hv) (by
     rw[eP];exact#[h2,eI.mpr #[d9,ef],λx hx y hy z=>hud^by rw[←On.mp hy,←z];exact h1 x hx]) h3
    rw[eX]at this;exact this
 exact go ord [] [] _ rfl (λu h=>by cases h) ef rfl
structure Pcs (N:Net) (ks:List Key) (ds:List D) (F:Str->Option Str):Prop where
 m:Dmap ks ds D.str F
 i:∀x,F x≠l_->x∈N.ps
theorem Pcs.put{N:Net}{ks:o_ Key}{ds:o_ D}{F:Str->p_ Str}(h:Pcs N ks ds F){x:Str}(hx:x∈N.ps)(a:Str):Pcs N (C5 ks^.inr x) (DA ks ds (.inr x)^.str a)^GU F x a:=#[h.m.put x a,λy hy=>by
 by_cases e:y=x
 .rw[e];exact hx
 .rw[BR e]at hy;exact h.i y hy]
theorem Pcs.len{N:Net}(okn:okN N){ks:o_ Key}{ds:o_ D}{F:Str->p_ Str}(h:Pcs N ks ds F):ks.length<sizeLine:=by
 have:=h.m.le h.i
 have:=okn.2.1
 rw[PySem.sizeLine_eq];lk
theorem Og{i n:Nat}{ρ:o_ Slot}{d:D}{P:D->Nat->Prop}(h:ρ[i]?=P3^.sh d)(p:P d n):AI i n ρ P:=by
 unfold AI;rw[h];exact p
theorem Kf{N:Net}(okn:okN N){D2:E2}{s0:Slot}{r:o_ Slot}:∀(rest done:o_ Str) (ks:o_ Key) (ds:o_ D) (F:Str->p_ Str) (s2:Slot),done++rest=N.ps->Pcs N ks ds F->(∀x∈done,F x=P3 x)->
  (∀ks ds F s2,Pcs N ks ds F->(∀x∈N.ps,F x=P3 x)->D2.nx n (s0::.ow^.dic ks ds::s2::r))->A9 (Ae 2) (GQ 1 (AI 2)^AI 2) D2 (rest.map .str) n (s0::.ow^.dic ks ds::s2::r)
 |[],done,ks,ds,F,s2,e,h,ht,hD=>by
  rw[dk]at e;subst e;exact hD ks ds F s2 h ht
 | x::rest,done,ks,ds,F,s2,e,h,ht,hD=>by
  have hx:x∈N.ps:=by rw[←e];exact TM _ FM
  refine#[ks,ds,rfl,_,Al x,h.len okn,?_];refine Kf okn rest (done++[x]) _ _ _ _ (by rw[da];exact e) (h.put hx x) (λy hy=>?_) hD
  by_cases ey:y=x
  .rw[ey,BX]
  .rw[BR ey]
   rcases ZB.mp hy with hy|hy
   .exact ht y hy
   .exact absurd (On.mp hy) ey
def Il(F:Str->p_ Str)(a b:Str)(x:Str):p_ Str:=if F x=P3 b then P3 a else F x
theorem F4{N:Net}(okn:okN N){D2:E2}{s0:Slot}{r:o_ Slot}{i j:Nat}{a b:Str}(hi:r[i]?=P3^.sh^.str a)(hj:r[j]?=P3^.sh^.str b){F:Str->p_ Str}:∀(rest done:o_ Str) (ks:o_ Key) (ds:o_ D) (G:Str->p_ Str) (s2:Slot),done++rest=N.ps->Pcs N ks ds G->(∀x∈N.ps,F x≠l_)->(∀x∈done,G x=Il F a b x)->(∀x∈rest,G x=F x)->
  (∀ks ds G s2,Pcs N ks ds G->(∀x∈N.ps,G x=Il F a b x)->D2.nx n (s0::.ow^.dic ks ds::s2::r))->
  A9 (Ae 2) (CK (A8^BC (Wc n_) (BC Dl (Bn 1)^AI 2)^AI (j+3)) (GQ 1 (AI 2)^AI (i+3)) Bj) D2 (rest.map .str) n (s0::.ow^.dic ks ds::s2::r)
 |[],done,ks,ds,G,s2,e,h,tF,hd,_,hD=>by
  rw[dk]at e;subst e;exact hD ks ds G s2 h hd
 | x::rest,done,ks,ds,G,s2,e,h,tF,hd,hr,hD=>by
  have hx:x∈N.ps:=by rw[←e];exact TM _ FM
  have nd:(done++x::rest).Nodup:=by rw[e];exact okn.1.rise.imp λ{a b} h z=>by rw[z]at h;exact YJ _ h
  have hxr:x∉rest:=by
   rw[eP,eI]at nd;exact nd.2.1.1
  have hxd:x∉done:=λz=>(eP.mp nd).2.2 x z x FM rfl;have e':(done++[x])++rest=N.ps:=by rw[da];exact e
  cases ex:G x with
  |none=>exact absurd ((hr x FM).symm.trans ex)^tF x hx
  | some y=>
   have eF:F x=P3 y:=(hr x FM).symm.trans ex;refine#[ks,ds,_,.str y,rfl,Al x,by rw[h.m.at_,ex];rfl,Og hj ?_];show if(y==b)=m_ then _ else _
   by_cases c:y=b
   .rw[c,beq_self_eq_true]
    refine Ci #[ks,ds,rfl,Og hi #[_,Al x,h.len okn,?_]];refine F4 okn hi hj rest (done++[x]) _ _ _ _ e' (h.put hx a) tF (λz hz=>?_) (λz hz=>?_) hD
    .by_cases ez:z=x
     .rw[ez,BX];unfold Il;rw[eF,c,if_pos rfl]
     .rw[BR ez]
      rcases ZB.mp hz with hz|hz
      .exact hd z hz
      .exact absurd (On.mp hz) ez
    .rw[BR λez=>hxr^by rw[←ez];exact hz]
     exact hr z^Sc _ hz
   .rw[beq_eq_false_iff_ne.mpr c]
    refine A1^F4 okn hi hj rest (done++[x]) ks ds G _ e' h tF (λz hz=>?_) (λz hz=>hr z^Sc _ hz) hD
    rcases ZB.mp hz with hz|hz
    .exact hd z hz
    .rw[On.mp hz]
     unfold Il;rw[eF,if_neg λz=>c^d6 z];exact ex
theorem Uc{N:Net}{kept:o_ Tie}{u:Tie}{F G:Str->p_ Str}{x y:Str}(m1:u.a∈N.ps)(m2:u.b∈N.ps)(ea:F u.a=P3 x)(eb:F u.b=P3 y)(c:¬x=y)(hC:∀x∈N.ps,∀y∈N.ps,F x=F y↔Cn kept x y)(tG:∀z∈N.ps,G z=Il F x y z):∀v∈N.ps,∀w∈N.ps,G v=G w↔Cn (kept++[u]) v w:=λv hv w hw=>by
 have mono:∀{p q:Str},Cn kept p q->Cn (kept++[u]) p q:=λh=>h.mono λs hs=>Tk _ hs;have hu':=Cn.tie (K:=kept++[u]) (TM _ FM:u∈kept++[u]);have toA:∀z∈N.ps,F z=P3 x->Cn kept z u.a:=λz hz e=>(hC z hz _ m1).mp (by rw[e,ea]);have toB:∀z∈N.ps,F z=P3 y->Cn kept z u.b:=λz hz e=>(hC z hz _ m2).mp (by rw[e,eb]);rw[tG v hv,tG w hw];unfold Il;constructor
 .intro he
  by_cases cv:F v=P3 y
  .by_cases cw:F w=P3 y
   .exact mono^(hC v hv w hw).mp^by rw[cv,cw]
   .rw[if_pos cv,if_neg cw]at he
    exact((mono^toB v hv cv).trans hu'.2).trans^mono (toA w hw he.symm).symm
  .by_cases cw:F w=P3 y
   .rw[if_neg cv,if_pos cw]at he
    exact((mono^toA v hv he).trans hu'.1).trans^mono (toB w hw cw).symm
   .rw[if_neg cv,if_neg cw]at he
    exact mono^(hC v hv w hw).mp he
 .intro hc
  have fa:∀z∈N.ps,Cn kept z u.a->F z=P3 x:=λz hz h=>by rw[(hC z hz _ m1).mpr h,ea]
  have fb:∀z∈N.ps,Cn kept z u.b->F z=P3 y:=λz hz h=>by rw[(hC z hz _ m2).mpr h,eb]
  have nxy:P3 x≠P3 y:=λz=>c^d6 z
  rcases Cn.add (B:=kept) (t:=u) (λs hs=>by
   rcases ZB.mp hs with hs|hs
   .exact .inl hs
   .exact .inr^On.mp hs) hc with h|⟨h1,h2⟩|⟨h1,h2⟩
  .rw[(hC v hv w hw).mpr h]
  .rw[fa v hv h1,fb w hw h2.symm,if_neg nxy,if_pos rfl]
  .rw[fb v hv h1,fa w hw h2.symm,if_pos rfl,if_neg nxy]
end
theorem R_{ts:o_ Tie}(h:A5 ts):ts.Pairwise λu v=>u.len<=v.len:=h.imp λ{s t} z=>by
 refine gY λc=>?_;have lt:t.len<s.len:=by lk
 have e:BB (BY t)^BY s=m_:=by
  show(if(iV t.len:Key)=.inl s.len then _ else WU (.inl t.len)^.inl s.len)=m_;rw[if_neg λq=>by have:=Sum.inl.inj q;lk];exact decide_eq_true lt
 rw[e]at z;cases z
theorem MV{N:Net}(ok:N.Ok){K:o_ Tie}(hk:∀t∈K,t∈N.ts)(nd:K.Nodup):(sub N K).ts.Perm K:=by
 refine(g9 ((AV ok.trise).filter _) nd).mpr λt=>?_;rw[eE,decide_eq_true_eq];exact#[λh=>h.2,λh=>#[hk t h,h]]
theorem Qv{N:Net}(okn:okN N){ord:o_ Tie}(o1:ord.Perm N.ts)(o2:A5 ord){ts:o_ Tie}(h1:∀t∈ts,t∈N.ts)(h3:∀u∈N.ts,Cn ts u.a u.b):tot (sub N^BP [] ord).ts<=tot ts:=by
 have hk:∀t∈BP [] ord,t∈N.ts:=λt ht=>by
  rcases E9 t ht with h|h
  .cases h
  .exact o1.mem_iff.mp h
 have nd:(BP [] ord).Nodup:=Eg (by rw[eA];exact o1.nodup_iff.mpr^AV okn.1.trise);rw[Rp^MV okn.1 hk nd];exact F9 ord [] ts (λu hu=>h3 u^o1.mem_iff.mp hu) (λr hr=>.inl^o1.mem_iff.mpr^h1 r hr) (R_ o2) λr hr=>(okn.1.tin r^h1 r hr).2.2.2.1
end Nt
namespace L2
section
variable {X:Cx}{zG:o_ (Addr×Obj)}{Z:St}{H:Hp}{s:Shared}
theorem Nu{A':eh}{E':Db->Rs->Prop}{ss:o_ Str}{us:o_ Db}{Q:VK}(I:Inv X zG Z H s)(hS:StrsAre us ss)(h64:us.length<64)
  (q:∀(ss':o_ Str) (l:Ch),ss'.Perm ss->sortedS ss'=m_->H l=l_->Q (.ref l)^BF H l^.lst^ss'.map V.str):
  wpAny (model X.prog X.w) A' (iQ.«list.sort» #[[.ref s.heap.objs.size],[]]) (λfin s'=>fin=.done^.ret .none/\EP X zG Z Q (.ref s.heap.objs.size) s') E' {s with heap:=s.heap.push^seqObj "list" us.toArray 0}:=by
 have ho:(s.heap.push^seqObj "list" us.toArray 0).get? s.heap.objs.size=P3^seqObj "list" us.toArray 0:=T0 _ rfl;refine list_sort_treeK strKind_oneLt ho hS.keysOf (λv₁ v₂ rest e=>keyKind_strs^by rw[←e];exact hS) h64 λst' hp hs=>#[rfl,?_];let#[ss',h1,h2,h3]:=sorted_out_str hS hp hs;let#[e,he]:=sortedHeap_at (out:=(arrOf st').map (·.2)) ho;have hf:H s.heap.objs.size=l_:=I.fresh;have l1:=(CZ h1).length;have l2:=(CZ hS).length;have l3:=h2.length_eq;rw[Ev]at l1 l2;refine#[.ref s.heap.objs.size,BF H s.heap.objs.size^.lst^ss'.map V.str,I.laid (t':=s.toks) (λb o z=>?_) (Re _) #[by rw[Ev,fA];lk,_,e,CZ h1,he],rfl,q ss' _ h2 h3 hf];rw[sortedHeap_old (eB^Uf z)^by rw[j1];exact f_^Uf z];exact No _ z
def SE:o_ V->Hp->VK->Prop:=λxs H Q=>∃(d:Ch) (kvs:o_ (Key×V)) (ss:o_ Str),xs=[.ref d]/\Rd H d^.dK kvs/\kvs.map (·.1)=ss.map f7/\ss.length<64 /\
 ∀(ss':o_ Str) (l:Ch),ss'.Perm ss->sortedS ss'=m_->H l=l_->Q (.ref l)^BF H l^.lst^ss'.map V.str
theorem KU{P:eK}{w:eU}:∀{us:o_ Db}{ss:o_ Str},us.length=ss.length->(∀(j:Nat) (v:Db) (x:Str),us[j]?=P3 v->ss[j]?=P3 x->(A_ P w).is (.inr x) v=m_)->StrsAre us ss
 |[],[],_,_=>.nil
 |[],_::_,h,_=>by cases h
 |_::_,[],h,_=>by cases h
 |u::us,x::ss,h,k=>by
  let#[t,rfl]:=(Xx (k:=.inr x) (k 0 u x rfl rfl):RelV (.str x) u);exact .cons x t^KU (P:=P) (w:=w) (by simpa using h) λj v y e1 e2=>k (j+1) v y (by simpa using e1)^by simpa using e2
theorem OW(hc:X.calm=m_):Cq X (.builtin "sorted") SE:=by
 intro zG s Z H xs us Q I r h;let#[d,kvs,ss,rfl,hd,hk,h64,q]:=h;let#[u,rfl,rx]:=vals1 r;cases rx;let#[_,lo,ws,kv,o,es,ep,D]:=Fv I.hok hd;have hwl:=kv.length;have hsl:kvs.length=ss.length:=by rw[←Ev (f:=(·.1)),hk,Ev]
 refine EV (kw:=[]) (args_sorted1 _) (λx=>args_list_sort _)^PySem.W.kdu_collect (PySem.W.kdl_dict (knd:=A_ X.prog X.w) (kvs:=ws) (ep:=ep) lo) (show X.A.handled=l_ from I.ok.hd hc) #[o,es,D] (by rw[fA];lk) λh' tk acc hkp hacc=>#[by rw[fQ,hacc.1,fA];lk,?_];have I1:Inv X zG Z H {s with heap:=h',toks:=tk}:=I.kept (t':=tk) hkp;refine Nu (ss:=ss) I1 (KU (P:=X.prog) (w:=X.w) (by rw[fQ,hacc.1];lk) λj v x e1 e2=>?_) (by rw[fQ,hacc.1];lk) q;let#[k,z,e3,e4]:=hacc.2 j v (by rw[←kX];exact e1);have jl:j<kvs.length:=by rw[hsl];exact(de.mp e2).1
 let#[ek,_]:=Gb kv (Op jl) e3;have e5:(kvs.map (·.1))[j]?=P3 kvs[j].1:=by rw[di,Op jl];rfl
 rw[hk,di,e2]at e5;have e6:f7 x=kvs[j].1:=d6 e5;rw[e6,show kvs[j].1=k from ek];exact e4
end
end L2
namespace Dp
open L2
section
variable {X:Cx}
def X8(ds:o_ D)(P:D->Prop):Prop:=∃(d:D) (ks:o_ Key) (es:o_ D) (ss:o_ Str),ds=[d]/\Jm d=P3 (ks,es)/\ks.length=es.length/\ks=ss.map f7/\ss.length<64/\(∀x∈ss,x.length<=sizeLine)/\∀ss':o_ Str,ss'.Perm ss->sortedS ss'=m_->P^.lst^ss'.map .str
theorem Vm:DD X.K .fr SE X8:=by
 intro U M H ds vs P Q dom vM hp w q;let#[d,ks,es,ss,rfl,hd,l1,hk,h64,hz,w]:=w;let#[v,rfl,hx]:=Eo hp;let#[a,us,rfl,ha,hs]:=HZ hd hx;have m1:=hs.length;refine#[a,_,ss,rfl,ha,?_,h64,λss' l h1 h2 hl=>?_]
 .rw[List.map_fst_zip^by lk,hk]
 .exact q _ _ _ (A2 hl) (EK hl^Ats.strs λx hx=>hz x^h1.mem_iff.mp hx)^w ss' h1 h2
end
end Dp
namespace L2
open AutoSeq1 (wpAny_loadPart')
end L2
namespace Dp
open L2
end Dp
namespace Nt
open L2 Dp
def dQ(N:Net)(s x:Str):Prop:=∃d,Wk N s x d
structure c_ (N:Net) (s:Str) (ks:List Key):Prop where
 nd:ks.Nodup
 dom:∀k∈ks,∃x:Str,k=.inr x
 mem:∀x:Str,.inr x∈ks↔dQ N s x
inductive aS:D->Prop
 |n:aS .non
 |s (x:Str):aS^.str x
 |i (k:Int):aS^.int k
 |t (xs:List D) (h:∀x,x∈xs->aS x):aS^.tup xs
section
variable {ss:o_ Slot}
theorem Kl:∀{ks:o_ Key},(∀k∈ks,∃x:Str,k=.inr x)->∃ss:o_ Str,ks=ss.map f7
 |[],_=>#[[],rfl]
 |k::ks,h=>by
  let#[x,rfl]:=h k FM;let#[ss,e]:=Kl λj hj=>h j^Sc _ hj;exact#[x::ss,by rw[e];rfl]
theorem Xp{ss:o_ Str}(h:(ss.map (f7:Str->Key)).Nodup):ss.Nodup:=by
 rw[jT,iO]at h;exact h.imp λh e=>h^by rw[e]
end
end Nt
namespace L2
end L2
namespace Dp
open L2
end Dp
namespace Nt
open L2 Dp
theorem OL{N M M':Net}{t b:Int}{ps:EN}(ok':M'.Ok)(hs:∀u∈M.ts,u∈M'.ts)(b0:0<=b)(h:keepsP N t b ps M):keepsP N t b ps M':=λp hp d hd=>by
 let#[d',l1,l2]:=h p hp d hd;let#[e,he,hle]:=Cf ok' _ _ (Re _)^l1.1.mono hs;exact#[e,he,iR (e_ hle b0) l2]
theorem OK{N:Net}{t b:Int}{ps:EN}(ok:N.Ok)(bt:b<=t):keepsP N t b ps N:=λp _ d hd=>#[d,hd,fV bt^hd.1.pos ok]
theorem LI{N:Net}{t b:Int}{ps:EN}:∀{ord:o_ Tie}{M:Net},(BD N t b ps M ord).ps=M.ps
 |[],M=>rfl
 |u::r,M=>by
  show(if CD N t b ps (Ah M u)=m_ then BD N t b ps (Ah M u) r else BD N t b ps M r).ps=_
  split
  .exact LI
  .exact LI
theorem ED{N:Net}{t b:Int}{ps:EN}:∀{ord:o_ Tie}{M:Net},∀u∈(BD N t b ps M ord).ts,u∈M.ts
 |[],M=>λu h=>h
 |v::r,M=>λu h=>by
  replace h:u∈(if CD N t b ps (Ah M v)=m_ then BD N t b ps (Ah M v) r else BD N t b ps M r).ts:=h
  split at h
  .exact(eE.mp^ED u h).1
  .exact ED u h
theorem EU{N:Net}{t b:Int}{ps:EN}:∀{ord:o_ Tie}{M:Net},keepsP N t b ps M->keepsP N t b ps^BD N t b ps M ord
 |[],M,h=>h
 |v::r,M,h=>by
  show keepsP N t b ps (if CD N t b ps (Ah M v)=m_ then BD N t b ps (Ah M v) r else BD N t b ps M r)
  split
  .rename_i c;exact EU^keepsB_iff.mp c
  .exact EU h
theorem FS{N:Net}{t b:Int}{ps:EN}(b0:0<=b):∀{ord:o_ Tie}{M:Net},okN M->∀u∈ord,u∈(BD N t b ps M ord).ts->CD N t b ps^Ah (BD N t b ps M ord) u=n_
 |[],_,_=>λu hu _=>by cases hu
 | v::r,M,okm=>λu hu h=>by
  have e:BD N t b ps M (v::r)=if CD N t b ps (Ah M v)=m_ then BD N t b ps (Ah M v) r else BD N t b ps M r:=rfl
  rw[e]at h ⊢
  split at h
  .rename_i c
   rw[if_pos c]
   rcases UF.mp hu with rfl|hu
   .exact absurd (eE.mp^ED u h).2 (by simp)
   .exact FS b0 (Bv okm v) u hu h
  .rename_i c
   rw[if_neg c]
   rcases UF.mp hu with rfl|hu
   .refine ft.mpr λz=>c^keepsB_iff.mpr^OL (Bv okm u).1 (λx hx=>?_) b0^keepsB_iff.mp z
    let#[h1,h2]:=eE.mp hx;exact eE.mpr #[ED x h1,h2]
   .exact FS b0 okm u hu h
def Ut(N M:Net)(xs:o_ D):Prop:=xs.length=N.ps.length/\(∀x∈xs,RR x=m_)/\Ft M^.tup xs=m_
abbrev Ks(N:Net)(xs:o_ D)(a c:Str):Int:=EA (IB N xs a - IB N xs c)
def V1(N M:Net)(t b:Int)(a c:Str)(d:D):Prop:=
 (∃xs:o_ Str,d=.tup [.str "apart",.tup^xs.map .str]/\rising xs/\(∀x∈xs,x∈N.ps)/\a∈xs/\c∉xs/\∀u∈N.ts,(u.a∈xs↔u.b∈xs)) \/
 ∃(w:o_ Str) (l:Int) (xs:o_ D),d=.tup [.str "near",CW w,.tup xs]/\walkedK 30 M a c w l/\Ut N N xs/\l*b<=Ks N xs a c*t
def V2(N M:Net)(t b:Int)(ps:EN)(d:D):Prop:=∃(j:Nat) (q:Str×Str) (w:o_ Str) (l:Int) (xs:o_ D),d=.tup [.int (j:Int),CW w,.tup xs]/\ps[j]?=P3 q/\walkedK 30 N q.1 q.2 w l/\Ut N M xs/\¬Ks N xs q.1 q.2*b<=l*t
def ShL(N M:Net)(t b:Int):EN->o_ D->Prop
 |[],[]=>True
 |q::ps,d::ds=>V1 N M t b q.1 q.2 d/\ShL N M t b ps ds
 |_,_=>False
def NdL(N M:Net)(t b:Int)(ps:EN):o_ Tie->o_ D->Prop
 |[],[]=>True
 |u::us,d::ds=>V2 N (Ah M u) t b ps d/\NdL N M t b ps us ds
 |_,_=>False
theorem ShL.len{N M:Net}{t b:Int}:∀{ps:EN}{ds:o_ D},ShL N M t b ps ds->ds.length=ps.length
 |[],[],_=>rfl
 |_::_,_::_,h=>by rw[dg,dg,h.2.len]
 |[],_::_,h=>h.elim
 |_::_,[],h=>h.elim
theorem NdL.len{N M:Net}{t b:Int}{ps:EN}:∀{us:o_ Tie}{ds:o_ D},NdL N M t b ps us ds->ds.length=us.length
 |[],[],_=>rfl
 |_::_,_::_,h=>by rw[dg,dg,h.2.len]
 |[],_::_,h=>h.elim
 |_::_,[],h=>h.elim
theorem ShL.at{N M:Net}{t b:Int}:∀{ps:EN}{ds:o_ D}{j:Nat}{q:Str×Str},ShL N M t b ps ds->ps[j]?=P3 q->∃d,ds[j]?=P3 d/\V1 N M t b q.1 q.2 d
 |_::_,_::_,0,_,h,e=>by cases e;exact#[_,rfl,h.1]
 |_::_,_::_,j+1,_,h,e=>h.2.at (j:=j) e
 |[],_,_,_,_,e=>by cases e
 |_::_,[],_,_,h,_=>h.elim
theorem NdL.at{N M:Net}{t b:Int}{ps:EN}:∀{us:o_ Tie}{ds:o_ D}{j:Nat}{u:Tie},NdL N M t b ps us ds->us[j]?=P3 u->∃d,ds[j]?=P3 d/\V2 N (Ah M u) t b ps d
 |_::_,_::_,0,_,h,e=>by cases e;exact#[_,rfl,h.1]
 |_::_,_::_,j+1,_,h,e=>h.2.at (j:=j) e
 |[],_,_,_,_,e=>by cases e
 |_::_,[],_,_,h,_=>h.elim
def Wq(N M:Net)(t b:Int)(ps:EN)(d:D):Prop:=∃(ss ns:o_ D) (ord:o_ Tie),d=.tup [.tup ss,.tup ns]/\ShL N M t b ps ss/\ord.Perm M.ts/\A5 ord/\NdL N M t b ps ord ns
def XE(N M:Net):Prop:=M.ps=N.ps/\thn N M.ts
abbrev Jy(t b:Int):D:=.tup [.int t,.int b]
abbrev CM(ps:EN):D:=.tup^ps.map pairD
def Na:W2:=λss n P=>∃(N M:Net) (t b:Int) (a c:Str),ss=[.sh^enc N,.sh^enc M,.sh^.str a,.sh^.str c]/\okN N/\okN M/\M.ps=N.ps/\a∈N.ps/\c∈N.ps/\(∀d,Least N a c d->∃d',Least M a c d'/\d'*b<=d*t)/\∀d,V1 N M t b a c d->P d n
def Px:W2:=λss n P=>∃(N M:Net) (t b:Int) (ps:EN) (os:o_^p_ Int),ss=[.sh^enc N,.sh^Jy t b,.sh^CM ps,.sh^.lst^os.map HH,.sh^enc M]/\okN N/\okN M/\M.ps=N.ps/\D4 t b/\LV N ps/\RO N ps os/\CD N t b ps M=n_/\∀d,V2 N M t b ps d->P d n
def UD:W2:=λss n P=>∃(N:Net) (t b:Int) (ps:EN),ss=[.sh^enc N,.sh^Jy t b,.sh^CM ps]/\okN N/\D4 t b/\b<=t/\LV N ps/\∀(ord:o_ Tie) (d:D),ord.Perm N.ts->A5 ord->Wq N (BD N t b ps N ord.reverse) t b ps d->P d n
def T8:W2:=λss n P=>∃(N M:Net) (t b:Int) (a c:Str) (w:o_ Str) (l:Int) (xs:o_ D),ss=[.sh^enc N,.sh^Jy t b,.sh^pairD (a,c),.sh^enc M,.sh^.tup [.str "near",CW w,.tup xs]]/\okN N/\okN M/\D4 t b/\a∈N.ps/\c∈N.ps/\walkedK 30 M a c w l/\Ut N N xs/\l*b<=Ks N xs a c*t/\P (.bl m_) n
def Vq:W2:=λss n P=>∃(N:Net) (xs:o_ Str),ss=[.sh^enc N,.sh^.tup^xs.map .str]/\okN N/\rising xs/\(∀x∈xs,x∈N.ps)/\P (.bl m_) n
def RE:W2:=λss n P=>∃(N:Net) (a c:Str) (xs:o_ Str),ss=[.sh^enc N,.sh^pairD (a,c),.sh^.tup^xs.map .str]/\okN N/\a∈N.ps/\c∈N.ps/\rising xs/\(∀x∈xs,x∈N.ps)/\a∈xs/\c∉xs/\(∀u∈N.ts,(u.a∈xs↔u.b∈xs))/\P (.bl m_) n
def Jx:W2:=λss n P=>∃(N M:Net) (t b:Int) (a c:Str) (d:D),ss=[.sh^enc N,.sh^Jy t b,.sh^pairD (a,c),.sh^enc M,.sh d]/\okN N/\okN M/\D4 t b/\a∈N.ps/\c∈N.ps/\V1 N M t b a c d/\P (.bl m_) n
def K7:W2:=λss n P=>∃(N M:Net) (t b:Int) (ps:EN) (d:D),ss=[.sh^enc N,.sh^Jy t b,.sh^CM ps,.sh^enc M,.sh d]/\okN N/\okN M/\M.ps=N.ps/\D4 t b/\LV N ps/\V2 N M t b ps d/\P (.bl m_) n
def T_:W2:=λss n P=>∃(ps:EN) (M:Net) (xs ys:o_ D),ss=[.sh^CM ps,.sh^enc M,.sh^.tup [.tup xs,.tup ys]]/\xs.length=ps.length/\ys.length=M.ts.length/\P (.bl m_) n
def Vx:W2:=λss n P=>∃(N M:Net) (t b:Int) (ps:EN) (d:D),ss=[.sh^enc N,.sh^Jy t b,.sh^CM ps,.sh^enc M,.sh d]/\okN N/\N.ps.length<=24/\XE N M/\D4 t b/\LV N ps/\Wq N M t b ps d/\P (.bl m_) n
theorem IN{N M:Net}(okn:okN N)(okm:okN M)(eM:M.ps=N.ps){a:Str}(ha:a∈N.ps){F:KJ}(T:Told M a F){m:Int}(m0:0<=m):
  Ut N M (M.ps.map λx=>.int (CC m ((F x).map (·.1))))/\∀c∈N.ps,Ks N (M.ps.map λx=>.int (CC m ((F x).map (·.1)))) a c=CC m ((F c).map (·.1)):=by
 have e:(M.ps.map λx=>D.int (CC m ((F x).map (·.1))))=(M.ps.map λx=>CC m ((F x).map (·.1))).map .int:=by rw[fY];rfl
 rw[e];have ge:=λx=>(Jn m0^Gs okm.1^T.far x).1;refine#[#[by rw[Ev,Ev,eM],λx hx=>?_,HW okm.1 _ (λx _=>ge x) λu hu=>GD okm.1 T.far hu],λc hc=>?_]
 .let#[i,hi,rfl]:=TW.mp hx
  let#[y,hy,rfl]:=TW.mp hi;exact decide_eq_true^ge y
 .rw[eM]
  show EA (IB N _ a - IB N _ c)=_;rw[Du _ ha,Du _ hc,T.start]
  have:=ge c
  show EA ((if(0:Int)<m then 0 else m) - _)=_;unfold EA
  split <;>split <;>lk
theorem EQ{N:Net}{a c:Str}{w:o_ Str}(h:Way N a c^P3 w):∃l,walkedK 30 N a c w l/\Least N a c l:=by
 let#[d,r,e,h1,h2,h3,h4,h5]:=h;exact#[d,#[#[r,e],h1,h2,h4,h5],h3]
theorem NY:∀{xs:o_ Str},rising xs->RS^xs.map .str=m_
 |[],_=>rfl
 |[_],_=>rfl
 |x::y::r,h=>by
  have h':=fE.mp h;show((P3 (decide (cs x<cs y))==P3 m_)&&RS^(y::r).map .str)=m_;rw[NY h'.2,decide_eq_true^h'.1 y FM];rfl
theorem Do{xs:o_ Str}{x:Str}:((xs.map D.str).any λy=>Dn y^.str x)=decide (x∈xs):=by
 rw[e9,h9,decide_eq_true_eq];constructor
 .rintro⟨d,hd,e⟩
  let#[y,hy,rfl]:=TW.mp hd;rw[IS,beq_iff_eq]at e;rw[←e];exact hy
 .exact λh=>#[.str x,TW.mpr #[x,h,rfl],by rw[IS,beq_self_eq_true]]
theorem FE{α:Type}{l:o_ α}{P:D->Prop}(h:P^.bl m_):TL [.lst^l.map λ_=>.bl m_] P:=by
 refine Gu (p:=λ_=>m_) ?_;rw[fX.mpr λ_ _=>rfl];exact h
theorem Sv{i j:Int}{F:D->Prop}(h:i<=j)(p:F^.bl m_):X9 (.int i) (.int j) F:=by
 show F^.bl (decide (i<=j));rw[decide_eq_true h];exact p
theorem Sm{i j:Int}{F:D->Prop}(h:i<j)(p:F^.bl m_):Jh (.int i) (.int j) F:=by
 show F^.bl (decide (i<j));rw[decide_eq_true h];exact p
def tj(t:Tie)(x y:Str):Prop:=(t.a=x/\t.b=y)\/(t.b=x/\t.a=y)
inductive Us (K:List Tie) (x:Str):Str->Nat->Prop
 |nil:Us K x x 0
 |snoc {y z:Str}{n:Nat}{t:Tie}:Us K x y n->t∈K->tj t y z->Us K x z (n+1)
theorem Wk.least{N:Net}(ok:N.Ok){s x:Str}:∀(k:Nat) {d:Int},d.toNat<=k->Wk N s x d->∃d',Least N s x d'/\d'<=d
 | k,d,hk,h=>by
  by_cases c:∃d2,d2<d/\Wk N s x d2
  .let#[d2,h1,h2]:=c
   have p2:=h2.pos ok;cases k with
   |zero=>lk
   |succ k=>
    let#[d',h3,h4]:=Wk.least ok k (d:=d2) (by lk) h2;exact#[d',h3,by lk]
  .refine#[d,#[h,λd' h'=>?_],gM _]
   rcases Int.lt_or_le d' d with z|z
   .exact absurd #[d',z,h'] c
   .exact z
def firm(N:Net)(t b:Int)(L:o_ Tie):Prop:=∀pre z post,L=pre++z::post->¬Bu (sub N pre) t b z
structure Kept (N:Net) (t b:Int) (L:List Tie):Prop where
 ok:okN N
 firm:firm N t b L
 ins:∀u∈L,u∈N.ts
 up:L.Pairwise λu v=>u.len<=v.len
 b1:1<=b
end Nt
namespace L2
open PySem.W
end L2
namespace Dp
open L2
end Dp
namespace Nt
open L2 Dp
def minus(N:Net)(S:o_ Tie):Net:=#[N.ps,N.ts.filter λv=>decide (v∉S)]
def Nc(N:Net)(t b:Int)(u:Tie)(m:Nat):Prop:=∀S:o_ Tie,S.length<=m->Bu (minus N S) t b u
noncomputable def Qo(N:Net)(t b:Int)(u:Tie)(m:Nat):Bool:=@decide (Nc N t b u m)^fS _
theorem hldB_iff{N:Net}{t b:Int}{u:Tie}{m:Nat}:Qo N t b u m=m_↔Nc N t b u m:=by
 unfold Qo;exact @decide_eq_true_iff _^fS _
noncomputable def Be(N:Net)(t b:Int)(m:Nat):o_ Tie->o_ Tie->o_ Tie
 |kept,[]=>kept
 |kept,u::r=>if Qo (sub N kept) t b u m=m_ then Be N t b m kept r else Be N t b m (kept++[u]) r
def bT:p_^o_ Tie->D
 |some l=>.lst^l.map AN
 |none=>.non
def fresh(u:Tie):Prop:=NC u.a/\NC u.b/\1<=u.len/\u.len<=1000000
def Over(ts:o_ Tie):o_ Str->o_ Tie->Prop
 |[_],[]=>True
 |x::y::r,u::us=>u∈ts/\((u.a=x/\u.b=y)\/(u.b=x/\u.a=y))/\Over ts (y::r) us
 |_,_=>False
def Ic:W2:=λss n P=>∃(M:Net) (z:D) (S:o_ Tie),ss=[.sh^enc M,.sh z]/\Eu z=P3^S.map AN/\okN M/\(∀v∈S,v∈M.ts)/\P (enc^minus M S) n
def YX:W2:=λss n P=>∃(N:Net) (w:o_ Str) (d:Int),ss=[.sh^enc N,.sh^.tup^w.map .str]/\okN N/\walk N w d/\w.length<=30/\(∀x∈w,x∈N.ps)/\∀us:o_ Tie,Over N.ts w us->us.length<=30->P (.lst^us.map AN) n
def brkL(N:Net)(t b:Int)(u:Tie)(m:Nat)(l:o_ Tie):Prop:=l.Nodup/\(∀v∈l,v∈N.ts)/\l.length<=m/\¬Bu (minus N l) t b u
theorem brkL.not{N:Net}{t b:Int}{u:Tie}{m:Nat}{l:o_ Tie}(h:brkL N t b u m l):¬Nc N t b u m:=λz=>h.2.2.2^z l h.2.2.1
def Wn(j:Nat):W2:=λss n P=>∃(N:Net) (u:Tie) (t b:Int) (m:Nat),ss=[.sh^enc N,.sh^.tup [.int t,.int b],.sh^AN u,.sh^.int (m:Int)]/\(m<=j/\m<=2)/\okN N/\u.a∈N.ps/\u.b∈N.ps/\fresh u/\D4 t b/\∀o:p_^o_ Tie,(o=l_->Nc N t b u m)->(∀l,o=P3 l->brkL N t b u m l)->P (bT o) n
def Vp:W2:=λss n P=>∃(N:Net) (t b:Int) (m:Nat),ss=[.sh^enc N,.sh^.tup [.int t,.int b],.sh^.int (m:Int)]/\okN N/\D4 t b/\m<=2/\∀ord:o_ Tie,ord.Perm N.ts->A5 ord->P (enc^sub N^Be N t b m [] ord) n
theorem HN{N:Net}(okn:okN N)(S:o_ Tie):okN^minus N S:=#[Io okn.1 (λt h=>(eE.mp h).1)^okn.1.trise.filter _,okn.2.1,eJ (fP _ _) okn.2.2]
theorem minus_mem{N:Net}{S:o_ Tie}{v:Tie}:v∈(minus N S).ts↔v∈N.ts/\v∉S:=by
 show v∈N.ts.filter _↔_;rw[eE,decide_eq_true_eq]
theorem FV(N:Net):minus N []=N:=by
 unfold minus;rw[List.filter_eq_self.mpr λv _=>decide_eq_true d9]
theorem Sl{N:Net}{S S':o_ Tie}(h:∀v∈N.ts,v∈S↔v∈S'):minus N S=minus N S':=by
 unfold minus;rw[gK λv hv=>by rw[decide_eq_decide.mpr^not_congr^h v hv]]
theorem hld_zero{N:Net}{t b:Int}{u:Tie}:Nc N t b u 0↔Bu N t b u:=by
 constructor
 .intro h
  have:=h []^Re _
  rw[FV]at this;exact this
 .intro h S hS
  rw[gi.mp^Nat.le_zero.mp hS,FV];exact h
theorem VD{N:Net}(ok:N.Ok){t b:Int}(hb:1<=b){u:Tie}{d:Int}(hw:Wk N u.a u.b d)(h:d*b<=u.len*t):Bu N t b u:=by
 let#[d',h1,h2]:=Wk.least ok _ (Re _) hw
 have:=e_ h2 (show 0<=b by lk)
 exact#[d',h1,by lk]
theorem Oe{N:Net}:∀{r:o_ Str}{x y:Str}{d:Int},walk N (x::r) d->(x::r).getLast?=P3 y->∀{s:Str}{e:Int},Wk N s x e->Wk N s y (e+d)
 |[],x,y,d,h,hl,s,e,hw=>by
  have hd:d=0:=h
  have:x=y:=by simpa using hl
  subst hd this;rw[Int.add_zero];exact hw
 |z::r,x,y,d,h,hl,s,e,hw=>by
  let#[l,d',he,h2,rfl]:=h
  have:=Oe h2 (by simpa using hl)^Wk.snoc hw he
  rw[jt]at this;exact this
theorem S9{N:Net}(okn:okN N){t b:Int}(hb:1<=b){u:Tie}{m:Nat}{w:o_ Str}{us:o_ Tie}(hw:Way N u.a u.b^P3 w)(hn:Bu N t b u){d0:Int}(hwk:walk N w d0)(hus:∀M:Net,(∀v∈us,v∈M.ts)->walk M w d0)(hin:∀v∈us,v∈N.ts)(h:∀v∈us,Nc (Ah N v) t b u m):Nc N t b u (m+1):=by
 intro S hS
 by_cases c:∃v∈us,v∈S
 .let#[v,hv,hvS]:=c
  have e:minus N S=minus (Ah N v) (S.filter λx=>decide (x≠v)):=by
   unfold minus Ah;rw[iq]
   congr 1
   refine gK λx _=>?_;rw[e9,dh,decide_eq_true_eq,decide_eq_true_eq,decide_eq_true_eq,eE,decide_eq_true_eq];constructor
   .intro z
    exact#[λq=>z q.1,λq=>z^by rw[q];exact hvS]
   .rintro⟨z1,z2⟩ q
    exact z1 #[q,z2]
  rw[e];refine h v hv _ ?_
  have:(S.filter λx=>decide (x≠v)).length<S.length:=List.length_filter_lt_length_iff_exists.mpr #[v,hvS,λz=>of_decide_eq_true z rfl]
  lk
 .let#[d,r,rfl,hl,hwd,hld,_]:=hw
  let#[d',hd',hle]:=hn;have ed:d=d':=hld.unique hd';subst ed;have w2:walk (minus N S) (u.a::r) d0:=hus (minus N S) λv hv=>minus_mem.mpr #[hin v hv,λz=>c #[v,hv,z]]
  have ew:d0=d:=by
   have h1:=GN okn.1 hwk (s:=0);rw[GN okn.1 hwd (s:=0)]at h1
   have:=d6 h1
   lk
  subst ew;have wk:=Oe w2 hl^Wk.nil (N:=minus N S) (s:=u.a);rw[h_]at wk;exact VD (HN okn S).1 hb wk hle
theorem S_{N:Net}{t b:Int}{u:Tie}{m:Nat}(h:Nc N t b u m):Bu N t b u:=by
 have:=h []^dq _
 rw[FV]at this;exact this
theorem XD{N:Net}(ok:N.Ok){x y:Str}{l:Int}(he:Ed N x y l):∃t∈N.ts,t.len=l/\((t.a=x/\t.b=y)\/(t.b=x/\t.a=y))/\(if decide (cs y<cs x)=m_ then y else x)=t.a/\(if decide (cs x<cs y)=m_ then y else x)=t.b:=by
 let#[t,ht,tl,h2]:=he.tie ok;have lt:=(ok.tin t ht).2.2.1;refine#[t,ht,tl,h2,?_]
 rcases h2 with⟨rfl,rfl⟩|⟨rfl,rfl⟩
 .have:¬cs t.b<cs t.a:=λz=>gH _^iB lt z
  exact#[by rw[decide_eq_false this,if_neg^by cbv],by rw[decide_eq_true lt,if_pos rfl]]
 .have:¬cs t.b<cs t.a:=λz=>gH _^iB lt z
  exact#[by rw[decide_eq_true lt,if_pos rfl],by rw[decide_eq_false this,if_neg^by cbv]]
theorem TU{M:Net}{t:Tie}{x y:Str}(ht:t∈M.ts)(h:(t.a=x/\t.b=y)\/(t.b=x/\t.a=y)):Ed M x y t.len:=by
 rcases h with⟨rfl,rfl⟩|⟨rfl,rfl⟩
 .exact(CB ht).1
 .exact(CB ht).2
theorem Over.mem{ts:o_ Tie}:∀{w:o_ Str}{us:o_ Tie},Over ts w us->∀u∈us,u∈ts
 |[],_,h,_,_=>h.elim
 |[_],[],_,_,hu=>nomatch hu
 |[_],_::_,h,_,_=>h.elim
 |_::_::_,[],h,_,_=>h.elim
 |_::_::_,_::_,h,v,hv=>(UF.mp hv).elim (λe=>e▸h.1)^h.2.2.mem v
theorem Over.walk{N M:Net}(ok:N.Ok):∀{w:o_ Str}{us:o_ Tie}{d:Int},Over N.ts w us->walk N w d->(∀u∈us,u∈M.ts)->walk M w d
 |[],_,_,h,_,_=>h.elim
 |[_],[],_,_,hw,_=>hw
 |[_],_::_,_,h,_,_=>h.elim
 |_::_::_,[],_,h,_,_=>h.elim
 |x::y::r,u::us,d,#[h1,h2,h3],#[l,e,he,hw,hd],hM=>by
  have a:=IQ ok he;rw[IQ ok^TU h1 h2]at a;cases a;exact#[u.len,e,TU (hM u FM) h2,h3.walk ok hw λv hv=>hM v^Sc _ hv,hd]
theorem GC{N:Net}{v:Tie}:minus N [v]=Ah N v:=by
 unfold minus Ah
 congr 1
 exact gK λx _=>by simp
theorem JT{N:Net}{v:Tie}{S:o_ Tie}:minus (Ah N v) S=minus N (v::S):=by
 unfold minus Ah;rw[iq]
 congr 1
 refine gK λx _=>?_;rw[e9,dh,decide_eq_true_eq,decide_eq_true_eq,decide_eq_true_eq,UF];exact#[fun#[z1,z2] q=>q.elim z2 z1,λz=>#[λq=>z^.inr q,λq=>z^.inl q]]
theorem TB{N:Net}{t b:Int}{u v:Tie}{m:Nat}(h:Nc N t b u (m+1)):Nc (Ah N v) t b u m:=λS hS=>by
 rw[JT];exact h (v::S)^gm hS
section
theorem B7{N:Net}{t b:Int}{m:Nat}{kept r:o_ Tie}{u:Tie}:Be N t b m kept (u::r)=if Qo (sub N kept) t b u m=m_ then Be N t b m kept r else Be N t b m (kept++[u]) r:=rfl
end
structure Led (done:List Tie) (ks:List^List Key) (ds:List D):Prop where
 len:ks.length=ds.length
 le:ks.length<=2*done.length
 at1:∀u∈done,Ri ks ds [.inr u.a,.inr u.b]=P3 (.int u.len)
 at2:∀u∈done,Ri ks ds [.inr u.b,.inr u.a]=P3^.int u.len
end Nt
namespace L2
def HX(A:eh)(H:Hp):Prop:=∃a C dx u,A.handled=P3^.ref a/\H a=P3 u/\XT C dx a u
structure cx (P:eK) (w:eU) (K:Frag) (tg:eO) (J:It) (fp:List Ch) (it:Ch) (tn:Nat->eC->Prop):Prop where
 mem:it∈fp
 obj:∀i h,tn i h->∀b∈fp,∃o,h.get? b=P3 o/\∀v,o.data≠.cell v
 keep:∀i h h',tn i h->(∀b∈fp,∀o,h.get? b=P3 o->h'.get? b=P3 o)->tn i h'
 item:∀(X:Cx),X.prog=P->X.w=w->X.K=K->HX X.A X.H₀->∀(i:Nat) (zG:List (Ch×Obj)) (s:Rs) (Z:St) (H:Hp) (E:Db->Rs->Prop),Inv X zG Z H s->(∀b∈fp,Fj X zG H b)->tn i s.heap->J.go i H->
  wpAny (model P w) X.A (pyNext^.ref it) (λr s1=>∃u,r=P3 u /\
   wpAny (model P w) X.A (letOwnedTupleGo tg (.ref it) u) (λ_ s2=>∃x H',Inv X zG Z H' s2/\RelV x u/\J.yld i H x H'/\tn (i+1) s2.heap/\∀b∈fp,H' b=l_) E s1) E s
 done:∀(X:Cx),X.prog=P->X.w=w->X.K=K->HX X.A X.H₀->∀(i:Nat) (zG:List (Ch×Obj)) (s:Rs) (Z:St) (H:Hp) (E:Db->Rs->Prop),Inv X zG Z H s->(∀b∈fp,Fj X zG H b)->tn i s.heap->J.stop i H->
  wpAny (model P w) X.A (pyNext^.ref it) (λr s1=>r=l_/\Inv X zG Z H s1) E s
 self:∀(A:eh) (i:Nat) (s:Rs) (Q:Db->Rs->Prop) (E:Db->Rs->Prop),tn i s.heap->Q (.ref it) s->wpAny (model P w) A (pyIter^.ref it) Q E s
end L2
namespace Dp
open L2
end Dp
namespace L2
structure aT (k:Nat) (A:eh):Prop where
 dp:A.depth+3*k+5<recursionLimit
 un:A.units+16*k+200<cLine
 gd:A.guards=P3 []
structure dA (P:eK) (w:eU) (K:Frag) (mg:Str->Option Db) (base:eC) (k:Nat) (f:Ch) (fd:fJ) (ps:List Str) (sp:Sp):Prop where
 len:∀vs H Q E,sp vs H Q E->vs.length=ps.length
 run:∀(A:eh) (outer:List Env) (s:Rs) (H:Hp) (args:Args) (us:List Db) (vs:List V) (Q:VK) (E:XK),aT k A->HX A H->Env0 P w K mg base A outer s H->jX s fd args^ps.zip us->Vals vs us->sp vs H Q E->
  codeAny (model P w) A (.call (.ref f) args) (CR G6 outer P w H s Q E) s
end L2
namespace Dp
open L2
end Dp
namespace L2
end L2
namespace Dp
open L2
end Dp
namespace L2
open PySem.W
structure dX (prog:eK) (w:eU) (A:eh) (I d:Ch) (n:Nat) (base:eC) (key:Nat->Ch) (val:Nat->Db) (ch:Ch->Prop) (St:Nat->eC->Prop):Prop where
 new:∀b,ch b->base.get? b=l_
 item:∀(i:Nat) (s:Rs) (Q:Option Db->Rs->Prop) (E:Db->Rs->Prop),i<n->St i s.heap->(∀b o,base.get? b=P3 o->s.heap.get? b=P3 o)->(∃o,s.heap.get? d=P3 o)->
  (∀h' tk a o c,h'.get? a=P3 o->o.cls=.type "tuple"->o.data=.seq #[ .ref^key i,val i] c->St (i+1) h'->(∀b o,¬ch b->s.heap.get? b=P3 o->h'.get? b=P3 o)->Q (P3^.ref a) {s with heap:=h',toks:=tk})->wpAny (model prog w) A (pyNext^.ref I) Q E s
 done:∀(s:Rs) (Q:Option Db->Rs->Prop) (E:Db->Rs->Prop),St n s.heap->(∀b o,base.get? b=P3 o->s.heap.get? b=P3 o)->(∀h' tk,(∀b o,¬ch b->s.heap.get? b=P3 o->h'.get? b=P3 o)->Q l_ {s with heap:=h',toks:=tk})->wpAny (model prog w) A (pyNext^.ref I) Q E s
 frame:∀i h h',St i h->ie d h h'->St i h'
 dch:¬ch d
end L2
namespace Dp
open L2
end Dp
namespace L2
end L2
namespace Dp
open L2
end Dp
namespace L2
end L2
namespace Dp
open L2
end Dp
namespace L2
end L2
namespace Dp
open L2
end Dp
namespace L2
end L2
namespace Dp
open L2
end Dp
namespace L2
end L2
namespace Dp
open L2
end Dp
namespace L2
end L2
namespace Dp
open L2
end Dp
namespace L2
end L2
namespace Dp
open L2
end Dp
namespace L2
end L2
namespace Dp
open L2
end Dp
namespace Nt
open L2 Dp
structure dR (M:Net) (K:Kn) (acc:List Str) (x:Str):Prop where
 lst:acc.getLast?=P3 x
 nd:acc.Nodup
 ins:∀u∈acc,u∈M.ps
 far:∀dx,K x=P3 dx->∀u∈acc,∃du,K u=P3 du/\dx<=du
structure dP (N:Net) (K:Kn) (c:Str) (dc:Int) (x:Str) (r:List Str) (dx:Int):Prop where
 lst:(x::r).getLast?=P3 c
 wk:∃e,walk N (x::r) e/\dx+e=dc
 at_:K x=P3 dx
 nd:(x::r).Nodup
 far:∀y∈x::r,y∈N.ps/\∃dy,K y=P3 dy/\dx<=dy
end Nt
namespace St
open PySem.SetTable
end St
namespace L2
open PySem.W
end L2
namespace Dp
open L2
end Dp
namespace Nt
open L2 Dp
def GF(t b:Int)(u:Tie):Nat->Net->D->Prop
 |0,N,d=>∃(w:o_ Str) (l:Int),d=.tup [CW w,.tup []]/\walkedK 30 N u.a u.b w l/\l*b<=u.len*t
 |m+1,N,d=>∃(w:o_ Str) (l:Int) (us:o_ Tie) (bs:o_ D),d=.tup [CW w,.tup bs]/\(walkedK 30 N u.a u.b w l/\l*b<=u.len*t)/\Over N.ts w us/\us.length<=30/\bs.length=us.length/\∀p∈us.zip bs,GF t b u m (Ah N p.1) p.2
def Zm(A:Net)(t b:Int)(u:Tie)(m:Nat)(x y:D):Prop:=∃(S:o_ Tie) (xs:o_ D),x=.tup^S.map AN/\y=.tup xs/\S.Pairwise Bm/\(∀v∈S,v∈A.ts)/\S.length<=m/\Ft (minus A S)^.tup xs=m_/\u.len*t<Ks (minus A S) xs u.a u.b*b
def GV(A:Net)(t b:Int)(u:Tie)(m:Nat)(row:D):Prop:=(¬Nc A t b u m/\∃x y,row=.tup [.str "in",x,y]/\Zm A t b u m x y)\/(Nc A t b u m/\∃d,row=.tup [.str "out",d]/\GF t b u m A d)
def PapI(N:Net)(t b:Int)(m:Nat)(ord:o_ Tie)(rs:o_ D):Prop:=∀pre u post row,pre++u::post=ord->rs[pre.length]?=P3 row->GV (sub N^Be N t b m [] pre) t b u m row
def UM(N:Net)(t b:Int)(m:Nat)(ord:o_ Tie)(rs:o_ D):Prop:=rs.length=ord.length/\PapI N t b m ord rs
def V0(j:Nat):W2:=λss n P=>∃(N:Net) (u:Tie) (t b:Int) (m:Nat),ss=[.sh^enc N,.sh^AN u,.sh^.int (m:Int)]/\m<=j/\okN N/\u.a∈N.ps/\u.b∈N.ps/\Nc N t b u m/\∀d,GF t b u m N d->P d n
def Nb:W2:=λss n P=>∃(A:Net) (t b:Int) (u:Tie) (m:Nat),ss=[.sh^enc A,.sh^G7 t b,.sh^AN u,.sh^.int (m:Int)]/\okN A/\D4 t b/\u.a∈A.ps/\u.b∈A.ps/\fresh u/\m<=2/\∀row,GV A t b u m row->P row n
def UC:W2:=λss n P=>∃(N:Net) (t b:Int) (m:Nat),ss=[.sh^enc N,.sh^G7 t b,.sh^.int (m:Int)]/\okN N/\D4 t b/\m<=2/\∀(ord:o_ Tie) (rs:o_ D),ord.Perm N.ts->A5 ord->UM N t b m ord rs->P (.tup rs) n
def RK:W2:=λss n P=>∃(A:Net) (S:o_ Tie) (m:Nat),ss=[.sh^enc A,.sh^.int (m:Int),.sh^.tup^S.map AN]/\okN A/\S.Pairwise Bm/\(∀v∈S,v∈A.ts)/\S.length<=m/\P (.bl m_) n
def Ya:W2:=λss n P=>∃(A:Net) (t b:Int) (u:Tie) (m:Nat) (x y:D),ss=[.sh^enc A,.sh^G7 t b,.sh^AN u,.sh^.int (m:Int),.sh^.tup [.str "in",x,y]]/\okN A/\D4 t b/\u.a∈A.ps/\u.b∈A.ps/\Zm A t b u m x y/\P (.bl m_) n
def RG(j:Nat):W2:=λss n P=>∃(N:Net) (t b:Int) (u:Tie) (m:Nat) (d:D),ss=[.sh^enc N,.sh^G7 t b,.sh^AN u,.sh^.int (m:Int),.sh d]/\m<=j/\okN N/\D4 t b/\GF t b u m N d/\P (.bl m_) n
noncomputable def BK(N:Net)(t b:Int)(m:Nat)(ord:o_ Tie):Net:=sub N^Be N t b m [] ord
def K9:W2:=λss n P=>∃(N:Net) (t b:Int) (m:Nat) (pre post:o_ Tie) (u:Tie) (row:D),ss=[.sh^enc^BK N t b m (pre++u::post),.sh^G7 t b,.sh^AN u,.sh^.int (m:Int),.sh row]/\okN N/\D4 t b/\m<=2/\(pre++u::post).Perm N.ts/\A5 (pre++u::post)/\GV (sub N^Be N t b m [] pre) t b u m row/\P .non n
def YZ(r:D):W2:=λss n P=>∃(N:Net) (t b:Int) (m:Nat) (ord:o_ Tie) (rs:o_ D),ss=[.sh^enc N,.sh^G7 t b,.sh^.int (m:Int),.sh^enc^BK N t b m ord,.sh^.tup rs]/\okN N/\N.ps.length<=24/\D4 t b/\m<=2/\ord.Perm N.ts/\A5 ord/\UM N t b m ord rs/\P r n
def Vw:W2:=YZ^.bl m_
def bh(Wr:W2):Au:=(CK (KL^A8^Ag Wr^AG (AK^Ag Ic^AG (AK^AI 0)^AG (AK^H_^Ao (AI 6) BZ) Am)^AG (AK^AI 1)^AG (AK^AI 2)^AG (AK^BC NH (AI 3)^wC^D.int 1)^AG (AK^AI 7) Am) (CY^wC^D.bl n_) Bj)
def bX:Au:=(Bz (Cr 7^Ag K9^AG (AK^AI 3)^AG (AK^AI 1)^AG (AK^AI 6)^AG (AK^AI 2)^AG (AK^BC EL (AI 4)^AI 5) Am)
 (CK (A8^BC (Ex m_) (AI 7)^wC D.non) Fy Bj))
theorem Fa{N:Net}{t b:Int}{m:Nat}:∀(pre:o_ Tie) {kept r:o_ Tie},Be N t b m kept (pre++r)=Be N t b m (Be N t b m kept pre) r
 |[],_,_=>rfl
 |u::pre,kept,r=>by
  rw[kI,B7,B7]
  split <;>exact Fa _
theorem Bh{N:Net}{t b:Int}{m:Nat}:∀{rest kept:o_ Tie},(∀u∈kept,u∈Be N t b m kept rest)/\∀u∈Be N t b m kept rest,u∈kept\/u∈rest
 |[],kept=>#[λu h=>h,λu h=>.inl h]
 | v::r,kept=>by
  rw[B7]
  split
  .exact#[Bh.1,λu h=>(Bh.2 u h).imp id^Sc _]
  .refine#[λu h=>Bh.1 u^Tk _ h,λu h=>?_]
   rcases Bh.2 u h with h|h
   .rcases ZB.mp h with h|h
    .exact .inl h
    .exact .inr (On.mp h▸FM)
   .exact .inr^Sc _ h
section
variable {N:Net}{t b:Int}{m:Nat}{pre post:o_ Tie}{u:Tie}
theorem Ko(nd:(pre++u::post).Nodup):u∈Be N t b m [] (pre++u::post)↔¬Nc (sub N^Be N t b m [] pre) t b u m:=by
 let#[_,n2,n3]:=eP.mp nd;have n2:=(eI.mp n2).1;have hu:u∉Be N t b m [] pre:=λz=>(Bh.2 u z).elim (λz=>nomatch z) λz=>n3 u z u FM rfl;rw[Fa,B7,←hldB_iff]
 split
 .rename_i c
  exact#[λz=>((Bh.2 u z).elim hu n2).elim,λz=>(z c).elim]
 .rename_i c
  exact#[λ_=>c,λ_=>Bh.1 u^TM _ FM]
theorem OZ(nd:(pre++u::post).Nodup)(hr:A5 (pre++u::post)){v:Tie}:(v∈Be N t b m [] (pre++u::post)/\BB (BY v)^BY u=m_)↔v∈Be N t b m [] pre:=by
 let#[_,n2,n3]:=eP.mp nd;let#[_,r2,r3]:=hU.mp hr;constructor
 .rintro⟨hv,hlt⟩
  rw[Fa]at hv
  rcases(Bh (rest:=u::post)).2 v hv with z|z
  .exact z
  .rcases UF.mp z with rfl|z
   .rw[B6]at hlt;cases hlt
   simp_all
 .intro hv
  have hp:v∈pre:=((Bh (rest:=pre)).2 v hv).elim (λz=>nomatch z) id;refine#[by rw[Fa];exact(Bh (rest:=u::post)).1 v hv,?_];cases e:BB (BY v)^BY u with
  |true=>rfl
  |false=>exact absurd (GW^B5 _ _ e^r3 v hp u FM)^n3 v hp u FM
theorem Jw(nd:(pre++u::post).Nodup)(hr:A5 (pre++u::post)):(#[(BK N t b m (pre++u::post)).ps,(BK N t b m (pre++u::post)).ts.filter λv=>BB (BY v)^BY u]:Net)=sub N^Be N t b m [] pre:=by
 unfold BK sub
 congr 1
 rw[iq];refine gK λv _=>?_;rw[e9,dh,decide_eq_true_eq,decide_eq_true_eq,and_comm];exact OZ nd hr
end
theorem Rz{A:Net}(ok:A.Ok){l S:o_ Tie}(hk:∀v∈l,v∈A.ts)(nd:l.Nodup)(p1:S.Perm l)(p2:Fw S):S.Pairwise Bm:=by
 have e:=congrArg Net.ts^F1 ok hk nd p1 p2
 have:S=(sub A l).ts:=e
 rw[this];exact ok.trise.filter _
theorem S8{A:Net}(ok:A.Ok){t b:Int}{u:Tie}{m:Nat}{l S:o_ Tie}(h:brkL A t b u m l)(p1:S.Perm l)(p2:Fw S){xs:o_ D}(hf:Ft (minus A l)^.tup xs=m_)(hg:u.len*t<Ks (minus A l) xs u.a u.b*b):GV A t b u m^.tup [.str "in",.tup^S.map AN,.tup xs]:=by
 have e:minus A S=minus A l:=Sl λv _=>p1.mem_iff;exact .inl #[h.not,_,_,rfl,S,xs,rfl,rfl,Rz ok h.2.1 h.1 p1 p2,λv hv=>h.2.1 v^p1.mem_iff.mp hv,by rw[p1.length_eq];exact h.2.2.1,by rw[e];exact hf,by rw[e];exact hg]
theorem PapI.snoc{N:Net}{t b:Int}{m:Nat}{done rest:o_ Tie}{u:Tie}{rs:o_ D}{row:D}(h:PapI N t b m (done++u::rest) rs)(hl:rs.length=done.length)(hr:GV (sub N (Be N t b m [] done)) t b u m row):PapI N t b m (done++u::rest) (rs++[row]):=λpre v post r e hr'=>by
 rcases Nat.lt_or_ge pre.length rs.length with c|c
 .rw[gW c]at hr'
  exact h pre v post r e hr'
 .have hp:pre.length=rs.length:=by
   have:=(de.mp hr').1
   rw[XV,d8]at this;lk
  let#[rfl,e2]:=List.append_inj e^hp.trans hl;cases e2;rw[eT c,hp,gc]at hr';cases hr';exact hr
section
theorem Qq{M:Net}{t b:Int}{u:Tie}(hn:¬Bu M t b u){o:p_ Int}(h:Far M u.a u.b o){m:Int}(hm:u.len*t<m*b):u.len*t<CC m o*b:=by
 cases o with
 |none=>exact hm
 |some d=>
  show _<(if d<m then d else m)*b
  split
  .exact kg.mp λz=>hn #[d,h,z]
  .exact hm
end
theorem XM{A:Net}(okn:okN A){S:o_ Tie}(hr:S.Pairwise Bm)(hin:∀v∈S,v∈A.ts):(∀v∈S,HE A^AN v=m_)/\RS^S.map AN=m_:=by
 have h:=thn.thinB (N:=A) (ts:=S) #[hin,hr];unfold enc at h;rw[←KS okn.1,dh,dh]at h;exact#[λv hv=>fX.mp h.2.1 _^List.mem_map_of_mem hv,h.2.2]
theorem Over.uniq{N:Net}(ok:N.Ok):∀{w:o_ Str}{us vs:o_ Tie},Over N.ts w us->Over N.ts w vs->us=vs
 |[],_,_,h,_=>h.elim
 |[_],[],[],_,_=>rfl
 |[_],_::_,_,h,_=>h.elim
 |[_],[],_::_,_,h=>h.elim
 |_::_::_,[],_,h,_=>h.elim
 |_::_::_,_::_,[],_,h=>h.elim
 | x::y::r,u::us,v::vs,#[h1,h2,h3],#[g1,g2,g3]=>by
  rw[h3.uniq ok g3];have l1:=(ok.tin u h1).2.2.1;have l2:=(ok.tin v g1).2.2.1
  congr 1
  rcases h2 with⟨rfl,rfl⟩|⟨rfl,rfl⟩
  .rcases g2 with⟨a,c⟩|⟨a,c⟩
   .exact FU ok.trise u h1 v g1 a.symm c.symm
   .rw[a,c]at l2;exact absurd (iB l1 l2)^DX _
  .rcases g2 with⟨a,c⟩|⟨a,c⟩
   .rw[a,c]at l2;exact absurd (iB l1 l2)^DX _
   .exact FU ok.trise u h1 v g1 c.symm a.symm
theorem Gq:∀(rest kept:o_ Tie),(BP kept rest).length<=kept.length+rest.length
 |[],kept=>Re _
 |u::rest,kept=>by
  rw[BH];have h1:=Gq rest kept;have h2:=Gq rest (kept++[u]);simp only[XV,dg,f6]at *
  split <;>lk
theorem PJ:∀(rest kept A B:o_ Tie) (u:Tie),rest=A++u::B->Cn (kept++A) u.a u.b->(BP kept rest).length<kept.length+rest.length
 |[],_,A,B,u,e,_=>by simp at e
 | v::rest,kept,A,B,u,e,h=>by
  rw[BH]
  by_cases c:Cn kept v.a v.b
  .rw[if_pos^cnB_iff.mpr c]
   have:=Gq rest kept
   simp only[dg];lk
  .rw[if_neg λz=>c^cnB_iff.mp z]
   cases A with
   |nil=>
    rw[dk]at h;cases e;exact absurd h c
   |cons w A=>
    cases e
    have:=PJ (A++u::B) (kept++[v]) A B u rfl (by rw[da];exact h)
    show(BP (kept++[v]) (A++u::B)).length<kept.length+(v::(A++u::B)).length;simp only[XV,dg,f6]at *;lk
theorem JY:∀(rest kept:o_ Tie),(∀A u B,rest=A++u::B->¬Cn (kept++A) u.a u.b)->BP kept rest=kept++rest
 |[],kept,_=>(dk _).symm
 |u::rest,kept,h=>by
  rw[BH,if_neg λz=>h [] u rest rfl (by rw[dk];exact cnB_iff.mp z),JY rest (kept++[u]) λA v B e=>by rw[da];exact h (u::A) v B^by rw[e];rfl];rw[da];rfl
def Ac(L:o_ Tie):Prop:=∀u∈L,∀K:o_ Tie,(∀v∈K,v∈L/\v≠u)->¬Cn K u.a u.b
theorem PK{L:o_ Tie}(nd:L.Nodup):(BP [] L).length<L.length↔¬Ac L:=by
 by_cases c:∀A u B,L=A++u::B->¬Cn A u.a u.b
 .have e:=JY L [] c
  rw[e];refine#[λh=>absurd h^fC _,λh=>(h λu hu K hK hc=>?_).elim];let#[A,B,rfl]:=List.append_of_mem hu
  have hAB:∀v∈K,v∈A++B:=λv hv=>by
   let#[m,ne]:=hK v hv
   rcases ZB.mp m with m|m
   .exact Tk _ m
   .rcases UF.mp m with m|m
    .exact absurd m ne
    .exact TM _ m
  let#[R1,t,R2,rfl,n1,n2]:=GB B A (c A u B rfl)^hc.mono hAB;have hu':=Cn.tie (K:=A++u::R1) (TM _ FM:u∈A++u::R1)
  have mono:∀{x y:Str},Cn (A++R1) x y->Cn (A++u::R1) x y:=λh=>h.mono λs hs=>by
   rcases ZB.mp hs with hs|hs
   .exact Tk _ hs
   .exact TM _^Sc _ hs
  refine c (A++u::R1) t R2 (by rw[da];rfl) ?_
  rcases Cn.add (B:=A++R1) (t:=t) (λs hs=>by
   rcases ZB.mp hs with hs|hs
   .exact .inl hs
   .exact .inr^On.mp hs) n2 with h|⟨h1,h2⟩|⟨h1,h2⟩
  .exact absurd h n1
  .exact((mono h1).symm.trans hu'.1).trans (mono h2).symm
  .exact((mono h2).trans hu'.2).trans^mono h1
 .let#[A,h]:=jU.mp c
  let#[u,h]:=jU.mp h;let#[B,h]:=jU.mp h;let#[e,h]:=Classical.not_imp.mp h;have h:=Classical.not_not.mp h
  have:=PJ L [] A B u e h
  refine#[λ_ z=>z u (by rw[e];exact TM _ FM) A (λv hv=>#[by rw[e];exact Tk _ hv,λz=>?_]) h,λ_=>by simpa using this];rw[e,eP]at nd;exact nd.2.2 v hv u FM z
theorem Qh{L L':o_ Tie}(h:L.Perm L')(nd:L.Nodup):(BP [] L').length<L'.length↔(BP [] L).length<L.length:=by
 rw[PK nd,PK^h.nodup_iff.mp nd]
 have:Ac L↔Ac L':=by unfold Ac;simp only[h.mem_iff]
 rw[this]
noncomputable def Mb(M:Net):Bool:=decide ((BP [] M.ts).length<M.ts.length)
abbrev aD(M:Net)(u:Tie):Net:=#[M.ps,M.ts.filter λv=>BB (BY v)^BY u]
end Nt
namespace L2
end L2
namespace Dp
open L2
end Dp
namespace Nt
open L2 Dp
def RL(M:Net):o_ Tie->o_^o_ Str->Prop
 |[],[]=>True
 |u::us,w::ws=>(∃l,walkedK 30 (aD M u) u.a u.b w l)/\RL M us ws
 |_,_=>False
def UA:W2:=λss n P=>∃M:Net,ss=[.sh^enc M]/\okN M/\P (.bl^Mb M) n
def Vo:W2:=λss n P=>∃N:Net,ss=[.sh^enc N]/\okN N/\∀(ord lo:o_ Tie) (ws:o_^o_ Str),ord.Perm N.ts->A5 ord->lo.Perm^JW N (sub N^BP [] ord).ts->A5 lo->RL (sub N^BP [] ord) lo ws->P (.tup^ws.map CW) n
def bq:Au:=(Bz (Cr 6^BC Dl (Bn 1)^AI 3)
 (Bz (Cr 7^BC Dl (Bn 1)^AI 4)
 (Bz (CK (A8^BC (Wc n_) (AI 6)^AI 7) (CY^wC^D.bl m_) Bj)
 (P5 (Ii^BC EL (AI 0)^wC^D.int 0) (Ae 2)^CK (A8^BC (Wc n_) (BC Dl (Bn 1)^AI 2)^AI 7) (GQ 1 (AI 2)^AI 6) Bj))))
theorem Tx{M:Net}(okm:okN M)(u:Tie):okN^aD M u:=#[Io okm.1 (λv hv=>(eE.mp hv).1)^okm.1.trise.filter _,okm.2.1,eJ (fP _ _) okm.2.2]
theorem JX:∀(A B kept:o_ Tie),BP kept (A++B)=BP (BP kept A) B
 |[],_,_=>rfl
 |u::A,B,kept=>by
  rw[kI,BH,BH]
  split <;>exact JX A B _
theorem Gp:∀(rest kept:o_ Tie) (v:Tie),v∈kept->v∈BP kept rest
 |[],_,_,h=>h
 |u::rest,kept,v,h=>by
  rw[BH]
  split
  .exact Gp rest _ v h
  .exact Gp rest _ v^Tk _ h
theorem OJ{N:Net}(okn:okN N){ord:o_ Tie}(o1:ord.Perm N.ts)(o2:A5 ord){u:Tie}(hu:u∈JW N (sub N^BP [] ord).ts):Cn (aD (sub N^BP [] ord) u).ts u.a u.b:=by
 let#[h1,h2]:=eE.mp hu;have h2:u∉(sub N^BP [] ord).ts:=of_decide_eq_true h2;have nd:ord.Nodup:=o1.nodup_iff.mpr^AV okn.1.trise;have h3:u∉BP [] ord:=λz=>h2^sub_mem.mpr #[h1,z];let#[A,B,rfl]:=List.append_of_mem^o1.mem_iff.mpr h1;let#[_,n2,n3]:=eP.mp nd;let#[_,r2,r3]:=hU.mp o2;rw[JX,BH]at h3
 by_cases c:Cn (BP [] A) u.a u.b
 .refine c.mono λv hv=>?_
  have hp:v∈A:=(E9 (rest:=A) v hv).elim (λz=>absurd z d9) id;refine eE.mpr #[sub_mem.mpr #[o1.mem_iff.mp^Tk _ hp,by rw[JX];exact Gp _ _ v hv],?_];cases e:BB (BY v)^BY u with
  |true=>rfl
  |false=>exact absurd (GW^B5 _ _ e^r3 v hp u FM)^n3 v hp u FM
 .rw[if_neg λz=>c^cnB_iff.mp z]at h3
  exact absurd (Gp B _ u^TM _ FM) h3
def c6(L:o_ Tie):Prop:=∀A u B,L=A++u::B->¬Cn A u.a u.b
theorem JF:∀(rest kept:o_ Tie),c6 kept->c6^BP kept rest
 |[],_,h=>h
 | u::rest,kept,h=>by
  rw[BH]
  split
  .exact JF rest kept h
  .rename_i c
   refine JF rest (kept++[u]) λA v B e=>?_
   rcases List.append_eq_append_iff.mp e with⟨as,e1,e2⟩|⟨bs,e1,e2⟩
   .cases as with
    |nil=>
     rw[dk]at e1;have e2:u=v:=by injection e2
     subst e2;rw[e1];exact λz=>c^cnB_iff.mpr z
    |cons a as=>simp at e2
   .cases bs with
    |nil=>
     rw[dk]at e1;have e2:v=u:=by injection e2
     subst e2;rw[←e1];exact λz=>c^cnB_iff.mpr z
    |cons b bs=>
     injection e2 with e2 _
     subst e2;exact h A _ bs e1
theorem Nl{N:Net}(okn:okN N){ord:o_ Tie}(o1:ord.Perm N.ts):Mb^sub N^BP [] ord=n_:=by
 have nd:(BP [] ord).Nodup:=Eg (by rw[eA];exact o1.nodup_iff.mpr^AV okn.1.trise);have hk:∀t∈BP [] ord,t∈N.ts:=λt h=>o1.mem_iff.mp (by simpa using E9 t h);have pm:=MV okn.1 hk nd;unfold Mb;refine decide_eq_false λh=>?_;have h:=(Qh pm.symm nd).mp h;rw[JY (BP [] ord) []^JF ord [] λA u B e=>by simp at e]at h;exact absurd h^fC _
theorem Wk.trans{N:Net}{x y z:Str}{d e:Int}(h:Wk N x y d)(g:Wk N y z e):Wk N x z (d+e):=by
 induction g with
 |nil=>grind
 |snoc _ f ih=>rw[←jt];exact .snoc ih f
def EO(N M:Net)(t b:Int):Prop:=∀{x y:Str}{d:Int},Wk N x y d->∃d',Wk M x y d'/\d'*b<=d*t
theorem bW{x y z:Int}(h:x<=y)(hz:0<=z):x*z<=y*z:=e_ h hz
theorem UY{N:Net}{ts:o_ Tie}{t b:Int}(okn:okN N)(ht:thn N ts)(h:L7 N ts t b):EO N #[N.ps,ts] t b:=by
 intro x y d hw
 induction hw with
 |nil=>exact#[0,.nil,by lk]
 | snoc hw e ih=>
  rename_i y z d l
  let#[d1,w1,h1]:=ih;let#[u,hu,el,hj]:=e.tie okn.1;let#[d2,#[w2,_],h2]:=h u hu
  have w3:Wk #[N.ps,ts] y z d2:=by
   rcases hj with⟨e1,e2⟩|⟨e1,e2⟩
   .grind
   .rw[←e1,←e2];exact Ih (ht.okN okn).1 w2
  refine#[_,w1.trans w3,?_]
  grind
theorem Qk{N:Net}(okn:okN N){t b:Int}(b0:1<=b)(bt:b<=t){ord:o_ Tie}(o1:ord.Perm N.ts):L7 N (sub N^Aa N t b [] ord).ts t b:=by
 intro u hu
 rcases F_^o1.mem_iff.mpr hu with h|⟨k',h1,d,h2,h3⟩
 .exact JS okn (LH okn gL) bt b0^sub_mem.mpr #[hu,h]
 .let#[e,he,le]:=Cf (BJ okn _).1 _ d (Re _) (h2.1.mono λv hv=>by
   let#[a1,a2]:=sub_mem.mp hv;exact sub_mem.mpr #[a1,h1 v a2])
  exact#[e,he,iR (bW le^by lk) h3]
theorem Oh:∀{ks:o_ Key}{ds:o_ D},ks.length=ds.length->ks.Nodup->(∀k∈ks,∀z,BO ks ds k=P3 z->Ep z=m_)->CO ds=m_
 |[],[],_,_,_=>rfl
 |k::ks,d::ds,hl,nd,h=>by
  rw[eI]at nd;show(Ep d&&CO ds)=m_;rw[h k FM d (if_pos rfl),Oh (Nat.succ.inj hl) nd.2 λj hj z hz=>h j (Sc _ hj) z^(if_neg λe=>nd.1^by grind).trans hz];rfl
 |[],_::_,hl,_,_=>by cases hl
 |_::_,[],hl,_,_=>by cases hl
theorem PN{ks:o_ Key}{ds:o_ D}{K:Kn}(M:Dmap ks ds D.int K):CO ds=m_:=Oh M.len M.nd λk hk z hz=>by
 let#[x,rfl]:=M.dom k hk;rw[M.at_]at hz;let#[a,_,rfl]:=eq.mp hz;rfl
end Nt
namespace Dp
open L2
theorem B9{P:eK}{w:eU}{K:Frag}{mg:Str->p_ Db}{base:eC}{x:Str}{k:Nat}{ps:o_ Str}{κ:Kd}{W W':W2}(h:∀ss n P,W' ss n P->W ss n P)(G:Got P w K mg base x k ps κ W):Got P w K mg base x k ps κ W':=by
 let#[f,fd,F,a,b,c,d]:=G;refine#[f,fd,?_,a,b,c,λss n P g=>d ss n P^h ss n P g];refine F.imp λvs H Q E zz=>?_;let#[l,F0,U,V',M,n,ss,Pd,ra,hw,q]:=zz;exact #[l,F0,U,V',M,n,ss,Pd,ra,h _ _ _ hw,q]
end Dp
namespace Nt
open L2 Dp
def Pt:W2:=λss n P=>∃(M:Net) (z:D) (S:o_ Tie),ss=[.sh^enc M,.sh z]/\Eu z=P3^S.map AN/\okN M/\Cg z/\P (enc^minus M S) n
noncomputable def DZ(N:Net)(ord:o_ Tie):Net:=sub N^BP [] ord
def UG:W2:=λss n P=>∃(N:Net) (ord lo:o_ Tie) (ws:o_^o_ Str),ss=[.sh^enc N,.sh^enc^DZ N ord,.sh^.tup^ws.map CW]/\okN N/\N.ps.length<=24/\ord.Perm N.ts/\A5 ord/\lo.Perm^JW N (DZ N ord).ts/\A5 lo/\RL (DZ N ord) lo ws/\P (.bl m_) n
def Vy:W2:=Ob
def Ye:W2:=λss n P=>∃(N:Net) (t b:Int) (d:D),ss=[.sh^enc N,.sh^G7 t b,.sh d]/\okN N/\N.ps.length<=24/\N.ts.length<=10/\D4 t b/\b<=t/\ME N t b d/\P (.bl m_) n
def YU:W2:=λss n P=>∃(N T:Net) (t b:Int),ss=[.sh^enc N,.sh^G7 t b,.sh^enc T]/\okN N/\okN T/\T.ps=N.ps/\D4 t b/\∀r:Bool,(r=m_↔EO N T t b)->P (.bl r) n
def Yc:W2:=λss n P=>∃(M:Net) (u:Tie),ss=[.sh^enc M,.sh^AN u]/\okN M/\u∈M.ts/\P (enc^Ah M u) n
def MU(M:Net):Int:=(M.ts.map Tie.len).sum
def Vu:W2:=λss n P=>∃M:Net,ss=[.sh^enc M]/\okN M/\P (.int^MU M) n
structure Th90 (N:Net) (t b:Int) (ps:EN) (m:Nat) (ord:List Tie) (G Q S R:Net) (d:D):Prop where
 ok:okN N
 l24:N.ps.length<=24
 l10:N.ts.length<=10
 tm:D4 t b
 bt:b<=t
 m1:m<=1
 pr:LV N ps
 all:∀u∈N.ts,(u.a,u.b)∈ps
 o1:ord.Perm N.ts
 o2:A5 ord
 eG:G=sub N (Aa N t b [] ord)
 eQ:Q=BD N t b ps N ord.reverse
 eS:S=BK N t b m ord
 eR:R=DZ N ord
 ls:ME N t b d
def Py:W2:=λss n P=>∃(N:Net) (t b:Int) (ps:EN) (m:Nat) (ord:o_ Tie) (G Q S R:Net) (d:D),ss=[.sh^enc N,.sh^G7 t b,.sh^CM ps,.sh^.int (m:Int),.sh^.tup [enc G,enc Q,enc S,enc R,d]]/\Th90 N t b ps m ord G Q S R d/\P (.bl m_) n
theorem G_:∀ss n P,G5 ss n P->Pt ss n P:=by
 rintro ss n P ⟨M,u,rfl,okm,⟨h1,h2,h3,h4⟩,p⟩;refine#[M,_,[u],rfl,rfl,okm,HR λd hd=>?_,?_]
 .rw[On.mp hd]
  exact NA (DU h1) (DU h2) h1.2.1 h2.2.1^by lk
 .rw[show minus M [u]=Ah M u by unfold minus Ah;congr 1;refine gK λv _=>?_;rw[decide_eq_decide,On]]
  exact p
theorem GL:∀ss n P,Ic ss n P->Pt ss n P:=by
 rintro ss n P ⟨M,z,S,rfl,hz,okm,hS,p⟩;refine#[M,z,S,rfl,hz,okm,?_,p]
 have:=CH okm.1 hS
 cases z with
 |tup xs=>cases hz;exact this.1
 |lst xs=>cases hz;exact this.2
 |_=>cases hz
theorem LF:∀ss n P,Vn ss n P->Pt ss n P:=by
 rintro ss n P ⟨N0,M,z,S,rfl,hz,ok0,okm,hS,p⟩;exact#[M,z,S,rfl,hz,okm,VG ok0.1 hz hS,p]
theorem JI{M:Net}:∀{us:o_ Tie}{ws:o_^o_ Str},RL M us ws->ws.length=us.length
 |[],[],_=>rfl
 |_::_,_::_,h=>congrArg (·+1)^JI h.2
 |[],_::_,h=>h.elim
 |_::_,[],h=>h.elim
theorem Mx{M:Net}(okm:okN M)(S:o_ Tie):okN^minus M S:=Gc okm S
def PR(N T:Net)(t b:Int)(x:Str):Prop:=∀y d,Least N x y d->∃d',Least T x y d'/\d'*b<=d*t
theorem Ni{N:Net}(ok:N.Ok){x y:Str}{d:Int}(h:Wk N x y d):(y=x/\d=0)\/x∈N.ps:=by
 induction h with
 |nil=>exact .inl #[rfl,rfl]
 | snoc w e ih=>
  rcases ih with⟨rfl,_⟩|z
  .let#[t,ht,_,hj]:=e.tie ok
   let#[m1,m2,_]:=ok.tin t ht
   rcases hj with⟨e1,_⟩|⟨e1,_⟩
   .exact .inr (e1▸m1)
   .exact .inr (e1▸m2)
  .exact .inr z
theorem NG{N T:Net}{t b:Int}(okT:okN T)(b0:0<=b)(h:EO N T t b)(x:Str):PR N T t b x:=λy d hd=>by
 let#[d',w,hle]:=h hd.1;let#[e,he,le]:=Cf okT.1 _ d' (Re _) w;exact#[e,he,iR (e_ le b0) hle]
theorem P1{N T:Net}{t b:Int}(okn:okN N)(t0:0<=t)(h:∀x∈N.ps,PR N T t b x):EO N T t b:=by
 intro x y d w
 rcases Ni okn.1 w with⟨rfl,rfl⟩|hx
 .exact#[0,.nil,by lk]
 .let#[e,he,le]:=Cf okn.1 _ d (Re _) w
  let#[d',hd',hle]:=h x hx y e he;exact#[d',hd'.1,iR hle^e_ le t0]
theorem Ei{N:Net}{t b:Int}{m:Nat}:∀{rest kept:o_ Tie}{u:Tie},u∈rest->u∈Be N t b m kept rest\/∃k',(∀v∈k',v∈Be N t b m kept rest)/\Nc (sub N k') t b u m
 | v::r,kept,u,h=>by
  rw[B7]
  rcases UF.mp h with rfl|h
  .split
   .rename_i c
    exact .inr #[kept,Bh.1,hldB_iff.mp c]
   .exact .inl^Bh.1 u^TM _ FM
  .split
   .exact Ei h
   .exact Ei h
structure Kp90 (N T:Net) (t b:Int):Prop where
 ps:T.ps=N.ps
 th:thn N T.ts
 nr:L7 N T.ts t b
theorem Kp90.net{N T:Net}{t b:Int}(h:Kp90 N T t b):T=#[N.ps,T.ts]:=by rw[←h.ps]
theorem Kp90.ok{N T:Net}{t b:Int}(h:Kp90 N T t b)(okn:okN N):okN T:=h.net▸h.th.okN okn
theorem Kp90.wide{N T:Net}{t b:Int}(h:Kp90 N T t b)(okn:okN N):EO N T t b:=by
 intro x y d w
 have:=UY okn h.th h.nr w
 rw[←h.net]at this;exact this
theorem QR{N:Net}(okn:okN N){k' K:o_ Tie}(h:∀v∈k',v∈K){t b:Int}(b0:0<=b){u:Tie}(hn:Bu (sub N k') t b u):Bu (sub N K) t b u:=by
 let#[d,hd,hle]:=hn
 let#[e,he,le]:=Cf (BJ okn K).1 _ d (Re _) (hd.1.mono λv hv=>by
  let#[a1,a2]:=sub_mem.mp hv;exact sub_mem.mpr #[a1,h v a2])
 exact#[e,he,iR (e_ le b0) hle]
theorem Dx(M:Net):minus M []=M:=by
 unfold minus;rw[List.filter_eq_self.mpr λv _=>decide_eq_true d9]
section
variable {N:Net}{t b:Int}{ps:EN}{m:Nat}{ord:o_ Tie}{G Q S R:Net}{d:D}
theorem Th90.g(h:Th90 N t b ps m ord G Q S R d):Kp90 N G t b:=by
 have:=Qk h.ok h.tm.1 h.bt h.o1
 rw[←h.eG]at this;exact#[by rw[h.eG];rfl,by rw[h.eG];exact FR h.ok _,this]
theorem Th90.s(h:Th90 N t b ps m ord G Q S R d):Kp90 N S t b:=by
 have e:=h.eS;unfold BK at e;subst e;have th:=FR h.ok^Be N t b m [] ord;refine#[rfl,th,λu hu=>?_]
 rcases Ei (N:=N) (t:=t) (b:=b) (m:=m) (kept:=[])^h.o1.mem_iff.mpr hu with z|⟨k',z1,z2⟩
 .exact JS h.ok th h.bt h.tm.1^sub_mem.mpr #[hu,z]
 .have:=z2 []^dq _
  rw[Dx]at this;exact QR h.ok z1 (by have:=h.tm.1;lk) this
theorem HF{N:Net}{t b:Int}{ps:EN}:∀{ord:o_ Tie}{M:Net},(BD N t b ps M ord).ps=M.ps
 |[],_=>rfl
 |v::r,M=>by
  show(if CD N t b ps (Ah M v)=m_ then BD N t b ps (Ah M v) r else BD N t b ps M r).ps=_
  split
  .exact HF
  .exact HF
theorem Th90.q(h:Th90 N t b ps m ord G Q S R d):Kp90 N Q t b:=by
 have okQ:okN Q:=by rw[h.eQ];exact FT h.ok
 have hp:Q.ps=N.ps:=by rw[h.eQ];exact HF
 have kp:keepsP N t b ps Q:=by
  rw[h.eQ];exact EU λp _ d hd=>#[d,hd,fV h.bt^hd.1.pos h.ok.1]
 refine#[hp,#[λu hu=>?_,okQ.1.trise],λu hu=>?_]
 .rw[h.eQ]at hu;exact ED u hu
 .let#[e,he,le]:=Cf h.ok.1 (s:=u.a) (x:=u.b) _ u.len (Re _)^by have:=Wk.snoc Wk.nil (CB hu).1;rw[h_]at this;exact this
  let#[d',hd',hle]:=kp _ (h.all u hu) e he;rw[show(#[N.ps,Q.ts]:Net)=Q by rw[←hp]];exact#[d',hd',iR hle^e_ le^by have:=h.tm.2.2.1;lk]
theorem JZ{r:o_ Tie}(okn:okN N)(tm:D4 t b)(bt:b<=t)(th:thn N r)(kp:Nf N t b r):Kp90 N #[N.ps,r] t b:=by
 refine#[rfl,th,λu hu=>?_]
 by_cases hr:u∈r
 .exact JS okn th bt tm.1 hr
 .exact(E_ okn tm bt th).mpr kp u^eE.mpr #[hu,decide_eq_true hr]
end
theorem WA{N:Net}{r:o_ Tie}(okn:okN N)(th:thn N r):r.Sublist N.ts:=by
 have e:(sub N r).ts=r:=Cs ((g9 ((AV okn.1.trise).filter _)^AV th.2).mpr λt=>by
  rw[eE,decide_eq_true_eq];exact#[λh=>h.2,λh=>#[th.1 t h,h]]) (CP^okn.1.trise.filter _)^CP th.2
 have:(sub N r).ts.Sublist N.ts:=gL
 rwa[e]at this
theorem OO{N:Net}{t b:Int}{u:Tie}:Nc N t b u 0↔Bu N t b u:=by
 constructor
 .intro h
  have:=h []^Re _
  rw[Dx]at this;exact this
 .intro h S hS
  rw[gi.mp^Nat.le_zero.mp hS,Dx];exact h
theorem Eh{N:Net}{t b:Int}:∀{rest kept:o_ Tie},Be N t b 0 kept rest=Aa N t b kept rest
 |[],kept=>rfl
 |u::r,kept=>by
  have e:Qo (sub N kept) t b u 0=CT (sub N kept) t b u:=by rw[e9,hldB_iff,nearB_iff,OO]
  rw[B7,Cz,e,Eh,Eh]
theorem DM{N:Net}(okn:okN N){t b:Int}{m:Nat}:∀{rest kK kG:o_ Tie},(∀u∈kK,u∈kG)->(∀g∈kG,Cn kK g.a g.b)->∀u∈BP kK rest,u∈Be N t b m kG rest
 |[],kK,kG,h1,_,u,hu=>h1 u hu
 | v::rest,kK,kG,h1,h2,u,hu=>by
  rw[BH]at hu;rw[B7]
  by_cases c:Cn kK v.a v.b
  .rw[if_pos^cnB_iff.mpr c]at hu
   split
   .exact DM okn h1 h2 u hu
   .refine DM okn (λs hs=>Tk _^h1 s hs) (λg hg=>?_) u hu
    rcases ZB.mp hg with hg|hg
    .exact h2 g hg
    .rw[On.mp hg];exact c
  .rw[if_neg λz=>c^cnB_iff.mp z]at hu
   have hn:¬Qo (sub N kG) t b v m=m_:=λz=>by
    let#[d,hd,_]:=hldB_iff.mp z []^dq _;rw[Dx]at hd;refine c^(Wk.cn (BJ okn kG).1 hd.1).bridge λg hg=>h2 g (sub_mem.mp hg).2
   rw[if_neg hn];refine DM okn (λs hs=>?_) (λg hg=>?_) u hu
   .rcases ZB.mp hs with hs|hs
    .exact Tk _^h1 s hs
    .exact TM _ hs
   .rcases ZB.mp hg with hg|hg
    .exact(h2 g hg).mono λs hs=>Tk _ hs
    .rw[On.mp hg];exact(Cn.tie^TM _ FM).1
theorem Fx{N T:Net}{t b:Int}(hp:T.ps=N.ps)(h:EO N T t b):Nf N t b T.ts:=λu hu=>by
 have w:=Wk.snoc Wk.nil (CB hu).1;rw[h_]at w;let#[d,w,hle]:=h w;refine#[d,?_,hle];rw[←hp];exact w
theorem NJ:∀{xs ys:o_ Tie},iU (BQ^xs.map AN)^BQ^ys.map AN=m_->xs=ys
 |[],[],_=>rfl
 |[],_::_,h=>by cases h
 |_::_,[],h=>by cases h
 |x::xs,y::ys,h=>by
  have h:(Dn (AN x)^AN y&&_)=m_:=h;rw[dh]at h;rw[(IR x y).mp h.1,NJ h.2]
theorem Qu{M N:Net}(e:M.ps=N.ps)(h:Dn (enc M)^enc N=m_):M=N:=by
 let#[p,x]:=M;let#[q,y]:=N;replace e:p=q:=e;subst e;have h:(_&&(iU (BQ^x.map AN)^BQ^y.map AN&&m_))=m_:=h;rw[dh,dh]at h;rw[NJ h.2.1]
theorem Kk{N:Net}(okn:okN N):Cg^enc N:=by
 have:=Fz okn
 exact C_ (B:=1000001) (by cbv) this.1^by lk
section
variable {N:Net}{t b:Int}{ps:EN}{m:Nat}{ord:o_ Tie}{G Q S R T:Net}{d:D}
theorem Kp90.few(h:Kp90 N T t b)(okn:okN N){k:Nat}(hk:Jg N t b k):k<=T.ts.length:=hk _ (WA okn h.th)^Fx h.ps^h.wide okn
theorem Kp90.tot(h:Kp90 N T t b)(okn:okN N)(o1:ord.Perm N.ts)(o2:A5 ord):MU^DZ N ord<=MU T:=Qv okn o1 o2 h.th.1 λu hu=>by
 let#[d,hd,_]:=Fx h.ps (h.wide okn) u hu;rw[←h.ps]at hd;exact hd.cn (h.ok okn).1
theorem Kp90.one(h:Kp90 N T t b)(okn:okN N){k:Nat}(hk:Jg N t b k){u:Tie}(hl:(Ah T u).ts.length<k):¬EO N (Ah T u) t b:=λw=>by
 have:k<=(Ah T u).ts.length:=hk _ (WA okn #[λv hv=>h.th.1 v (eE.mp hv).1,h.th.2.filter _])^Fx (T:=Ah T u) h.ps w
 lk
theorem Th90.need(h:Th90 N t b ps m ord G Q S R d){u:Tie}(hu:u∈Q.ts):¬EO N (Ah Q u) t b:=λw=>by
 have ho:u∈ord.reverse:=jE.mpr^h.o1.mem_iff.mpr^h.q.th.1 u hu;have hb:0<=b:=by have:=h.tm.1;lk
 have okQ:okN Q:=h.q.ok h.ok;have f:=FS (N:=N) (t:=t) (ps:=ps) hb h.ok u ho (by rw[←h.eQ];exact hu);rw[←h.eQ]at f;have k:CD N t b ps^Ah Q u=m_:=keepsB_iff.mpr λp _ d hd=>NG (Bv okQ u) hb w p.1 p.2 d hd;rw[k]at f;cases f
end
def bd:D->Nat
 |.int k=>k.toNat
 |_=>0
def Zc(xs:o_ Str)(i:Nat)(d:D):Str×Str:=(xs.getD i "",xs.getD (bd d) "")
end Nt
namespace K90
open L2 Dp Nt
theorem cu{d:fJ}{ps:o_ Str}{n:Nat}(c:∀f:Nat->Db,bindArgs d #[(eZ n).map f,[]]=pure^ps.zip^(eZ n).map f)(us:o_ Db)(h:us.length=n):bindArgs d #[us,[]]=pure^ps.zip us:=by
 have e:us=(eZ n).map λi=>us.getD i .none:=by
  apply List.ext_getElem <;>simp_all
 rw[e];exact c _
local macro_rules|`(tactic|walk_at "R")=>`(tactic|(intro _ _ _ _ h;repeat (first|(obtain⟨e,_⟩:=h;subst e;rfl)|(obtain⟨_,h⟩:=h))))
local macro_rules|`(tactic|walk_at "L")=>`(tactic|(intro _ _ _ h;repeat (first|(obtain⟨e,_⟩:=h;subst e;rfl)|(obtain⟨_,h⟩:=h))))
local macro_rules|`(tactic|walk_at "B")=>`(tactic|(intro _ _ _ _ _ _;exact cu λ_=>rfl))
def Ht(K:Frag)(x:Str)(st:f8):Prop:=∃(f:Ch) (oc:Db) (od an:p_ Ch) (sl:Array^p_ Db) (kV dc pm cd ct:Db),nsIn K mainGlobals x=P3^P3^.ref f/\K.lookup f=P3 #[oc,od,.func^fnOf x x (DN st) (Bp st) (AS st) .none kV dc pm an cd ct,sl]/\codeIn K cd x=m_/\keepIn K^.ref f=m_
def Hn(K:Frag)(x:Str):Prop:=nsIn K mainGlobals x=P3 l_
def Hi(K:Frag)(x:Str)(i:Int):Prop:=∃t,nsIn K mainGlobals x=P3^P3^.int i t
theorem Ht.mk{K:Frag}{x:Str}{st:f8}{f:Ch}{oc:Db}{od an:p_ Ch}{sl:Array^p_ Db}{kV dc pm cd ct:Db}(a:nsIn K mainGlobals x=P3^P3^.ref f)(l:K.lookup f=P3 #[oc,od,.func^fnOf x x (DN st) (Bp st) (AS st) .none kV dc pm an cd ct,sl])(c:codeIn K cd x=m_)(k:keepIn K^.ref f=m_):Ht K x st:=#[f,oc,od,an,sl,kV,dc,pm,cd,ct,a,l,c,k]
theorem Hi.mk{K:Frag}{x:Str}{i:Int}{t:Tok}(a:nsIn K mainGlobals x=P3^P3^.int i t):Hi K x i:=#[t,a]
theorem Hn.mk{K:Frag}{x:Str}(a:nsIn K mainGlobals x=P3 l_):Hn K x:=a
structure C0 (K:Frag) (mg:Str->Option Db) (h:eC):Prop where
 X:K.In h
 G:h.Ns mainGlobals mg
 h00:Ht K "is_whole" (top 5)
 h01:Ht K "is_tuple_of" (top 6)
 h02:Ht K "is_rising" (top 7)
 h03:Ht K "rank_of" (top 8)
 h04:Ht K "order_of" (top 9)
 h05:Ht K "steps_of" F2
 h06:Ht K "only" (top 11)
 h07:Ht K "is_tie_of" (top 12)
 h08:Ht K "is_thin" (top 13)
 h09:Ht K "ahead_of" (top 14)
 h0a:Ht K "without" (top 15)
 h0b:Ht K "left_out" (top 16)
 h0c:Ht K "length_of" (top 18)
 h0d:Ht K "length_between" (top 19)
 h0e:Ht K "ties_over" (top 20)
 h0f:Ht K "nearest_of" (top 21)
 h0g:Ht K "least_ways" (top 22)
 h0h:Ht K "far" (top 23)
 h0i:Ht K "way_of" (top 24)
 h0j:Ht K "are_prices" (top 26)
 h0k:Ht K "price_gap" (top 27)
 h0l:Ht K "is_fair" (top 28)
 h0m:Ht K "prices_from" (top 29)
 h0n:Ht K "is_within" (top 31)
 h0o:Ht K "least_beyond" (top 32)
 h0p:Ht K "near_way" (top 33)
 h0q:Ht K "thinned" (top 34)
 h0r:Ht K "greedy_paper" (top 35)
 h0s:Ht K "ways_paper" (top 36)
 h0t:Ht K "fewest_of" Hj
 h0u:Ht K "lost_of" (top 40)
 h0v:Ht K "case_of" Kb
 h0w:Ht K "least_thin" (top 42)
 h0x:Ht K "way_fault" (top 44)
 h0y:Ht K "prices_fault" (top 45)
 h0z:Ht K "greedy_fault" (top 46)
 h10:Ht K "is_greedy_entry" (top 47)
 h11:Ht K "lets_greedy" (top 48)
 h12:Ht K "lets_ways" (top 49)
 h13:Ht K "are_broken" (top 51)
 h14:Ht K "shows_in" (top 52)
 h15:Ht K "is_bush" Ka
 h16:Ht K "breaking_fault" (top 54)
 h17:Ht K "lets_breaking" (top 55)
 h18:Ht K "shows_far" (top 59)
 h19:Ht K "shows_by" Iz
 h1a:Ht K "count_of" I_
 h1b:Ht K "shows" (top 62)
 h1c:Ht K "has_ways" (top 63)
 h1d:Ht K "is_least" (top 64)
 h1e:Ht K "shows_near" (top 66)
 h1f:Ht K "is_side" (top 67)
 h1g:Ht K "shows_apart" (top 68)
 h1h:Ht K "is_shown" (top 69)
 h1i:Ht K "is_needed" (top 70)
 h1j:Ht K "has_shape" (top 71)
 h1k:Ht K "lets_pairs" (top 72)
 h1l:Ht K "lengths_of" (top 74)
 h1m:Ht K "first_lost" (top 75)
 h1n:Ht K "thinned_for_pairs" (top 76)
 h1o:Ht K "shown_of" (top 77)
 h1p:Ht K "needed_of" (top 78)
 h1q:Ht K "pairs_paper" (top 79)
 h1r:Ht K "broken_of" Hk
 h1s:Ht K "steady_thinned" (top 82)
 h1t:Ht K "bush_of" Kc
 h1u:Ht K "breaking_entry" (top 84)
 h1v:Ht K "breaking_paper" (top 85)
 h1w:Ht K "least_tree" (top 87)
 h1x:Ht K "tree_paper" (top 88)
 h1y:Ht K "has_round" (top 89)
 h1z:Ht K "lets_tree" (top 90)
 h20:Ht K "_law_feed" E4
 h21:Ht K "_law_next" Ds
 h22:Ht K "_law_places" (top 94)
 h23:Ht K "_law_length" (top 95)
 h24:Ht K "_law_net" (top 96)
 h25:Ht K "_law_times" (top 97)
 h26:Ht K "_law_least" (top 98)
 h27:Ht K "_law_within" (top 99)
 h28:Ht K "_law_each_let" (top 100)
 h29:Ht K "_law_all_let" (top 101)
 h2a:Ht K "_law_without" (top 102)
 h2b:Ht K "_law_sum" (top 103)
 h2c:Ht K "law" I0
 z0:Hn K "abs"
 z1:Hn K "all"
 z2:Hn K "bool"
 z3:Hn K "enumerate"
 z4:Hn K "int"
 z5:Hn K "isinstance"
 z6:Hn K "len"
 z7:Hn K "list"
 z8:Hn K "max"
 z9:Hn K "min"
 z10:Hn K "range"
 z11:Hn K "repr"
 z12:Hn K "reversed"
 z13:Hn K "sorted"
 z14:Hn K "str"
 z15:Hn K "sum"
 z16:Hn K "tuple"
 z17:Hn K "zip"
 v0:Hi K "MOST_TIES_OF_LEAST" 10
 v1:Hi K "MOST_DEEP" 15
 v2:Hi K "MOST_CASES" 4000
def Ctx(P:eK)(w:eU)(K:Frag)(mg:Str->p_ Db)(base h:eC):Prop:=C0 K mg h
abbrev Ctx.Y{P:eK}{w:eU}{K:Frag}{mg:Str->p_ Db}{base h:eC}(A:Ctx P w K mg base h)(x:Str)(k:Nat)(ps:o_ Str)(κ:Kd)(W:W2):Prop:=Got P w K mg base x k ps κ W
section
variable {P:Program}{w:World}{K:Frag}{mg:Str->p_ Value}{h base:Heap}{x:Str}{st:Stmt}
theorem Ht.fn(X:K.In h)(G:h.Ns mainGlobals mg)(H:Ht K x st):∃f fd,mg x=P3^.ref f/\Fun K x x st f fd:=by
 let#[f,oc,od,an,sl,kV,dc,pm,cd,ct,a,l,c,k]:=H;exact#[f,_,mg_of X G a,TJ (st:=st) l c k]
theorem C0.T(A:C0 K mg h):Txt K mg:=#[mg_none_of A.X A.G A.z0,mg_none_of A.X A.G A.z1,mg_none_of A.X A.G A.z2,mg_none_of A.X A.G A.z3,mg_none_of A.X A.G A.z4,mg_none_of A.X A.G A.z5,mg_none_of A.X A.G A.z6,mg_none_of A.X A.G A.z7,mg_none_of A.X A.G A.z8,mg_none_of A.X A.G A.z9,mg_none_of A.X A.G A.z10,mg_none_of A.X A.G A.z11,mg_none_of A.X A.G A.z12,mg_none_of A.X A.G A.z13,mg_none_of A.X A.G A.z14,mg_none_of A.X A.G A.z15,mg_none_of A.X A.G A.z16,mg_none_of A.X A.G A.z17,(let #[t,e]:=A.v0;#[t,mg_of A.X A.G e]),(let #[t,e]:=A.v1;#[t,mg_of A.X A.G e]),(let #[t,e]:=A.v2;#[t,mg_of A.X A.G e])]
theorem Ctx.got{k:Nat}{ps:o_ Str}{κ:Kd}{W:W2}(A:Ctx P w K mg base h)(H:Ht K x st)
  (ok:∀{f:Ch}{fd:fJ},Txt K mg->Fun K x x st f fd->mg x=P3^.ref f->Binds K fd ps []->FnOk P w K mg base G6 k f fd ps^UP K κ W ps.length)
  (hW:∀ss n P,W ss n P->ss.length=ps.length:=by walk_at "L") (hb:∀(kV doc pm:Db) (an:p_ Ch) (cdv ct:Db) (us:o_ Db),us.length=ps.length->bindArgs (fnOf x x (DN st) (Bp st) (AS st) .none kV doc pm an cdv ct) #[us,[]]=pure^ps.zip us:=by walk_at "B"):Got P w K mg base x k ps κ W:=by
 let#[f,fd,m,F]:=H.fn A.X A.G;exact#[f,fd,ok A.T F m^F.binds hb,m,F.kp,F.binds hb,hW]
theorem Ctx.gk{k:Nat}{ps:o_ Str}{κ:Kd}{W:W2}{wb:Au}(A:Ctx P w K mg base h)(H:Ht K x st)(N:o_ Str)
  (hb:∀{f:Ch}{cdv:Db}{A:eh}{outer:o_ Env}{s:Rs}{H:Hp}{E:XK},Txt K mg->N.Nodup->Room k^A.deeper^envOfC x (AS st) s.heap.objs.size f cdv->Ng (Hb G6 P w K mg base N x (AS st) f cdv A outer s H E).nox κ (Bp st) wb)
  (hW:∀{ss n Pd},W ss n Pd->wb {nx:=λn _=>κ=.sh/\Pd .non n,rt:=Pd} n (ss++fN (N.length - ps.length) .no)) (S:BU N ps^AS st:=by constructor <;>first|rfl|decide +kernel) (hNp:ps.length<=N.length:=by decide) (hL:∀ss n P,W ss n P->ss.length=ps.length:=by walk_at "L") (hB:∀(kV doc pm:Db) (an:p_ Ch) (cdv ct:Db) (us:o_ Db),us.length=ps.length->bindArgs (fnOf x x (DN st) (Bp st) (AS st) .none kV doc pm an cdv ct) #[us,[]]=pure^ps.zip us:=by walk_at "B"):Got P w K mg base x (k+1) ps κ W:=
 A.got H (λT F _ _=>cq F S (hb T S.nd) hW hNp) hL hB
end
section
variable {P:Program}{w:World}{K:Frag}{mg:Str->p_ Value}{base:Heap}
variable {h:Heap}(A:Ctx P w K mg base h)
include A
theorem E7:A.Y "is_whole" 1 ["thing"] .sh YV:=A.got A.h00 (λT F m b=>bw F ["thing"] (λ_ hr=>(AD^AH^Bs (FF VJ (dv 0) rfl T.Gac rfl T.Gar (by decide +kernel))^CF^Te (FF Sy (dv 0) rfl T.Gac rfl T.Gao (by decide +kernel)))) (@λss n Pd h=>by
 let#[d,rfl,q]:=h.out;cases d <;>exact q)) λ_ _ _ h=>QD h
theorem AU:A.Y "is_tuple_of" 1 ["count","thing"] .sh T5:=A.gk A.h01 ["count","thing"] (λT _ hr=>(AD^AH^Bs (FF kit_tuple (dv 1) rfl T.Gac rfl T.Gaa (by decide +kernel))^CF^BN Cc El (G9 T.Gab^dv 1) (dv 0)^Bg _)) (@λss n Pd h=>by
 let#[k,d,rfl,h]:=h;cases d with
 |tup xs=>exact#[_,_,rfl,rfl,h]
 |_=>exact h)
theorem Ec:A.Y "is_rising" 1 ["things"] .sh Pw:=A.gk A.h02 ["things"] (λT _ hr=>(AD^AH (Ar (Co rfl) G4 rfl T.Gah fZ (AR (Hw ["ahead","behind"] [l_,l_] (Pb rfl T.Gam (AR (dv 0)^AR (Gz LL G3 (dv 0) (C4 AC) Dy) Ab)) (λnq=>Ky^AQ (Bo 0 nq)^AQ (Bo 1 nq) BS) Az^BN (Ct hr) EM (dv 0) (dv 1)^Bg _) Ab)))) LQ
theorem F5:A.Y "rank_of" 1 ["tie"] .sh aO:=A.gk A.h03 ["tie"] (λ_ _ hr=>(AD^AH^Ap^AF (Ad (dv 0) AC)^AF (Ad (dv 0) AC)^AF (Ad (dv 0) AC) AJ)) (@λss n Pd h=>by
 let#[x,y,z,rfl,p]:=h;exact#[_,AE rfl,_,AE rfl,_,AE rfl,z3,p])
theorem BL:A.Y "order_of" 4 ["ties"] .fr UE:=A.gk A.h04 ["ties"] (λT _ hr=>(AD^AH (Td (F5 A) (hr.mono^by cbv) rfl T.Gag rfl (dv 0)))) (@λss n Pd h=>by
 let#[d,ts,rfl,hd,h64,p]:=h;refine#[ts.map AN,WC,hd,by rw[Ev];exact h64,λx hx Q hq=>?_,#[λx hx=>?_,λx hx y hy ka kb ea eb=>?_],λxs' hp ho=>?_]
 .let#[t,_,rfl]:=TW.mp hx
  exact#[_,_,_,rfl,hq]
 .let#[t,_,rfl]:=TW.mp hx
  exact#[BY t,rfl,gn _ _]
 .let#[t,_,rfl]:=TW.mp hx
  let#[u,_,rfl]:=TW.mp hy;cases(show P3^BY t=P3 ka from ea);cases(show P3^BY u=P3 kb from eb);rfl
 .let#[ts',h1,rfl]:=Rj (g:=Tb) (λ_=>rfl) hp
  exact p ts' h1^Sd ho)
omit A in
theorem k7:BU ["net","steps","place","a","b","length"] ["net"]^AS F2:=#[rfl,rfl,rfl,by decide +kernel,rfl,by decide +kernel,by decide +kernel]
omit A in
theorem dJ{f:Ch}{fd:fJ}(F:Fun K "steps_of" "steps_of" F2 f fd):FnOk P w K mg base G6 1 f fd ["net"]^UP K .sh T7 1:=by
 refine F.ok (k:=0) k7 (λvs H Q E h=>h.1) λcdv A outer s H vs Q E hr h=>?_;let#[hl,F0,U,V',M,n,ss,Pd,ra,#[N,rfl,ok,lp,lt,p],q]:=h;let#[dom,fU,uV,vM,fd0,pa]:=ra;cases pa with
 |cons r1 pa=>
 cases pa;let#[v,e1,h1]:=r1.1;cases e1;let#[an,vs,rfl,hn,v1,r,rfl,hp,v2,r2,rfl,ht,e2]:=h1;cases(show r2=[]from e2);let#[ap,us,rfl,hpn,hps]:=hp;let#[at_,ws,rfl,htn,hts]:=ht;have nd:=k7.nd;have hu:=Kq hr;have szl:=PySem.sizeLine_eq;have lus:us.length=N.ps.length:=by rw[hps.length,Ev]
 have lws:ws.length=N.ts.length:=by rw[hts.length,Ev]
 refine#[_,Ba (E5 (i:=1) nd rfl (fh rfl) JG)
  (Ba (LS d7 rfl (SV^En ix_tup (pv 0) A3 λ_ _=>rfl) (GZ (i:=2) nd rfl (fh rfl)) (Dt (IM hu (pv 1) (pv 2) JG rfl)))
  (Ba (LS d7 rfl (SV^En ix_tup (pv 0) A3 λ_ _=>rfl) (SX rfl (GY (GZ (i:=3) nd rfl (fh rfl))^GY (GZ (i:=4) nd rfl (fh rfl))^GY (GZ (i:=5) nd rfl (fh rfl)) O8))
   (Ba (IM hu (LY hu (pv 1) (pv 3) λ_ _=>rfl) (pv 4) (pv 5) rfl)^Dt (IM hu (LY hu (pv 1) (pv 4) λ_ _=>rfl) (pv 3) (pv 5) rfl)))
  (Dt^F3^Sa^pv 1))),?_]
 refine λd hd=>?_;have old0:∀b o,H b=P3 o->BF H d (.dK []) b=P3 o:=λb o e=>by rw[AO^Aq e hd];exact e
 have SqN:∀H':Hp,(∀b o,H b=P3 o->H' b=P3 o)->SqT K H' an [.ref ap,.ref at_]:=λH' o=>SqT.of^o _ _ hn;have SqP:∀H':Hp,(∀b o,H b=P3 o->H' b=P3 o)->SqT K H' ap us:=λH' o=>SqT.of^o _ _ hpn;have SqW:∀H':Hp,(∀b o,H b=P3 o->H' b=P3 o)->SqT K H' at_ ws:=λH' o=>SqT.of^o _ _ htn;refine#[_,rfl,an,_,0,_,rfl,rfl,SqN _ old0,rfl,ap,rfl,#[_,SqP _ old0],?_];refine PQ (xs:=us) (λi Z H'=>∃(as:o_ (Str×Ch)) (x2 x3 x4 x5:p_ V),Z=[P3^.ref an,P3^.ref d,x2,x3,x4,x5]/\as.map (·.1)=N.ps.take i/\Stp H d as (λ_=>[]) H') ?_ (λi Z H' hi #[as,x2,x3,x4,x5,e,hm,st]=>SqP _ st.old) ?_ ?_
 .exact#[[],_,_,_,_,rfl,rfl,old0,hd,AW,(λx hx=>by cases hx),ef,ef]
 .rintro i x Z H' hx ⟨as,x2,x3,x4,x5,rfl,hm,st⟩
  have hi:i<N.ps.length:=by rw[←lus];exact(de.mp hx).1
  let#[x',hx',hAt]:=hps.get (i:=i) (d:=.str N.ps[i]) (by rw[di,Op hi];rfl);rw[hx]at hx';cases hx';let#[rfl,_]:=hAt;intro q hq;have las:as.length<=i:=by have:=congrArg iI hm;rw[Ev,gP]at this;lk
  have nq:d≠q:=λe=>by rw[←e,st.top]at hq;cases hq
  have las2:(as.map λx=>((.inr x.1:Key),V.ref x.2)).length=as.length:=Ev ..;refine#[_,rfl,_,rfl,d,_,rfl,DPut.k (k:=.inr N.ps[i]) (by rw[AO nq];exact st.top)^by lk,?_];refine#[as++[(N.ps[i],q)],_,_,_,_,rfl,?_,st.more hq ?_ rfl]
  .rw[eX,hm,List.take_succ,Op hi];rfl
  .rw[hm];exact OB (LP ok.rise) hi
 .rintro Z H' ⟨as,x2,x3,x4,x5,rfl,hm,st⟩
  rw[lus,kC]at hm;refine#[_,rfl,an,_,1,_,rfl,rfl,SqN _ st.old,rfl,at_,rfl,#[_,SqW _ st.old],?_];refine PQ (xs:=ws) (λi Z H'=>∃(x2 x3 x4 x5:p_ V),Z=[P3^.ref an,P3^.ref d,x2,x3,x4,x5]/\Stp H d as (λp=>(D8 (N.ts.take i) p).map kv) H') #[_,_,_,_,rfl,st] (λi Z H' hi #[x2,x3,x4,x5,e,st]=>SqW _ st.old) ?_ ?_
  .rintro i x Z H' hx ⟨x2,x3,x4,x5,rfl,st⟩
   have hi:i<N.ts.length:=by rw[←lws];exact(de.mp hx).1
   let#[x',hx',hAt]:=hts.get (i:=i) (d:=AN N.ts[i]) (by rw[di,Op hi];rfl);rw[hx]at hx';cases hx';have hmem:N.ts[i]∈N.ts:=fk hi;have hsnoc:N.ts.take (i+1)=N.ts.take i++[N.ts[i]]:=by rw[List.take_succ,Op hi];rfl
   have hpre:(N.ts.take (i+1)).Pairwise Bm:=ok.trise.sublist^List.take_sublist _ _;have hlt2:∀s∈N.ts.take (i+1),cs s.a<cs s.b:=λs hs=>(ok.tin s^List.mem_of_mem_take hs).2.2.1;rw[hsnoc]at hpre hlt2;have new:=TR hpre hlt2;have ltk:(N.ts.take i).length<=1000:=by rw[gP];lk
   generalize N.ts[i]=t at hAt hmem hsnoc new;generalize N.ts.take i=ts at hsnoc new st ltk;let#[m1,m2,m3,_]:=ok.tin t hmem;have hab:t.a≠t.b:=λe=>by rw[e]at m3;exact gH _ m3
   let#[ta,tb,tl]:=t;let#[tt,us3,rfl,htt,hit]:=hAt;let#[va,r3,rfl,#[rfl,_],vb,r4,rfl,#[rfl,_],vl,r5,rfl,rfl,e5]:=hit;cases(show r5=[]from e5);rw[←hm]at m1 m2;let#[#[xa,pa],ha,ea]:=TW.mp m1;let#[#[xb,pb],hb,eb]:=TW.mp m2;have ea':ta=xa:=ea.symm;have eb':tb=xb:=eb.symm;subst ea' eb';clear ea eb;replace hab:ta≠tb:=hab;replace new:tb∉(D8 ts ta).map (·.1)/\ta∉(D8 ts tb).map (·.1):=new;have ga:=DGet.k (k:=.inr ta) st.top;rw[IH st.nms ha]at ga;have l1:=PC ts ta;refine#[tt,_,rfl,SqT.of^st.old _ _ htt,rfl,_,_,rfl,_,_,rfl,_,_,rfl,rfl,?_];refine#[_,rfl,_,rfl,_,rfl,d,_,rfl,ga,_,rfl,pa,_,rfl,DPut.k (k:=.inr tb) (st.inn _ ha).2.2 (by show((D8 ts ta).map kv).length<sizeLine;rw[Ev];lk),?_];have st1:=st.put (tb2:=λp=>(D8 ts p++if ta=p then [(tb,tl)]else []).map kv) ha (kvs:=putK ((D8 ts ta).map kv) (.inr tb)^.int tl) (by rw[O5 new.1,if_pos rfl]) (λq hq=>by rw[if_neg^fL hq,dk]);have gb:=DGet.k (k:=.inr tb) st1.top;rw[IH st1.nms hb]at gb;have l2:=PC ts tb;have ib:=(st1.inn _ hb).2.2;simp only[if_neg hab,dk]at ib;refine#[_,rfl,_,rfl,_,rfl,d,_,rfl,gb,_,rfl,pb,_,rfl,DPut.k (k:=.inr ta) ib (by rw[Ev];lk),?_];refine#[_,_,_,_,rfl,st1.put hb ?_ λq hq=>?_]
   .show(D8 (N.ts.take (i+1)) tb).map kv=_
    rw[hsnoc,Mt,O5 new.2];show((D8 ts tb++((if ta=tb then [(tb,tl)]else [])++if tb=tb then [(ta,tl)]else [])).map kv)=_;rw[if_neg hab,if_pos rfl];rfl
   .show(D8 (N.ts.take (i+1)) q).map kv=_
    rw[hsnoc,Mt];show((D8 ts q++((if ta=q then [(tb,tl)]else [])++if tb=q then [(ta,tl)]else [])).map kv)=_;rw[if_neg^fL hq,dk]
  .rintro Z H' ⟨x2,x3,x4,x5,rfl,st⟩
   rw[lws,kC]at st
   have old:∀(f:Ch->Obj) b o,H b=P3 o->Fi H' (as.map (·.2)) f b=P3 o:=λf b o e=>by
    rw[Di λhm=>by let#[x,hx,e2]:=TW.mp hm;have:=(st.inn x hx).1;rw[e2,e]at this;cases this];exact st.old b o e
   refine#[_,rfl,(as.map fun(x:Str×Ch)=>x.2),λb hb=>?_,λf=>q (.ref d) (Fi H' (as.map fun(x:Str×Ch)=>x.2) f) (ET N) n (λb o e=>#[o,old f b o e,λ_=>rfl,λ_ _=>rfl]) (λg hg=>?_) (show At K M (Fi H' (as.map fun(x:Str×Ch)=>x.2) f) (ET N)^.ref d from st.at_ dom hm f) p]
   .let#[x,hx,rfl]:=TW.mp hb
    exact#[_,(st.inn x hx).2.2]
   .let#[a,r,cells,hf,hcf,hc,rest]:=fd0 g hg
    exact#[a,r,cells,old f _ _ hf,hcf,#[hc.1,old f _ _ hc.2],rest]
theorem E6:A.Y "steps_of" 1 ["net"] .sh T7:=A.got A.h05 λ_ F _ _=>dJ F
theorem C2:A.Y "only" 1 ["net","ties"] .sh Em:=A.gk A.h06 ["net","ties"] (λT _ hr=>(AD^AH^Ap^AF (Ad (dv 0) AC)^AF (OR T.Gaa (Ar Js Pm rfl T.Gag jA (AR (G8 1) Ab))) AJ)) (@λss n Pd h=>by
 let#[N,z,ts,rfl,hz,h64,p]:=h;refine#[_,AE (j:=0) rfl,z,_,rfl,hz,by simp_all,#[λx hx=>?_,λx hx y hy ka kb ea eb=>?_],λxs' hp ho=>?_]
 .let#[t,_,rfl]:=TW.mp hx
  exact#[Et t,rfl,gn _ _]
 .let#[t,_,rfl]:=TW.mp hx
  let#[u,_,rfl]:=TW.mp hy;cases(show P3^Et t=P3 ka from ea);cases(show P3^Et u=P3 kb from eb);rfl
 .let#[ts',h1,rfl]:=Rj (g:=Tb) (λ_=>rfl) hp
  exact#[z2,p ts' h1^O_ ho])
theorem DL:A.Y "is_tie_of" 2 ["net","thing"] .sh cI:=A.gk A.h07 ["net","thing"] (λ_ _ hr=>(AD^AH^Bs (BN (CN hr) CV (dv 1) (Ad (dv 0) AC)^by with_unfolding_all rfl)^CF^cg hr (E7 A)^Ai (Ad (dv 1) AC) AB)) (@λss n Pd h=>by
 let#[N,d,rfl,ok,hl,p]:=h;refine#[_,AE (j:=1) rfl,hl,(CH ok λ_ h=>h).1,_,rfl,?_];cases c:(N.ts.map AN).any λy=>Dn y d with
 | false=>
  have:HE N d=n_:=by
   rw[ft];intro z;let#[s,hs,rfl]:=tofB_iff.mp z;rw[Cp,decide_eq_true hs]at c;cases c
  rw[this]at p;exact p
 | true=>
  let#[e,he,q]:=h9.mp c;let#[s,hs,rfl]:=TW.mp he;let#[z,rfl,hz]:=Qt q;refine#[_,AE (j:=2) rfl,[z],rfl,rfl,?_]
  have:HE N^.tup [.str s.a,.str s.b,z]=RX z:=by
   rw[e9,tofB_iff];constructor
   .rintro⟨t,_,e⟩
    have e:z=.int t.len:=by injection e with e;injection e with _ e;injection e with _ e;injection e
    rw[e];rfl
   .intro hw
    cases z with
    |int i=>exact#[s,hs,by rw[hz i rfl];rfl]
    |_=>cases hw
  rw[this]at p;exact p)
theorem Df:A.Y "is_thin" 3 ["net","thing"] .sh aN:=A.gk A.h08 ["net","thing"] (λT _ hr=>(AA (AT (DTW.dt^Bk (Aj^AZ^cg hr (AU A)^Ai AC^AM 1 AB)^BV^Aj^AZ (FF kit_tuple (Ad (dv 1) AC) rfl T.Gac rfl T.Gaa (by decide +kernel))) (AD^AH BE) AL)
 (AD^AH^Bs (BN (La hr) Pp (Ad (dv 1) AC) (Ad (dv 0) AC)^Bg _)^Bs (Ar (Co rfl) G4 rfl T.Gah fZ (AR (Hw ["net","tie"] [P3 0,l_] (A6^Ad (dv 1) AC) (λnq=>Bo 1 nq) Az^cg hr (DL A)^AM 0^AM 1 AB) Ab))^CF^cg hr (Ec A)^Ai (Ad (dv 1) AC) AB))) (@λss n Pd h=>by
 let#[N,d,rfl,ok,l1,l2,hf,hs,hd,p]:=h;refine#[2,d,rfl,?_];cases h2:tupleOfB 2 d with
 |false=>
  rw[MP λp xs e=>by rw[e]at h2;cases h2]at p;exact Ci p
 | true=>
  let#[x,y,rfl]:=bH h2;refine A1 #[_,AE (j:=1) rfl,?_];cases y with
  | tup xs=>
   rw[←KS ok]at p;have f1:Ew (10 ^ 41) x:=hf.1;have f2:Fs (10 ^ 41) xs:=hf.2.1;have hd':max (Kw x)^max (IU xs+1) 0+1<=90:=hd;have hs':Np x+1+(Jz xs+1+0)<=200000:=hs;refine A1 #[_,AE (j:=0) rfl,_,AE (j:=0) rfl,C_ (B:=10 ^ 41) (by cbv) f1^by lk,FX ok.names,?_];refine OY (b1:=Dn x^.tup^N.ps.map .str) (b2:=xs.all^HE N&&RS xs) (P:=Pd) (n:=n) (k:=λP=>_) (λ_ hp=>?_) p;refine#[_,AE (j:=1) rfl,by show xs.length<=10000000;have:=PH xs;lk,?_];refine BA (λd=>.bl^HE N d) (λρ=>∃s,ρ=[.sh^enc N,s]) _ _ _ _ ?_ #[_,rfl] ?_
   .rintro e he ρ m nx ⟨s,rfl⟩ hnx
    have dx:IU xs<=88:=by lk
    exact#[N,e,rfl,ok,C_ (B:=10 ^ 41) (by cbv) (fines_iff.mp f2 e he) (by have:=dps_le.mp dx e he;lk),hnx _ #[_,rfl]]
   rw[eA];refine#[_,_,rfl,FL (HE N) xs,?_];rw[Tv];refine OY (b1:=xs.all^HE N) (b2:=RS xs) (P:=Pd) (n:=n) (k:=λP=>_) (λha hp=>?_) hp;let#[ts,rfl,hts]:=MQ ha
   have:=M7 ts
   refine#[_,AE (j:=1) rfl,_,_,rfl,rfl,by rw[Ev];lk,λa ha b hb=>?_,hp];let#[s,_,rfl]:=TW.mp ha;let#[t,_,rfl]:=TW.mp hb;exact#[_,Ln s t]
  |_=>
   rw[MP λp xs e=>by cases e]at p;exact Ci p)
theorem CS:A.Y "ahead_of" 2 ["net","tie"] .sh FO:=A.gk A.h09 ["net","tie"] (λ_ _ hr=>(AD^AH^cg hr (C2 A)^AM 0^AX (Dz^Hw ["tie","other"] [P3 1,l_] (A6^Ad (dv 0) AC) (λnq=>Bo 1 nq) (IV^Bq (Ct hr) EM (cg hr (F5 A)^AM 1 AB)^cg hr (F5 A)^AM 0 AB)^dv 1) AB)) (@λss n Pd h=>by
 let#[M,u,rfl,okm,p]:=h;have ok:=okm.1;have l60:=okm.2.2;refine#[_,AE (j:=1) rfl,by show(M.ts.map AN).length<=10000000;rw[Ev];lk,?_];refine EI (λd=>match d with|.tup [.str x,.str y,.int l]=>BB [.inl l,.inr x,.inr y]^BY u|_=>n_) id (λρ=>∃s,ρ=[.sh^AN u,s]) _ _ _ _ ?_ #[_,rfl] ?_
 .rintro d hd ρ m nx sk ⟨s,rfl⟩ h1 h2
  let#[v,hv,rfl]:=TW.mp hd;refine#[_,_,_,rfl,_,_,_,rfl,BY v,BY u,rfl,rfl,rfl,?_];rw[Qf];show if BB (BY v) (BY u)=m_ then _ else _
  exact B8 (λc=>h1 _ #[_,rfl] c) λc=>h2 _ #[_,rfl]^ft.mpr c
 .rw[eA,jc]
  have e:(M.ts.map AN).filter (λd=>match d with|.tup [.str x,.str y,.int l]=>BB [.inl l,.inr x,.inr y]^BY u|_=>n_)=(M.ts.filter λv=>BB (BY v)^BY u).map AN:=by
   rw[jV];rfl
  rw[e];have okd:=LH okm^gL (l:=M.ts) (p:=λv=>BB (BY v)^BY u);refine#[M,_,M.ts.filter λv=>BB (BY v)^BY u,rfl,rfl,by have:=fP (λv=>BB (BY v)^BY u) M.ts;lk,λts' p1 p2=>?_];rw[Cs p1 p2^CP okd.2];exact p)
theorem Bb:A.Y "without" 2 ["net","ties"] .sh Pt:=A.gk A.h0a ["net","ties"] (λ_ _ hr=>(AD^AH^cg hr (C2 A)^AM 0^AX (Dz^Hw ["ties","tie"] [P3 1,l_] (A6^Ad (dv 0) AC) (λnq=>Bo 1 nq) (IV^Bq (EG hr) CV (dv 1)^dv 0)^dv 1) AB)) (@λss n Pd h=>by
 let#[M,z,gone,rfl,hz,okm,hl,p]:=h;have ok:=okm.1;have l60:=okm.2.2;refine#[_,AE (j:=1) rfl,by show(M.ts.map AN).length<=10000000;rw[Ev];lk,?_];refine EI (λd=>decide (Tb d∉gone)) id (λρ=>∃s,ρ=[.sh z,s]) _ _ _ _ ?_ #[_,rfl] ?_
 .rintro d hd ρ m nx sk ⟨s,rfl⟩ h1 h2
  let#[t,ht,rfl]:=TW.mp hd;refine#[Br ok ht,hl,_,hz,?_];rw[Cp,←decide_not];exact B8 (λc=>h1 _ #[_,rfl] c) λc=>h2 _ #[_,rfl]^ft.mpr c
 .rw[eA,jc,jV]
  have okd:=Mx okm gone;refine#[M,_,(minus M gone).ts,rfl,rfl,by have:=okd.2.2;lk,λts' p1 p2=>?_];rw[Cs p1 p2^CP okd.1.trise];exact p)
theorem CQ:A.Y "left_out" 5 ["net","thin"] .fr aQ:=A.gk A.h0b ["net","thin"] (λ_ _ hr=>(AD^AH^cg hr (BL A)^Ai (Hw ["thin","tie"] [P3 1,l_] (A6^Ad (dv 0) AC) (λnq=>Bo 1 nq) (IV^Bq (EG hr) CV (dv 1)^Ad (dv 0) AC)^dv 1) AB)) (@λss n Pd h=>by
 let#[N,ts,rfl,ok,h64,hts,p]:=h;refine#[_,AE (j:=1) rfl,by show(N.ts.map AN).length<=10000000;rw[Ev];lk,?_];refine EI (λd=>!((ts.map AN).any λy=>Dn y d)) id (λρ=>∃s,ρ=[.sh^enc #[N.ps,ts],s]) _ _ _ _ ?_ #[_,rfl] ?_
 .rintro d hd ρ m nx sk ⟨s,rfl⟩ h1 h2
  let#[t,ht,rfl]:=TW.mp hd;refine#[_,AE (j:=1) rfl,Br ok ht,(CH ok hts).1,_,rfl,?_];exact B8 (λc=>h1 _ #[_,rfl] c) λc=>h2 _ #[_,rfl]^ft.mpr c
 .rw[eA,jc]
  have e:(N.ts.map AN).filter (λd=>!((ts.map AN).any λy=>Dn y d))=(N.ts.filter λt=>decide (t∉ts)).map AN:=by
   rw[jV]
   congr 1
   refine gK λt _=>?_;show(!((ts.map AN).any λy=>Dn y^AN t))=decide (t∉ts);rw[Cp,decide_not]
  rw[e];exact#[_,_,rfl,rfl,jd (fP _ _) h64,p])
theorem Gg:A.Y "length_of" 2 ["net","thing"] .sh cL:=A.gk A.h0c ["net","thing","steps","length","here","there"] (λT nd hr=>(AA (AT (DTW.dt^Bk (Aj^AZ (FF kit_tuple (dv 1) rfl T.Gac rfl T.Gaa (by decide +kernel)))^BV^Bq Cc El (G9 T.Gab^dv 1) AC) (AD^AH Af) AL)
 (AA (AT (Aj^AZ (Ar (Co rfl) G4 rfl T.Gah fZ (AR (Hw ["place"] [l_] (A6^dv 1) (λnq=>Bo 0 nq) Az (FF VI (dv 0) rfl T.Gac rfl T.Gat (by decide +kernel))) Ab))) (AD^AH Af) AL)
 (AA (Bi 2 nd^cg hr (E6 A)^AM 0 AB)
 (AA (AT (Bq (EH hr) FN (Ad (dv 1) AC)^dv 2) (AD^AH Af) AL)
 (AA (Bi 3 nd AC)
 (AA (A7 d7 rfl (TZ rfl T.Gam (AF (dv 1)^AF (Gz LL G3 (dv 1) (C4 AC) Dy) AJ)) (Ky^AQ (Bo 4 nd)^AQ (Bo 5 nd) BS) (AA (AT (Bq (EH hr) FN (dv 5)^Bc hr (dv 2)^dv 4) (AD^AH Af) AL)
 (AD (Vd (i:=3) nd rfl (fh rfl) (Bc hr (Bc hr (dv 2)^dv 4)^dv 5)))))
 (AD^AH^dv 3)))))))) (@λss n Pd h0=>by
 let#[N,d,rfl,ok,lp,lt,fd,p]:=h0;cases d with
 | tup xs=>
  have hl:=Ow xs;have hz:Jz xs<=160000:=fd.2.1;have p':Pd (if xs.all FC then Xr N^strsOf xs else .non) n:=p;refine#[_,_,rfl,rfl,?_];show if((xs.length:Int)==0)=m_ then _ else _
  cases xs with
  |nil=>exact Ci p'
  | cons x0 r0=>
   rw[show(((x0::r0).length:Int)==0)=n_ from beq_eq_false_iff_ne.mpr^by rw[dg];lk];refine A1 #[by lk,?_];refine BA (λd=>.bl^FC d) (λρ=>∃s,ρ=[s]) _ _ _ _ ?_ #[_,rfl] ?_
   .rintro d hd ρ m nx ⟨s,rfl⟩ hnx
    have:=hnx [.sh d] #[_,rfl]
    cases d <;>exact this
   rw[eA];refine#[_,_,rfl,FL FC (x0::r0),?_];rw[Tv];show if(!(x0::r0).all FC)=m_ then _ else _
   cases ha:(x0::r0).all FC with
   |false=>rw[ha]at p';exact Ci p'
   | true=>
    rw[ha]at p';let#[ys,e]:=MX ha;rw[e,Ip]at p';cases ys with
    |nil=>cases e
    | cons y r=>
     rw[e8]at e;cases e;refine A1 #[N,rfl,ok,by lk,by lk,?_];refine#[.str y,AE (j:=0) rfl,_,_,.inr y,rfl,rfl,?_];show if(!(BO (N.ps.map .inr) (N.ps.map^Sk N.ts)^.inr y).isSome)=m_ then _ else _
     rw[II];have p2:Pd (if y∈N.ps then XS^Lo N.ts y r 0 else .non) n:=p'
     by_cases hy:y∈N.ps
     .rw[if_pos hy]at p2 ⊢
      refine A1 #[_,_,(y::r).map .str,r.map .str,rfl,rfl,by show P3^Dp.cutD (D.str y::r.map .str) (P3 1) l_=_;rw[Q2];rfl,?_];refine M5 ok r y 0 _ _ hy ?_;cases c:Lo N.ts y r 0 with
      |none=>rw[c]at p2;exact p2
      |some l=>rw[c]at p2;exact λ_ _=>p2
     .rw[if_neg hy]at p2 ⊢
      exact Ci p2
 |_=>exact p)
theorem By:A.Y "length_between" 3 ["net","a","b","thing"] .sh Wm:=A.gk A.h0d ["net","a","b","thing","length"] (λ_ nd hr=>(AA (Bi 4 nd^cg hr (Gg A)^AM 0^AM 3 AB)
 (AA (AT (DTW.dt^Bk (Bq B3 C8 (dv 4) Af)^Bk (Bq Kg RA (Ad (dv 3) AC)^dv 1)^BV^Bq Kg RA (Ad (dv 3)^YG AC)^dv 2) (AD^AH Af) AL)
 (AD^AH^dv 4)))) (@λss n Pd h=>by
 let#[M,a,b,w,d,rfl,okm,hw,p]:=h;have e:=OG okm hw;let#[#[r,rfl],hl,hwk,h30,hin]:=hw;refine#[M,CW (a::r),rfl,okm.1,by have:=okm.2.1;lk,okm.2.2,P2 okm.1 h30 hin,?_];rw[e];refine#[rfl,.str a,AE (j:=0) rfl,?_];refine B8 (λc=>absurd c^by simp) λ_=>?_;refine#[1,rfl,.str b,VH hl,?_];refine B8 (λc=>absurd c^by simp) λ_=>?_;exact p)
theorem Eb:A.Y "ties_over" 2 ["net","way"] .fr YX:=A.gk A.h0e ["net","way","steps"] (λT nd hr=>(AA (Bi 2 nd^cg hr (E6 A)^AM 0 AB)
 (AD^AH^Hw ["steps","here","there"] [P3 2,l_,l_] (Pb rfl T.Gam (AR (dv 1)^AR (Gz LL G3 (dv 1) (C4 AC) Dy) Ab)) (λnq=>Ky^AQ (Bo 1 nq)^AQ (Bo 2 nq) BS) Az^Ap^AF (Ar (Q5 rfl) YN rfl T.Gan boot_min (AR (dv 1)^AR (dv 2) Ab))^AF (Ar (Q8 rfl) YR rfl T.Gas boot_max (AR (dv 1)^AR (dv 2) Ab))^AF (Bc hr (Bc hr (dv 0)^dv 1)^dv 2) AJ))) (@λss n Pd h=>by
 let#[N,w,d,rfl,okn,hw,hl,hin,p]:=h;have ok:=okn.1;refine#[N,rfl,ok,by have:=okn.2.1;lk,by have:=okn.2.2;lk,?_]
 have go:∀(r:o_ Str) (x:Str) (d:Int) (acc:o_ Tie) (s1 s2:Slot),walk N (x::r) d->(∀y∈x::r,y∈N.ps)->
   (∀us:o_ Tie,Over N.ts (x::r) us->us.length=r.length->Pd (.lst^(acc++us).map AN) n)->
   Ce (D_ 2^An (Ae 1)^An (Ae 2) CU) Ey (MG^Ao (RP WX^Ao (AI 1)^Ao (AI 2) BZ)^Ao (RP WZ^Ao (AI 1)^Ao (AI 2) BZ)^Ao (BC Dl (BC Dl (AI 0)^AI 1)^AI 2) BZ) (λacc n2=>Pd (.lst acc) n2) (DY ((x::r).map .str)^r.map .str) (acc.map AN) n [.sh^ET N,s1,s2]:=by
  intro r
  induction r with
  |nil=>
   intro x d acc s1 s2 hw hin h
   have:=h [] trivial rfl
   rw[dk]at this;exact this
  | cons y r ih=>
   intro x d acc s1 s2 hw hin h;let#[l,d',he,hw',rfl]:=hw;let#[t,ht,tl,te,ea,eb]:=XD ok he;subst tl;have hx:=hin x FM;refine#[rfl,rfl,x,y,rfl,x,y,rfl,_,_,_,Sk N.ts x,rfl,Al x,KY hx,_,_,_,.int t.len,rfl,Al y,?_,z3,?_]
   .show BO ((D8 N.ts x).map λz=>.inr z.1) ((D8 N.ts x).map λz=>.int z.2)^.inr y=_
    rw[IJ]
    have:=IQ ok he
    unfold look at this;rw[this];rfl
   have et:D.tup [.str (if decide (y.cps.toList<x.cps.toList)=m_ then y else x),.str (if decide (x.cps.toList<y.cps.toList)=m_ then y else x),.int t.len]=AN t:=by
    show D.tup [.str (if decide (cs y<cs x)=m_ then y else x),.str (if decide (cs x<cs y)=m_ then y else x),.int t.len]=AN t;rw[ea,eb];rfl
   rw[et]
   have:=ih y d' (acc++[t]) (.sh^.str x) (.sh^.str y) hw' (λz hz=>hin z^Sc _ hz) λus h1 h2=>by
    have:=h (t::us) #[ht,te,h1]^by rw[dg,dg,h2]
    rw[da];exact this
   rw[eX]at this;exact this
 cases w with
 |nil=>exact hw.elim
 | cons x r=>
  rw[dg]at hl;refine#[_,_,(x::r).map .str,r.map .str,rfl,rfl,by show P3^Dp.cutD (D.str x::r.map .str) (P3 1) l_=_;rw[Q2];rfl,?_,?_]
  .unfold DY
   rw[jW,Ev,Ev];lk
  .refine go r x d [] _ _ hw hin λus h1 h2=>?_
   rw[eA];exact p us h1^(by first|exact u0|exact u1|exact u2|exact w0|exact w1|omega))
theorem J5:A.Y "nearest_of" 1 ["waiting","found"] .sh aP:=A.gk A.h0f ["waiting","found"] (λT _ hr=>(AD^AH^Ad (Ar (Q6 hr) YO rfl T.Gan boot_min (AR (Hw ["found","place"] [P3 1,l_] (A6^G8 0) (λnq=>Bo 1 nq) Az^Ap^AF (Ad (Bc hr (G8 0)^dv 1) AC)^AF (dv 1) AJ) Ab)) AC)) (@λss n Pd h=>by
 let#[Wt,ks,ds,F,rfl,M,hF,hne,hl,p]:=h;refine#[by show(Wt.map D.str).length<=10000000;rw[Ev];lk,?_]
 have dist:∀x∈Wt,∃d q,F x=P3 (d,q):=λx hx=>by
  cases e:F x with
  |none=>exact absurd e^hF x hx
  |some a=>exact#[a.1,a.2,rfl]
 refine BA (λd=>match d with|.str x=>.tup [.int ((F x).getD (0,l_)).1,.str x]|d=>d) (λρ=>∃s,ρ=[.br^.dic ks ds,s]) _ _ _ _ ?_ #[_,rfl] ?_
 .rintro d hd ρ m nx ⟨s,rfl⟩ hnx
  let#[x,hx,rfl]:=TW.mp hd;let#[dx,q,ex]:=dist x hx;refine#[ks,ds,_,HY (dx,q),rfl,rfl,by rw[M.at_,ex];rfl,_,AE (j:=0) rfl,(by cbv:2<=sizeLine),?_]
  grind
 rw[eA,fY];refine#[_,rfl,?_,#[λx hx=>?_,λx hx y hy ka kb ea eb=>?_],λx hx hmin=>?_]
 .rw[Ev]
  cases Wt with
  |nil=>exact absurd rfl hne
  |cons a r=>exact Nat.succ_pos _
 .let#[z,_,rfl]:=TW.mp hx
  exact#[_,rfl,gn _ _]
 .let#[z,_,rfl]:=TW.mp hx
  let#[u,_,rfl]:=TW.mp hy;cases(show P3 [iV _,f7 _]=P3 ka from ea);cases(show P3 [iV _,f7 _]=P3 kb from eb);rfl
 .let#[v,hv,rfl]:=TW.mp hx
  refine#[_,AE (j:=1) rfl,p v hv λy hy dv pv dy py ev ey=>?_]
  have:=cF (hmin _ (TW.mpr #[y,hy,rfl]) _ _ rfl rfl)
  rw[ev,ey]at this;exact this)
theorem C3:A.Y "least_ways" 2 ["net","start"] .fr Yd:=A.gk A.h0g ["net","start","steps","found","waiting","place","other","step","length"] (λ_ nd hr=>(AA (Bi 2 nd^cg hr (E6 A)^AM 0 AB)
 (AA (Qw 3 nd^NN (dv 1)^Ap^AF AC^AF Af AJ)
 (AA (Qw 4 nd^A4^AF (dv 1) AJ)
 (AA (Jl d7 (TV^G8 4) (AA (Bi 5 nd^cg hr (J5 A)^AX (Dz^G8 4)^AX (Dz^G8 3) AB)
 (AA (DC 4 Nd PySem.F.slot_list_remove PySem.F.type_list_remove (QU hr) aG (pv 4)^AF (dv 5) AJ)
 (AD (A7 d7 rfl (Ta^Bc hr (dv 2)^dv 5) (Ky^AQ (Bo 6 nd)^AQ (Bo 7 nd) BS) (AA (Bi 8 nd^As Ax BI (Ad (Bc hr (G8 3)^dv 5) AC)^dv 7)
 (AD (AT (Bq (EH hr) FN (dv 6)^G8 3) (AA (DC 4 Nd Ox Oo BG D1 (pv 4)^AF (dv 6) AJ)
 (AD^Gw (i:=3) hr (pv 3) (dv 6)^Ap^AF (dv 8)^AF (dv 5) AJ))^AD^AT (Bq (Ct hr) EM (dv 8)^Ad (Bc hr (G8 3)^dv 6) AC) (AD^Gw (i:=3) hr (pv 3) (dv 6)^Ap^AF (dv 8)^AF (dv 5) AJ) AL))))))))
 (AD^Pa 3^pv 3)))))) (@λss n Pd h=>by
 let#[N,s,rfl,#[ok,lp,lt],hs,p]:=h;have szl:=PySem.sizeLine_eq;refine#[N,rfl,ok,by lk,by lk,?_];refine#[(by cbv:2<=sizeLine),_,Al s,(by cbv:1<=sizeLine),?_];refine HB (λm n' ρ=>n'=n/\∃(Wt:o_ Str) (ks:o_ Key) (ds:o_ D) (F:KJ) (s5 s6 s7 s8:Slot),ρ=[.sh^enc N,.sh^.str s,.sh^ET N,.ow^.dic ks ds,.ow^.lst^Wt.map .str,s5,s6,s7,s8]/\Dmap ks ds HY F/\Dj N s F Wt/\m+ks.length=N.ps.length+Wt.length) (N.ps.length) #[rfl,[s],[.inr s],[HY (0,l_)],_,_,_,_,_,rfl,Dmap.one,Dj.init hs,rfl] ?_ ?_
 .rintro m n' ρ N' ⟨rfl,Wt,ks,ds,F,s5,s6,s7,s8,rfl,M,J,hm⟩ hN
  cases Wt with
  |nil=>
   exact#[n_,rfl,_,rfl,p ks ds F M J.told]
  | cons w0 Wr=>
   refine#[m_,rfl,?_];have insW:∀x∈w0::Wr,x∈N.ps:=λx hx=>J.ins x^J.wfound x hx;have wl:=LD J.nd insW;refine#[w0::Wr,ks,ds,F,rfl,M,J.wfound,gn _ _,by lk,λv hv hmin=>?_]
   obtain⟨dv,pv,ev⟩:∃d q,F v=P3 (d,q):=by
    cases e:F v with
    |none=>exact absurd e^J.wfound v hv
    |some a=>exact#[a.1,a.2,rfl]
   have D0:=J.take hv ev λy hy dy q ey=>hmin y hy dv pv dy q ev ey;have hvp:=insW v hv;have hidx:(w0::Wr).idxOf v<(w0::Wr).length:=List.idxOf_lt_length_of_mem hv;have hget:(w0::Wr)[(w0::Wr).idxOf v]?=P3 v:=by rw[Op hidx,List.getElem_idxOf]
   have ee:((w0::Wr).map D.str).eraseIdx^(w0::Wr).idxOf v=((w0::Wr).erase v).map D.str:=by
    rw[List.erase_eq_eraseIdx_of_idxOf (rfl:(w0::Wr).idxOf v=_),Kt]
   refine#[_,rfl,rfl,_,_,(w0::Wr).idxOf v,rfl,rfl,QT ok insW,Dh^ok.names v hvp,#[.str v,by rw[di,hget];rfl,by show(v==v)=m_;exact beq_self_eq_true v],λk x hk hx=>?_,?_]
   .rw[di]at hx
    let#[t,ht,rfl]:=eq.mp hx;have hkl:k<(w0::Wr).length:=(de.mp ht).1;have hh:=List.not_of_lt_findIdx (p:=λy=>y==v) (xs:=w0::Wr) hk;have e2:(w0::Wr)[k]=t:=(de.mp ht).2;have h3:((w0::Wr)[k]==v)=n_:=hh;rw[e2]at h3;exact h3
   rw[ee];refine#[_,_,_,Sk N.ts v,rfl,Al v,KY hvp,_,_,rfl,λk hk=>?_,?_]
   .let#[q,hq,rfl]:=TW.mp hk
    have:=(ok.names _ (Lm ok hq).1).2.1
    show q.1.length<=sizeLine;lk
   rw[UV];have el:=List.length_erase_of_mem hv
   have inner:∀(rest seen:o_ (Str×Int)) (Wt:o_ Str) (ks:o_ Key) (ds:o_ D) (F:KJ) (s6 s7 s8:Slot),seen++rest=D8 N.ts v->Dmap ks ds HY F->Dm N s F Wt v dv seen->m+ks.length=N.ps.length+Wt.length+1->
     A9 (D_ 2^An (Ae 6)^An (Ae 7) CU) (Bz (Cr 8^BC Cj (BC EL (BC Dl (Bn 3)^AI 5)^wC^D.int 0)^AI 7)
 (CK (A8^BC (Qs m_) (AI 6)^Bn 3) (Bz (Rb 4 "list" Ji^Ao (AI 6) BZ)
 (GQ 3 (AI 6)^MG^Ao (AI 8)^Ao (AI 5) BZ))^CK (A8^BC Jh (AI 8)^BC EL (BC Dl (Bn 3)^AI 6)^wC^D.int 0) (GQ 3 (AI 6)^MG^Ao (AI 8)^Ao (AI 5) BZ) Bj)) {EF Pd with nx:=N',ct:=N',bk:=Ra 3^EF Pd} (rest.map be) n' [.sh^enc N,.sh^.str s,.sh^ET N,.ow^.dic ks ds,.ow^.lst^Wt.map .str,.sh^.str v,s6,s7,s8]:=by
    intro rest
    induction rest with
    |nil=>
     intro seen Wt ks ds F s6 s7 s8 e M D0 hm;rw[dk]at e;exact hN (m - 1) n' _ (by have:=M.le D0.ins;lk) #[rfl,Wt,ks,ds,F,_,_,_,_,rfl,M,D0.finish λy l hy=>by rw[e];exact hy,by have:=M.le D0.ins;lk]
    | cons q rest ih=>
     intro seen Wt ks ds F s6 s7 s8 e M D0 hm;let#[y,l]:=q;have he:Ed N v y l:=by show(y,l)∈D8 N.ts v;rw[←e];exact TM _ FM
     have e':(seen++[(y,l)])++rest=D8 N.ts v:=by rw[da];exact e
     let#[pv,ev]:=D0.here;have kl:=M.le D0.ins;have hyp:=he.ins ok;have insW:∀x∈Wt,x∈N.ps:=λx hx=>D0.ins x^D0.wfound x hx;have wl:=LD D0.nd insW;refine#[rfl,rfl,?_];refine#[ks,ds,_,HY (dv,pv),rfl,Al v,by rw[M.at_,ev];rfl,_,AE (j:=0) rfl,?_];refine#[ks,ds,_,rfl,Al y,?_];show if(!(BO ks ds^.inr y).isSome)=m_ then _ else _
     cases ey:F y with
     |none=>
      have hno:=(M.has (x:=y)).1 ey;rw[M.at_,ey];refine Ci #[_,rfl,rfl,_,_,rfl,rfl,by rw[Ev];lk,?_];refine#[ks,ds,rfl,(by cbv:2<=sizeLine),_,Al y,by lk,?_]
      have:=ih (seen++[(y,l)]) (Wt++[y]) (C5 ks^.inr y) (DA ks ds (.inr y)^HY (dv+l,P3 v)) _ (.sh^.str y) (.sh^.int l) (.sh^.int (dv+l)) e' (M.put y (dv+l,P3 v)) (D0.find ok he ey)^by rw[JC,if_neg (by rw[hno];decide),XV,d8];lk
      rw[eX]at this;exact this
     | some a=>
      let#[dy,qy]:=a;have hyes:=(M.has (x:=y)).2 (by rw[ey];intro z;cases z);rw[M.at_,ey];refine A1 #[ks,ds,_,HY (dy,qy),rfl,Al y,by rw[M.at_,ey];rfl,_,AE (j:=0) rfl,?_];show if decide (dv+l<dy)=m_ then _ else _
      by_cases c:dv+l<dy
      .rw[decide_eq_true c]
       refine Ci #[ks,ds,rfl,(by cbv:2<=sizeLine),_,Al y,by lk,?_];exact ih (seen++[(y,l)]) Wt (C5 ks^.inr y) (DA ks ds (.inr y)^HY (dv+l,P3 v)) _ (.sh^.str y) (.sh^.int l) (.sh^.int (dv+l)) e' (M.put y (dv+l,P3 v)) (D0.nearer ok he ey c)^by rw[JC,if_pos hyes];lk
      .rw[decide_eq_false c]
       exact A1^ih (seen++[(y,l)]) Wt ks ds F (.sh^.str y) (.sh^.int l) (.sh^.int (dv+l)) e' M (D0.skip ey^by lk) hm
   exact inner (D8 N.ts v) [] ((w0::Wr).erase v) ks ds F _ _ _ rfl M D0 (by have:=List.length_pos_of_mem hv;lk)
 .rintro n' ρ P Q hPQ h
  unfold Yx Bn at h ⊢
  split at h
  all_goals first
   |exact h.elim
   |(let#[c,hc,h]:=h;exact#[c,hc,hPQ _ _ h]))
theorem Li:A.Y "far" 3 ["net","a","b"] .sh RJ:=A.gk A.h0h ["net","a","b","found"] (λ_ nd hr=>(AA (Bi 3 nd^cg hr (C3 A)^AM 0^AM 1 AB)
 (AD^AH^FG (Bq (N5 hr) T4 (dv 2)^dv 3) (Ad (Bc hr (dv 3)^dv 2) AC) Af))) (@λss n Pd h=>by
 let#[N,a,b,rfl,okn,ha,hb,p]:=h;refine#[N,a,rfl,okn,ha,λks ds F M T=>?_];refine#[ks,ds,_,rfl,Al b,?_];show if((BO ks ds^.inr b).isSome)=m_ then _ else _
 have hp:=p _^T.far b;cases e:F b with
 |none=>
  rw[M.at_,e];rw[e]at hp;exact A1 hp
 |some x=>
  rw[M.at_,e];rw[e]at hp;exact Ci #[ks,ds,_,HY x,rfl,Al b,by rw[M.at_,e];rfl,_,AE (j:=0) rfl,hp])
theorem DQ:A.Y "way_of" 3 ["net","a","b"] .sh YW:=A.gk A.h0i ["net","a","b","found","way","place"] (λT nd hr=>(AA (Bi 3 nd^cg hr (C3 A)^AM 0^AM 1 AB)
 (AA (AT (Bq (EH hr) FN (dv 2)^dv 3) (AD^AH Af) AL)
 (AA (Qw 4 nd^A4 AJ)
 (AA (Bi 5 nd^dv 2)
 (AA (Jl d7 (Bq DJ Ek (dv 5) Af) (AA (DC 4 Nd Ox Oo BG D1 (pv 4)^AF (dv 5) AJ)
 (AD^Bi 5 nd^Ad (Bc hr (dv 3)^dv 5) AC)))
 (AD^AH (Qy rfl (G8 4) rfl T.Gaa rfl T.Gal)))))))) (@λss n Pd h=>by
 let#[N,a,b,rfl,okn,ha,hb,p]:=h;have szl:=PySem.sizeLine_eq;have ok:=okn.1;refine#[N,a,rfl,okn,ha,λks ds F M T=>?_];refine#[ks,ds,_,rfl,Al b,?_];show if(!(BO ks ds^.inr b).isSome)=m_ then _ else _
 have hfar:=T.far b;cases eb:F b with
 |none=>
  rw[M.at_,eb];rw[eb]at hfar;exact Ci^p l_ hfar
 | some x=>
  let#[db,qb]:=x;rw[M.at_,eb];refine A1 #[z0,?_];refine HB (λm n' ρ=>n'=n/\∃(acc:o_ Str) (pl:p_ Str),ρ=[.sh^enc N,.sh^.str a,.sh^.str b,.sh^.dic ks ds,.ow^.lst^acc.map .str,.sh^Zg pl]/\WInv N F b db acc pl/\m=wm F pl) (wm F^P3 b) #[rfl,[],P3 b,rfl,#[.inl #[rfl,rfl],ef,(λx hx=>by cases hx),(λ_ _ _ _ _ x hx=>by cases hx),λy e=>by cases e;rw[eb];intro z;cases z],rfl] ?_ ?_
  .rintro m n' ρ N' ⟨rfl,acc,pl,rfl,J,rfl⟩ hN
   have wl:=LD J.nd J.ins;have l25:=okn.2.1;cases pl with
   | none=>
    refine#[rfl,_,rfl,?_]
    rcases J.st with⟨_,e⟩|⟨z,r,dz,e1,e2,e3,e4⟩
    .cases e
    .have hz:z=a:=by
      rcases T.prev z dz l_ e2 with⟨_,w⟩|⟨w',dw',q',l,k1,_⟩
      .exact w
      .cases k1
     subst hz;rw[T.start]at e2;cases e2;rw[←List.map_reverse];refine p (P3 acc.reverse) #[db - 0,r,e1,e4,e3,?_,by rw[gj];lk,λx hx=>J.ins x^jE.mp hx];rw[show db - 0=db by lk];exact T.least b db qb eb
   | some y=>
    cases ey:F y with
    |none=>exact absurd ey (J.fnd y rfl)
    |some q=>
     let#[dy,qy]:=q;let#[J2,lt2]:=J.step ok T eb ey;refine#[rfl,?_];refine#[_,rfl,rfl,_,_,rfl,rfl,by rw[Ev];lk,?_];refine#[ks,ds,_,HY (dy,qy),rfl,Al y,by rw[M.at_,ey];rfl,_,AE (j:=1) rfl,?_];refine hN (wm F qy) _ _ lt2 #[rfl,acc++[y],qy,?_,J2,rfl];rw[eX];rfl
  .rintro n' ρ P Q hPQ h
   unfold A8 BC AI wC Ex at h ⊢
   split at h
   .exact#[h.1,hPQ _ _ h.2]
   .exact h.elim)
theorem J8:A.Y "are_prices" 2 ["net","thing"] .sh Vs:=A.gk A.h0j ["net","thing"] (λT _ hr=>(AD^AH^Bs (cg hr (AU A)^Ai (G9 T.Gab^Ad (dv 0) AC)^AM 1 AB)^CF (Ar (Co rfl) G4 rfl T.Gah fZ (AR (Hw ["price"] [l_] (A6^dv 1) (λnq=>Bo 0 nq) Az^Bs (cg hr (E7 A)^AM 0 AB)^CF^BN N4 T3 (dv 0) AC^Bg _) Ab)))) (@λss n Pd h=>by
 let#[N,d,rfl,okn,p]:=h;have l25:=okn.2.1;refine#[_,AE (j:=0) rfl,_,_,rfl,rfl,_,d,rfl,?_];cases d with
 | tup xs=>
  have p':Pd (.bl (((xs.length:Int)==(N.ps.length:Int))&&xs.all RR)) n:=p;rw[Ev];refine OY (b1:=((xs.length:Int)==(N.ps.length:Int))) (λhb p2=>?_) p';have hl:xs.length=N.ps.length:=by have:=beq_iff_eq.mp hb;lk
  refine#[by show xs.length<=10000000;lk,?_];refine BA (λd=>.bl^RR d) (λρ=>∃s,ρ=[s]) _ _ _ _ ?_ #[_,rfl] ?_
  .rintro d hd ρ m nx ⟨s,rfl⟩ hnx
   refine#[[d],rfl,rfl,?_];cases d with
   |int i=>exact hnx _ #[_,rfl]
   |_=>exact hnx _ #[_,rfl]
  .rw[eA]
   exact Gu (p:=RR) (P:=λz=>Pd z n) p2
 |_=>exact p)
theorem DK:A.Y "price_gap" 1 ["net","prices","a","b"] .sh cN:=A.gk A.h0k ["net","prices","a","b"] (λT _ hr=>(AD^AH (Ar Tr aL rfl T.Gaq boot_abs (AR (As EX GG (Ad (dv 1)^Tc hr (Ad (dv 0) AC)^AR (dv 2) Ab)^Ad (dv 1)^Tc hr (Ad (dv 0) AC)^AR (dv 3) Ab) Ab)))) (@λss n Pd h=>by
 let#[N,xs,a,b,rfl,okn,hl,hg,ha,hb,p]:=h;let#[i,i2,hlay,i3,i4,i5]:=WV okn hl hg ha;let#[j,j2,_,j3,j4,j5]:=WV okn hl hg hb;exact#[_,AE rfl,#[_,rfl],_,_,i,rfl,rfl,hlay,i3,i4,i5,_,AE i2,_,AE rfl,#[_,rfl],_,_,j,rfl,rfl,hlay,j3,j4,j5,_,AE j2,p])
theorem F7:A.Y "is_fair" 3 ["net","thing"] .sh aR:=A.gk A.h0l ["net","thing"] (λT _ hr=>(AA (AT (Aj^AZ^cg hr (J8 A)^AM 0^AM 1 AB) (AD^AH BE) AL)
 (AD^AH (Ar (Co rfl) G4 rfl T.Gah fZ (AR (Hw ["net","thing","a","b","length"] [P3 0,P3 1,l_,l_,l_] (A6^Ad (dv 0) AC) (λnq=>Ky^AQ (Bo 2 nq)^AQ (Bo 3 nq)^AQ (Bo 4 nq) BS) Az^BN JJ NZ (cg hr (DK A)^AM 0^AM 1^AM 2^AM 3 AB) (dv 4)^Bg _) Ab))))) (@λss n Pd h=>by
 let#[N,d,rfl,okn,p]:=h;have ok:=okn.1;have l60:=okn.2.2;refine#[N,d,rfl,okn,?_];show if(!(Yt N d))=m_ then _ else _
 cases hp:Yt N d with
 | false=>
  have:Ft N d=n_:=by
   cases d with
   |tup xs=>show(Yt N^.tup xs&&_)=n_;rw[hp];rfl
   |_=>rfl
  rw[this]at p;exact Ci p
 | true=>
  cases d with
  | tup xs=>
   have hp':(((xs.length:Int)==(N.ps.length:Int))&&xs.all RR)=m_:=hp;rw[dh]at hp';have hl:xs.length=N.ps.length:=by have:=beq_iff_eq.mp hp'.1;lk
   have hg:∀x∈xs,RR x=m_:=fX.mp hp'.2;have p':Pd (.bl (Yt N^.tup xs&&N.ts.all λt=>decide (EA (IB N xs t.a - IB N xs t.b)<=t.len))) n:=p;rw[hp,Bool.true_and]at p';refine A1 #[_,AE (j:=1) rfl,by show(N.ts.map AN).length<=10000000;rw[Ev];lk,?_];refine BA (λd=>match d with|.tup [.str a,.str b,.int l]=>.bl (decide (EA (IB N xs a - IB N xs b)<=l))|_=>.non) (λρ=>∃s2 s3 s4,ρ=[.sh^enc N,.sh^.tup xs,s2,s3,s4]) _ _ _ _ ?_ #[_,_,_,rfl] ?_
   .rintro d hd ρ m nx ⟨s2,s3,s4,rfl⟩ hnx
    let#[t,ht,rfl]:=TW.mp hd;let#[m1,m2,_]:=ok.tin t ht;exact#[rfl,rfl,N,xs,t.a,t.b,rfl,okn,hl,hg,m1,m2,hnx _ #[_,_,_,rfl]]
   .rw[eA,fY]
    exact Gu (p:=λt:Tie=>decide (EA (IB N xs t.a - IB N xs t.b)<=t.len)) (P:=λz=>Pd z n) p'
  |_=>cases hp)
theorem B4:A.Y "prices_from" 3 ["net","place","most"] .sh UB:=A.gk A.h0m ["net","place","most","found"] (λT nd hr=>(AA (Bi 3 nd^cg hr (C3 A)^AM 0^AM 1 AB)
 (AD^AH^OR T.Gaa^Hw ["most","found","other"] [P3 2,P3 3,l_] (A6^Ad (dv 0) AC) (λnq=>Bo 2 nq) Az^FG (Bq (N5 hr) T4 (dv 2)^dv 1) (Ar (Q7 rfl) YQ rfl T.Gan boot_min (AR (dv 0)^AR (Ad (Bc hr (dv 1)^dv 2) AC) Ab))^dv 0))) (@λss n Pd h=>by
 let#[N,s,m,rfl,okn,hs,p]:=h;have l25:=okn.2.1;refine#[N,s,rfl,okn,hs,λks ds F M T=>?_];refine#[_,AE (j:=0) rfl,by grind,?_];refine BA (λd=>match d with|.str x=>.int (CC m ((F x).map (·.1)))|_=>.non) (λρ=>∃s2,ρ=[.sh^.int m,.sh^.dic ks ds,s2]) _ _ _ _ ?_ #[_,rfl] ?_
 .rintro d hd ρ m' nx ⟨s2,rfl⟩ hnx
  let#[x,hx,rfl]:=TW.mp hd;refine#[ks,ds,_,rfl,Al x,?_];show if((BO ks ds^.inr x).isSome)=m_ then _ else _
  have hnx:nx (.int (CC m ((F x).map (·.1)))) m' [.sh^.int m,.sh^.dic ks ds,.sh^.str x]:=hnx _ #[.sh^.str x,rfl];rw[M.at_];cases ex:F x with
  |none=>
   rw[ex]at hnx;exact A1 hnx
  |some q=>
   rw[ex]at hnx;exact Ci #[ks,ds,_,HY q,rfl,Al x,by rw[M.at_,ex];rfl,_,AE (j:=0) rfl,hnx]
 .rw[eA,fY]
  exact p F T)
theorem CA:A.Y "is_within" 1 ["length","times","number"] .sh MB:=A.gk A.h0n ["length","times","number"] (λ_ _ hr=>(AD^AH^BN JJ NZ (As EY GH (dv 0)^Ad (dv 1) AC) (As EY GH (dv 2)^Ad (dv 1) AC)^Bg _)) (@λss n Pd h=>by
 let#[l,t,b,x,rfl,b0,b1,t0,t1,p]:=h;exact#[_,AE rfl,cr (by lk) b1,_,AE rfl,cr (by lk) t1,p])
theorem CJ:A.Y "least_beyond" 1 ["times","number"] .sh K_:=A.gk A.h0o ["times","number"] (λ_ _ hr=>(AD^AH^As Ax BI (As IP EB (As EY GH (dv 1)^Ad (dv 0) AC)^Ad (dv 0) AC) AC)) (@λss n Pd h=>by
 let#[t,b,l,rfl,#[b1,b2,t1,t2],p]:=h;exact#[_,AE rfl,.inr^by lk,_,AE rfl,#[by lk,by lk],p])
theorem Dw:A.Y "near_way" 4 ["net","times","tie"] .sh MC:=A.gk A.h0p ["net","times","tie","way"] (λ_ nd hr=>(AA (Bi 3 nd^cg hr (DQ A)^AM 0^Ai (Ad (dv 2) AC)^Ai (Ad (dv 2) AC) AB)
 (AA (AT (DTW.dt^Bk (Bq B3 C8 (dv 3) Af)^BV^Aj^AZ^cg hr (CA A)^Ai (cg hr (Gg A)^AM 0^AM 3 AB)^AM 1^Ai (Ad (dv 2) AC) AB) (AD^AH Af) AL)
 (AD^AH^dv 3)))) (@λss n Pd h=>by
 let#[N,u,t,b,rfl,okn,ha,hb,b1,b2,t1,t2,p]:=h;refine#[_,AE (j:=0) rfl,_,AE (j:=1) rfl,N,u.a,u.b,rfl,okn,ha,hb,λo ho=>#[rfl,?_]];cases o with
 |none=>
  refine p l_ (λw e=>by cases e) λ_=>?_;rw[ft];intro z;let#[d,hd,_]:=nearB_iff.mp z;exact ho d hd.1
 | some w=>
  have ho':=ho;let#[d,r,rfl,hl,hw,hd,h30,hin]:=ho'
  have near:CT N t b u=decide (d*b<=u.len*t):=by
   rw[e9,nearB_iff,decide_eq_true_eq];exact#[fun#[d',hd',h2]=>by rw[Least.unique hd hd'];exact h2,λh2=>#[d,hd,h2]]
  refine#[N,.tup^(u.a::r).map .str,rfl,okn.1,by have:=okn.2.1;lk,okn.2.2,RY okn.1 h30 hin,?_];rw[PD okn.1 (hin _ FM) hw];refine#[_,AE (j:=2) rfl,d,t,b,u.len,rfl,b1,b2,t1,t2,?_]
  by_cases c:d*b<=u.len*t
  .rw[decide_eq_true c]
   exact p (P3 _) (λw e=>by cases e;exact#[ho,by rw[near];exact decide_eq_true c]) λe=>by cases e
  .rw[decide_eq_false c]
   exact p l_ (λw e=>by cases e) λ_=>by rw[near];exact decide_eq_false c)
theorem JK:A.Y "thinned" 5 ["net","times"] .sh T6:=A.gk A.h0q ["net","times","kept","tie"] (λ_ nd hr=>(AA (Qw 2 nd^A4 AJ)
 (AA (A7 d7 rfl (Ck^cg hr (BL A)^Ai (Ad (dv 0) AC) AB) (Bo 3 nd) (AD^AT (Bq B3 C8 (cg hr (Dw A)^Ai (cg hr (C2 A)^AM 0^AX (Dz^G8 2) AB)^AM 1^AM 3 AB) Af) (AD^DC 2 Nd Ox Oo BG D1 (pv 2)^AF (dv 3) AJ) AL))
 (AD^AH^cg hr (C2 A)^AM 0^AX (Dz^G8 2) AB)))) (@λss n Pd h=>by
 let#[N,t,b,rfl,okn,b1,b2,t1,t2,p]:=h;have ok:=okn.1;have l60:=okn.2.2;have szl:=PySem.sizeLine_eq;refine#[z0,_,AE (j:=1) rfl,_,N.ts,rfl,rfl,by lk,λord o1 o2=>?_];have hol:=o1.length_eq;have ndo:ord.Nodup:=o1.nodup_iff.mpr^AV ok.trise
 have go:∀(rest done kept:o_ Tie) (s3:Slot),done++rest=ord->(∀u∈kept,u∈done)->kept.Nodup->Aa N t b kept rest=Aa N t b [] ord->
   A9 (Ae 3) (CK (A8^BC (Ex n_) (Ag MC^AG (AK^Ag Em^AG (AK^AI 0)^AG (ER^Bn 2) Am)^AG (AK^AI 1)^AG (AK^AI 3) Am)^wC D.non) (Rb 2 "list" Ji^Ao (AI 3) BZ) Bj) {EE Pd with nx:=CY (Ag Em^AG (AK^AI 0)^AG (ER^Bn 2) Am)^EE Pd} (rest.map AN) n [.sh^enc N,.sh^.tup [.int t,.int b],.ow^.lst^kept.map AN,s3]:=by
  intro rest
  induction rest with
  |nil=>
   intro done kept s3 e h1 h2 h3;rw[dk]at e;subst e;have hin:∀u∈kept,u∈N.ts:=λu hu=>o1.mem_iff.mp^h1 u hu;have hkl:=sub_len h2 (AV ok.trise) hin;refine#[N,_,kept,rfl,rfl,by lk,λts' p1 p2=>?_];rw[F1 ok hin h2 p1 p2,show kept=Aa N t b [] done from h3];exact p done o1 o2
  | cons u rest ih=>
   intro done kept s3 e h1 h2 h3;have hin:∀v∈kept,v∈N.ts:=λv hv=>o1.mem_iff.mp (by rw[←e];exact Tk _^h1 v hv);have hkl:=sub_len h2 (AV ok.trise) hin;have hu:u∈N.ts:=o1.mem_iff.mp^by rw[←e];exact TM _ FM
   have hud:u∉done:=by
    rw[←e,eP]at ndo;exact λz=>ndo.2.2 u z u FM rfl
   have e':(done++[u])++rest=ord:=by rw[da];exact e
   let#[m1,m2,_]:=ok.tin u hu;refine#[N,_,kept,rfl,rfl,by lk,λts' p1 p2=>?_];rw[F1 ok hin h2 p1 p2];refine#[sub N kept,u,t,b,rfl,BJ okn kept,m1,m2,b1,b2,t1,t2,λo hs hn=>#[rfl,?_]];rw[Cz]at h3;cases o with
   |some w=>
    rw[(hs w rfl).2,if_pos rfl]at h3;exact ih (done++[u]) kept _ e' (λv hv=>Tk _^h1 v hv) h2 h3
   | none=>
    rw[hn rfl,if_neg^by cbv]at h3;refine#[_,rfl,rfl,_,_,rfl,rfl,by rw[Ev];lk,?_]
    have:=ih (done++[u]) (kept++[u]) (.sh^AN u) e' (λv hv=>by
     rcases ZB.mp hv with hv|hv
     .exact Tk _^h1 v hv
     .exact TM _ hv) (by
     rw[eP];exact#[h2,eI.mpr #[d9,ef],λx hx y hy z=>hud^by rw[←On.mp hy,←z];exact h1 x hx]) h3
    rw[eX]at this;exact this
 exact go ord [] [] _ rfl (λu h=>by cases h) ef rfl)
theorem IC:A.Y "greedy_paper" 6 ["net","times"] .sh RH:=A.gk A.h0r ["net","times","thin","paper","tie","ahead"] (λT nd hr=>(AA (Bi 2 nd^cg hr (JK A)^AM 0^AM 1 AB)
 (AA (Qw 3 nd^A4 AJ)
 (AA (A7 d7 rfl (Ck^cg hr (BL A)^Ai (Ad (dv 0) AC) AB) (Bo 4 nd) (AA (Bi 5 nd^cg hr (CS A)^AM 2^AM 4 AB)
 (AD^AT (Bq (CN hr) CV (dv 4)^Ad (dv 2) AC) (AD^DC 3 Nd Ox Oo BG D1 (pv 3)^AF (Ap^AF Ak^AF (cg hr (B4 A)^AM 5^Ai (Ad (dv 4) AC)^Ai (cg hr (CJ A)^AM 1^Ai (Ad (dv 4) AC) AB) AB) AJ) AJ)^AD^DC 3 Nd Ox Oo BG D1 (pv 3)^AF (Ap^AF Ak^AF (cg hr (DQ A)^AM 5^Ai (Ad (dv 4) AC)^Ai (Ad (dv 4) AC) AB) AJ) AJ)))
 (AD^AH^OR T.Gaa^G8 3))))) (@λss n Pd h=>by
 let#[N,t,b,rfl,okn,tm,p]:=h;have tm':=tm;let#[b1,b2,t1,t2]:=tm';have ok:=okn.1;have l60:=okn.2.2;have l25:=okn.2.1;have szl:=PySem.sizeLine_eq;refine#[N,t,b,rfl,okn,b1,b2,t1,t2,λord o1 o2=>?_];have hol:=o1.length_eq;refine#[z0,_,AE (j:=1) rfl,_,N.ts,rfl,rfl,by lk,λord' q1 q2=>?_];obtain rfl:=Av (q1.trans o1.symm) q2 o2;have nd:ord'.Nodup:=o1.nodup_iff.mpr^AV ok.trise
 have go:∀(us pre:o_ Tie) (rs:o_ D) (s4 s5:Slot),pre++us=ord'->PapGK 30 N t b [] pre rs->
   A9 (Ae 4) Zr {EE Pd with nx:=CY (RP Fb^Ao (Bn 3) BZ)^EE Pd} (us.map AN) n [.sh^enc N,.sh^G7 t b,.sh^enc^sub N^Aa N t b [] ord',.ow^.lst rs,s4,s5]:=by
  intro us
  induction us with
  |nil=>
   intro pre rs s4 s5 e hk;rw[dk]at e;exact p ord' rs o1 o2 (e▸hk)
  | cons u us ih=>
   intro pre rs s4 s5 e hk;have hu:u∈N.ts:=o1.subset (by rw[←e];exact TM _ FM);let#[ha,hb,_,l1,l2]:=ok.tin u hu;have e':pre++[u]++us=ord':=by rw[da];exact e
   have hrl:rs.length<sizeLine:=by
    have h1:=hk.len;have h2:=congrArg iI e;rw[XV,dg]at h2;lk
   have key:decide (u∈(sub N^Aa N t b [] ord').ts)=!CT (sub N^Aa N t b [] pre) t b u:=by
    rw[←e]at nd ⊢;rw[e9,decide_eq_true_eq,sub_mem,M_ nd,i8];exact#[λh=>h.2,λh=>#[hu,h]]
   unfold Zr;refine#[sub N^Aa N t b [] ord',u,rfl,BJ okn _,?_]
   have ea:(#[(sub N^Aa N t b [] ord').ps,(sub N^Aa N t b [] ord').ts.filter λv=>BB (BY v)^BY u]:Net)=sub N^Aa N t b [] pre:=by
    rw[←e]at nd o2 ⊢;exact Hc nd o2
   rw[ea];refine#[_,AE (j:=1) rfl,Br ok hu,(CH ok λv hv=>(sub_mem.mp hv).1).1,_,rfl,?_];rw[Cp,key];have okA:=BJ okn^Aa N t b [] pre;cases hn:CT (sub N^Aa N t b [] pre) t b u with
   | false=>
    refine#[_,rfl,rfl,_,AE (j:=0) rfl,_,AE (j:=2) rfl,t,b,u.len,rfl,tm,sub N^Aa N t b [] pre,u.a,u.len*t / b+1,rfl,okA,ha,λF hF=>#[z2,_,_,rfl,rfl,hrl,?_]];have e0:0<=u.len*t / b:=jS (iy (by lk)^by lk) (by lk);have e1:u.len*t / b<=u.len*t:=Int.ediv_le_self _ (iy (by lk)^by lk);have e2:u.len*t<=1000000*1000000:=Int.mul_le_mul l2 t2 (by lk) (by lk);have row:=X4 (k:=30) okA tm ha hb (by lk) hn (.inl #[rfl,rfl]) (G:=λx=>(F x).map (·.1)) hF.far (m:=u.len*t / b+1) (more:=0) (by lk) (by lk) (Q9 b1) (gM _)^by cbv
    have er:((sub N^Aa N t b [] pre).ps.map λx=>(0:Int)+CC (u.len*t / b+1) ((F x).map (·.1))).map D.int=(sub N^Aa N t b [] pre).ps.map λx=>.int (CC (u.len*t / b+1) ((F x).map (·.1))):=by
     rw[fY];refine iW λx _=>?_;show D.int (0+_)=_;rw[h_]
    rw[er]at row;exact ih (pre++[u]) _ _ _ e'^hk.snoc row
   | true=>
    refine#[_,rfl,rfl,_,AE (j:=0) rfl,_,AE (j:=1) rfl,sub N^Aa N t b [] pre,u.a,u.b,rfl,okA,ha,hb,λo ho=>?_];let#[d,hd,hle]:=nearB_iff.mp hn;cases o with
    |none=>exact absurd hd.1^ho d
    |some w=>
     let#[d',r,rfl,hw1,hw2,hw3,hw4,hw5]:=ho;have ed:d'=d:=hw3.unique hd;subst ed;refine#[z2,_,_,rfl,rfl,hrl,ih (pre++[u]) _ _ _ e'^hk.snoc^.inr #[hn,u.a::r,d',rfl,#[#[r,rfl],hw1,hw2,hw4,hw5],hle]]
 exact go ord' [] [] _ _ rfl trivial)
theorem D7:A.Y "ways_paper" 6 ["net","times","thin"] .sh Ps:=A.gk A.h0s ["net","times","thin","ways"] (λT nd hr=>(AA (IT (i:=3) nd rfl (fh rfl) rfl [("thin":Str),("times":Str),("tie":Str)] [P3 2,P3 1,l_] (A6^cg hr (CQ A)^AM 0^AM 2 AB) (λ_ _ _ _ _=>(Fe (i:=2) (show jT [("thin":Str),("times":Str),("tie":Str)] by decide +kernel) rfl (fh rfl))) (λ_ _ _ _ _=>Az) (λ_ _ _ _ _=>(cg hr (Dw A)^AM 0^AM 1^AM 2 AB)) (by kernel_rfl))
 (AD^AH^FG (Bq (CN hr) CV Af^dv 3) Af^OR T.Gaa^dv 3))) (@λss n Pd h=>by
 let#[N,ts,t,b,rfl,okn,ht,#[b1,b2,t1,t2],p,q]:=h;have okm:=ht.okN okn;have l60:=okn.2.2;refine#[N,ts,rfl,okn.1,by lk,ht.1,λlo p1 p2=>?_];have hlo:lo.length<=60:=by rw[p1.length_eq];exact eJ (fP _ _) l60
 refine#[by show(lo.map AN).length<=10000000;rw[Ev];lk,?_]
 have go:∀(P:o_ D->Nat->Prop),(∀os,RM #[N.ps,ts] t b lo os->P (os.map Gd) n)->∀(rest:o_ Tie) (acc:o_ D) (s:Slot),(∀u∈rest,u∈N.ts)->(∀os,RM #[N.ps,ts] t b rest os->P (acc++os.map Gd) n)->
   Ce (Ae 2) Ey (Ag MC^AG (AK^AI 0)^AG (AK^AI 1)^AG (AK^AI 2) Am) P (rest.map AN) acc n [.sh^enc #[N.ps,ts],.sh^.tup [.int t,.int b],s]:=by
  intro P hP rest
  induction rest with
  |nil=>
   intro acc s _ h
   have:=h [] trivial
   rw[im,dk]at this;exact this
  |cons u rest ih=>
   intro acc s hu h;let#[m1,m2,_]:=okn.1.tin u^hu u FM;refine#[#[N.ps,ts],u,t,b,rfl,okm,m1,m2,b1,b2,t1,t2,λo h1 h2=>?_];refine ih (acc++[Gd o]) _ (λv hv=>hu v^Sc _ hv) λos hos=>?_
   have:=h (o::os) #[#[h1,h2],hos]
   rw[da];exact this
 have fin:∀os,RM #[N.ps,ts] t b lo os->(CY^cZ (A8^BC (VY n_) (wC D.non)^AI 3) (wC D.non)^RP Fb^Ao (AI 3) BZ) (EE Pd) n [.sh^enc N,.sh^.tup [.int t,.int b],.sh^enc #[N.ps,ts],.sh^.lst^os.map Gd]:=λos hos=>by
  let#[f1,f2]:=OH okm.1 hos;refine#[#[rfl,rfl,dq _],C_ (B:=0) (by cbv) f1 (by show IU^os.map Gd+1<=100;lk),_,rfl,?_];show if((os.map Gd).any λy=>Dn y .non)=m_ then _ else _
  rw[Pg]
  rcases Mg okm.1 hos with⟨ws,rfl,h1,h2⟩|⟨h1,u,hu,hn⟩
  .have e1:(ws.map P3).any kj=n_:=by
    rw[ft];intro z;let#[o,ho,z]:=h9.mp z;let#[w,_,rfl]:=TW.mp ho;cases z
   rw[e1];have e2:(ws.map P3).map Gd=ws.map CW:=by rw[fY];rfl
   refine A1 ?_;show Pd (.tup^(ws.map P3).map Gd) n;rw[e2];refine p ws (λlo' p3 p4=>?_) λu hu=>h2 u^p1.mem_iff.mpr hu;rw[Av (p3.trans p1.symm) p4 p2];exact h1
  .rw[h1]
   exact Ci^q #[u,p1.mem_iff.mp hu,hn]
 exact go _ fin lo [] _ (λu hu=>(eE.mp^p1.mem_iff.mp hu).1) λos hos=>by rw[eA];exact fin os hos)
omit A in
theorem k8:BU ["net","times","thin","ties","more","less","fewer"] ["net","times","thin","ties"]^AS Hj:=by walk_at "s"
theorem Lh:A.Y "fewest_of" 17 ["net","times","thin","ties"] .sh^Yf 10:=A.got A.h0t λT F m b=>Hs 5 F k8 m b (λhk k9 hr=>(AA (AT (Aj^TV^dv 3) (AD^AH^dv 2) AL)
 (AA (Bi 4 k8.nd (AY k9 (hr.mono^Re _) rfl (AM 0^AM 1^AM 2^Ai (Gz LL G3 (dv 3) (C4 AC) Dy) AB)))
 (AA (Bi 5 k8.nd (AY (B9 LF^Bb A) (hr.mono^by lk) rfl (AM 2^Ai (Gz LL G3 (dv 3) Dy^C4 AC) AB)))
 (AA (AT (Bq B3 C8 (AY (D7 A) (hr.mono^by lk) rfl (AM 0^AM 1^AM 5 AB)) Af) (AD^AH^dv 4) AL)
 (AA (Bi 6 k8.nd (AY k9 (hr.mono^Re _) rfl (AM 0^AM 1^AM 5^Ai (Gz LL G3 (dv 3) (C4 AC) Dy) AB)))
 (AD^AH^FG (Bq (Ct hr) EM (G9 T.Gab^Ad (dv 6) AC)^G9 T.Gab^Ad (dv 4) AC) (dv 6)^dv 4))))))) (@λWr j ss n Pd hrec h=>by
 let#[N,t,b,ts,us,rfl,okn,tm,bt,ht,hu,hk,hj,h60,p]:=h;cases us with
 |nil=>exact#[_,rfl,p _^.nil ht hk]
 | cons u us=>
  have j0:j≠0:=λz=>by rw[z]at hj;cases hj
  have hu1:u∈N.ts:=hu u FM;have hu2:∀x∈us,x∈N.ts:=λx hx=>hu x^Sc _ hx;have hj1:us.length<=j - 1:=by rw[dg]at hj;lk
  have hj2:us.length<=60:=by rw[dg]at h60;lk
  refine#[_,rfl,?_];refine hrec _ _ _ j0 #[N,t,b,ts,us,by rw[Q2];rfl,okn,tm,bt,ht,hu2,hk,hj1,hj2,λr1 f1=>?_];refine#[N,#[N.ps,ts],_,[u],rfl,congrArg P3^Vk _ _,okn,ht.okN okn,#[λx hx=>by rw[On.mp hx];exact hu1,by show 1<=100;decide],?_];have tc:=Ug ht u;have ec:DH #[N.ps,ts] [u]=#[N.ps,OT ts u]:=rfl;rw[ec];refine#[N,OT ts u,t,b,rfl,okn,tc,tm,λws _ hn=>#[rfl,?_],λhx=>#[rfl,?_]]
  .have k2:=(E_ okn tm bt tc).mp hn
   refine hrec _ _ _ j0 #[N,t,b,OT ts u,us,by rw[Q2];rfl,okn,tm,bt,tc,hu2,k2,hj1,hj2,λr2 f2=>?_];have pk:=p _^f1.pick f2;refine#[_,AE (j:=1) rfl,_,_,rfl,rfl,_,AE (j:=1) rfl,_,_,rfl,rfl,?_];rw[Ev,Ev];show if(decide ((r2.length:Int)<(r1.length:Int)))=m_ then _ else _
   by_cases c:r2.length<r1.length
   .rw[if_pos c]at pk
    rw[decide_eq_true^by lk];exact Ci pk
   .rw[if_neg c]at pk
    rw[decide_eq_false^by lk];exact A1 pk
  .refine p _^f1.skip λz=>?_
   let#[v,hv,nv]:=hx;exact nv^(E_ okn tm bt tc).mpr z v hv) (by walk_at "R") (by cbv) 10
theorem N7:A.Y "lost_of" 5 ["left","times","out"] .sh Vv:=A.gk A.h0u ["left","times","out","tie"] (λ_ nd hr=>(AA (A7 d7 rfl (Ck^dv 2) (Bo 3 nd) (AD^AT (Bq B3 C8 (cg hr (Dw A)^AM 0^AM 1^AM 3 AB) Af) (AD^AH^dv 3) AL))
 (AD^AH Af))) (@λss n Pd h=>by
 let#[M,t,b,out,rfl,okm,#[b1,b2,t1,t2],hin,p]:=h
 have go:∀(rest done:o_ Tie) (s3:Slot),done++rest=out->(∀u∈done,Bu M t b u)->
   A9 (Ae 3) (CK (A8^BC (Ex n_) (Ag MC^AG (AK^AI 0)^AG (AK^AI 1)^AG (AK^AI 3) Am)^wC D.non) (CY^AI 3) Bj) {EE Pd with nx:=CY (wC D.non)^EE Pd} (rest.map AN) n [.sh^enc M,.sh^Hg t b,.sh^Ro out,s3]:=by
  intro rest
  induction rest with
  |nil=>intro done s3 e hd;rw[dk]at e;subst e;exact p l_ (λ_=>hd) nofun
  | cons u rest ih=>
   intro done s3 e hd;have hu:u∈out:=by rw[←e];exact TM _ FM
   let#[i1,i2]:=hin u hu;refine#[M,u,t,b,rfl,okm,i1,i2,b1,b2,t1,t2,λo h1 h2=>#[rfl,?_]];cases o with
   |none=>
    have hn:=h2 rfl;exact p (P3 u) nofun λv ev=>by cases ev;exact#[hu,λz=>by rw[nearB_iff.mpr z]at hn;cases hn]
   |some w=>
    refine ih (done++[u]) _ (by rw[da];exact e) λv hv=>?_
    rcases ZB.mp hv with hv|hv
    .exact hd v hv
    .rw[On.mp hv];exact nearB_iff.mp (h1 w rfl).2
 exact go out [] _ rfl nofun)
omit A in
theorem k_:BU ["net","times","many","kept","out","left","lost","tie","case_in","case_out"] ["net","times","many","kept","out"]^AS Kb:=by walk_at "s"
theorem N_:A.Y "case_of" 16 ["net","times","many","kept","out"] .sh^Vz 10:=A.got A.h0v λT F m b=>have lA:=B9 LF^Bb A;Hs 4 F k_ m b (λhk lB hr=>(AA (AT (Bq N4 T3 (G9 T.Gab^dv 3)^dv 2) (AD^AH^Ap^AF Ak AJ) AL)
 (AA (Bi 5 k_.nd (AY lA (hr.mono^by lk) rfl (AM 0^AM 4 AB)))
 (AA (Bi 6 k_.nd (AY (N7 A) (hr.mono^by lk) rfl (AM 5^AM 1^AM 4 AB)))
 (AA (AT (Bq DJ Ek (dv 6) Af) (AD^AH^Ap^AF Ak^AF (dv 6)^AF (AY (B4 A) (hr.mono^by lk) rfl (AM 5^Ai (Ad (dv 6) AC)^Ai (AY (CJ A) (hr.mono^by lk) rfl (AM 1^Ai (Ad (dv 6) AC) AB)) AB)) AJ) AL)
 (AA (Bi 7 k_.nd^Ad (Ad (AY lA (hr.mono^by lk) rfl (AM 5^AM 3 AB)) AC) AC)
 (AA (Bi 8 k_.nd (AY lB (hr.mono^Re _) rfl (AM 0^AM 1^AM 2^Ai (As Ax BI (dv 3)^A4^AF (dv 7) AJ)^AM 4 AB)))
 (AA (Bi 9 k_.nd (AY lB (hr.mono^Re _) rfl (AM 0^AM 1^AM 2^AM 3^Ai (As Ax BI (dv 4)^A4^AF (dv 7) AJ) AB)))
 (AD^AH^Ap^AF Ak^AF (dv 7)^AF (dv 8)^AF (dv 9) AJ))))))))) (@λWr j ss n Pd hrec h=>by
 let#[N,t,b,many,kept,gone,left,rfl,okn,tm,bt,hp,hj,hm,p]:=h;have ok:=okn.1;have l60:=okn.2.2;have nN:N.ts.Nodup:=AV ok.trise;have nd:=hp.nodup_iff.mpr nN;have pl:=hp.length_eq;rw[XV,XV]at pl;have kN:∀u∈kept,u∈N.ts:=λu hu=>hp.subset^Tk _^Tk _ hu;have gN:∀u∈gone,u∈N.ts:=λu hu=>hp.subset^Tk _^TM _ hu;have lN:∀u∈left,u∈N.ts:=λu hu=>hp.subset^TM _ hu;have okd:=Gc okn gone;refine#[_,_,rfl,rfl,?_];rw[Ev];show if(decide ((many:Int)<=(kept.length:Int)))=m_ then _ else _
 by_cases c0:many<=kept.length
 .rw[decide_eq_true^by lk]
  exact Ci #[z1,p .en (.en c0) trivial]
 rw[decide_eq_false^by lk];refine A1 #[N,N,Ro gone,gone,rfl,rfl,okn,okn,#[gN,by lk],DH N gone,t,b,gone,rfl,okd,tm,λu hu=>#[(ok.tin u^gN u hu).1,(ok.tin u^gN u hu).2.1],λo h1 h2=>?_];cases o with
 |some u=>
  let#[hu,hn]:=h2 u rfl;refine#[rfl,_,AE (j:=0) rfl,_,AE (j:=2) rfl,t,b,u.len,rfl,tm,DH N gone,u.a,_,rfl,okd,(ok.tin u^gN u hu).1,λF T=>#[by show 3<=sizeLine;decide,?_]];let#[f1,f2]:=Zw okn tm (gN u hu) hn T
  have:=p (.fa u _) (.fa hu f1) #[gN u hu,f2]
  unfold Ca.D at this;rw[fY]at this;exact this
 | none=>
  have near:=h1 rfl
  have nl:left≠[]:=λe=>by
   subst e;have hk:Made N t b many kept gone [] .en:=.no λu hu=>by let#[d,a1,a2]:=near u hu;exact#[d,a1.1,a2]
   exact c0^of_decide_eq_true^hk.shows ok (by have:=tm.1;lk) bt hm hp
  have j0:j≠0:=λz=>by rw[z]at hj;exact nl^List.eq_nil_of_length_eq_zero^Nat.le_zero.mp hj
  refine#[rfl,N,DH N gone,Ro kept,kept,rfl,rfl,okn,okd,#[kN,by lk],_,AE (j:=1) rfl,?_]
  have mem:∀x,x∈(DH (DH N gone) kept).ts↔x∈left:=λx=>by
   show x∈((N.ts.filter λv=>decide (v∉gone)).filter λv=>decide (v∉kept))↔_
   grind
  let#[u,r,eL]:=List.exists_cons_of_ne_nil (λe=>nl (List.eq_nil_iff_forall_not_mem.mpr λx hx=>by have:=(mem x).mpr hx;rw[e]at this;cases this):(DH (DH N gone) kept).ts≠[]);have hu:u∈left:=(mem u).mp (by rw[eL];exact FM);have pe:left.Perm (u::left.erase u):=List.perm_cons_erase hu;have le:=pe.length_eq;rw[dg]at le;refine#[AN u,AE (j:=0) (by show((DH (DH N gone) kept).ts.map AN)[0]?=_;rw[eL];rfl),z1,?_];refine#[by show(kept.map AN).length+1<=sizeLine;rw[Ev,fA];lk,hrec _ _ _ j0 #[N,t,b,many,kept++[u],gone,left.erase u,by rw[MO],okn,tm,bt,?_,by lk,hm,λc hc kc=>?_]]
  .refine iH ?_ hp
   rw[da,da,da];refine gU _ ?_;rw[←da];refine(List.perm_append_comm.append_right _).trans ?_;rw[da];exact gU _ pe.symm
  refine#[z1,by show(gone.map AN).length+1<=sizeLine;rw[Ev,fA];lk,hrec _ _ _ j0 #[N,t,b,many,kept,gone++[u],left.erase u,by rw[MO],okn,tm,bt,?_,by lk,hm,λd hd kd=>?_]]
  .refine iH ?_ hp
   rw[←da,da (kept++gone)];exact gU _ pe.symm
  exact#[by show 4<=sizeLine;decide,p (.sp u c d) (.sp pe hc hd) #[lN u hu,kc,kd]]) (by walk_at "R") (by cbv) 10
theorem J7:A.Y "least_thin" 18 ["net","times"] .sh UH:=A.got A.h0w λT F m b=>by
 let#[_,Gae]:=T.Gae;exact bw F ["net","times","thin"] (λnd hr=>(AA (AT (Bq LZ Po (G9 T.Gab^Ad (dv 0) AC) (Ly rfl Gae)) (AD Bl) AL)
 (AA (Bi 2 nd^cg hr (Lh A)^AM 0^AM 1^Ai (cg hr (C2 A)^AM 0^AX (Dz^Ad (dv 0) AC) AB)^Ai (Ad (dv 0) AC) AB)
 (AD^AH^Ap^AF (dv 2)^AF (cg hr (D7 A)^AM 0^AM 1^AM 2 AB)^AF (cg hr (N_ A)^AM 0^AM 1^Ai (G9 T.Gab^Ad (dv 2) AC)^Ai (A4 AJ)^Ai (A4 AJ) AB) AJ)))) (@λss n Pd h=>by
 let#[N,t,b,rfl,okn,tm,bt,l10,p]:=h;have ok:=okn.1;have th:thn N N.ts:=#[λ_ h=>h,ok.trise];have kN:Nf N t b N.ts:=(E_ okn tm bt th).mp λu hu=>absurd (eE.mp hu).1 (of_decide_eq_true (eE.mp hu).2);refine#[_,AE (j:=1) rfl,_,_,rfl,rfl,?_];rw[Ev];show if(decide ((10:Int)<(N.ts.length:Int)))=m_ then _ else _
 rw[decide_eq_false^by lk];refine A1 #[_,AE (j:=1) rfl,N,_,N.ts,rfl,rfl,by lk,λts' p1 p2=>?_];rw[Cs p1 p2^CP ok.trise];refine#[_,AE (j:=1) rfl,N,t,b,N.ts,N.ts,rfl,okn,tm,bt,th,λ_ h=>h,kN,l10,by lk,λr f=>?_];have few:Jg N t b r.length:=λS hS kS=>f.few S #[λx hx=>hS.subset hx,ok.trise.sublist hS] kS (λx hx=>hS.subset hx) λx hx hn=>absurd hx hn;refine#[N,r,t,b,rfl,okn,f.th,tm,λws hw _=>?_,fun#[u,hu,hn]=>absurd ((E_ okn tm bt f.th).mpr f.kp u hu) hn];refine#[_,AE (j:=1) rfl,_,_,rfl,rfl,dq _,dq _,?_];rw[Ev];exact#[N,t,b,r.length,[],[],N.ts,rfl,okn,tm,bt,List.Perm.refl _,l10,few,λc hc kc=>#[by show 3<=sizeLine;decide,p _ #[r,ws,c,rfl,f.th,f.kp,few,hw,hc,kc]]])
theorem Ea:A.Y "way_fault" 4 ["net","times","tie","thing"] .sh Pu:=A.gk A.h0x ["net","times","tie","thing","length"] (λ_ nd hr=>(AA (Bi 4 nd^cg hr (By A)^AM 0^Ai (Ad (dv 2) AC)^Ai (Ad (dv 2) AC)^AM 3 AB)
 (AA (AT (Bq B3 C8 (dv 4) Af) (AD^AH Ak) AL)
 (AD^AH^FG (AZ^cg hr (CA A)^AM 4^AM 1^Ai (Ad (dv 2) AC) AB) Af Ak)))) (@λss n Pd h=>by
 let#[M,t,b,u,w,d,rfl,okm,#[b1,b2,t1,t2],hw,hle,p]:=h;refine#[_,AE rfl,_,AE rfl,M,_,_,w,d,rfl,okm,hw,#[rfl,?_]];refine#[_,AE rfl,d,t,b,_,rfl,b1,b2,t1,t2,?_];rw[decide_eq_true hle];exact p)
theorem C9:A.Y "prices_fault" 4 ["net","times","tie","thing"] .sh RF:=A.gk A.h0y ["net","times","tie","thing"] (λ_ _ hr=>(AA (AT (Aj^AZ^cg hr (F7 A)^AM 0^AM 3 AB) (AD^AH Ak) AL)
 (AD^AH^FG (AZ^cg hr (CA A)^Ai (cg hr (DK A)^AM 0^AM 3^Ai (Ad (dv 2) AC)^Ai (Ad (dv 2) AC) AB)^AM 1^Ai (Ad (dv 2) AC) AB) Ak Af))) (@λss n Pd h=>by
 let#[M,t,b,u,xs,rfl,okm,#[b1,b2,t1,t2],ha,hb,hf,hlt,p]:=h;let#[f1,f2]:=VS hf;refine#[M,_,rfl,okm,?_];rw[hf];refine A1 #[_,AE rfl,_,AE rfl,M,_,_,_,rfl,okm,f1,f2,ha,hb,_,AE rfl,_,t,b,_,rfl,b1,b2,t1,t2,?_];rw[decide_eq_false^by lk];exact p)
theorem ID:A.Y "greedy_fault" 5 ["times","thin","tie","entry"] .sh K8:=A.gk A.h0z ["times","thin","tie","entry","kept","ahead"] (λ_ nd hr=>(AA (Bi 4 nd^BN (CN hr) CV (dv 2) (Ad (dv 1) AC)^by with_unfolding_all rfl)
 (AA (AT (Bq Kg RA (dv 4)^BN Cc El (Ad (dv 3) AC) Ak^Bg _) (AD^AH Ak) AL)
 (AA (Bi 5 nd^cg hr (CS A)^AM 1^AM 2 AB)
 (AD^AH^FG (AZ^dv 4) (cg hr (C9 A)^AM 5^AM 0^AM 2^Ai (Ad (dv 3) AC) AB)^cg hr (Ea A)^AM 5^AM 0^AM 2^Ai (Ad (dv 3) AC) AB))))) (@λss n Pd h=>by
 let#[N,t,b,pre,post,u,row,rfl,okn,tm,hp,hr,hrow,p]:=h;have ok:=okn.1;have nd:(pre++u::post).Nodup:=hp.nodup_iff.mpr^AV ok.trise;have hu:u∈N.ts:=hp.subset^TM _ FM;let#[ha,hb,_]:=ok.tin u hu
 have key:decide (u∈(sub N^Aa N t b [] (pre++u::post)).ts)=!CT (sub N^Aa N t b [] pre) t b u:=by
  rw[e9,decide_eq_true_eq,sub_mem,M_ nd,i8];exact#[λh=>h.2,λh=>#[hu,h]]
 refine#[_,AE (j:=1) rfl,Br ok hu,(CH ok λv hv=>(sub_mem.mp hv).1).1,_,rfl,?_];rw[Cp,key]
 rcases hrow with⟨hn,xs,rfl,_,hf,hlt⟩|⟨hn,w,d,rfl,hw,hle⟩
 .rw[hn]
  refine#[_,AE (j:=0) rfl,?_];refine#[sub N^Aa N t b [] (pre++u::post),u,rfl,BJ okn _,?_];rw[Hc nd hr];exact#[_,AE (j:=1) rfl,sub N^Aa N t b [] pre,t,b,u,_,rfl,BJ okn _,tm,ha,hb,hf,hlt,p]
 .rw[hn]
  refine#[_,AE (j:=0) rfl,?_];refine#[sub N^Aa N t b [] (pre++u::post),u,rfl,BJ okn _,?_];rw[Hc nd hr];exact#[_,AE (j:=1) rfl,sub N^Aa N t b [] pre,t,b,u,w,d,rfl,BJ okn _,tm,hw.up^by cbv,hle,p])
theorem F6:A.Y "is_greedy_entry" 2 ["thing"] .sh RI:=A.gk A.h10 ["thing"] (λ_ _ hr=>(AD^AH^Bs (cg hr (AU A)^Ai AC^AM 0 AB)^CF^BN (CN hr) CV (Ad (dv 0) AC) (Ap^AF Ak^AF Ak AJ)^by with_unfolding_all rfl)) (@λss n Pd h=>by
 let#[s,y,rfl,hs,p]:=h;have st:∀x∈[("in":Str),"out"],∀c∈cs x,c<1114112:=by decide +kernel
 have l2:Cg^.tup [.str "in",.str "out"]:=C_ (B:=10) (by cbv) #[st _^by simp,st _^by simp,trivial] (by cbv);refine#[2,_,rfl,?_]
 rcases hs with rfl|rfl
 .exact#[_,AE (j:=0) rfl,z2,C_ (B:=10) (d:=.str "in") (by cbv) (st _^by simp)^dq _,l2,_,rfl,p]
 .exact#[_,AE (j:=0) rfl,z2,C_ (B:=10) (d:=.str "out") (by cbv) (st _^by simp)^dq _,l2,_,rfl,p])
theorem JN:A.Y "lets_greedy" 6 ["net","times","thin","paper"] .sh UJ:=A.gk A.h11 ["net","times","thin","paper","number","tie","fault"] (λT nd hr=>(AA (AT (DTW.dt^Bk (Aj^AZ^cg hr (Df A)^AM 0^AM 2 AB)^BV^Aj^AZ^cg hr (AU A)^Ai (G9 T.Gab^Ad (dv 0) AC)^AM 3 AB) (AD Bl) AL)
 (AA (AT (Aj^AZ (Ar (Co rfl) G4 rfl T.Gah fZ (AR (Hw ["entry"] [l_] (A6^dv 3) (λnq=>Bo 0 nq) Az^cg hr (F6 A)^AM 0 AB) Ab))) (AD Bl) AL)
 (AA (A7 d7 rfl (Ej rfl T.Gad (cg hr (BL A)^Ai (Ad (dv 0) AC) AB)) (Ky^AQ (Bo 4 nd)^AQ (Bo 5 nd) BS) (AA (Bi 6 nd^cg hr (ID A)^AM 1^AM 2^AM 5^Ai (Ad (dv 3)^dv 4) AB)
 (AD^AT (Bq DJ Ek (dv 6) Af) (AD Bl) AL)))
 (AD^AH BE))))) (@λss n Pd h=>by
 let#[N,t,b,ord,rs,rfl,okn,l24,tm,hp,hr,hpap,p]:=h;have ok:=okn.1;have okm:=BJ okn^Aa N t b [] ord;have ht:=FR okn^Aa N t b [] ord;have l60:=okn.2.2;have sz:=Fz okm;have szl:=PySem.sizeLine_eq;have hlen:=hpap.len;have hol:=hp.length_eq;refine#[N,enc^sub N^Aa N t b [] ord,rfl,ok,l24,l60,(C1 (by cbv) _).1 _ (Re _) sz.1,by have:=sz.2.1;lk,by have:=sz.2.2;lk,?_];rw[show thinB N^enc^sub N^Aa N t b [] ord=m_ from ht.thinB];refine A1 #[_,AE (j:=1) rfl,_,_,rfl,rfl,_,_,rfl,?_];show if(!((rs.length:Int)==((N.ts.map AN).length:Int)))=m_ then _ else _
 rw[Ev,hlen,hol,beq_self_eq_true];refine A1 #[by lk,?_];refine BA (λ_=>.bl m_) (λρ=>∃s,ρ=[s]) _ _ _ _ ?_ #[_,rfl] ?_
 .rintro d hd ρ n' nx ⟨s,rfl⟩ hnx
  let#[s,y,rfl,hs]:=hpap.shape d hd;exact#[s,y,rfl,hs,hnx _ #[_,rfl]]
 rw[eA];refine#[_,_,rfl,FL (λ_=>m_) rs,?_];show if(!((rs.map λ_=>m_).all id))=m_ then _ else _
 rw[show((rs.map λ_=>m_).all id)=m_ from fX.mpr λx hx=>by let#[_,_,rfl]:=TW.mp hx;rfl];refine A1 #[_,AE (j:=1) rfl,_,N.ts,rfl,rfl,by lk,λord' o1 o2=>#[_,rfl,?_]];obtain rfl:=Av (o1.trans hp.symm) o2 hr
 have go:∀(us pre:o_ Tie) (rs1 rs2:o_ D) (s4 s5 s6:Slot),pre++us=ord'->rs1++rs2=rs->rs1.length=pre.length->aX N t b (Aa N t b [] pre) us rs2->
   A9 (D_ 2^An (Ae 4)^An (Ae 5) CU) Zk {EE Pd with nx:=CY (wC^D.bl m_)^EE Pd} (C7 rs1.length^us.map AN) n [.sh^enc N,.sh^G7 t b,.sh^enc^sub N^Aa N t b [] ord',.sh^.tup rs,s4,s5,s6]:=by
  intro us
  induction us with
  |nil=>intro pre rs1 rs2 s4 s5 s6 _ _ _ _;exact p
  | cons u us ih=>
   intro pre rs1 rs2 s4 s5 s6 e1 e2 e3 hk
   match rs2,hk with
   |row::rs2,#[hrow,hk]=>
    have hat:rs[rs1.length]?=P3 row:=by rw[←e2,eT^Re _,gc];rfl
    unfold Zk;refine#[rfl,rfl,_,AE hat,N,t,b,pre,us,u,row,by rw[e1],okn,tm,by rw[e1];exact o1,by rw[e1];exact o2,hrow,#[rfl,?_]]
    have:=ih (pre++[u]) (rs1++[row]) rs2 (.sh^.int (rs1.length:Int)) (.sh^AN u) (.sh .non) (by rw[da];exact e1) (by rw[da];exact e2) (by rw[XV,XV,e3];rfl)^by rw[DR];exact hk
    rw[XV,d8]at this;exact this
 exact go ord' [] [] rs _ _ _ rfl rfl rfl hpap)
theorem Ge:A.Y "lets_ways" 6 ["net","times","thin","paper"] .sh Ob:=A.gk A.h12 ["net","times","thin","paper","number","tie","fault"] (λT nd hr=>(AA (AT (DTW.dt^Bk (Aj^AZ^cg hr (Df A)^AM 0^AM 2 AB)^BV^Aj^AZ^cg hr (AU A)^Ai (G9 T.Gab^cg hr (CQ A)^AM 0^AM 2 AB)^AM 3 AB) (AD Bl) AL)
 (AA (A7 d7 rfl (Ej rfl T.Gad (cg hr (CQ A)^AM 0^AM 2 AB)) (Ky^AQ (Bo 4 nd)^AQ (Bo 5 nd) BS) (AA (Bi 6 nd^cg hr (Ea A)^AM 2^AM 1^AM 5^Ai (Ad (dv 3)^dv 4) AB)
 (AD^AT (Bq DJ Ek (dv 6) Af) (AD Bl) AL)))
 (AD^AH BE)))) (@λss n Pd h=>by
 let#[N,ts,t,b,ws,rfl,okn,l24,ht,tm,hp,p]:=h;have okm:=ht.okN okn;have l60:=okn.2.2;have sz:=Fz okm;have szl:=PySem.sizeLine_eq;refine#[N,enc #[N.ps,ts],rfl,okn.1,l24,l60,(C1 (by cbv) _).1 _ (Re _) sz.1,by have:=sz.2.1;lk,by have:=sz.2.2;lk,?_];show if(!thinB N (enc #[N.ps,ts]))=m_ then _ else _
 rw[ht.thinB];refine A1 #[N,ts,rfl,okn.1,by lk,ht.1,λlo p1 p2=>#[_,_,rfl,rfl,?_]];have hlen:=(hp lo p1 p2).len;refine#[_,_,rfl,?_];show if(!(((ws.map CW).length:Int)==((lo.map AN).length:Int)))=m_ then _ else _
 rw[Ev,Ev,hlen,beq_self_eq_true];refine A1 #[N,ts,rfl,okn.1,by lk,ht.1,λlo p1 p2=>#[_,rfl,?_]];have pap:=hp lo p1 p2
 have go:∀(us:o_ Tie) (ws1 ws2:o_^o_ Str) (s4 s5 s6:Slot),ws1++ws2=ws->Wp #[N.ps,ts] t b us ws2->
   A9 (D_ 2^An (Ae 4)^An (Ae 5) CU) (Bz (Cr 6^Ag Pu^AG (AK^AI 2)^AG (AK^AI 1)^AG (AK^AI 5)^AG (AK^BC EL (AI 3)^AI 4) Am)
 (CK (A8^BC (Ex m_) (AI 6)^wC D.non) Fy Bj)) {EE Pd with nx:=CY (wC^D.bl m_)^EE Pd} (C7 ws1.length^us.map AN) n [.sh^enc N,.sh^.tup [.int t,.int b],.sh^enc #[N.ps,ts],.sh^.tup^ws.map CW,s4,s5,s6]:=by
  intro us
  induction us with
  |nil=>intro ws1 ws2 s4 s5 s6 _ _;exact p
  | cons u us ih=>
   intro ws1 ws2 s4 s5 s6 e hk
   match ws2,hk with
   |w::ws2,#[#[d,hw,hle],hk]=>
    have hat:(ws.map CW)[ws1.length]?=P3^CW w:=by rw[←e,di,eT^Re _,gc];rfl
    refine#[rfl,rfl,_,AE hat,#[N.ps,ts],t,b,u,w,d,rfl,okm,tm,hw,hle,#[rfl,?_]]
    have:=ih (ws1++[w]) ws2 (.sh^.int (ws1.length:Int)) (.sh^AN u) (.sh .non) (by rw[da];exact e) hk
    rw[XV,d8]at this;exact this
 exact go lo [] ws _ _ _ rfl pap)
theorem J9:A.Y "are_broken" 3 ["ahead","many","thing"] .sh RK:=A.gk A.h13 ["ahead","many","thing"] (λT _ hr=>(AA (AT (DTW.dt^Bk (Aj^AZ (FF kit_tuple (dv 2) rfl T.Gac rfl T.Gaa (by decide +kernel)))^BV^Bq LZ Po (G9 T.Gab^dv 2)^dv 1) (AD^AH BE) AL)
 (AD^AH^Bs (Ar (Co rfl) G4 rfl T.Gah fZ (AR (Hw ["ahead","tie"] [P3 0,l_] (A6^dv 2) (λnq=>Bo 1 nq) Az^cg hr (DL A)^AM 0^AM 1 AB) Ab))^CF^cg hr (Ec A)^AM 2 AB))) (@λss n Pd h=>by
 let#[A,S,m,rfl,okn,hr,hin,hl,p]:=h;have l60:=okn.2.2;have hS:=sub_len (AV hr) (AV okn.1.trise) hin;let#[h1,h2]:=XM okn hr hin;refine#[_,_,rfl,rfl,?_];show if decide ((m:Int)<((S.map AN).length:Int))=m_ then _ else _
 rw[Ev,decide_eq_false^by lk];refine A1 #[by show(S.map AN).length<=10000000;rw[Ev];lk,?_];refine BA (λ_=>.bl m_) (λρ=>∃s,ρ=[.sh^enc A,s]) _ _ _ _ ?_ #[_,rfl] ?_
 .rintro d hd ρ m nx ⟨s,rfl⟩ hnx
  let#[v,hv,rfl]:=TW.mp hd;refine#[A,_,rfl,okn.1,Br okn.1^hin v hv,?_];rw[h1 v hv];exact hnx _ #[_,rfl]
 rw[eA]
 delta BZ
 dsimp only
 refine FE #[_,S.map AN,rfl,rfl,by rw[Ev];lk,λa ha b hb=>?_,?_]
 .let#[s,_,rfl]:=TW.mp ha
  let#[t,_,rfl]:=TW.mp hb;exact#[_,Ln s t]
 rw[h2];exact p)
theorem Mh:A.Y "shows_in" 5 ["ahead","times","tie","many","entry"] .sh Ya:=A.gk A.h14 ["ahead","times","tie","many","entry"] (λ_ _ hr=>(AD^AH^Bs (cg hr (J9 A)^AM 0^AM 3^Ai (Ad (dv 4) AC) AB)^CF^BN B3 C8 (cg hr (C9 A)^Ai (cg hr (B9 GL^Bb A)^AM 0^Ai (Ad (dv 4) AC) AB)^AM 1^AM 2^Ai (Ad (dv 4) AC) AB) Af^Bg _)) (@λss n Pd h=>by
 let#[A,t,b,u,m,x,y,rfl,okn,tm,ha,hb,#[S,xs,rfl,rfl,hr,hin,hl,hf,hg],p]:=h;exact#[_,AE (j:=1) rfl,A,S,m,rfl,okn,hr,hin,hl,_,AE (j:=1) rfl,A,_,S,rfl,rfl,okn,hin,_,AE (j:=2) rfl,minus A S,t,b,u,xs,rfl,HN okn S,tm,ha,hb,hf,hg,rfl,p])
omit A in
theorem lC:BU ["net","times","tie","many","thing","steps","step","bush"] ["net","times","tie","many","thing"]^AS Ka:=by walk_at "s"
theorem N9:A.Y "is_bush" 7 ["net","times","tie","many","thing"] .sh^RG 2:=A.got A.h15 λT F m b=>Hs 3 F lC m b (λhk lE hr=>(AA (AT (DTW.dt^Bk (Aj^AZ (AY (AU A) (hr.mono^by lk) rfl (Ai AC^AM 4 AB)))^BV^Bq DJ Ek (AY (Ea A) (hr.mono^by lk) rfl (AM 0^AM 1^AM 2^Ai (Ad (dv 4) AC) AB)) Af) (AD^AH BE) AL)
 (AA (Bi 5 lC.nd^FG (Bq LZ Po (dv 3) AC) (DE.sh (AY (Eb A) (hr.mono^by lk) rfl (AM 0^Ai (Ad (dv 4) AC) AB)))^DE.sh^A4 AJ)
 (AA (AT (Aj^AZ (AY (AU A) (hr.mono^by lk) rfl (Ai (G9 T.Gab^dv 5)^Ai (Ad (dv 4) AC) AB))) (AD^AH BE) AL)
 (AA (A7 d7 rfl (TZ rfl T.Gam (AF (dv 5)^AF (Ad (dv 4) AC) AJ)) (Ky^AQ (Bo 6 lC.nd)^AQ (Bo 7 lC.nd) BS) (AD^AT (Aj^AZ (AY lE (hr.mono^Re _) rfl (Ai (AY (B9 GL^Bb A) (hr.mono^by lk) rfl (AM 0^Ai (A4^AF (dv 6) AJ) AB))^AM 1^AM 2^Ai (As EX GG (dv 3) AC)^AM 7 AB))) (AD^AH BE) AL))
 (AD^AH BE)))))) (@λWr j ss n Pd hrec h=>by
 let#[N,t,b,u,m,d,rfl,hm,okn,tm,hb,p]:=h;cases m with
 |zero=>
  let#[w,l,rfl,hw,hle]:=hb;refine#[2,_,rfl,_,AE (j:=0) rfl,N,t,b,u,w,l,rfl,okn,tm,walkedK.up (by cbv) hw,hle,rfl,?_];exact#[z0,_,_,rfl,rfl,_,AE (j:=1) rfl,0,_,rfl,_,AE (j:=1) rfl,_,_,_,_,rfl,rfl,rfl,p]
 | succ m=>
  let#[w,l,us,bs,rfl,#[hw,hle],hov,hul,hl,hbs]:=hb;refine#[2,_,rfl,_,AE (j:=0) rfl,N,t,b,u,w,l,rfl,okn,tm,walkedK.up (by cbv) hw,hle,rfl,?_];refine A1^B8 (λ_=>?_) λc=>absurd (decide_eq_true (by lk:(0:Int)<((m+1:Nat):Int))) c;refine#[_,AE (j:=0) rfl,N,w,l,rfl,okn,hw.2.2.1,hw.2.2.2.1,hw.2.2.2.2,λus' hov' _=>?_];obtain rfl:=hov.uniq okn.1 hov';refine#[_,_,rfl,rfl,_,AE (j:=1) rfl,_,_,rfl,?_];show if(!((bs.length:Int)==((us.map AN).length:Int)))=m_ then _ else _
  rw[hl,Ev,beq_self_eq_true];refine A1 #[_,AE (j:=1) rfl,_,_,_,_,rfl,rfl,rfl,?_]
  have go:∀(vs:o_ Tie) (ds:o_ D) (s6 s7:Slot),vs.length=ds.length->(∀p∈vs.zip ds,p.1∈N.ts/\GF t b u m (Ah N p.1) p.2)->
    A9 (D_ 2^An (Ae 6)^An (Ae 7) CU) (bh Wr) {EE Pd with nx:=CY (wC^D.bl m_)^EE Pd} (DY (vs.map AN) ds) n [.sh^enc N,.sh^G7 t b,.sh^AN u,.sh^.int ((m+1:Nat):Int),.sh^.tup [CW w,.tup bs],.sh^.lst^us.map AN,s6,s7]:=by
   intro vs
   induction vs with
   |nil=>intro ds s6 s7 _ _;exact p
   | cons v vs ih=>
    intro ds s6 s7 hl h;cases ds with
    |nil=>cases hl
    |cons d ds=>
     let#[h1,h2]:=h (v,d) FM;refine#[rfl,rfl,z1,N,_,[v],rfl,rfl,okn,λx hx=>On.mp hx▸h1,?_];rw[GC];refine hrec _ _ _ (by lk) #[Ah N v,t,b,u,m,d,by rw[show(m:Int)=((m+1:Nat):Int) - 1 by lk],by lk,Bv okn v,tm,h2,A1 ?_];exact ih ds _ _ (Nat.succ.inj hl) λq hq=>h q^Sc _ hq
  exact go us bs _ _ hl.symm λq hq=>#[hov.mem q.1 (iX hq).1,hbs q hq]) (by walk_at "R") (by cbv) 2
theorem Gj:A.Y "breaking_fault" 8 ["thin","times","tie","many","entry"] .sh K9:=A.gk A.h16 ["thin","times","tie","many","entry","ahead"] (λ_ nd hr=>(AA (Bi 5 nd^cg hr (CS A)^AM 0^AM 2 AB)
 (AA (AT (Bq (CN hr) CV (dv 2)^Ad (dv 0) AC) (AA (AT (DTW.dt^Bk (Aj^AZ^cg hr (AU A)^Ai AC^AM 4 AB)^BV^Bq Kg RA (Ad (dv 4) AC) Ak) (AD^AH Ak) AL)
 (AD^AH^FG (AZ^cg hr (Mh A)^AM 5^AM 1^AM 2^AM 3^AM 4 AB) Af Ak)) AL)
 (AA (AT (DTW.dt^Bk (Aj^AZ^cg hr (AU A)^Ai AC^AM 4 AB)^BV^Bq Kg RA (Ad (dv 4) AC) Ak) (AD^AH Ak) AL)
 (AD^AH^FG (AZ^cg hr (N9 A)^AM 5^AM 1^AM 2^AM 3^Ai (Ad (dv 4) AC) AB) Af Ak))))) (@λss n Pd h=>by
 let#[N,t,b,m,pre,post,u,row,rfl,okn,tm,hm,o1,o2,hr,p]:=h;have ok:=okn.1;have nd:(pre++u::post).Nodup:=o1.nodup_iff.mpr^AV ok.trise;have hu:u∈N.ts:=o1.mem_iff.mp^TM _ FM;let#[m1,m2,_]:=ok.tin u hu;have okt:okN^BK N t b m (pre++u::post):=BJ okn _;have okA:=BJ okn^Be N t b m [] pre;refine#[_,u,rfl,okt,?_];rw[Jw nd o2];refine#[_,AE (j:=1) rfl,Br ok hu,(CH okt.1 λv h=>h).1,_,rfl,?_];show if(((BK N t b m (pre++u::post)).ts.map AN).any λy=>Dn y^AN u)=m_ then _ else _
 rw[Cp]
 rcases hr with⟨hn,x,y,rfl,hi⟩|⟨hn,d,rfl,hd⟩
 .rw[decide_eq_true (p:=u∈(BK N t b m (pre++u::post)).ts)^sub_mem.mpr #[hu,(Ko nd).mpr hn]]
  exact Ci #[3,_,rfl,_,AE (j:=0) rfl,_,t,b,u,m,x,y,rfl,okA,tm,m1,m2,hi,p]
 .rw[decide_eq_false (p:=u∈(BK N t b m (pre++u::post)).ts) λz=>(Ko nd).mp (sub_mem.mp z).2 hn]
  exact A1 #[2,_,rfl,_,AE (j:=0) rfl,_,AE (j:=1) rfl,_,t,b,u,m,d,rfl,hm,okA,tm,hd,p])
theorem HJ:A.Y "lets_breaking" 9 ["net","times","many","thin","paper"] .sh Vw:=A.gk A.h17 ["net","times","many","thin","paper","number","tie","fault"] (λT nd hr=>(AA (AT (DTW.dt^Bk (Aj^AZ^cg hr (Df A)^AM 0^AM 3 AB)^BV^Aj^AZ^cg hr (AU A)^Ai (G9 T.Gab^Ad (dv 0) AC)^AM 4 AB) (AD Bl) AL)
 (AA (A7 d7 rfl (Ej rfl T.Gad (cg hr (BL A)^Ai (Ad (dv 0) AC) AB)) (Ky^AQ (Bo 5 nd)^AQ (Bo 6 nd) BS) (AA (Bi 7 nd^cg hr (Gj A)^AM 3^AM 1^AM 6^AM 2^Ai (Ad (dv 4)^dv 5) AB)
 (AD^AT (Bq DJ Ek (dv 7) Af) (AD Bl) AL)))
 (AD^AH BE)))) (@λss n Pd h=>by
 let#[N,t,b,m,ord,rs,rfl,okn,l24,tm,hm,o1,o2,#[hl,hI],p]:=h;have l60:=okn.2.2;have ht:thn N (BK N t b m ord).ts:=FR okn _;have okt:okN^BK N t b m ord:=BJ okn _;have sz:=Fz okt;refine#[N,enc^BK N t b m ord,rfl,okn.1,l24,l60,(C1 (by cbv) _).1 _ (Re _) sz.1,by have:=sz.2.1;lk,by have:=sz.2.2;lk,?_];rw[show thinB N^enc^BK N t b m ord=m_ from ht.thinB];refine A1 #[_,AE (j:=1) rfl,_,_,rfl,rfl,_,_,rfl,?_];show if(!((rs.length:Int)==((N.ts.map AN).length:Int)))=m_ then _ else _
 rw[hl,Ev,o1.length_eq,beq_self_eq_true];refine A1 #[_,AE (j:=1) rfl,_,N.ts,rfl,rfl,by lk,λo' p1 p2=>#[_,rfl,?_]];obtain rfl:=Av (p1.trans o1.symm) p2 o2
 have go:∀(rest done:o_ Tie) (s5 s6 s7:Slot),done++rest=o'->
   A9 (D_ 2^An (Ae 5)^An (Ae 6) CU) bX {EE Pd with nx:=CY (wC^D.bl m_)^EE Pd} (C7 done.length (rest.map AN)) n [.sh^enc N,.sh^G7 t b,.sh^.int (m:Int),.sh^enc^BK N t b m o',.sh^.tup rs,s5,s6,s7]:=by
  intro rest
  induction rest with
  |nil=>intro done s5 s6 s7 _;exact p
  |cons u rest ih=>
   intro done s5 s6 s7 e;have hk:done.length<rs.length:=by rw[hl,←e,XV,dg];lk
   have hr:=Op hk;refine#[rfl,rfl,_,AE hr,N,t,b,m,done,rest,u,_,by rw[e],okn,tm,hm,by rw[e];exact o1,by rw[e];exact o2,hI done u rest _ e hr,rfl,A1 ?_]
   have:=ih (done++[u]) (.sh^.int (done.length:Int)) (.sh^AN u) (.sh .non)^by rw[da];exact e
   rw[XV,d8]at this;exact this
 exact go o' [] _ _ _ rfl)
theorem Lb:A.Y "shows_far" 5 ["net","times","out","thing"] .sh Vr:=A.gk A.h18 ["net","times","out","thing"] (λ_ _ hr=>(AA (AT (DTW.dt^Bk (Aj^AZ^cg hr (DL A)^AM 0^Ai (Ad (dv 3) AC) AB)^BV^Bq (EG hr) CV (Ad (dv 3) AC)^dv 2) (AD^AH BE) AL)
 (AD^AH^BN B3 C8 (cg hr (C9 A)^Ai (cg hr (B9 LF^Bb A)^AM 0^AM 2 AB)^AM 1^Ai (Ad (dv 3) AC)^Ai (Ad (dv 3) AC) AB) Af^Bg _))) (@λss n Pd h=>by
 let#[N,t,b,gone,u,p,rfl,okn,tm,hg,hu,hin,hf,q]:=h;let#[ha,hb,_]:=okn.1.tin u hu;unfold Qr at hf;let#[f1,f2]:=Bool.and_eq_true_iff.mp hf;refine#[_,AE (j:=1) rfl,N,_,rfl,okn.1,Br okn.1 hu,?_];rw[Om hu];refine A1 #[_,AE (j:=1) rfl,Br okn.1 hu,OI okn.1 hg,_,rfl,?_];rw[Cp,decide_eq_true hin];refine A1 #[N,N,_,gone,rfl,rfl,okn,okn,hg,_,AE (j:=1) rfl,_,AE (j:=2) rfl,DH N gone,t,b,u,_,rfl,Gc okn gone,tm,ha,hb,f1,of_decide_eq_true f2,rfl,q])
omit A in
theorem lF:BU ["net","times","many","kept","out","deep","thing","tie"] ["net","times","many","kept","out","deep","thing"]^AS Iz:=by walk_at "s"
theorem Mi:A.Y "shows_by" 17 ["net","times","many","kept","out","deep","thing"] .sh^Yb 11:=A.got A.h19 λT F m b=>Hs 4 F lF m b (λhk lG hr=>(AA (AT (Bq Cc El (dv 5) AC) (AD^AH BE) AL)
 (AA (AT (Bq (La hr) Pp (dv 6)^Ap^AF Ak AJ) (AD^AH^BN N4 T3 (G9 T.Gab^dv 3) (dv 2)^Bg _) AL)
 (AA (AT (DTW.dt^Jj (AZ (AY (AU A) (hr.mono^by lk) rfl (Ai AC^AM 6 AB)))^Gv^Bq Cc El (Ad (dv 6) AC) Ak) (AD^AH (AY (Lb A) (hr.mono^by lk) rfl (AM 0^AM 1^AM 4^AM 6 AB))) AL)
 (AA (AT (DTW.dt^Bk (Aj^AZ (AY (AU A) (hr.mono^by lk) rfl (Ai AC^AM 6 AB)))^BV^Bq Kg RA (Ad (dv 6) AC) Ak) (AD^AH BE) AL)
 (AA (Bi 7 lF.nd^Ad (dv 6) AC)
 (AA (AT (DTW.dt^Bk (Aj^AZ (AY (DL A) (hr.mono^by lk) rfl (AM 0^AM 7 AB)))^Bk (Bq (CN hr) CV (dv 7)^dv 3)^BV^Bq (CN hr) CV (dv 7)^dv 4) (AD^AH BE) AL)
 (AA (AT (Aj^AZ (AY lG (hr.mono^Re _) rfl (AM 0^AM 1^AM 2^Ai (As Ax BI (dv 3)^A4^AF (dv 7) AJ)^AM 4^Ai (As EX GG (dv 5) AC)^Ai (Ad (dv 6) AC) AB))) (AD^AH BE) AL)
 (AD^AH (AY lG (hr.mono^Re _) rfl (AM 0^AM 1^AM 2^AM 3^Ai (As Ax BI (dv 4)^A4^AF (dv 7) AJ)^Ai (As EX GG (dv 5) AC)^Ai (Ad (dv 6) AC) AB))))))))))) (@λWr j ss n Pd hrec h=>by
 let#[N,t,b,many,kept,gone,deep,c,rfl,okn,tm,hk,hg,l1,l2,hc,hd,hj,ho,q]:=h;have ok:=okn.1;have szl:=PySem.sizeLine_eq;have dp:=Gy c;have layC:=Ts ok hc (by lk);have layE:Cg^.tup [.str "enough"]:=Ts (c:=.en) ok trivial (by cbv);show if((deep:Int)==0)=m_ then _ else _
 rw[show((deep:Int)==0)=n_ from beq_eq_false_iff_ne.mpr^by lk];refine A1 #[z1,layC,layE,?_];cases c with
 |en=>
  show if Dn (.tup [.str "enough"]) (.tup [.str "enough"])=m_ then _ else _
  rw[show Dn (.tup [.str "enough"])^.tup [.str "enough"]=m_ by decide +kernel];refine Ci #[_,_,rfl,rfl,?_];have ho:many<=kept.length:=of_decide_eq_true ho;show Pd (.bl (decide ((many:Int)<=(((kept.map AN).length:Nat):Int)))) n;rw[decide_eq_true^by rw[Ev];lk];exact q
 |fa u p=>
  let#[hu,hp]:=hc;unfold VA at ho;simp only[dh,decide_eq_true_eq]at ho;rw[show Dn (Ca.fa u p).D^.tup [.str "enough"]=n_ from rfl];refine A1 #[3,_,rfl,?_];refine Ci #[_,AE (j:=0) rfl,?_];exact#[N,t,b,gone,u,p,rfl,okn,tm,hg,hu,ho.1.2,ho.2,q]
 |sp u c d=>
  let#[hu,hc1,hc2]:=hc;have hdep:1+max c.dep d.dep<=j+1:=hj;have hdeep:1+max c.dep d.dep<=deep:=hd;have hl1:kept.length+(1+max c.dep d.dep)<=90:=l1;have hl2:gone.length+(1+max c.dep d.dep)<=90:=l2;have p1:=Gy c;have p2:=Gy d;unfold VA at ho;simp only[dh,decide_eq_true_eq]at ho;let#[#[#[#[_,o1],o2],o3],o4]:=ho;rw[show Dn (Ca.sp u c d).D^.tup [.str "enough"]=n_ from rfl];refine A1 #[3,_,rfl,?_];refine A1^A1 #[4,_,rfl,?_];refine A1 #[_,AE (j:=0) rfl,?_];refine#[_,AE (j:=1) rfl,?_];refine#[N,_,rfl,ok,Br ok hu,?_];rw[Om hu];refine A1 #[Br ok hu,OI ok hk,_,rfl,?_];rw[Cp,decide_eq_false o1];refine A1 #[Br ok hu,OI ok hg,_,rfl,?_];rw[Cp,decide_eq_false o2];have hk':MW N (kept++[u]):=#[λv hv=>(ZB.mp hv).elim (hk.1 v) λz=>by rw[On.mp z];exact hu,by rw[XV,d8];lk];have hg':MW N (gone++[u]):=#[λv hv=>(ZB.mp hv).elim (hg.1 v) λz=>by rw[On.mp z];exact hu,by rw[XV,d8];lk];have ek:kept.map AN++[AN u]=(kept++[u]).map AN:=by rw[eX];rfl
  have eg:gone.map AN++[AN u]=(gone++[u]).map AN:=by rw[eX];rfl
  have ed:(deep:Int) - 1=((deep - 1:Nat):Int):=by lk
  refine A1 #[z1,by show(kept.map AN).length+1<=_;rw[Ev];lk,_,AE (j:=2) rfl,?_];rw[ek,ed];refine hrec _ _ _ (by lk) #[N,t,b,many,kept++[u],gone,deep - 1,c,rfl,okn,tm,hk',hg,by rw[XV,d8];lk,by lk,hc1,by lk,by lk,o3,?_];refine A1 #[z1,by show(gone.map AN).length+1<=_;rw[Ev];lk,_,AE (j:=3) rfl,?_];rw[eg,ed];exact hrec _ _ _ (by lk) #[N,t,b,many,kept,gone++[u],deep - 1,d,rfl,okn,tm,hk,hg',by lk,by rw[XV,d8];lk,hc2,by lk,by lk,o4,q]) (by walk_at "R") (by cbv) 11
omit A in
theorem Ma:BU ["case"] ["case"]^AS I_:=by walk_at "s"
theorem Mo:A.Y "count_of" 14 ["case"] .sh^UL 11:=A.got A.h1a λT F m b=>Hs 1 F Ma m b (λhk lH hr=>(AA (AT (Aj^AZ (AY (AU A) (hr.mono^by lk) rfl (Ai AC^AM 0 AB))) (AD^AH AC) AL)
 (AD^AH^As Ax BI (As Ax BI AC (AY lH (hr.mono^Re _) rfl (Ai (Ad (dv 0) AC) AB))) (AY lH (hr.mono^Re _) rfl (Ai (Ad (dv 0) AC) AB))))) (@λWr j ss n Pd hrec h=>by
 let#[c,rfl,hj,q]:=h;refine#[4,_,rfl,?_];cases c with
 |en=>exact q
 |fa u p=>exact q
 |sp u c d=>
  have hdep:1+max c.dep d.dep<=j+1:=hj;have p1:=Gy c;refine A1 #[_,AE (j:=2) rfl,?_];refine hrec _ _ _ (by lk) #[c,rfl,by lk,_,AE (j:=3) rfl,?_];refine hrec _ _ _ (by lk) #[d,rfl,by lk,?_];exact q) (by walk_at "R") (by cbv) 11
theorem Sh:A.Y "shows" 18 ["net","times","many","thing"] .sh T9:=A.got A.h1b λT F m b=>by
 let#[_,Gai]:=T.Gai;let#[_,Gaj]:=T.Gaj;exact bw F ["net","times","many","thing"] (λ_ hr=>(AD^AH^Bs (cg hr (Mi A)^AM 0^AM 1^AM 2^Ai (A4 AJ)^Ai (A4 AJ)^Ai (Ly rfl Gaj)^AM 3 AB)^CF^BN JJ NZ (cg hr (Mo A)^AM 3 AB) (Ly rfl Gai)^Bg _)) (@λss n Pd h=>by
 let#[N,t,b,many,c,rfl,okn,tm,hc,hd,hn,ho,q]:=h;refine#[z0,z0,N,t,b,many,[],[],15,c,rfl,okn,tm,#[λ_ z=>absurd z d9,by cbv],#[λ_ z=>absurd z d9,by cbv],by show 0+c.dep<=90;lk,by show 0+c.dep<=90;lk,hc,by lk,by lk,ho,?_];refine#[c,rfl,by lk,?_];show Pd (.bl (decide ((c.cnt:Int)<=4000))) n;rw[decide_eq_true^by lk];exact q)
theorem Mn:A.Y "has_ways" 7 ["net","times","thin","paper"] .sh Vy:=A.gk A.h1c ["net","times","thin","paper"] (λ_ _ hr=>(AD^PZ (λ_ _ h=>h)^AD^AH^cg hr (Ge A)^AM 0^AM 1^AM 2^AM 3 AB)) (@λss n Pd h=>by
 let#[N,ts,t,b,ws,rfl,h]:=h;exact#[N,ts,t,b,ws,rfl,h])
theorem Mm:A.Y "is_least" 19 ["net","times","thing"] .sh Ye:=A.gk A.h1d ["net","times","thing"] (λT _ hr=>(AA (AT (DTW.dt^Bk (Aj^AZ^cg hr (AU A)^Ai AC^AM 2 AB)^BV^Aj^AZ^cg hr (Mn A)^AM 0^AM 1^Ai (Ad (dv 2) AC)^Ai (Ad (dv 2) AC) AB) (AD^AH BE) AL)
 (AD^AH^cg hr (Sh A)^AM 0^AM 1^Ai (G9 T.Gab^Ad (Ad (dv 2) AC) AC)^Ai (Ad (dv 2) AC) AB))) (@λss n Pd h=>by
 let#[N,t,b,d,rfl,okn,l24,l10,tm,bt,#[r,ws,c,rfl,th,kp,fw,pap,md,co],p]:=h;have dp:=md.dep;have sh:=md.shows okn.1 (by have:=tm.1;lk) bt fw (by rw[eA,eA]);refine#[3,_,rfl,?_];refine A1 #[_,AE (j:=0) rfl,_,AE (j:=1) rfl,N,r,t,b,ws,rfl,okn,l24,th,tm,(λlo p1 p2=>(pap lo p1 p2).up^by have:=okn.2.1;lk),?_];refine A1 #[_,AE (j:=0) rfl,_,AE (j:=1) rfl,_,_,rfl,rfl,_,AE (j:=2) rfl,?_];refine#[N,t,b,r.length,c,?_,okn,tm,co,by lk,?_,sh,p]
 .show [Slot.sh^enc N,.sh^G7 t b,.sh^.int (((r.map AN).length:Nat):Int),.sh c.D]=_
  rw[Ev]
 .have h1:=dp.2
  have h2:2 ^ (N.ts.length+1)<=2 ^ 11:=Nat.pow_le_pow_right (by cbv)^by lk
  have:(2:Nat) ^ 11=2048:=by cbv
  lk)
theorem J4:A.Y "shows_near" 4 ["net","times","pair","thin","thing"] .sh T8:=A.gk A.h1e ["net","times","pair","thin","thing","length"] (λ_ nd hr=>(AA (Bi 5 nd^cg hr (By A)^AM 3^Ai (Ad (dv 2) AC)^Ai (Ad (dv 2) AC)^Ai (Ad (dv 4) AC) AB)
 (AA (AT (DTW.dt^Bk (Bq B3 C8 (dv 5) Af)^BV^Aj^AZ^cg hr (F7 A)^AM 0^Ai (Ad (dv 4) AC) AB) (AD^AH BE) AL)
 (AD^AH^cg hr (CA A)^AM 5^AM 1^Ai (cg hr (DK A)^AM 0^Ai (Ad (dv 4) AC)^Ai (Ad (dv 2) AC)^Ai (Ad (dv 2) AC) AB) AB)))) (@λss n Pd h=>by
 let#[N,M,t,b,a,c,w,l,xs,rfl,okn,okm,#[b1,b2,t1,t2],ha,hc,hw,#[x1,x2,x3],hle,p]:=h;refine#[_,AE (j:=0) rfl,_,AE (j:=1) rfl,_,AE (j:=1) rfl,M,a,c,w,l,rfl,okm,walkedK.up (by cbv) hw,#[rfl,?_]];refine#[_,AE (j:=2) rfl,N,_,rfl,okn,?_];rw[x3];refine#[_,AE (j:=2) rfl,_,AE (j:=0) rfl,_,AE (j:=1) rfl,N,xs,a,c,rfl,okn,x1,x2,ha,hc,l,t,b,_,rfl,b1,b2,t1,t2,?_];rw[decide_eq_true hle];exact p)
theorem N8:A.Y "is_side" 2 ["net","thing"] .sh Vq:=A.gk A.h1f ["net","thing"] (λT _ hr=>(AD^AH^Bs (FF kit_tuple (dv 1) rfl T.Gac rfl T.Gaa (by decide +kernel))^Bs (Ar (Co rfl) G4 rfl T.Gah fZ (AR (Hw ["net","place"] [P3 0,l_] (A6^dv 1) (λnq=>Bo 1 nq) Az^BN (CN hr) CV (dv 1) (Ad (dv 0) AC)^by with_unfolding_all rfl) Ab))^CF^cg hr (Ec A)^AM 1 AB)) (@λss n Pd h=>by
 let#[N,xs,rfl,okn,hr,hin,p]:=h;have l25:=okn.2.1;have nm:∀x∈xs,NC x:=λx hx=>okn.1.names x^hin x hx;have hl:xs.length<=25:=eJ ((Oz hr).length_le_of_subset hin) l25;refine#[by show(xs.map D.str).length<=10000000;rw[Ev];lk,?_];refine BA (λ_=>.bl m_) (λρ=>∃s,ρ=[.sh^enc N,s]) _ _ _ _ ?_ #[_,rfl] ?_
 .rintro d hd ρ m nx ⟨s,rfl⟩ hnx
  let#[x,hx,rfl]:=TW.mp hd;refine#[_,AE (j:=0) rfl,Dh^nm x hx,FX okn.1.names,_,rfl,?_];show nx (.bl^(N.ps.map D.str).any λy=>Dn y^.str x) m _;rw[Do,decide_eq_true^hin x hx];exact hnx _ #[_,rfl]
 .rw[eA]
  delta BZ
  dsimp only
  refine FE ?_;refine#[_,xs.map .str,rfl,rfl,by rw[Ev];lk,λx hx y hy=>?_,?_]
  .let#[x,_,rfl]:=TW.mp hx
   let#[y,_,rfl]:=TW.mp hy;exact#[_,rfl]
  .rw[NY hr]
   exact p)
theorem JL:A.Y "shows_apart" 3 ["net","pair","side"] .sh RE:=A.gk A.h1g ["net","pair","side"] (λT _ hr=>(AA (AT (DTW.dt^Bk (Aj^AZ^cg hr (N8 A)^AM 0^AM 2 AB)^Bk (Bq (EG hr) CV (Ad (dv 1) AC)^dv 2)^BV^Bq (CN hr) CV (Ad (dv 1) AC)^dv 2) (AD^AH BE) AL)
 (AD^AH (Ar (Co rfl) G4 rfl T.Gah fZ (AR (Hw ["side","a","b","length"] [P3 2,l_,l_,l_] (A6^Ad (dv 0) AC) (λnq=>Ky^AQ (Bo 1 nq)^AQ (Bo 2 nq)^AQ (Bo 3 nq) BS) Az^BN (La hr) Pp (BN (CN hr) CV (dv 1) (dv 0)^by with_unfolding_all rfl) (BN (CN hr) CV (dv 2) (dv 0)^by with_unfolding_all rfl)^Bg _) Ab))))) (@λss n Pd h=>by
 let#[N,a,c,xs,rfl,okn,ha,hc,hr,hin,h1,h2,h3,p]:=h;have l60:=okn.2.2;have ok:=okn.1;have nm:∀x∈xs,NC x:=λx hx=>ok.names x^hin x hx;have lx:Cg^.tup^xs.map .str:=FX nm;refine#[N,xs,rfl,okn,hr,hin,?_];refine#[_,AE (j:=0) rfl,Dh^ok.names a ha,lx,_,rfl,?_];show if(!((xs.map D.str).any λy=>Dn y^.str a))=m_ then _ else _
 rw[Do,decide_eq_true h1];refine A1 #[_,AE (j:=1) rfl,Dh^ok.names c hc,lx,_,rfl,?_];show if((xs.map D.str).any λy=>Dn y^.str c)=m_ then _ else _
 rw[Do,decide_eq_false h2];refine A1 #[_,AE (j:=1) rfl,by show(N.ts.map AN).length<=10000000;rw[Ev];lk,?_];refine BA (λ_=>.bl m_) (λρ=>∃s1 s2 s3,ρ=[.sh^.tup^xs.map .str,s1,s2,s3]) _ _ _ _ ?_ #[_,_,_,rfl] ?_
 .rintro d hd ρ m nx ⟨s1,s2,s3,rfl⟩ hnx
  let#[u,hu,rfl]:=TW.mp hd;let#[m1,m2,_]:=ok.tin u hu;refine#[rfl,rfl,Dh^ok.names _ m1,lx,_,rfl,Dh^ok.names _ m2,lx,_,rfl,#[rfl,rfl,dq _],#[rfl,rfl,dq _],?_];show nx (.bl^Dn (.bl^(xs.map D.str).any λy=>Dn y^.str u.a)^.bl^(xs.map D.str).any λy=>Dn y^.str u.b) m _;rw[Do,Do,decide_eq_decide.mpr^h3 u hu,show ∀z:Bool,Dn (.bl z)^.bl z=m_ from λz=>by cases z <;>rfl];exact hnx _ #[_,_,_,rfl]
 .rw[eA]
  exact FE (l:=N.ts.map AN) (P:=λz=>Pd z n) p)
theorem Ml:A.Y "is_shown" 5 ["net","times","pair","thin","thing"] .sh Jx:=A.gk A.h1h ["net","times","pair","thin","thing"] (λ_ _ hr=>(AA (AT (DTW.dt^Jj (AZ^cg hr (AU A)^Ai AC^AM 4 AB)^Gv^Bq Cc El (Ad (dv 4) AC) Ak) (AD^AH^cg hr (J4 A)^AM 0^AM 1^AM 2^AM 3^AM 4 AB) AL)
 (AD^AH^Bs (cg hr (AU A)^Ai AC^AM 4 AB)^Bs (BN Cc El (Ad (dv 4) AC) Ak^Bg _)^CF^cg hr (JL A)^AM 0^AM 2^Ai (Ad (dv 4) AC) AB))) (@λss n Pd h=>by
 let#[N,M,t,b,a,c,d,rfl,okn,okm,tm,ha,hc,hs,p]:=h;refine#[3,d,rfl,?_]
 rcases hs with⟨xs,rfl,r1,r2,r3,r4,r5⟩|⟨w,l,xs,rfl,h1,h2,h3⟩
 .exact A1 #[2,_,rfl,_,AE (j:=0) rfl,_,AE (j:=1) rfl,N,a,c,xs,rfl,okn,ha,hc,r1,r2,r3,r4,r5,p]
 .exact Ci #[_,AE (j:=0) rfl,N,M,t,b,a,c,w,l,xs,rfl,okn,okm,tm,ha,hc,h1,h2,h3,p])
theorem Le:A.Y "is_needed" 4 ["net","times","pairs","less","thing"] .sh K7:=A.gk A.h1i ["net","times","pairs","less","thing","a","b","length"] (λT nd hr=>(AA (AT (DTW.dt^Bk (Aj^AZ^cg hr (AU A)^Ai AC^AM 4 AB)^Bk (Aj^AZ^cg hr (E7 A)^Ai (Ad (dv 4) AC) AB)^BV^Aj^TX JJ NZ (Ct hr) EM AC (Ad (dv 4) AC)^G9 T.Gab^dv 2) (AD^AH BE) AL)
 (AA (Bi 5 nd^Ad (Ad (dv 2)^Ad (dv 4) AC) AC)
 (AA (Bi 6 nd^Ad (Ad (dv 2)^Ad (dv 4) AC) AC)
 (AA (Bi 7 nd^cg hr (By A)^AM 0^AM 5^AM 6^Ai (Ad (dv 4) AC) AB)
 (AA (AT (DTW.dt^Bk (Bq B3 C8 (dv 7) Af)^BV^Aj^AZ^cg hr (F7 A)^AM 3^Ai (Ad (dv 4) AC) AB) (AD^AH BE) AL)
 (AD^AH^Te^cg hr (CA A)^Ai (cg hr (DK A)^AM 0^Ai (Ad (dv 4) AC)^AM 5^AM 6 AB)^AM 1^AM 7 AB))))))) (@λss n Pd h=>by
 let#[N,M,t,b,ps,d,rfl,okn,okm,eM,#[b1,b2,t1,t2],hp,#[j,q,w,l,xs,rfl,e1,hw,#[x1,x2,x3],hn],p]:=h;let#[q1,q2]:=hp.2 q^fD e1;have a1:(ps.map Nt.pairD)[j]?=P3^Nt.pairD q:=by rw[di,e1];rfl
 have jl:j<ps.length:=(de.mp e1).1;refine#[3,_,rfl,_,AE (j:=0) rfl,[_],rfl,rfl,_,AE (j:=0) rfl,Sv (by lk) #[_,_,rfl,rfl,Sm (by rw[Ev];lk) ?_]];refine A1 #[_,AE (j:=0) rfl,_,AE a1,_,AE (j:=0) rfl,_,AE (j:=0) rfl,_,AE a1,_,AE (j:=1) rfl,_,AE (j:=1) rfl,N,q.1,q.2,w,l,rfl,okn,walkedK.up (by cbv) hw,#[rfl,?_]];refine#[_,AE (j:=2) rfl,M,_,rfl,okm,?_];rw[x3];refine#[_,AE (j:=2) rfl,N,xs,q.1,q.2,rfl,okn,x1,x2,q1,q2,_,t,b,l,rfl,b1,b2,t1,t2,?_];rw[decide_eq_false hn];exact p)
theorem Lf:A.Y "has_shape" 2 ["pairs","thin","paper"] .sh T_:=have lI:=AU A;A.gk A.h1j ["pairs","thin","paper"] (λT _ hr=>(AD^AH^Bs (cg hr lI^Ai AC^AM 2 AB)^Bs (cg hr lI^Ai (G9 T.Gab^dv 0)^Ai (Ad (dv 2) AC) AB)^CF^cg hr lI^Ai (G9 T.Gab^Ad (dv 1) AC)^Ai (Ad (dv 2) AC) AB)) (@λss n Pd h=>by
 let#[ps,M,xs,ys,rfl,h1,h2,p]:=h;refine#[2,_,rfl,_,_,rfl,rfl,_,AE (j:=0) rfl,_,_,rfl,?_];show(match (D.bl^((xs.length:Int)==((ps.map Nt.pairD).length:Int)))with|.bl m_=>_|.bl n_=>_|_=>False);rw[Ev,h1,beq_self_eq_true];refine#[_,AE (j:=1) rfl,_,_,rfl,rfl,_,AE (j:=1) rfl,_,_,rfl,?_];show Pd (.bl^((ys.length:Int)==((M.ts.map AN).length:Int))) n;rw[Ev,h2,beq_self_eq_true];exact p)
theorem J6:A.Y "lets_pairs" 6 ["net","times","pairs","thin","paper"] .sh Vx:=A.gk A.h1k ["net","times","pairs","thin","paper","number","pair","tie"] (λT nd hr=>(AA (AT (DTW.dt^Bk (Aj^AZ^cg hr (Df A)^AM 0^AM 3 AB)^BV^Aj^AZ^cg hr (Lf A)^AM 2^AM 3^AM 4 AB) (AD Bl) AL)
 (AA (A7 d7 rfl (Ej rfl T.Gad (dv 2)) (Ky^AQ (Bo 5 nd)^AQ (Bo 6 nd) BS) (AD^AT (Aj^AZ^cg hr (Ml A)^AM 0^AM 1^AM 6^AM 3^Ai (Ad (Ad (dv 4) AC)^dv 5) AB) (AD Bl) AL))
 (AA (A7 d7 rfl (Ej rfl T.Gad (cg hr (BL A)^Ai (Ad (dv 3) AC) AB)) (Ky^AQ (Bo 5 nd)^AQ (Bo 7 nd) BS) (AD^AT (Aj^AZ^cg hr (Le A)^AM 0^AM 1^AM 2^Ai (cg hr (B9 G_^Bb A)^AM 3^Ai (A4^AF (dv 7) AJ) AB)^Ai (Ad (Ad (dv 4) AC)^dv 5) AB) (AD Bl) AL))
 (AD^AH BE))))) (@λss n Pd h=>by
 let#[N,#[mp,ts],t,b,ps,d,rfl,okn,l24,#[eM,ht],tm,hp,#[sh,nds,ord,rfl,hsh,po,ro,hnd],p]:=h;replace eM:mp=N.ps:=eM;subst eM;replace ht:thn N ts:=ht;have okm:=ht.okN okn;have l60:=okn.2.2;have sz:=Fz okm;have m60:ts.length<=60:=okm.2.2;refine#[N,enc #[N.ps,ts],rfl,okn.1,l24,l60,(C1 (by cbv) _).1 _ (Re _) sz.1,by have:=sz.2.1;lk,by have:=sz.2.2;lk,?_];rw[ht.thinB];refine A1 #[ps,#[N.ps,ts],sh,nds,rfl,hsh.len,hnd.len.trans po.length_eq,?_];refine A1 #[_,rfl,?_]
 have go:∀(rest done:EN) (s5 s6 s7:Slot) (D2:E2),done++rest=ps->(∀s5 s6,D2.nx n [.sh^enc N,.sh^Jy t b,.sh^CM ps,.sh^enc #[N.ps,ts],.sh^.tup [.tup sh,.tup nds],s5,s6,s7])->
   A9 (D_ 2^An (Ae 5)^An (Ae 6) CU) (CK (KL^A8^Ag Jx^AG (AK^AI 0)^AG (AK^AI 1)^AG (AK^AI 6)^AG (AK^AI 3)^AG (AK^BC EL (BC EL (AI 4)^wC^D.int 0)^AI 5) Am) Fy Bj) D2 (C7 done.length (rest.map Nt.pairD)) n [.sh^enc N,.sh^Jy t b,.sh^CM ps,.sh^enc #[N.ps,ts],.sh^.tup [.tup sh,.tup nds],s5,s6,s7]:=by
  intro rest
  induction rest with
  |nil=>intro done s5 s6 s7 D2 _ h;exact h _ _
  |cons q rest ih=>
   intro done s5 s6 s7 D2 e h;have e1:ps[done.length]?=P3 q:=by rw[←e,eT^Re _,gc];rfl
   let#[d,hd,hs]:=hsh.at e1;let#[q1,q2]:=hp.2 q^fD e1;refine#[rfl,rfl,_,AE (j:=0) rfl,_,AE hd,N,_,t,b,q.1,q.2,d,rfl,okn,okm,tm,q1,q2,hs,?_]
   have:=ih (done++[q]) (.sh^.int (done.length:Int)) (.sh^Nt.pairD q) s7 D2 (by rw[da];exact e) h
   rw[XV,d8]at this;exact A1 this
 refine go ps [] _ _ _ _ rfl λs5 s6=>?_;refine#[_,AE (j:=1) rfl,_,ts,rfl,rfl,by lk,λo2 p2 r2=>#[_,rfl,?_]];have eo:=Av (p2.trans po.symm) r2 ro;subst eo
 have go2:∀(rest done:o_ Tie) (s5 s6 s7:Slot),done++rest=o2->
   A9 (D_ 2^An (Ae 5)^An (Ae 7) CU) (CK (KL^A8^Ag K7^AG (AK^AI 0)^AG (AK^AI 1)^AG (AK^AI 2)^AG (AK^Ag G5^AG (AK^AI 3)^AG (AK^H_^Ao (AI 7) BZ) Am)^AG (AK^BC EL (BC EL (AI 4)^wC^D.int 1)^AI 5) Am) Fy Bj) {EE Pd with nx:=CY (wC^D.bl m_)^EE Pd} (C7 done.length (rest.map AN)) n [.sh^enc N,.sh^Jy t b,.sh^CM ps,.sh^enc #[N.ps,ts],.sh^.tup [.tup sh,.tup nds],s5,s6,s7]:=by
  intro rest
  induction rest with
  |nil=>intro done s5 s6 s7 _;exact p
  |cons u rest ih=>
   intro done s5 s6 s7 e;have e1:o2[done.length]?=P3 u:=by rw[←e,eT^Re _,gc];rfl
   let#[d,hd,hs]:=hnd.at e1;have hu:u∈ts:=p2.mem_iff.mp^fD e1;refine#[rfl,rfl,z1,_,u,rfl,okm,Dd okm.1 u hu,_,AE (j:=1) rfl,_,AE hd,N,Ah #[N.ps,ts] u,t,b,ps,d,rfl,okn,Bv okm u,rfl,tm,hp,hs,?_]
   have:=ih (done++[u]) (.sh^.int (done.length:Int)) s6 (.sh^AN u)^by rw[da];exact e
   rw[XV,d8]at this;exact A1 this
 exact go2 o2 [] _ _ _ rfl)
theorem Fl:A.Y "lengths_of" 4 ["net","pairs"] .sh UK:=A.gk A.h1l ["net","pairs"] (λ_ _ hr=>(AD^AH^DE.sh^Hw ["net","a","b"] [P3 0,l_,l_] (A6^dv 1) (λnq=>Ky^AQ (Bo 1 nq)^AQ (Bo 2 nq) BS) Az^cg hr (Li A)^AM 0^AM 1^AM 2 AB)) (@λss n Pd h=>by
 let#[N,ps,rfl,okn,hp,p]:=h;refine#[by show(ps.map Nt.pairD).length<=10000000;rw[Ev];have:=hp.1;lk,?_]
 have go:∀(rest:EN) (acc:o_ D) (s1 s2:Slot),(∀q∈rest,q.1∈N.ps/\q.2∈N.ps)->(∀os,RO N rest os->Pd (.lst (acc++os.map HH)) n)->
   Ce (D_ 2^An (Ae 1)^An (Ae 2) CU) Ey (Ag RJ^AG (AK^AI 0)^AG (AK^AI 1)^AG (AK^AI 2) Am) (λacc n2=>Pd (.lst acc) n2) (rest.map Nt.pairD) acc n [.sh^enc N,s1,s2]:=by
  intro rest
  induction rest with
  |nil=>
   intro acc s1 s2 _ h
   have:=h [] trivial
   rw[im,dk]at this;exact this
  |cons q rest ih=>
   intro acc s1 s2 hq h;let#[q1,q2]:=hq q FM;refine#[rfl,rfl,N,q.1,q.2,rfl,okn,q1,q2,λo ho=>?_];refine ih (acc++[HH o]) _ _ (λr hr=>hq r^Sc _ hr) λos hos=>?_
   have:=h (o::os) #[ho,hos]
   rw[da];exact this
 exact go ps [] _ _ hp.2 λos hos=>by rw[eA];exact p os hos)
theorem Fo:A.Y "first_lost" 4 ["times","pairs","lengths","thin"] .sh Wl:=A.gk A.h1m ["times","pairs","lengths","thin","number","length","by_thin"] (λT nd hr=>(AA (A7 d7 rfl (Ej rfl T.Gad (dv 2)) (Ky^AQ (Bo 4 nd)^AQ (Bo 5 nd) BS) (AD (AT (Bq DJ Ek (dv 5) Af) (AA (Bi 6 nd^cg hr (Li A)^AM 3^Ai (Ad (Ad (dv 1)^dv 4) AC)^Ai (Ad (Ad (dv 1)^dv 4) AC) AB)
 (AD^AT (DTW.dt^Bk (Bq B3 C8 (dv 6) Af)^BV^Aj^AZ^cg hr (CA A)^AM 6^AM 0^AM 5 AB) (AD^AH^dv 4) AL)) AL)))
 (AD^AH Af))) (@λss n Pd h=>by
 let#[N,M,t,b,ps,os,rfl,okm,eM,#[b1,b2,t1,t2],hp,hf,p]:=h;refine#[_,rfl,?_]
 have go:∀(rest done:EN) (ro dO:o_^p_ Int) (s4 s5 s6:Slot),done++rest=ps->dO++ro=os->dO.length=done.length->RO N rest ro->keepsP N t b done M->
   A9 (D_ 2^An (Ae 4)^An (Ae 5) CU) (CK (A8^BC (Ex m_) (AI 5)^wC D.non) (Bz (Cr 6^Ag RJ^AG (AK^AI 3)^AG (AK^BC EL (BC EL (AI 1)^AI 4)^wC^D.int 0)^AG (AK^BC EL (BC EL (AI 1)^AI 4)^wC^D.int 1) Am)
 (CK (W4 (A8^BC (Ex n_) (AI 6)^wC D.non)^KL^A8^Ag MB^AG (AK^AI 6)^AG (AK^AI 0)^AG (AK^AI 5) Am) (CY^AI 4) Bj)) Bj) {EE Pd with nx:=CY (wC D.non)^EE Pd} (C7 done.length (ro.map HH)) n [.sh^.tup [.int t,.int b],.sh^.tup^ps.map Nt.pairD,.sh^.lst^os.map HH,.sh^enc M,s4,s5,s6]:=by
  intro rest
  induction rest with
  | nil=>
   intro done ro dO s4 s5 s6 e eo lo hr hk;cases ro with
   |nil=>
    rw[dk]at e;subst e;exact p l_ (λ_=>keepsB_iff.mpr hk) λi e=>by cases e
   |cons _ _=>exact hr.elim
  | cons q rest ih=>
   intro done ro dO s4 s5 s6 e eo lo hr hk;cases ro with
   |nil=>exact hr.elim
   |cons o ro=>
    let#[hq,hr]:=hr;have e':(done++[q])++rest=ps:=by rw[da];exact e
    have hat:(ps.map Nt.pairD)[done.length]?=P3^Nt.pairD q:=by rw[←e,di,eT^Re _,gc];rfl
    have hin:=hp.2 q (by rw[←e];exact TM _ FM);have skip:(∀d,Least N q.1 q.2 d->∃d',Least M q.1 q.2 d'/\d'*b<=d*t)->∀s4 s5 s6,A9 (D_ 2^An (Ae 4)^An (Ae 5) CU) (CK (A8^BC (Ex m_) (AI 5)^wC D.non) (Bz (Cr 6^Ag RJ^AG (AK^AI 3)^AG (AK^BC EL (BC EL (AI 1)^AI 4)^wC^D.int 0)^AG (AK^BC EL (BC EL (AI 1)^AI 4)^wC^D.int 1) Am)
 (CK (W4 (A8^BC (Ex n_) (AI 6)^wC D.non)^KL^A8^Ag MB^AG (AK^AI 6)^AG (AK^AI 0)^AG (AK^AI 5) Am) (CY^AI 4) Bj)) Bj) {EE Pd with nx:=CY (wC D.non)^EE Pd} (C7 (done.length+1)^ro.map HH) n [.sh^.tup [.int t,.int b],.sh^.tup^ps.map Nt.pairD,.sh^.lst^os.map HH,.sh^enc M,s4,s5,s6]:=λhkq s4 s5 s6=>by
     have:=ih (done++[q]) ro (dO++[o]) s4 s5 s6 e' (by rw[da];exact eo) (by rw[XV,XV,lo];rfl) hr (λx hx=>by
      rcases ZB.mp hx with hx|hx
      .exact hk x hx
      .rw[On.mp hx];exact hkq)
     rw[XV,d8]at this;exact this
    have lost:∀d,o=P3 d->(∀d',Least M q.1 q.2 d'->¬d'*b<=d*t)->Pd (.int (done.length:Int)) n:=λd od hn=>by
     subst od;refine p (P3 (done.length:Int)) (λe=>by cases e) λi ei=>#[?_,done.length,q,d,by cases ei;rfl,by rw[←e,eT^Re _,gc];rfl,by rw[←eo,←lo,eT^Re _,gc];rfl,hq,hn];rw[ft];exact λz=>by let#[d',h1,h2]:=keepsB_iff.mp z q (by rw[←e];exact TM _ FM) d hq;exact hn d' h1 h2
    refine#[rfl,rfl,rfl,?_];cases o with
    |none=>exact skip (λd hd=>absurd hd.1^hq d) _ _ _
    | some d=>
     refine#[_,AE hat,_,AE (j:=0) rfl,_,AE hat,_,AE (j:=1) rfl,M,q.1,q.2,rfl,okm,by rw[eM];exact hin.1,by rw[eM];exact hin.2,λo' ho'=>#[rfl,?_]];cases o' with
     |none=>exact lost d rfl λd' hd'=>absurd hd'.1^ho' d'
     | some d'=>
      refine#[d',t,b,d,rfl,b1,b2,t1,t2,?_]
      by_cases c:d'*b<=d*t
      .rw[decide_eq_true c]
       exact skip (λd2 hd2=>#[d',ho',by rw[Least.unique hd2 hq];exact c]) _ _ _
      .rw[decide_eq_false c]
       exact lost d rfl λd2 hd2=>by rw[Least.unique hd2 ho'];exact c
 exact go ps [] os [] _ _ _ rfl rfl rfl hf (λx hx=>by cases hx))
theorem C6:A.Y "thinned_for_pairs" 5 ["net","times","pairs"] .sh cJ:=A.gk A.h1n ["net","times","pairs","lengths","thin","tie","less"] (λT nd hr=>(AA (Bi 3 nd^cg hr (Fl A)^AM 0^AM 2 AB)
 (AA (Bi 4 nd^cg hr (C2 A)^AM 0^AX (Dz^Ad (dv 0) AC) AB)
 (AA (A7 d7 rfl (YE rfl T.Gal (cg hr (BL A)^Ai (Ad (dv 0) AC) AB)) (Bo 5 nd) (AA (Bi 6 nd^cg hr (B9 G_^Bb A)^AM 4^Ai (A4^AF (dv 5) AJ) AB)
 (AD^AT (Bq B3 C8 (cg hr (Fo A)^AM 1^AM 2^AM 3^AM 6 AB) Af) (AD^Bi 4 nd^dv 6) AL)))
 (AD^AH^dv 4))))) (@λss n Pd h=>by
 let#[N,t,b,ps,rfl,okn,tm,hp,p]:=h;have ok:=okn.1;have l60:=okn.2.2;refine#[N,ps,rfl,okn,hp,λos hos=>?_];refine#[_,AE (j:=1) rfl,N,_,N.ts,rfl,rfl,by lk,λts' p1 p2=>?_];rw[Nq ok ok.trise p1 p2];refine#[_,AE (j:=1) rfl,_,N.ts,rfl,rfl,by lk,λord o1 o2=>#[_,rfl,?_]];rw[←List.map_reverse];have hord:∀u∈ord.reverse,u∈N.ts:=λu hu=>o1.mem_iff.mp^jE.mp hu;have p:=p ord o1 o2;revert hord p;generalize ord.reverse=rev;intro hord p
 have go:∀(rest:o_ Tie) (M:Net) (s5 s6:Slot),(∀u∈rest,u∈N.ts)->okN M->M.ps=N.ps->Pd (enc^BD N t b ps M rest) n->
   A9 (Ae 5) (Bz (Cr 6^Ag G5^AG (AK^AI 4)^AG (AK^H_^Ao (AI 5) BZ) Am)
 (CK (A8^BC (Ex n_) (Ag Wl^AG (AK^AI 1)^AG (AK^AI 2)^AG (AK^AI 3)^AG (AK^AI 6) Am)^wC D.non) (Cr 4^AI 6) Bj)) {EE Pd with nx:=CY (AI 4)^EE Pd} (rest.map AN) n [.sh^enc N,.sh^.tup [.int t,.int b],.sh^.tup^ps.map Nt.pairD,.sh^.lst^os.map HH,.sh^enc M,s5,s6]:=by
  intro rest
  induction rest with
  |nil=>intro M s5 s6 _ _ _ h;exact h
  | cons u rest ih=>
   intro M s5 s6 hu okm eM h;have h':Pd (enc (if CD N t b ps (Ah M u)=m_ then BD N t b ps (Ah M u) rest else BD N t b ps M rest)) n:=h;refine#[z1,M,u,rfl,okm,Dd ok u^hu u FM,?_];refine#[N,Ah M u,t,b,ps,os,rfl,Bv okm u,eM,tm,hp,hos,λo h1 h2=>#[rfl,?_]];cases o with
   |none=>
    rw[h1 rfl,if_pos rfl]at h';exact ih (Ah M u) _ _ (λv hv=>hu v^Sc _ hv) (Bv okm u) eM h'
   |some i=>
    rw[(h2 i rfl).1,if_neg^by cbv]at h';exact ih M _ _ (λv hv=>hu v^Sc _ hv) okm eM h'
 exact go rev N _ _ hord okn rfl p)
theorem Mj:A.Y "shown_of" 4 ["net","thin","a","b"] .sh Na:=A.gk A.h1o ["net","thin","a","b","length"] (λT nd hr=>(AA (Bi 4 nd^cg hr (Li A)^AM 0^AM 2^AM 3 AB)
 (AA (AT (Bq B3 C8 (dv 4) Af) (AD^AH^Ap^AF Ak^AF (OR T.Gaa (Ar (OW rfl) Vm rfl T.Gag jA (AR (cg hr (C3 A)^AM 0^AM 2 AB) Ab))) AJ) AL)
 (AD^AH^Ap^AF Ak^AF (cg hr (DQ A)^AM 1^AM 2^AM 3 AB)^AF (cg hr (B4 A)^AM 0^AM 2^AM 4 AB) AJ)))) (@λss n Pd h=>by
 let#[N,M,t,b,a,c,rfl,okn,okm,eM,ha,hc,hk,p]:=h;have l25:=okn.2.1;have nm:=okn.1.names;refine#[N,a,c,rfl,okn,ha,hc,λo ho=>#[rfl,?_]];cases o with
 | none=>
  refine Ci #[N,a,rfl,okn,ha,λks ds F Dm T=>?_];let#[xs,ex]:=Kl Dm.dom;have hm:∀x,x∈xs↔F x≠l_:=λx=>by rw[←Dm.mem x,ex,TW];exact#[λh=>#[x,h,rfl],fun#[y,hy,e]=>by cases e;exact hy]
  have hin:∀x∈xs,x∈N.ps:=λx hx=>T.ins x^(hm x).mp hx;have nd:xs.Nodup:=Xp (by rw[←ex];exact Dm.nd);have hl:xs.length<=25:=by have:=Dm.le T.ins;rw[ex,Ev]at this;lk
  refine#[_,ks,ds,xs,rfl,rfl,Dm.len,ex,by lk,λx hx=>by have:=(nm x^hin x hx).2.1;rw[fA];lk,λys py sy=>#[?_,p _^.inl #[ys,rfl,D5 sy^py.nodup_iff.mpr nd,λx hx=>hin x^py.mem_iff.mp hx,?_,λhx=>?_,λu hu=>?_]]]
  .show 2<=sizeLine;decide
  .rw[py.mem_iff,hm,T.start];simp
  .rw[py.mem_iff,hm]at hx
   cases e:F c with
   |none=>exact hx e
   |some q=>exact ho q.1 (T.least c q.1 q.2 e).1
  .rw[py.mem_iff,py.mem_iff,hm,hm]
   let#[d1,d2]:=CB hu
   have go:∀{x y:Str}{l:Int},Ed N x y l->F x≠l_->F y≠l_:=λ{x y l} he hx=>by
    cases e:F x with
    |none=>exact absurd e hx
    |some q=>exact T.all y _^Wk.snoc (T.least x q.1 q.2 e).1 he
   exact#[go d1,go d2]
 | some d=>
  let#[d',hd',hle]:=hk d ho;refine A1 #[M,a,c,rfl,okm,by rw[eM];exact ha,by rw[eM];exact hc,λo' ho'=>?_];cases o' with
  |none=>exact absurd hd'.1^ho' d'
  |some w=>
   let#[l,hw,hl]:=EQ ho';refine#[N,a,d,rfl,okn,ha,λF T=>#[by show 3<=sizeLine;decide,p _^.inr #[w,l,_,rfl,hw,(IN okn okn rfl ha T ((show Least N a c d from ho).1.pos okn.1)).1,?_]]];rw[(IN okn okn rfl ha T ((show Least N a c d from ho).1.pos okn.1)).2 c hc];have e:(F c).map (·.1)=P3 d:=Far.unique (T.far c) ho;rw[e,Least.unique hl hd'];show _<=(if d<d then d else d)*t;rw[ite_self];exact hle)
theorem Lc:A.Y "needed_of" 5 ["net","times","pairs","lengths","less"] .sh Px:=A.gk A.h1p ["net","times","pairs","lengths","less","number","a","b"] (λ_ nd hr=>(AA (Bi 5 nd^cg hr (Fo A)^AM 1^AM 2^AM 3^AM 4 AB)
 (AA (Bi 6 nd^Ad (Ad (dv 2)^dv 5) AC)
 (AA (Bi 7 nd^Ad (Ad (dv 2)^dv 5) AC)
 (AD^AH^Ap^AF (dv 5)^AF (cg hr (DQ A)^AM 0^AM 6^AM 7 AB)^AF (cg hr (B4 A)^AM 4^AM 6^Ai (cg hr (CJ A)^AM 1^Ai (Ad (dv 3)^dv 5) AB) AB) AJ))))) (@λss n Pd h=>by
 let#[N,M,t,b,ps,os,rfl,okn,okm,eM,tm,hp,hf,hk,p]:=h;refine#[N,M,t,b,ps,os,rfl,okm,eM,tm,hp,hf,λo h1 h2=>?_];cases o with
 |none=>rw[h1 rfl]at hk;cases hk
 | some i=>
  let#[_,j,q,d,rfl,e1,e2,h3,h4]:=h2 i rfl;let#[hq1,hq2]:=hp.2 q^fD e1;have a1:(ps.map Nt.pairD)[j]?=P3^Nt.pairD q:=by rw[di,e1];rfl
  refine#[_,AE a1,_,AE (j:=0) rfl,_,AE a1,_,AE (j:=1) rfl,N,q.1,q.2,rfl,okn,hq1,hq2,λo ho=>?_];cases o with
  |none=>exact absurd h3.1^ho d
  | some w=>
   let#[l,hw,hl]:=EQ ho;have e0:=Least.unique hl h3;subst e0;refine#[_,AE (v:=D.int l) (by rw[di,e2];rfl),t,b,l,rfl,tm,M,q.1,_,rfl,okm,by rw[eM];exact hq1,λF T=>#[by show 3<=sizeLine;decide,p _ #[j,q,w,l,_,rfl,e1,hw,?_]]];let#[b1,b2,t1,t2]:=tm;have l0:=h3.1.pos okn.1
   have dv:l*t<(l*t / b+1)*b:=by
    have:=gq (l*t) (show 0<b by lk)
    exact this
   have m0:0<=l*t / b+1:=by
    have:=jS (iy l0 (show 0<=t by lk)) (show 0<=b by lk)
    lk
   let#[pr,gp]:=IN okn okm eM hq1 T m0;refine#[pr,?_];rw[gp _ hq2];cases e:(F q.2).map (·.1)with
   |none=>exact kg.mpr dv
   |some d'=>
    have hd:=T.far q.2;rw[e]at hd;show ¬(if d'<l*t / b+1 then d' else l*t / b+1)*b<=_
    split
    .exact h4 d' hd
    .exact kg.mpr dv)
theorem JM:A.Y "pairs_paper" 6 ["net","times","pairs"] .sh UD:=A.gk A.h1q ["net","times","pairs","thin","lengths","shown","needed"] (λT nd hr=>(AA (Bi 3 nd^cg hr (C6 A)^AM 0^AM 1^AM 2 AB)
 (AA (Bi 4 nd^cg hr (Fl A)^AM 0^AM 2 AB)
 (AA (IT (i:=5) nd rfl (fh rfl) rfl [("net":Str),("thin":Str),("a":Str),("b":Str)] [P3 0,P3 3,l_,l_] (A6^dv 2) (λ_ _ _ _ _=>(Ky^AQ (Fe (i:=2) (show jT [("net":Str),("thin":Str),("a":Str),("b":Str)] by decide +kernel) rfl (fh rfl))^AQ (Fe (i:=3) (show jT [("net":Str),("thin":Str),("a":Str),("b":Str)] by decide +kernel) rfl (fh rfl)) BS)) (λ_ _ _ _ _=>Az) (λ_ _ _ _ _=>(cg hr (Mj A)^AM 0^AM 1^AM 2^AM 3 AB)) (by kernel_rfl))
 (AA (IT (i:=6) nd rfl (fh rfl) rfl [("net":Str),("times":Str),("pairs":Str),("lengths":Str),("thin":Str),("tie":Str)] [P3 0,P3 1,P3 2,P3 4,P3 3,l_] (A6^cg hr (BL A)^Ai (Ad (dv 3) AC) AB) (λ_ _ _ _ _=>(Fe (i:=5) (show jT [("net":Str),("times":Str),("pairs":Str),("lengths":Str),("thin":Str),("tie":Str)] by decide +kernel) rfl (fh rfl))) (λ_ _ _ _ _=>Az) (λ_ _ _ _ _=>(cg hr (Lc A)^AM 0^AM 1^AM 2^AM 3^Ai (cg hr (B9 G_^Bb A)^AM 4^Ai (A4^AF (dv 5) AJ) AB) AB)) (by kernel_rfl))
 (AD^AH^Ap^AF (OR T.Gaa^dv 5)^AF (OR T.Gaa^dv 6) AJ)))))) (@λss n Pd h=>by
 let#[N,t,b,ps,rfl,okn,tm,bt,hp,p]:=h;have b0:0<=b:=by have:=tm.1;lk
 refine#[N,t,b,ps,rfl,okn,tm,hp,λord po bo=>#[N,ps,rfl,okn,hp,λos hos=>?_]];replace p:=p ord;have okm:okN^BD N t b ps N ord.reverse:=FT okn;have em:(BD N t b ps N ord.reverse).ps=N.ps:=LI;have km:keepsP N t b ps^BD N t b ps N ord.reverse:=EU^OK okn.1 bt;have nd:∀u∈(BD N t b ps N ord.reverse).ts,CD N t b ps^Ah (BD N t b ps N ord.reverse) u=n_:=λu hu=>FS b0 okn u (jE.mpr^po.mem_iff.mpr^ED u hu) hu;revert p okm em km nd;generalize BD N t b ps N ord.reverse=M;intro p okm em km nd;refine#[by show(ps.map Nt.pairD).length<=10000000;rw[Ev];have:=hp.1;lk,?_]
 have go:∀(rest:EN) (acc:o_ D) (s1 s2:Slot) (P:o_ D->Nat->Prop),(∀q∈rest,q∈ps)->(∀ds,ShL N M t b rest ds->P (acc++ds) n)->
   Ce (D_ 2^An (Ae 2)^An (Ae 3) CU) Ey (Ag Na^AG (AK^AI 0)^AG (AK^AI 1)^AG (AK^AI 2)^AG (AK^AI 3) Am) P (rest.map Nt.pairD) acc n [.sh^enc N,.sh^enc M,s1,s2]:=by
  intro rest
  induction rest with
  |nil=>intro acc s1 s2 P _ h;have:=h [] trivial;rw[dk]at this;exact this
  |cons q rest ih=>
   intro acc s1 s2 P hq h;let#[q1,q2]:=hp.2 q^hq q FM;refine#[rfl,rfl,N,M,t,b,q.1,q.2,rfl,okn,okm,em,q1,q2,km q^hq q FM,λd hd=>?_];refine ih (acc++[d]) _ _ P (λr hr=>hq r^Sc _ hr) λds hds=>?_;rw[da];exact h (d::ds) #[hd,hds]
 refine go ps [] _ _ _ (λq h=>h) λsh hsh=>?_;rw[eA];refine#[_,AE (j:=1) rfl,_,M.ts,rfl,rfl,by have:=okm.2.2;lk,λo2 p2 r2=>#[by show(o2.map AN).length<=10000000;rw[Ev,p2.length_eq];have:=okm.2.2;lk,?_]]
 have go2:∀(rest:o_ Tie) (acc:o_ D) (s1:Slot) (P:o_ D->Nat->Prop),(∀u∈rest,u∈M.ts)->(∀ds,NdL N M t b ps rest ds->P (acc++ds) n)->
   Ce (Ae 5) Ey (Ag Px^AG (AK^AI 0)^AG (AK^AI 1)^AG (AK^AI 2)^AG (AK^AI 3)^AG (AK^Ag G5^AG (AK^AI 4)^AG (AK^H_^Ao (AI 5) BZ) Am) Am) P (rest.map AN) acc n [.sh^enc N,.sh^Jy t b,.sh^CM ps,.sh^.lst^os.map HH,.sh^enc M,s1]:=by
  intro rest
  induction rest with
  |nil=>intro acc s1 P _ h;have:=h [] trivial;rw[dk]at this;exact this
  |cons u rest ih=>
   intro acc s1 P hu h;have hu0:=hu u FM;refine#[z1,M,u,rfl,okm,Dd okm.1 u hu0,N,Ah M u,t,b,ps,os,rfl,okn,Bv okm u,em,tm,hp,hos,nd u hu0,λd hd=>?_];refine ih (acc++[d]) _ P (λr hr=>hu r^Sc _ hr) λds hds=>?_;rw[da];exact h (d::ds) #[hd,hds]
 refine go2 o2 [] _ _ (λu hu=>p2.mem_iff.mp hu) λnds hnd=>?_;rw[eA];exact#[by show 2<=sizeLine;decide,p _ po bo #[sh,nds,o2,rfl,hsh,p2,r2,hnd]])
omit A in
theorem lJ:BU ["net","times","tie","many","way","step","broken"] ["net","times","tie","many"]^AS Hk:=by walk_at "s"
theorem Gh:A.Y "broken_of" 7 ["net","times","tie","many"] .sh^Wn 2:=A.got A.h1r λT F m b=>Hs 3 F lJ m b (λhk lK hr=>(AA (Bi 4 lJ.nd (AY (Dw A) (hr.mono^by lk) rfl (AM 0^AM 1^AM 2 AB)))
 (AA (AT (Bq B3 C8 (dv 4) Af) (AD^AH^DE.sh^A4 AJ) AL)
 (AA (AT (Bq Cc El (dv 3) AC) (AD^AH Af) AL)
 (AA (A7 d7 rfl (Ck (AY (Eb A) (hr.mono^by lk) rfl (AM 0^AM 4 AB))) (Bo 5 lJ.nd) (AA (Bi 6 lJ.nd (AY lK (hr.mono^Re _) rfl (Ai (AY (B9 GL^Bb A) (hr.mono^by lk) rfl (AM 0^Ai (A4^AF (dv 5) AJ) AB))^AM 1^AM 2^Ai (As EX GG (dv 3) AC) AB)))
 (AD^AT (Bq DJ Ek (dv 6) Af) (AD^AH^As Ax BI (A4^AF (dv 5) AJ)^dv 6) AL)))
 (AD^AH Af)))))) (@λWr j ss n Pd hrec h=>by
 let#[N,u,t,b,m,rfl,#[hm,hm2],okn,ha,hb,hu,#[b1,b2,t1,t2],p]:=h;have ok:=okn.1;refine#[N,u,t,b,rfl,okn,ha,hb,b1,b2,t1,t2,λo h1 h2=>#[rfl,?_]];cases o with
 |none=>
  refine#[z0,p (P3 []) (λe=>by cases e) λl e=>?_];cases e;refine#[ef,nofun,dq _,λz=>?_];rw[FV,←nearB_iff,h2 rfl]at z;cases z
 | some w=>
  let#[way,hn]:=h1 w rfl;have hn:=nearB_iff.mp hn;refine B8 (λc=>absurd (show n_=m_ from c) eN) λ_=>?_;refine B8 (λc=>?_) λc=>?_
  .have c:m=0:=by
    have c:(m:Int)=0:=beq_iff_eq.mp c;lk
   subst c;exact p l_ (λ_=>hld_zero.mpr hn) λl e=>by cases e
  .have hm1:m≠0:=λz=>c^by rw[z];exact beq_self_eq_true _
   have way':=way;let#[d,r,rfl,hl,hwd,_,h30,hin]:=way';refine#[N,u.a::r,d,rfl,okn,hwd,h30,hin,λus hov hul=>?_];have hus:=hov.mem;have hM:∀M:Net,(∀v∈us,v∈M.ts)->walk M (u.a::r) d:=λM hM=>hov.walk ok hwd hM
   have go:∀(rest done:o_ Tie) (s5 s6:Slot),done++rest=us->(∀v∈done,Nc (Ah N v) t b u (m - 1))->
     A9 (Ae 5) (Bz (Cr 6^Ag Wr^AG (AK^Ag Ic^AG (AK^AI 0)^AG (AK^H_^Ao (AI 5) BZ) Am)^AG (AK^AI 1)^AG (AK^AI 2)^AG (AK^BC NH (AI 3)^wC^D.int 1) Am)
 (CK (A8^BC (Ex m_) (AI 6)^wC D.non) (CY^BC Cj (H_^Ao (AI 5) BZ)^AI 6) Bj)) {EE Pd with nx:=CY (wC D.non)^EE Pd} (rest.map AN) n [.sh^enc N,.sh^.tup [.int t,.int b],.sh^AN u,.sh^.int (m:Int),.sh^Gd^P3 (u.a::r),s5,s6]:=by
    intro rest
    induction rest with
    |nil=>
     intro done s5 s6 e hd;rw[dk]at e;subst e;refine p l_ (λ_=>?_) λl e=>by cases e
     have:=S9 okn b1 way hn hwd hM hus hd
     rw[show m - 1+1=m by lk]at this;exact this
    | cons v rest ih=>
     intro done s5 s6 e hd;have hv:v∈us:=by rw[←e];exact TM _ FM
     have e':(done++[v])++rest=us:=by rw[da];exact e
     refine#[z1,N,_,[v],rfl,rfl,okn,λx hx=>On.mp hx▸hus v hv,?_];rw[GC];refine hrec _ _ _ ((by first|exact u0|exact u1|exact u2|exact w0|exact w1|omega)) #[Ah N v,u,t,b,m - 1,by rw[show((m - 1:Nat):Int)=(m:Int) - 1 by lk],#[(by first|exact u0|exact u1|exact u2|exact w0|exact w1|omega),(by first|exact u0|exact u1|exact u2|exact w0|exact w1|omega)],Bv okn v,ha,hb,hu,#[b1,b2,t1,t2],λo2 g1 g2=>#[rfl,?_]];cases o2 with
     |none=>
      refine ih (done++[v]) _ _ e' λx hx=>?_
      rcases ZB.mp hx with hx|hx
      .exact hd x hx
      .rw[On.mp hx];exact g1 rfl
     |some l=>
      let#[g3,g4,g5,g6]:=g2 l rfl;rw[JT]at g6;refine#[z1,by rw[Ev];show 1+l.length<=sizeLine;rw[PySem.sizeLine_eq];lk,p (P3 (v::l)) (λe=>by cases e) λl' e=>?_];cases e;exact#[eI.mpr #[λz=>of_decide_eq_true (eE.mp^g4 v z).2 rfl,g3],λx hx=>(UF.mp hx).elim (λe=>e▸hus v hv) λhx=>(eE.mp^g4 x hx).1,by rw[dg];lk,g6]
   exact go us [] _ _ rfl λv hv=>by cases hv) (by walk_at "R") (by cbv) 2
theorem Dv:A.Y "steady_thinned" 8 ["net","times","many"] .sh Vp:=A.gk A.h1s ["net","times","many","kept","tie"] (λ_ nd hr=>(AA (Qw 3 nd^A4 AJ)
 (AA (A7 d7 rfl (Ck^cg hr (BL A)^Ai (Ad (dv 0) AC) AB) (Bo 4 nd) (AD^AT (Bq DJ Ek (cg hr (Gh A)^Ai (cg hr (C2 A)^AM 0^AX (Dz^G8 3) AB)^AM 1^AM 4^AM 2 AB) Af) (AD^DC 3 Nd Ox Oo BG D1 (pv 3)^AF (dv 4) AJ) AL))
 (AD^AH^cg hr (C2 A)^AM 0^AX (Dz^G8 3) AB)))) (@λss n Pd h=>by
 let#[N,t,b,m,rfl,okn,tm,hm,p]:=h;have ok:=okn.1;have l60:=okn.2.2;have szl:=PySem.sizeLine_eq;refine#[z0,_,AE (j:=1) rfl,_,N.ts,rfl,rfl,(by first|exact u0|exact u1|exact u2|exact w0|exact w1|omega),λord o1 o2=>?_];have hol:=o1.length_eq;have ndo:ord.Nodup:=o1.nodup_iff.mpr^AV ok.trise
 have go:∀(rest done kept:o_ Tie) (s4:Slot),done++rest=ord->(∀u∈kept,u∈done)->kept.Nodup->Be N t b m kept rest=Be N t b m [] ord->
   A9 (Ae 4) (CK (A8^BC (Ex m_) (Ag (Wn 2)^AG (AK^Ag Em^AG (AK^AI 0)^AG (ER^Bn 3) Am)^AG (AK^AI 1)^AG (AK^AI 4)^AG (AK^AI 2) Am)^wC D.non) (Rb 3 "list" Ji^Ao (AI 4) BZ) Bj) {EE Pd with nx:=CY (Ag Em^AG (AK^AI 0)^AG (ER^Bn 3) Am)^EE Pd} (rest.map AN) n [.sh^enc N,.sh^.tup [.int t,.int b],.sh^.int (m:Int),.ow^.lst^kept.map AN,s4]:=by
  intro rest
  induction rest with
  |nil=>
   intro done kept s4 e h1 h2 h3;rw[dk]at e;subst e;have hin:∀u∈kept,u∈N.ts:=λu hu=>o1.mem_iff.mp^h1 u hu;have hkl:=sub_len h2 (AV ok.trise) hin;refine#[N,_,kept,rfl,rfl,(by first|exact u0|exact u1|exact u2|exact w0|exact w1|omega),λts' p1 p2=>?_];rw[F1 ok hin h2 p1 p2,show kept=Be N t b m [] done from h3];exact p done o1 o2
  | cons u rest ih=>
   intro done kept s4 e h1 h2 h3;have hin:∀v∈kept,v∈N.ts:=λv hv=>o1.mem_iff.mp (by rw[←e];exact Tk _^h1 v hv);have hkl:=sub_len h2 (AV ok.trise) hin;have hu:u∈N.ts:=o1.mem_iff.mp^by rw[←e];exact TM _ FM
   have hud:u∉done:=by
    rw[←e,eP]at ndo;exact λz=>ndo.2.2 u z u FM rfl
   have e':(done++[u])++rest=ord:=by rw[da];exact e
   let#[m1,m2,_]:=ok.tin u hu;refine#[N,_,kept,rfl,rfl,(by first|exact u0|exact u1|exact u2|exact w0|exact w1|omega),λts' p1 p2=>?_];rw[F1 ok hin h2 p1 p2];refine#[sub N kept,u,t,b,m,rfl,#[hm,hm],BJ okn kept,m1,m2,Dd ok u hu,tm,λo hs hn=>#[rfl,?_]];rw[B7]at h3;cases o with
   |none=>
    rw[hldB_iff.mpr (hs rfl),if_pos rfl]at h3;exact ih (done++[u]) kept _ e' (λv hv=>Tk _^h1 v hv) h2 h3
   | some l=>
    rw[if_neg λz=>(hn l rfl).not^hldB_iff.mp z]at h3;refine#[_,rfl,rfl,_,_,rfl,rfl,by rw[Ev];lk,?_]
    have:=ih (done++[u]) (kept++[u]) (.sh^AN u) e' (λv hv=>by
     rcases ZB.mp hv with hv|hv
     .exact Tk _^h1 v hv
     .exact TM _ hv) (by
     rw[eP];exact#[h2,eI.mpr #[d9,ef],λx hx y hy z=>hud^by rw[←On.mp hy,←z];exact h1 x hx]) h3
    rw[eX]at this;exact this
 exact go ord [] [] _ rfl (λu h=>by cases h) ef rfl)
omit A in
theorem lL:BU ["net","tie","many","way","bushes"] ["net","tie","many"]^AS Kc:=by walk_at "s"
theorem OA:A.Y "bush_of" 6 ["net","tie","many"] .sh^V0 2:=A.got A.h1t λT F m b=>Hs 2 F lL m b (λhk lM hr=>(AA (Bi 3 lL.nd (AY (DQ A) (hr.mono^by lk) rfl (AM 0^Ai (Ad (dv 1) AC)^Ai (Ad (dv 1) AC) AB)))
 (AA (AT (Bq Cc El (dv 2) AC) (AD^AH^Ap^AF (dv 3)^AF (Ap AJ) AJ) AL)
 (AA (IT (i:=4) lL.nd rfl (fh rfl) rfl [("tie":Str),("net":Str),("many":Str),("step":Str)] [P3 1,P3 0,P3 2,l_] (A6 (AY (Eb A) (hr.mono^by lk) rfl (AM 0^AM 3 AB))) (λ_ _ _ _ _=>(Fe (i:=3) (show jT [("tie":Str),("net":Str),("many":Str),("step":Str)] by decide +kernel) rfl (fh rfl))) (λ_ _ _ _ _=>Az) (λ_ _ _ _ _=>(AY lM (hr.mono^Re _) rfl (Ai (AY (B9 GL^Bb A) (hr.mono^by lk) rfl (AM 1^Ai (A4^AF (dv 3) AJ) AB))^AM 0^Ai (As EX GG (dv 2) AC) AB))) (by kernel_rfl))
 (AD^AH^Ap^AF (dv 3)^AF (OR T.Gaa^dv 4) AJ))))) (@λWr j ss n Pd hrec h=>by
 let#[N,u,t,b,m,rfl,hm,okn,ha,hb,hh,p]:=h;refine#[_,AE (j:=0) rfl,_,AE (j:=1) rfl,N,u.a,u.b,rfl,okn,ha,hb,λo ho=>?_];let#[d0,hd0,hle]:=S_ hh;cases o with
 |none=>exact absurd hd0.1^ho d0
 | some w=>
  let#[l,hw,hl]:=EQ ho;obtain rfl:=hl.unique hd0;cases m with
  |zero=>exact#[z0,z2,p _ #[w,l,rfl,hw,hle]]
  | succ m=>
   refine#[N,w,l,rfl,okn,hw.2.2.1,hw.2.2.2.1,hw.2.2.2.2,λus hov hul=>#[by show(us.map AN).length<=10000000;rw[Ev];lk,?_]]
   have go:∀(Q:o_ D->Nat->Prop),(∀bs:o_ D,bs.length=us.length->(∀p∈us.zip bs,GF t b u m (Ah N p.1) p.2)->Q bs n)->∀(rest done:o_ Tie) (bs:o_ D) (s:Slot),done++rest=us->bs.length=done.length->(∀p∈done.zip bs,GF t b u m (Ah N p.1) p.2)->
     Ce (Ae 3) Ey (Ag Wr^AG (AK^Ag Ic^AG (AK^AI 1)^AG (AK^H_^Ao (AI 3) BZ) Am)^AG (AK^AI 0)^AG (AK^BC NH (AI 2)^wC^D.int 1) Am) Q (rest.map AN) bs n [.sh^AN u,.sh^enc N,.sh^.int ((m+1:Nat):Int),s]:=by
    intro Q hQ rest
    induction rest with
    |nil=>
     intro done bs s e hl hb;rw[dk]at e;subst e;exact hQ bs hl hb
    |cons v rest ih=>
     intro done bs s e hl hb';have hv:v∈us:=by rw[←e];exact TM _ FM
     refine#[z1,N,_,[v],rfl,rfl,okn,λx hx=>On.mp hx▸hov.mem v hv,?_];rw[GC];refine hrec _ _ _ (by lk) #[Ah N v,u,t,b,m,by rw[show(m:Int)=((m+1:Nat):Int) - 1 by lk],by lk,Bv okn v,ha,hb,TB hh,λd hd=>?_];refine ih (done++[v]) (bs++[d]) _ (by rw[da];exact e) (by rw[XV,XV,hl];rfl) λq hq=>?_;rw[List.zip_append hl.symm]at hq
     rcases ZB.mp hq with hq|hq
     .exact hb' q hq
     .rw[On.mp hq];exact hd
   refine go _ (λbs hl hbs=>#[z2,p _ #[w,l,us,bs,rfl,#[hw,hle],hov,hul,hl,hbs]]) us [] [] _ rfl rfl λq hq=>nomatch hq) (by walk_at "R") (by cbv) 2
theorem Gk:A.Y "breaking_entry" 8 ["ahead","times","tie","many"] .sh Nb:=A.gk A.h1u ["ahead","times","tie","many","broken","prices"] (λT nd hr=>(AA (Bi 4 nd^cg hr (Gh A)^AM 0^AM 1^AM 2^AM 3 AB)
 (AA (AT (Bq B3 C8 (dv 4) Af) (AD^AH^Ap^AF Ak^AF (cg hr (OA A)^AM 0^AM 2^AM 3 AB) AJ) AL)
 (AA (Bi 5 nd^cg hr (B4 A)^Ai (cg hr (B9 GL^Bb A)^AM 0^AM 4 AB)^Ai (Ad (dv 2) AC)^Ai (cg hr (CJ A)^AM 1^Ai (Ad (dv 2) AC) AB) AB)
 (AD^AH^Ap^AF Ak^AF (OR T.Gaa (Ar Js Pm rfl T.Gag jA (AR (dv 4) Ab)))^AF (dv 5) AJ))))) (@λss n Pd h=>by
 let#[A,t,b,u,m,rfl,okn,tm,ha,hb,hu,hm,p]:=h;let#[b1,b2,t1,t2]:=tm;refine#[A,u,t,b,m,rfl,#[hm,hm],okn,ha,hb,hu,#[b1,b2,t1,t2],λo h1 h2=>#[rfl,?_]];cases o with
 |none=>exact Ci #[A,u,t,b,m,rfl,hm,okn,ha,hb,h1 rfl,λd hd=>#[z2,p _^.inr #[h1 rfl,d,rfl,hd]]]
 | some l=>
  have hl:=h2 l rfl;refine A1 #[A,_,l,rfl,rfl,okn,hl.2.1,_,AE (j:=0) rfl,_,AE (j:=2) rfl,t,b,u.len,rfl,#[b1,b2,t1,t2],?_];have okm:=HN okn l;have hlt:u.len*t<(u.len*t / b+1)*b:=gq _^by lk
  have m0:0<=u.len*t / b+1:=by
   have:=jS (iy (show 0<=u.len by have:=hu.2.2.1;lk) (show 0<=t by lk)) (show 0<=b by lk)
   lk
  refine#[minus A l,u.a,_,rfl,okm,ha,λF T=>?_];let#[f1,f2]:=IN okm okm rfl ha T m0;show OP [D.lst^l.map AN] λz=>Fb [z] λy=>3<=sizeLine/\Pd (.tup [.str "in",y,.tup _]) n;refine Nv (ts:=l) rfl (by have:=hl.2.2.1;lk) λS p1 p2=>#[z3,p _^S8 okn.1 hl p1 p2 f1.2.2 ?_];rw[f2 u.b hb];exact Qq hl.2.2.2 (T.far u.b) hlt)
theorem Gi:A.Y "breaking_paper" 9 ["net","times","many"] .sh UC:=A.gk A.h1v ["net","times","many","thin"] (λT nd hr=>(AA (Bi 3 nd^cg hr (Dv A)^AM 0^AM 1^AM 2 AB)
 (AD^AH^OR T.Gaa^Hw ["times","many","thin","tie"] [P3 1,P3 2,P3 3,l_] (A6^cg hr (BL A)^Ai (Ad (dv 0) AC) AB) (λnq=>Bo 3 nq) Az^cg hr (Gk A)^Ai (cg hr (CS A)^AM 2^AM 3 AB)^AM 0^AM 3^AM 1 AB))) (@λss n Pd h=>by
 let#[N,t,b,m,rfl,okn,tm,hm,p]:=h;have ok:=okn.1;have l60:=okn.2.2;refine#[N,t,b,m,rfl,okn,tm,hm,λord o1 o2=>?_];refine#[_,AE (j:=1) rfl,_,N.ts,rfl,rfl,by lk,λo' p1 p2=>?_];obtain rfl:=Av (p1.trans o1.symm) p2 o2;have nd:o'.Nodup:=o1.nodup_iff.mpr^AV ok.trise;refine#[by show(o'.map AN).length<=10000000;rw[Ev,o1.length_eq];lk,?_]
 have go:∀(Q:o_ D->Nat->Prop),(∀rs:o_ D,UM N t b m o' rs->Q rs n)->∀(rest done:o_ Tie) (rs:o_ D) (s:Slot),done++rest=o'->rs.length=done.length->PapI N t b m o' rs->
   Ce (Ae 3) Ey (Ag Nb^AG (AK^Ag FO^AG (AK^AI 2)^AG (AK^AI 3) Am)^AG (AK^AI 0)^AG (AK^AI 3)^AG (AK^AI 1) Am) Q (rest.map AN) rs n [.sh^G7 t b,.sh^.int (m:Int),.sh^enc^BK N t b m o',s]:=by
  intro Q hQ rest
  induction rest with
  |nil=>
   intro done rs s e hl hI;rw[dk]at e;subst e;exact hQ rs #[hl,hI]
  |cons u rest ih=>
   intro done rs s e hl hI;subst e;have hu:u∈N.ts:=o1.mem_iff.mp^TM _ FM;let#[m1,m2,_]:=ok.tin u hu;refine#[BK N t b m _,u,rfl,BJ okn _,?_];rw[Jw nd o2];refine#[_,t,b,u,m,rfl,BJ okn _,tm,m1,m2,Dd ok u hu,hm,λrow hr=>?_];exact ih (done++[u]) (rs++[row]) _ (by rw[da];rfl) (by rw[XV,XV,hl];rfl)^hI.snoc hl hr
 exact go _ (λrs h=>p o' rs o1 o2 h) o' [] [] _ rfl rfl λpre u post row _ h=>by cases h)
theorem Fn:A.Y "least_tree" 5 ["net"] .sh Wj:=A.gk A.h1w ["net","kept","tie"] (λ_ nd hr=>(AA (Qw 1 nd^A4 AJ)
 (AA (A7 d7 rfl (Ck^cg hr (BL A)^Ai (Ad (dv 0) AC) AB) (Bo 2 nd) (AD^AT (Bq B3 C8 (cg hr (Li A)^Ai (cg hr (C2 A)^AM 0^AX (Dz^G8 1) AB)^Ai (Ad (dv 2) AC)^Ai (Ad (dv 2) AC) AB) Af) (AD^DC 1 Nd Ox Oo BG D1 (pv 1)^AF (dv 2) AJ) AL))
 (AD^AH^cg hr (C2 A)^AM 0^AX (Dz^G8 1) AB)))) IA
theorem J3:A.Y "tree_paper" 6 ["net"] .sh Vo:=A.gk A.h1x ["net","tree"] (λT nd hr=>(AA (Bi 1 nd^cg hr (Fn A)^AM 0 AB)
 (AD^AH^OR T.Gaa^Hw ["tree","tie"] [P3 1,l_] (A6^cg hr (CQ A)^AM 0^AM 1 AB) (λnq=>Bo 1 nq) Az^cg hr (DQ A)^Ai (cg hr (CS A)^AM 0^AM 1 AB)^Ai (Ad (dv 1) AC)^Ai (Ad (dv 1) AC) AB))) (@λss n Pd h=>by
 let#[N,rfl,okn,p]:=h;have l60:=okn.2.2;refine#[N,rfl,okn,λord o1 o2=>?_];have ht:thn N (sub N^BP [] ord).ts:=#[λt h=>(sub_mem.mp h).1,okn.1.trise.filter _];have okm:okN^sub N^BP [] ord:=ht.okN okn;refine#[N,(sub N^BP [] ord).ts,rfl,okn.1,by lk,ht.1,λlo p1 p2=>?_];have hlo:lo.length<=60:=by rw[p1.length_eq];exact eJ (fP _ _) l60
 refine#[by rw[Ev];lk,?_]
 have go:∀(P:o_ D->Nat->Prop) (rest:o_ Tie) (acc:o_ D) (s:Slot),(∀u∈rest,u∈lo)->(∀ws,RL (sub N^BP [] ord) rest ws->P (acc++ws.map CW) n)->
   Ce (Ae 1) Ey (Ag YW^AG (AK^Ag FO^AG (AK^AI 0)^AG (AK^AI 1) Am)^AG (AK^BC EL (AI 1)^wC^D.int 0)^AG (AK^BC EL (AI 1)^wC^D.int 1) Am) P (rest.map AN) acc n [.sh^enc^sub N^BP [] ord,s]:=by
  intro P rest
  induction rest with
  |nil=>
   intro acc s _ h
   have:=h [] trivial
   rw[im,dk]at this;exact this
  | cons u rest ih=>
   intro acc s hu h;have hul:=p1.mem_iff.mp^hu u FM;let#[m1,m2,_]:=okn.1.tin u (eE.mp hul).1;refine#[sub N^BP [] ord,u,rfl,okm,_,AE (j:=0) rfl,_,AE (j:=1) rfl,aD (sub N^BP [] ord) u,u.a,u.b,rfl,Tx okm u,m1,m2,λo ho=>?_];cases o with
   |none=>
    let#[d,hd]:=(OJ okn o1 o2 hul).wk;exact absurd hd^ho d
   |some w=>
    refine ih (acc++[CW w]) _ (λv hv=>hu v^Sc _ hv) λws hws=>?_;let#[l,hl,_]:=EQ ho;rw[da];exact h (w::ws) #[#[l,hl],hws]
 exact go _ lo [] _ (λu h=>h) λws hws=>p ord lo ws o1 o2 p1 p2 hws)
theorem Lg:A.Y "has_round" 1 ["net"] .sh UA:=A.gk A.h1y ["net","pieces","place","a","b","length","one","other"] (λ_ nd hr=>(AA (Qw 1 nd Th)
 (AA (A7 d7 rfl (Ck^Ad (dv 0) AC) (Bo 2 nd) (AD^Gw (i:=1) hr (pv 1) (dv 2)^dv 2))
 (AA (A7 d7 rfl (Ck^Ad (dv 0) AC) (Ky^AQ (Bo 3 nd)^AQ (Bo 4 nd)^AQ (Bo 5 nd) BS) (AA (Bi 6 nd^Bc hr (G8 1)^dv 3)
 (AA (Bi 7 nd^Bc hr (G8 1)^dv 4)
 (AA (AT (Bq Cc El (dv 6)^dv 7) (AD^AH BE) AL)
 (AD (A7 d7 rfl (Ck^Ad (dv 0) AC) (Bo 2 nd) (AD^AT (Bq Cc El (Bc hr (G8 1)^dv 2)^dv 7) (AD^Gw (i:=1) hr (pv 1) (dv 2)^dv 6) AL)))))))
 (AD^AH BE))))) (@λss n Pd h=>by
 let#[M,rfl,okm,p]:=h;have ok:=okm.1;refine#[_,AE (j:=0) rfl,?_];refine Kf okm M.ps [] [] [] (λ_=>l_) _ rfl #[#[rfl,λx=>rfl,λk hk=>(by cases hk),ef],λx hx=>absurd rfl hx] (λx hx=>by cases hx) λks ds F s2 hF tF=>?_;refine#[_,AE (j:=1) rfl,?_]
 have go:∀(rest done:o_ Tie) (ks:o_ Key) (ds:o_ D) (F:Str->p_ Str) (s2 s3 s4 s5 s6 s7:Slot),done++rest=M.ts->Pcs M ks ds F->(∀x∈M.ps,F x≠l_)->(∀x∈M.ps,∀y∈M.ps,F x=F y↔Cn done x y)->BP [] M.ts=BP done rest->
   A9 (D_ 3^An (Ae 3)^An (Ae 4)^An (Ae 5) CU) bq {EE Pd with nx:=CY (wC^D.bl n_)^EE Pd} (rest.map AN) n [.sh^enc M,.ow^.dic ks ds,s2,s3,s4,s5,s6,s7]:=by
  intro rest
  induction rest with
  | nil=>
   intro done ks ds F s2 s3 s4 s5 s6 s7 e hF tF _ h3;rw[dk]at e
   have er:Mb M=n_:=by
    unfold Mb;rw[h3,←e];exact decide_eq_false^fC _
   rw[er]at p;exact p
  | cons u rest ih=>
   intro done ks ds F s2 s3 s4 s5 s6 s7 e hF tF hC h3;have hu:u∈M.ts:=by rw[←e];exact TM _ FM
   let#[m1,m2,_]:=ok.tin u hu;rw[BH]at h3;cases ea:F u.a with
   |none=>exact absurd ea^tF _ m1
   | some x=>
    cases eb:F u.b with
    |none=>exact absurd eb^tF _ m2
    | some y=>
     refine#[rfl,rfl,ks,ds,_,.str x,rfl,Al u.a,by rw[hF.m.at_,ea];rfl,?_];refine#[ks,ds,_,.str y,rfl,Al u.b,by rw[hF.m.at_,eb];rfl,?_];show if(x==y)=m_ then _ else _
     by_cases c:x=y
     .rw[c,beq_self_eq_true]
      have cc:Cn done u.a u.b:=(hC _ m1 _ m2).mp (by rw[ea,eb,c]);rw[if_pos^cnB_iff.mpr cc]at h3
      have er:Mb M=m_:=by
       unfold Mb
       have:=Gq rest done
       rw[h3];refine decide_eq_true ?_
       have:=congrArg iI e
       simp only[XV,dg]at this;lk
      rw[er]at p;exact Ci p
     .have cc:¬Cn done u.a u.b:=λz=>c^d6^by rw[←ea,←eb];exact(hC _ m1 _ m2).mpr z
      rw[if_neg λz=>cc^cnB_iff.mp z]at h3;rw[beq_eq_false_iff_ne.mpr c];refine A1 #[_,AE (j:=0) rfl,?_];refine F4 okm (F:=F) (i:=3) (j:=4) rfl rfl M.ps [] ks ds F _ rfl hF tF (λx hx=>by cases hx) (λx _=>rfl) λks' ds' G s2' hG tG=>?_;refine ih (done++[u]) ks' ds' G _ _ _ _ _ _ (by rw[da];exact e) hG (λw hw=>?_) (Uc m1 m2 ea eb c hC tG) h3;rw[tG w hw];unfold Il
      split
      .exact λz=>by cases z
      .exact tF w hw
 refine go M.ts [] ks ds F _ _ _ _ _ _ rfl hF (λx hx=>by rw[tF x hx];exact λz=>by cases z) (λx hx y hy=>?_) rfl;rw[tF x hx,tF y hy];constructor
 .intro h
  rw[d6 h];exact .refl
 .intro h
  cases h with
  |refl=>rfl
  |step _ e=>let#[t,ht,_]:=e;cases ht)
theorem Ld:A.Y "lets_tree" 6 ["net","thin","paper"] .sh UG:=A.gk A.h1z ["net","thin","paper","number","tie"] (λT nd hr=>(AA (AT (DTW.dt^Bk (Aj^AZ^cg hr (Df A)^AM 0^AM 1 AB)^BV^Aj^AZ^cg hr (AU A)^Ai (G9 T.Gab^cg hr (CQ A)^AM 0^AM 1 AB)^AM 2 AB) (AD Bl) AL)
 (AA (AT (AZ^cg hr (Lg A)^AM 1 AB) (AD Bl) AL)
 (AA (A7 d7 rfl (Ej rfl T.Gad (cg hr (CQ A)^AM 0^AM 1 AB)) (Ky^AQ (Bo 3 nd)^AQ (Bo 4 nd) BS) (AD^AT (Bq B3 C8 (cg hr (By A)^Ai (cg hr (CS A)^AM 1^AM 4 AB)^Ai (Ad (dv 4) AC)^Ai (Ad (dv 4) AC)^Ai (Ad (dv 2)^dv 3) AB) Af) (AD Bl) AL))
 (AD^AH BE))))) (@λss n Pd h=>by
 let#[N,ord,lo,ws,rfl,okn,l24,o1,o2,q1,q2,hpap,p]:=h;have ht:thn N (DZ N ord).ts:=#[λt h=>(sub_mem.mp h).1,okn.1.trise.filter _];have okm:okN^DZ N ord:=ht.okN okn;have l60:=okn.2.2;have sz:=Fz okm;have szl:=PySem.sizeLine_eq;have rnd:Mb^DZ N ord=n_:=Nl okn o1;refine#[N,enc^DZ N ord,rfl,okn.1,l24,l60,(C1 (by cbv) _).1 _ (Re _) sz.1,by have:=sz.2.1;lk,by have:=sz.2.2;lk,?_];show if(!thinB N (enc^DZ N ord))=m_ then _ else _
 rw[show thinB N^enc^DZ N ord=m_ from ht.thinB];have hlen:=JI hpap;refine A1 #[N,(DZ N ord).ts,rfl,okn.1,by lk,ht.1,λlo' p1 p2=>#[_,_,rfl,rfl,?_]];obtain rfl:=Av (p1.trans q1.symm) p2 q2;refine#[_,_,rfl,?_];show if(!(((ws.map CW).length:Int)==((lo'.map AN).length:Int)))=m_ then _ else _
 rw[Ev,Ev,hlen,beq_self_eq_true];refine A1 #[DZ N ord,rfl,okm,?_];rw[rnd];refine A1 #[N,(DZ N ord).ts,rfl,okn.1,by lk,ht.1,λlo2 p1' p2'=>#[_,rfl,?_]];obtain rfl:=Av (p1'.trans q1.symm) p2' q2
 have go:∀(us:o_ Tie) (ws1 ws2:o_^o_ Str) (s3 s4:Slot),ws1++ws2=ws->RL (DZ N ord) us ws2->
   A9 (D_ 2^An (Ae 3)^An (Ae 4) CU) (CK (A8^BC (Ex n_) (Ag Wm^AG (AK^Ag FO^AG (AK^AI 1)^AG (AK^AI 4) Am)^AG (AK^BC EL (AI 4)^wC^D.int 0)^AG (AK^BC EL (AI 4)^wC^D.int 1)^AG (AK^BC EL (AI 2)^AI 3) Am)^wC D.non) Fy Bj) {EE Pd with nx:=CY (wC^D.bl m_)^EE Pd} (C7 ws1.length^us.map AN) n [.sh^enc N,.sh^enc^DZ N ord,.sh^.tup^ws.map CW,s3,s4]:=by
  intro us
  induction us with
  |nil=>intro ws1 ws2 s3 s4 _ _;exact p
  | cons u us ih=>
   intro ws1 ws2 s3 s4 e hk
   match ws2,hk with
   |w::ws2,#[#[d,hw],hk]=>
    have hat:(ws.map CW)[ws1.length]?=P3^CW w:=by rw[←e,di,eT^Re _,gc];rfl
    refine#[rfl,rfl,DZ N ord,u,rfl,okm,_,AE (j:=0) rfl,_,AE (j:=1) rfl,_,AE hat,aD (DZ N ord) u,u.a,u.b,w,d,rfl,Tx okm u,hw.up^by cbv,#[rfl,?_]]
    have:=ih (ws1++[w]) ws2 (.sh^.int (ws1.length:Int)) (.sh^AN u) (by rw[da];exact e) hk
    rw[XV,d8]at this;exact this
 exact go _ [] ws _ _ rfl hpap)
theorem Cd:A.Y "_law_next" 1 ["_law_feed_here","_law_many"] .sh Hy:=A.got A.h21 λT F _ _=>U_ F T.Gab
theorem JP:A.Y "_law_places" 2 ["_law_feed_here","_law_many"] .fr Vt:=have lO:=Cd A;A.gk A.h22 ["_law_feed_here","_law_many","_law_way","_law_words","_law_first","_law_letters","_law_word","_law_at","_law_names","_law_k","_law_sign"] (λT nd hr=>(AA (Bi 2 nd^cg hr lO^AX (CI 0)^Ai AC AB)
 (AA (Bi 3 nd^A4^AF Ak^AF Ak^AF Ak^AF Ak^AF Ak^AF Ak^AF Ak^AF Ak^AF Ak^AF Ak^AF Ak^AF Ak AJ)
 (AA (AT (DTW.dt^Jj (Bq Cc El (dv 2) AC)^Gv^Bq (Ct hr) EM (dv 1) AC) (AA (Bi 4 nd^cg hr lO^AX (CI 0)^Ai AC AB)
 (AD^AH (Ar Jt Pn rfl T.Gag jA (AR (Hw ["_law_words","_law_first","_law_k"] [P3 3,P3 4,l_] (DI.c (DV rfl T.Gaf (AR (dv 1) Ab))) (λnq=>Bo 2 nq) Az^Ad (dv 0)^As D6 EB (As Ax BI (dv 1)^dv 2) AC) Ab)))) AL)
 (AA (Bi 5 nd Ak)
 (AA (Bi 6 nd^Z_ PySem.F.plainAttrs_str PySem.F.slot_str_join PySem.F.type_str_join VE YS Ak^AR (Hw ["_law_letters","_law_feed_here","_law_k"] [P3 5,P3 0,l_] (DI.c (DV rfl T.Gaf (AR AC Ab))) (λnq=>Bo 2 nq) Az^Ad (dv 0)^cg hr lO^AX (CI 1)^Ai AC AB) Ab)
 (AA (AT (DTW.dt^Jj (Bq Cc El (dv 2) AC)^Gv^Bq (Ct hr) EM (dv 1) AC) (AD^AH^Hw ["_law_word","_law_k"] [P3 6,l_] (DI.c (DV rfl T.Gaf (AR (dv 1) Ab))) (λnq=>Bo 1 nq) Az^Gz LL G3 (dv 0) Dy^C4^As Ax BI AC^dv 1) AL)
 (AA (Bi 7 nd^cg hr lO^AX (CI 0)^Ai AC AB)
 (AA (Bi 4 nd^cg hr lO^AX (CI 0)^Ai AC AB)
 (AA (Qw 8 nd^A4 AJ)
 (AA (A7 d7 rfl (DV rfl T.Gaf (AR (dv 1) Ab)) (Bo 9 nd) (AA (Bi 10 nd^Ad (dv 5)^As D6 EB (As Ax BI (dv 4)^dv 9) AC)
 (AD^DC 8 Nd Ox Oo BG D1 (pv 8)^AF (As Ax BI (As Ax BI (As Ax BI (Gz LL G3 (dv 6) Dy^C4^dv 7)^dv 10)^Gz LL G3 (dv 6) (C4^As Ax BI (dv 7) AC)^C4 AC)^As EY GH Ak^As D6 EB (dv 9) AC) AJ)))
 (AD^AH (Ar Jt Pn rfl T.Gag jA (AR (G8 8) Ab)))))))))))))) (@λss n Pd h=>by
 let#[m,rfl,hm1,hm2,hn,p]:=h;refine#[3,rfl,by cbv,by cbv,by lk,λway hw0 hw1=>#[(by cbv:12<=sizeLine),?_]];have last:∀(n':Nat),n - 1<=n'->(Bz (Cr 5^wC^D.str "abcdefghijklmnopqrstuvwxyz")
 (Bz (Cr 6^cb "str" Wa (wC^D.str "")^Ao (Hf [P3 5,P3 0,l_] (MI^Ao (wC^D.int 8) BZ) (Ae 2) Ey^BC EL (AI 0)^Ag Hy^AG (He 1)^AG (AK^wC^D.int 26) Am) BZ)
 (Bz (CK (V8 (A8^BC (Wc n_) (AI 2)^wC^D.int 1)^A8^BC Jh (AI 1)^wC^D.int 9) (CY^Hf [P3 6,l_] (MI^Ao (AI 1) BZ) (Ae 1) Ey^W3 NI (AI 0) GP^GO^BC Cj (wC^D.int 1)^AI 1) Bj)
 (Bz (Cr 7^Ag Hy^AG (He 0)^AG (AK^wC^D.int 7) Am)
 (Bz (Cr 4^Ag Hy^AG (He 0)^AG (AK^wC^D.int 26) Am)
 (Bz (MH 8^H_ BZ)
 (Bz (P5 (MI^Ao (AI 1) BZ) (Ae 9) (Bz (Cr 10^BC EL (AI 5)^BC (Z4 (λ_ j=>0<j) λi j=>D.int (i % j)) (BC Cj (AI 4)^AI 9)^wC^D.int 26)
 (Rb 8 "list" Ji^Ao (BC Cj (BC Cj (BC Cj (W3 NI (AI 6) GP^GO^AI 7)^AI 10)^W3 NI (AI 6) (GO^BC Cj (AI 7)^wC^D.int 1)^GO^wC^D.int 7)^BC PV (wC^D.str "z")^BC (Z4 (λ_ j=>0<j) λi j=>D.int (i % j)) (AI 9)^wC^D.int 2) BZ)))
 (CY^RP OQ^Ao (Bn 8) BZ)))))))) {nx:=λn _=>Kd.fr=.sh/\Pd .non n,rt:=Pd} n' [.fd,.sh^.int m,.sh^.int way,.sh^.lst^words.map .str,.no,.no,.no,.no,.no,.no,.no]:=by
  intro n' hn';refine#[rfl,8,rfl,#[by cbv,by cbv],by rw[Bt];decide,?_];refine drawn (m:=8) (by lk) λzs hz1 hz2=>?_;have hone:∀z∈zs,z.length=1:=λz hz=>(hz2 z hz).1;have hj:=VL zs;have hl8:(Txt.join (fu "") zs).length=8:=by rw[←D9,hj,Sg hone,hz1]
  have hc:∀c∈cs^Txt.join (fu "") zs,97<=c/\c<=122:=λc hc=>by
   rw[hj]at hc;let#[z,hz,hcz]:=gQ.mp hc;exact(hz2 z hz).2 c hcz
  refine#[_,_,zs,rfl,rfl,G2 zs,by rw[MT zs hone,show(fu "").length=0 from rfl];lk,by lk,?_];generalize Txt.join (fu "") zs=x at hl8 hc;have hx8:(cs x).length=8:=by rw[D9,hl8]
  have tail:∀(n2:Nat),n' - 8<=n2->(Bz (Cr 7^Ag Hy^AG (He 0)^AG (AK^wC^D.int 7) Am)
 (Bz (Cr 4^Ag Hy^AG (He 0)^AG (AK^wC^D.int 26) Am)
 (Bz (MH 8^H_ BZ)
 (Bz (P5 (MI^Ao (AI 1) BZ) (Ae 9) (Bz (Cr 10^BC EL (AI 5)^BC (Z4 (λ_ j=>0<j) λi j=>D.int (i % j)) (BC Cj (AI 4)^AI 9)^wC^D.int 26)
 (Rb 8 "list" Ji^Ao (BC Cj (BC Cj (BC Cj (W3 NI (AI 6) GP^GO^AI 7)^AI 10)^W3 NI (AI 6) (GO^BC Cj (AI 7)^wC^D.int 1)^GO^wC^D.int 7)^BC PV (wC^D.str "z")^BC (Z4 (λ_ j=>0<j) λi j=>D.int (i % j)) (AI 9)^wC^D.int 2) BZ)))
 (CY^RP OQ^Ao (Bn 8) BZ))))) {nx:=λn _=>Kd.fr=.sh/\Pd .non n,rt:=Pd} n2 [.fd,.sh^.int m,.sh^.int way,.sh^.lst^words.map .str,.no,.sh^.str FW,.sh^.str x,.no,.no,.no,.no]:=by
   intro n2 hn2;refine#[7,rfl,by cbv,by cbv,by lk,λa ha0 ha1=>#[26,rfl,by cbv,by cbv,by lk,λfirst hf0 hf1=>#[(by cbv:0<=sizeLine),(m:Int),rfl,#[by lk,by lk],?_]]];obtain⟨a,rfl⟩:∃q:Nat,a=(q:Int):=#[a.toNat,by lk];obtain⟨f,rfl⟩:∃q:Nat,first=(q:Int):=#[first.toNat,by lk]
   have ha7:a<7:=by lk
   refine Cu (all:=DF 0 ((m:Int)).toNat) (λpre n3 ρ=>n3=n2 - 1 - 1/\∃s9 s10,ρ=[.fd,.sh^.int m,.sh^.int way,.sh^.lst^words.map .str,.sh^.int f,.sh^.str FW,.sh^.str x,.sh^.int a,.ow^.lst^((eZ pre.length).map λk=>nameAt x a f k).map .str,s9,s10]) ?_ ?_ _ [] _ _ rfl #[rfl,_,_,rfl]
   .rintro n3 ρ ⟨rfl,s9,s10,rfl⟩
    have el:(DF 0 ((m:Int)).toNat).length=m:=by rw[Bt];lk
    refine#[_,_,rfl,G2 _,by rw[Ev,gh,el];lk,λss' hp hs=>p ss' _ ?_ ?_ ?_^by lk]
    .rw[hp.length_eq,Ev,gh,el]
    .intro y hy
     let#[k,_,rfl]:=TW.mp^hp.mem_iff.mp hy;exact Mu hl8 hc ha7
    .refine D5 hs^hp.nodup_iff.mpr^HL List.nodup_range λj hj k hk e=>?_
     rw[el]at hj hk;exact OC hl8 ha7 hm2 (fK.mp hj) (fK.mp hk) e
   .rintro pre d post n3 ρ nx hall ⟨rfl,s9,s10,rfl⟩ hnx
    clear hn hn' hn2 hw0 hw1;let#[rfl,hk]:=IK hall;have epre:(pre++[D.int (0+(pre.length:Int))]).length=pre.length+1:=by rw[XV,d8]
    rw[epre]at hnx;generalize pre.length=k at hk hnx ⊢;have hlt:(f+k) % 26<26:=j8 _ (by cbv);have ei:((f:Int)+(0+(k:Int))) % 26=(((f+k) % 26:Nat):Int):=by lk
    have ek:(0+(k:Int)) % 2=(k:Int) % 2:=by lk
    let#[hz0,hz1,_]:=Zj (r:=(0+(k:Int)) % 2) (by lk);have l1:=Txt.slice_le x l_^P3 (a:Int);have l2:=Txt.slice_le x (P3 ((a:Int)+1))^P3 7;have la:=jv (Txt.slice x l_^P3 (a:Int)) #[#[ 97+(f+k) % 26]];have lb:=jv (Txt.slice x l_^P3 (a:Int)++#[#[ 97+(f+k) % 26]])^Txt.slice x (P3 ((a:Int)+1))^P3 7;have ls:(#[#[ 97+(f+k) % 26]]:Str).length=1:=rfl;have hsz:=PySem.sizeLine_eq;refine#[by show(0:Int)<26;decide,97+(f+k) % 26,by rw[ei];exact AE^JV _ hlt,?_];refine#[_,rfl,rfl,by lk,by lk,by show(0:Int)<2;decide,hz0,by lk,by lk,?_];refine#[_,_,rfl,rfl,by rw[Ev,Ev,gh];lk,hnx _ _ #[rfl,.sh^.int (0+(k:Int)),.sh^.str #[#[ 97+(f+k) % 26]],?_]];rw[ek,List.range_succ,eX,eX];rfl
  refine B8 (λc1=>B8 (λc2=>?_) λc2=>tail _^Re _) λc1=>B8 (λc2=>absurd c2^by cbv) λ_=>tail _^Re _
  have hm9:m<9:=by
   have:(m:Int)<9:=of_decide_eq_true c2
   lk
  refine#[(m:Int),rfl,#[by lk,by lk],by rw[Bt];lk,?_];refine F8 (g:=λd=>match d with|.int k=>.str^Txt.slice x l_^P3 (1+k)|_=>.non) (λρ=>∃s,ρ=[.sh^.str x,s]) ?_ _ _ _ _ ?_ #[_,rfl] ?_
  .rintro d ρ ⟨s,rfl⟩
   exact#[_,rfl]
  .rintro d hd ρ n' P' ⟨s,rfl⟩ hp
   let#[k,hk,rfl]:=JB hd;exact hp
  .have e:[]++(DF 0 ((m:Int)).toNat).map (λd=>match d with|.int k=>D.str^Txt.slice x l_^P3 (1+k)|_=>.non)=((eZ m).map λk:Nat=>Txt.slice x l_^P3 (1+(k:Int))).map .str:=by
    unfold DF;rw[eA,fY,fY,iM];refine iW λk _=>?_
    have:(0+(k:Int))=k:=by lk
    simp only[Function.comp,this]
   have ct:∀k:Nat,k<m->cs^Txt.slice x l_^P3 (1+(k:Int))=(cs x).take (1+k):=λk hk=>by
    rw[Wg (by lk)^by lk,show(1+(k:Int)).toNat=1+k by lk]
   rw[e];refine p _ _ (by rw[Ev,gh]) ?_ ?_^by lk
   .intro y hy
    let#[k,hk,rfl]:=TW.mp hy;have hk:=fK.mp hk
    have hl:(Txt.slice x l_^P3 (1+(k:Int))).length=1+k:=by
     rw[←D9,ct k hk,gP,hx8];lk
    exact#[by lk,by lk,λc h=>hc c^List.mem_of_mem_take^by rw[←ct k hk];exact h]
   .unfold rising
    rw[iO];refine kE ?_ List.pairwise_lt_range;intro i j hi hj hij;rw[ct i^fK.mp hi,ct j^fK.mp hj];exact Ot _ _ _ (by lk)^by rw[hx8];have:=fK.mp hj;lk
 refine B8 (λc1=>B8 (λc2=>?_) λc2=>last _^Re _) λc1=>B8 (λc2=>absurd c2^by cbv) λ_=>last _^Re _
 have hm13:m<13:=by
  have:(m:Int)<13:=of_decide_eq_true c2
  lk
 refine#[12,rfl,by cbv,by cbv,by lk,λfirst h0 h1=>?_];obtain⟨f,rfl⟩:∃f:Nat,first=(f:Int):=#[first.toNat,by lk]
 refine#[(m:Int),rfl,#[by lk,by lk],by rw[Bt];lk,?_];refine F8 (g:=λd=>match d with|.int k=>.str^wordAt ((f+k.toNat) % 12)|_=>.non) (λρ=>∃s,ρ=[.sh^.lst^words.map .str,.sh^.int f,s]) ?_ _ _ _ _ ?_ #[_,rfl] ?_
 .rintro d ρ ⟨s,rfl⟩
  exact#[_,rfl]
 .rintro d hd ρ n' P' ⟨s,rfl⟩ hp
  let#[k,hk,rfl]:=JB hd;refine#[by show(0:Int)<12;decide,D.str^wordAt ((f+k) % 12),?_,?_]
  .have hlt:(f+k) % 12<12:=j8 _^by cbv
   have ei:((f:Int)+(0+(k:Int))) % 12=(((f+k) % 12:Nat):Int):=by lk
   rw[ei];exact AE^by rw[di,RW _ hlt];rfl
  .have e:(0+(k:Int)).toNat=k:=by lk
   simp only[e]at hp;exact hp
 .have e:[]++(DF 0 ((m:Int)).toNat).map (λd=>match d with|.int k=>D.str^wordAt ((f+k.toNat) % 12)|_=>.non)=((eZ m).map λk=>wordAt ((f+k) % 12)).map .str:=by
   unfold DF;rw[eA,fY,fY,iM];refine iW λk _=>?_
   have:(0+(k:Int)).toNat=k:=by lk
   simp only[Function.comp,this]
  refine#[_,(eZ m).map λk=>wordAt ((f+k) % 12),rfl,by rw[e];exact G2 _,by rw[Ev,gh];lk,λss' hp hs=>p ss' _ ?_ ?_ ?_^by lk]
  .rw[hp.length_eq,Ev,gh]
  .intro x hx
   let#[k,_,rfl]:=TW.mp^hp.mem_iff.mp hx;exact Nh _^j8 _^by cbv
  .refine D5 hs^hp.nodup_iff.mpr^HL List.nodup_range λj hj k hk e=>?_
   exact VF (M:=12) (by lk) (fK.mp hj) (fK.mp hk)^P0 _ _ (j8 _^by cbv) (j8 _^by cbv) e)
theorem JQ:A.Y "_law_length" 2 ["_law_feed_here","_law_scale"] .sh cM:=have lO:=Cd A;A.gk A.h23 ["_law_feed_here","_law_scale"] (λ_ _ hr=>(AA (AT (Bq Cc El (dv 1) AC) (AD^AH^As Ax BI AC^cg hr lO^AX (CI 0)^Ai AC AB) AL)
 (AA (AT (Bq Cc El (dv 1) AC) (AD^AH^As Ax BI AC^cg hr lO^AX (CI 0)^Ai AC AB) AL)
 (AD^AH^FG (Bq Cc El (dv 1) AC) (As EX GG (As HI EB AC AC)^cg hr lO^AX (CI 0)^Ai AC AB)^As Ax BI AC^cg hr lO^AX (CI 0)^Ai (As HI EB AC AC) AB)))) (@λss n Pd h=>by
 let#[s,rfl,hn,p]:=h;refine B8 (λ_=>#[3,rfl,by cbv,by cbv,by lk,λr h0 h1=>p _ (by lk)^by lk]) λ_=>?_;refine B8 (λ_=>#[12,rfl,by cbv,by cbv,by lk,λr h0 h1=>p _ (by lk)^by lk]) λ_=>?_;refine B8 (λ_=>#[#[by cbv,by cbv,by cbv],5,rfl,by cbv,by cbv,by lk,λr h0 h1=>?_]) λ_=>#[#[by cbv,by cbv,by cbv],_,rfl,by cbv,by cbv,by lk,λr h0 h1=>?_]
 .have e:((10:Int) ^ (6:Int).toNat)=1000000:=by cbv
  exact p _ (by rw[e];lk)^by rw[e];lk
 .have e:((10:Int) ^ (6:Int).toNat)=1000000:=by cbv
  rw[e]at h1;exact p _ (by lk)^by lk)
theorem Mr:A.Y "_law_net" 3 ["_law_feed_here","_law_most","_law_ties"] .sh cK:=have lO:=Cd A;A.gk A.h24 ["_law_feed_here","_law_most","_law_ties","_law_places_here","_law_few","_law_scale","_law_found","_law_one","_law_other"] (λT nd hr=>(AA (Bi 3 nd^cg hr (JP A)^AX (CI 0)^Ai (As Ax BI AC^cg hr lO^AX (CI 0)^AM 1 AB) AB)
 (AA (Bi 4 nd^As Ax BI AC^cg hr lO^AX (CI 0)^Ai AC AB)
 (AA (Bi 5 nd^cg hr lO^AX (CI 0)^Ai AC AB)
 (AA (Qw 6 nd^A4 AJ)
 (AA (A7 d7 rfl (DV rfl T.Gaf (AR (G9 T.Gab^dv 3) Ab)) (Bo 7 nd) (AD (A7 d7 rfl (Kx rfl T.Gaf (AR (As Ax BI (dv 7) AC)^AR (G9 T.Gab^dv 3) Ab)) (Bo 8 nd) (AD^AT (DTW.dt^Jj (Bq JJ NZ (cg hr lO^AX (CI 0)^Ai AC AB)^dv 4)^Gv^Bq (Ct hr) EM (G9 T.Gab^G8 6)^dv 2) (AD^DC 6 Nd Ox Oo BG D1 (pv 6)^AF (Ap^AF (Ad (dv 3)^dv 7)^AF (Ad (dv 3)^dv 8)^AF (cg hr (JQ A)^AX (CI 0)^AM 5 AB) AJ) AJ) AL))))
 (AD^AH^Ap^AF (OR T.Gaa^dv 3)^AF (OR T.Gaa^G8 6) AJ))))))) (@λss n Pd h=>by
 let#[most,ties,rfl,hm1,hm2,hn,p]:=h;refine#[_,rfl,by lk,by lk,by lk,λr h0 h1=>?_];refine#[(1+r).toNat,by rw[show(((1+r).toNat:Nat):Int)=1+r by lk],by lk,by lk,by lk,λxs n1 hl hx hr hn1=>?_];refine#[3,rfl,by cbv,by cbv,by lk,λfew f0 f1=>#[4,rfl,by cbv,by cbv,by lk,λscale s0 s1=>#[(by cbv:0<=sizeLine),?_]]];have hxl:(xs.map D.str).length=xs.length:=Ev ..;refine#[_,_,rfl,rfl,_,rfl,#[by lk,by lk],?_]
 refine Cu (all:=DF 0 (((xs.map D.str).length:Int)).toNat) (λpre m ρ=>n1<=m+2+52*pre.length/\∃(ts:o_ Ix) (s7 s8:Slot),(∀t∈ts,t.i<t.j/\t.j<xs.length/\1<=t.len/\t.len<=1000000)/\ts.Pairwise X0/\ts.length<=ties/\(∀t∈ts,t.i<pre.length)/\ts.length<=26*pre.length /\
  ρ=[.fd,.sh^.int most,.sh^.int ties,.sh^.lst^xs.map .str,.sh^.int (1+few),.sh^.int scale,.ow^.lst^(ts.map^Ix.tie xs).map AN,s7,s8]) ?_ ?_ _ [] _ _ rfl #[by simp;lk,[],_,_,(λ_ h=>by cases h),kz,dq _,(λ_ h=>by cases h),dq _,rfl]
 .rintro m ρ ⟨hm,ts,s7,s8,h1,h2,h3,h4,h5,rfl⟩
  have el:(DF 0 (((xs.map D.str).length:Int)).toNat).length=xs.length:=by rw[Bt];lk
  rw[el]at hm;refine#[(by cbv:2<=sizeLine),p #[xs,ts.map^Ix.tie xs] m (Xn hx hr h1 h2) (by show 1<=xs.length;lk) (by show xs.length<=most;lk) (by show(ts.map^Ix.tie xs).length<=ties;rw[Ev];exact h3)^by lk]
 .rintro pre d post m ρ nx hall ⟨hm,ts,s7,s8,h1,h2,h3,h4,h5,rfl⟩ hnx
  let#[rfl,hk]:=IK hall;have epre:(pre++[D.int (0+(pre.length:Int))]).length=pre.length+1:=by rw[XV,d8]
  rw[epre]at hnx;generalize pre.length=one at hk hnx hm h4 h5 ⊢;rw[hxl]at hk;have hb:xs.length<=26/\1400<=n1:=by lk
  clear hn hn1 hl hm1 hm2 f0 f1;refine#[_,_,rfl,rfl,_,_,rfl,#[by lk,by lk,by lk,by lk],?_]
  refine Cu (all:=DF (0+(one:Int)+1) ((((xs.map D.str).length:Int)) - (0+(one:Int)+1)).toNat) (λpre m ρ=>n1<=m+2+52*one+2*pre.length/\∃(ts:o_ Ix) (s8:Slot),(∀t∈ts,t.i<t.j/\t.j<xs.length/\1<=t.len/\t.len<=1000000)/\ts.Pairwise X0/\ts.length<=ties/\(∀t∈ts,t.i<one\/(t.i=one/\t.j<one+1+pre.length))/\ts.length<=26*one+pre.length /\
   ρ=[.fd,.sh^.int most,.sh^.int ties,.sh^.lst^xs.map .str,.sh^.int (1+few),.sh^.int scale,.ow^.lst^(ts.map^Ix.tie xs).map AN,.sh^.int (0+(one:Int)),s8]) ?_ ?_ _ [] _ _ rfl #[by simpa using hm,ts,_,h1,h2,h3,λt ht=>.inl^h4 t ht,by simpa using h5,rfl]
  .rintro m ρ ⟨hm,ts,s8,h1,h2,h3,h4,h5,rfl⟩
   rw[Bt]at hm h5;refine hnx _ _ #[by lk,ts,_,_,h1,h2,h3,λt ht=>?_,by lk,rfl]
   rcases h4 t ht with h|h <;>lk
  .rintro pre2 d2 post2 m ρ nx2 hall2 ⟨hm,ts,s8,h1,h2,h3,h4,h5,rfl⟩ hnx2
   let#[rfl,hk2]:=IK hall2;rw[XV,d8]at hnx2;generalize pre2.length=q at hk2 hnx2 hm h4 h5 ⊢;have hq:one+1+q<xs.length:=by lk
   have skip:nx2 (m - 1) [.fd,.sh^.int most,.sh^.int ties,.sh^.lst^xs.map .str,.sh^.int (1+few),.sh^.int scale,.ow^.lst^(ts.map^Ix.tie xs).map AN,.sh^.int (0+(one:Int)),.sh^.int (0+(one:Int)+1+(q:Int))]:=by
    refine hnx2 _ _ #[by lk,ts,_,h1,h2,h3,λt ht=>?_,by lk,rfl]
    rcases h4 t ht with h|h
    .exact .inl h
    .exact .inr^by lk
   refine#[4,rfl,by cbv,by cbv,by lk,λdr d0 d1=>?_];refine B8 (λc1=>#[_,_,rfl,rfl,B8 (λc2=>?_) λc2=>skip]) λc1=>B8 (λc2=>absurd c2^by cbv) λ_=>skip
   have hlt:ts.length<ties:=by
    have:(((ts.map^Ix.tie xs).map AN).length:Int)<(ties:Int):=of_decide_eq_true c2
    rw[Ev,Ev]at this;lk
   refine#[_,rfl,rfl,D.str^xs.getD one "",?_,D.str^xs.getD (one+1+q) "",?_,scale,rfl,by lk,λlen l1 l2=>#[(by cbv:3<=sizeLine),_,_,rfl,rfl,?_,?_]]
   .rw[show(0+(one:Int))=((one:Nat):Int) by lk]
    exact AE^by rw[di,Nt.getD_at hk];rfl
   .rw[show(0+(one:Int)+1+(q:Int))=((one+1+q:Nat):Int) by lk]
    exact AE^by rw[di,Nt.getD_at hq];rfl
   .rw[Ev,Ev,PySem.sizeLine_eq];lk
   .refine hnx2 _ _ #[by lk,ts++[#[one,one+1+q,len]],.sh^.int (0+(one:Int)+1+(q:Int)),λt ht=>?_,?_,by rw[XV,d8];lk,λt ht=>?_,by rw[XV,d8];lk,?_]
    .rcases ZB.mp ht with ht|ht
     .exact h1 t ht
     .rw[On.mp ht]
      exact#[by show one<one+1+q;lk,hq,l1,l2]
    .rw[hU]
     refine#[h2,i6 _ _,λs hs t ht=>?_];rw[On.mp ht]
     rcases h4 s hs with h|h
     .exact .inl h
     .exact .inr h
    .rcases ZB.mp ht with ht|ht
     .rcases h4 t ht with h|h
      .exact .inl h
      .exact .inr^by lk
     .rw[On.mp ht]
      exact .inr #[rfl,by show one+1+q<one+1+(q+1);lk]
    .rw[eX,eX]
     rfl)
theorem J_:A.Y "_law_times" 2 ["_law_feed_here"] .sh YY:=have lO:=Cd A;A.gk A.h25 ["_law_feed_here","_law_some","_law_at","_law_bottom"] (λ_ nd hr=>(AA (Bi 1 nd^A4^AF (Ap^AF AC^AF AC AJ)^AF (Ap^AF AC^AF AC AJ)^AF (Ap^AF AC^AF AC AJ)^AF (Ap^AF AC^AF AC AJ)^AF (Ap^AF AC^AF AC AJ)^AF (Ap^AF AC^AF AC AJ)^AF (Ap^AF (As HI EB AC AC)^AF AC AJ)^AF (Ap^AF (As HI EB AC AC)^AF (As HI EB AC AC) AJ) AJ)
 (AA (Bi 2 nd^cg hr lO^AX (CI 0)^Ai AC AB)
 (AA (AT (Bq (Ct hr) EM (dv 2) AC) (AD^AH^Ad (dv 1)^dv 2) AL)
 (AA (Bi 3 nd^As Ax BI AC^cg hr lO^AX (CI 0)^Ai AC AB)
 (AD^AH^Ap^AF (As Ax BI (dv 3)^cg hr lO^AX (CI 0)^Ai (As EY GH AC^dv 3) AB)^AF (dv 3) AJ)))))) (@λss n Pd h=>by
 let#[rfl,hn,p]:=h;refine#[z2,z2,z2,z2,z2,z2,cE,z2,cE,cE,z2,by cbv,?_];refine#[12,rfl,by cbv,by cbv,by lk,λr r0 r1=>?_];refine B8 (λc=>?_) λc=>?_
 .have c:r<8:=of_decide_eq_true c
  let#[z,hz,t,b,rfl,b0,bt,t1]:=Tt (p:=λd=>∃t b:Int,d=.tup [.int t,.int b]/\1<=b/\b<=t/\t<=1000000) (xs:=[.tup [.int 2,.int 1],.tup [.int 3,.int 2],.tup [.int 1,.int 1],.tup [.int 3,.int 1],.tup [.int 5,.int 2],.tup [.int 1000,.int 999],.tup [.int ((10:Int) ^ (6:Int).toNat),.int 1],.tup [.int ((10:Int) ^ (6:Int).toNat),.int ((10:Int) ^ (6:Int).toNat)]]) (λd hd=>by
   simp only[UF,or_false]at hd
   grind) r0^by lk
  exact#[_,hz,p t b _ b0 bt t1^by lk]
 .refine#[20,rfl,by cbv,by cbv,by lk,λs s0 s1=>?_]
  refine#[dN (by cbv)^by cbv,_,rfl,by lk,by lk,by lk,λu u0 u1=>#[z2,p _ _ _ (by lk) (by lk) (by lk)^by lk]])
theorem Fp:A.Y "_law_least" 1 ["_law_ties","_law_place"] .fr UI:=A.gk A.h26 ["_law_ties","_law_place","_law_known","_law_going","_law_one","_law_other","_law_length_here","_law_here","_law_there","_law_reach"] (λ_ nd hr=>(AA (Qw 2 nd^NN (dv 1) AC)
 (AA (Bi 3 nd BE)
 (AA (Jl d7 (AZ^dv 3) (AA (Bi 3 nd BE)
 (AD (Vc d7 rfl (pv 0) (Ky^AQ (Bo 4 nd)^AQ (Bo 5 nd)^AQ (Bo 6 nd) BS) (AD (A7 d7 rfl (Ck^A4^AF (Ap^AF (dv 4)^AF (dv 5) AJ)^AF (Ap^AF (dv 5)^AF (dv 4) AJ) AJ) (Ky^AQ (Bo 7 nd)^AQ (Bo 8 nd) BS) (AD (AT (Bq (N5 hr) T4 (dv 7)^G8 2) (AA (Bi 9 nd^As Ax BI (Bc hr (G8 2)^dv 7)^dv 6)
 (AD (AT (Bq (Ct hr) EM (dv 9)^Vg hr (G8 2) (dv 8)^As Ax BI (dv 9) AC) (AA (Gw (i:=2) hr (pv 2) (dv 8)^dv 9)
 (AD^Bi 3 nd BE)) AL))) AL))))))))
 (AD^Pa 2^pv 2))))) (@λss n Pd h=>by
 let#[N,s,zz,us,rfl,hzz,hus,okn,hs,p]:=h;have szl:=PySem.sizeLine_eq;have ok:=okn.1;have l25:=okn.2.1;refine#[_,Al s,?_]
 have step:∀(D3:E2) (x y:Str) (l:Int),Ed N x y l->∀(ks:o_ Key) (ds:o_ D) (K:Kn) (g:Bool) (s4 s5 s7 s8 s9:Slot),Dmap ks ds D.int K->Bf N s ks.length K->
   (∀(ks':o_ Key) (ds':o_ D) (K':Kn) (g':Bool) (t7 t8 t9:Slot),Dmap ks' ds' D.int K'->Bf N s ks'.length K'->((g'=g/\K'=K/\Im K (x,y,l))\/(g'=m_/\RQ N.ps K'<RQ N.ps K))->
    D3.nx n [.br zz,.sh^.str s,.ow^.dic ks' ds',.sh^.bl g',s4,s5,.sh^.int l,t7,t8,t9])->
   (CK (A8^BC (Qs n_) (AI 7)^Bn 2) (Bz (Cr 9^BC Cj (BC Dl (Bn 2)^AI 7)^AI 6)
 (CK (A8^BC Jh (AI 9)^Rc (Bn 2) (AI 8)^BC Cj (AI 9)^wC^D.int 1) (Bz (GQ 2 (AI 8)^AI 9)
 (Cr 3^wC^D.bl m_)) Bj)) Bj) D3 n [.br zz,.sh^.str s,.ow^.dic ks ds,.sh^.bl g,s4,s5,.sh^.int l,.sh^.str x,.sh^.str y,s9]:=by
  intro D3 x y l he ks ds K g s4 s5 s7 s8 s9 M B hD;have kl:=M.le B.ins;refine#[ks,ds,_,rfl,Al x,?_];show if((BO ks ds^.inr x).isSome)=m_ then _ else _
  cases ex:K x with
  |none=>
   rw[M.at_,ex];exact A1^hD ks ds K g _ _ _ M B^.inl #[rfl,rfl,λd e=>by rw[show K x=P3 d from e]at ex;cases ex]
  | some d=>
   rw[M.at_,ex];refine Ci #[ks,ds,_,_,rfl,Al x,by rw[M.at_,ex];rfl,?_];refine#[ks,ds,rfl,_,Al y,?_]
   have put:(K y=l_\/∃d',K y=P3 d'/\d+l<d')->(Bz (GQ 2 (AI 8)^AI 9)^Cr 3^wC^D.bl m_) D3 n [.br zz,.sh^.str s,.ow^.dic ks ds,.sh^.bl g,s4,s5,.sh^.int l,.sh^.str x,.sh^.str y,.sh^.int (d+l)]:=λhy=>by
    refine#[ks,ds,rfl,_,Al y,by lk,?_];have hlen:=JC ks^.inr y
    have key:=B.put ok (c':=(C5 ks^.inr y).length) (by rw[hlen];split <;>lk) (by rw[hlen];split <;>lk) ex he (λe=>by rw[hlen,if_neg^by rw[(M.has (x:=y)).1 e];decide]) (λd' e=>by
     rcases hy with hy|⟨d2,hy,hlt⟩
     .rw[e]at hy;cases hy
     .rw[e]at hy;cases hy;exact hlt)
    exact hD _ _ _ m_ _ _ _ (M.put y (d+l)) key.1^.inr #[rfl,key.2]
   rw[M.at_];cases ey:K y with
   |none=>
    show if decide (d+l<d+l+1)=m_ then _ else _
    rw[decide_eq_true^by lk];exact Ci^put^.inl ey
   | some d'=>
    show if decide (d+l<d')=m_ then _ else _
    by_cases c:d+l<d'
    .rw[decide_eq_true c]
     exact Ci^put^.inr #[d',ey,c]
    .rw[decide_eq_false c]
     refine A1^hD ks ds K g _ _ _ M B^.inl #[rfl,rfl,λd2 e=>?_];rw[show K x=P3 d2 from e]at ex;cases ex;exact#[d',ey,by show d'<=d+l;lk]
 refine HB (λm n' ρ=>n'=n/\∃(ks:o_ Key) (ds:o_ D) (K:Kn) (g:Bool) (s4 s5 s6 s7 s8 s9:Slot),ρ=[.br zz,.sh^.str s,.ow^.dic ks ds,.sh^.bl g,s4,s5,s6,s7,s8,s9]/\Dmap ks ds D.int K/\Bf N s ks.length K/\((g=m_/\m=RQ N.ps K+1)\/(g=n_/\m=0/\∀t∈N.ts,Im K (t.a,t.b,t.len)/\Im K (t.b,t.a,t.len)))) _ #[rfl,_,_,_,m_,_,_,_,_,_,_,rfl,Dmap.one (enc:=D.int) (a:=(0:Int)),Bf.init hs,.inl #[rfl,rfl]] ?_ ?_
 .rintro m n' ρ N' ⟨rfl,ks,ds,K,g,s4,s5,s6,s7,s8,s9,rfl,M,B,hg⟩ hN
  rcases hg with⟨rfl,hm⟩|⟨rfl,_,ht⟩
  .have outer:∀(rest done:o_ Tie) (ks:o_ Key) (ds:o_ D) (K':Kn) (g:Bool) (s4 s5 s6 s7 s8 s9:Slot),done++rest=us->Dmap ks ds D.int K'->Bf N s ks.length K'->((g=m_/\RQ N.ps K'<RQ N.ps K)\/(g=n_/\RQ N.ps K'<=RQ N.ps K/\∀t∈done,Im K' (t.a,t.b,t.len)/\Im K' (t.b,t.a,t.len)))-> A9 (D_ 3^An (Ae 4)^An (Ae 5)^An (Ae 6) CU) (P5 (Ii^H_^Ao (MG^Ao (AI 4)^Ao (AI 5) BZ)^Ao (MG^Ao (AI 5)^Ao (AI 4) BZ) BZ) (D_ 2^An (Ae 7)^An (Ae 8) CU) (CK (A8^BC (Qs n_) (AI 7)^Bn 2) (Bz (Cr 9^BC Cj (BC Dl (Bn 2)^AI 7)^AI 6) (CK (A8^BC Jh (AI 9)^Rc (Bn 2) (AI 8)^BC Cj (AI 9)^wC^D.int 1) (Bz (GQ 2 (AI 8)^AI 9) (Cr 3^wC^D.bl m_)) Bj)) Bj)) {EF Pd with nx:=N',ct:=N',bk:=Ra 2^EF Pd} (rest.map AN) n' [.br zz,.sh^.str s,.ow^.dic ks ds,.sh^.bl g,s4,s5,s6,s7,s8,s9]:=by
    intro rest
    induction rest with
    |nil=>
     intro done ks ds K' g s4 s5 s6 s7 s8 s9 e M B hg;rw[dk]at e;subst e
     rcases hg with⟨rfl,hlt⟩|⟨rfl,_,ht⟩
     .exact hN (RQ N.ps K'+1) _ _ (by lk) #[rfl,ks,ds,K',m_,_,_,_,_,_,_,rfl,M,B,.inl #[rfl,rfl]]
     .exact hN 0 _ _ (by lk) #[rfl,ks,ds,K',n_,_,_,_,_,_,_,rfl,M,B,.inr #[rfl,rfl,λt h=>ht t^(hus t).mpr h]]
    | cons t rest ih=>
     intro done ks ds K' g s4 s5 s6 s7 s8 s9 e M B hg;have hmem:t∈N.ts:=(hus t).mp (by rw[←e];exact TM _ FM);have e':(done++[t])++rest=us:=by rw[da];exact e
     have ed:=CB hmem;refine#[rfl,rfl,z2,z2,z2,?_];refine#[rfl,rfl,?_];refine step _ t.a t.b t.len ed.1 ks ds K' g _ _ s7 s8 s9 M B λks1 ds1 K1 g1 t7 t8 t9 M1 B1 h1=>?_;refine#[rfl,rfl,?_];refine step _ t.b t.a t.len ed.2 ks1 ds1 K1 g1 _ _ t7 t8 t9 M1 B1 λks2 ds2 K2 g2 u7 u8 u9 M2 B2 h2=>?_;refine ih (done++[t]) ks2 ds2 K2 g2 _ _ _ _ _ _ e' M2 B2 ?_
     rcases h1 with⟨rfl,rfl,t1⟩|⟨rfl,lt1⟩
     .rcases h2 with⟨rfl,rfl,t2⟩|⟨rfl,lt2⟩
      .rcases hg with z|⟨z1,z2,z3⟩
       .exact .inl z
       .refine .inr #[z1,z2,λu hu=>?_]
        rcases ZB.mp hu with hu|hu
        .exact z3 u hu
        .rw[On.mp hu];exact#[t1,t2]
      .refine .inl #[rfl,?_]
       rcases hg with⟨_,z⟩|⟨_,z,_⟩ <;>lk
     .have base:RQ N.ps K1<RQ N.ps K:=by rcases hg with⟨_,z⟩|⟨_,z,_⟩ <;>lk
      rcases h2 with⟨rfl,rfl,t2⟩|⟨rfl,lt2⟩
      .exact .inl #[rfl,base]
      .exact .inl #[rfl,by lk]
   exact#[zz,_,rfl,hzz,outer us [] ks ds K n_ _ _ _ _ _ _ rfl M B (.inr #[rfl,Re _,λt h=>by cases h])]
  .exact#[_,rfl,p ks ds K M^B.told ok (by have:=M.le B.ins;lk) ht]
 .rintro n' ρ P Q hPQ h
  unfold A8 AI at h ⊢
  split at h
  .rename_i d hd
   cases d with
   |bl b=>exact hPQ _ _ h
   |_=>exact h.elim
  .exact h.elim)
theorem JO:A.Y "_law_within" 2 ["_law_net_here","_law_times_here","_law_thin"] .sh YU:=A.gk A.h27 ["_law_net_here","_law_times_here","_law_thin","_law_place","_law_wide","_law_known","_law_other"] (λ_ nd hr=>(AA (A7 d7 rfl (Ck^Ad (dv 0) AC) (Bo 3 nd) (AA (Bi 4 nd^Tg^cg hr (Fp A)^AX (Dz^Ad (dv 0) AC)^AM 3 AB)
 (AA (Bi 5 nd^Tg^cg hr (Fp A)^AX (Dz^Ad (dv 2) AC)^AM 3 AB)
 (AD (A7 d7 rfl (Ve^dv 4) (Bo 6 nd) (AD^AT (DTW.dt^Bk (Bq (EH hr) FN (dv 6)^dv 5)^BV^Bq LZ Po (As EY GH (Bc hr (dv 5)^dv 6)^Ad (dv 1) AC)^As EY GH (Bc hr (dv 4)^dv 6)^Ad (dv 1) AC) (AD^AH BE) AL))))))
 (AD^AH BE))) (@λss n Pd h=>by
 let#[N,M,t,b,rfl,okn,okm,eps,#[b1,b2,t1,t2],p]:=h;have szl:=PySem.sizeLine_eq;have no:∀x,¬PR N M t b x->Pd (.bl n_) n:=λx hx=>p n_ #[(λz=>by cases z),λw=>absurd (NG okm (by lk) w x) hx];refine#[_,AE (j:=0) rfl,?_];refine Cu (all:=N.ps.map D.str) (λpre m ρ=>m=n/\(∀x,D.str x∈pre->PR N M t b x)/\∃s3 s4 s5 s6,ρ=[.sh^enc N,.sh^G7 t b,.sh^enc M,s3,s4,s5,s6]) ?_ ?_ _ [] _ _ rfl #[rfl,(λx hx=>by cases hx),_,_,_,_,rfl]
 .rintro m ρ ⟨rfl,hf,s3,s4,s5,s6,rfl⟩
  exact p m_ #[λ_=>P1 okn (by lk) λx hx=>hf x^TW.mpr #[x,hx,rfl],λ_=>rfl]
 .rintro pre d post m ρ nx hall ⟨rfl,hf,s3,s4,s5,s6,rfl⟩ hnx
  have hd:d∈N.ps.map D.str:=by rw[hall];exact TM _ FM
  let#[s,hs,rfl]:=TW.mp hd;refine#[_,AE (j:=1) rfl,N,s,_,N.ts,rfl,rfl,λ_=>Iff.rfl,okn,hs,λks ds K Mp T=>#[ks,ds,rfl,PN Mp,?_]];refine#[_,AE (j:=1) rfl,M,s,_,M.ts,rfl,rfl,λ_=>Iff.rfl,okm,eps▸hs,λks' ds' K' Mp' T'=>#[ks',ds',rfl,PN Mp',?_]];refine#[ks,ds,rfl,λk hk=>?_,?_]
  .let#[x,rfl]:=Mp.dom k hk
   have:=(okn.1.names x^T.ins x^(Mp.mem x).mp hk).2.1
   show x.length<=sizeLine;lk
  refine Cu (all:=ks.map US) (λpre m' ρ=>m'=m/\(∀x,D.str x∈pre->∀d,K x=P3 d->∃d',K' x=P3 d'/\d'*b<=d*t)/\∃s6,ρ=[.sh^enc N,.sh^G7 t b,.sh^enc M,.sh^.str s,.sh^.fdi ks ds,.sh^.fdi ks' ds',s6]) ?_ ?_ _ [] _ _ rfl #[rfl,(λx hx=>by cases hx),_,rfl]
  .rintro m' ρ ⟨rfl,hg,s6,rfl⟩
   refine hnx _ _ #[rfl,λx hx=>?_,_,_,_,_,rfl]
   rcases ZB.mp hx with z|z
   .exact hf x z
   .have e:x=s:=by injection On.mp z
    subst e;intro y d hd;cases ek:K y with
    |none=>exact absurd ek^T.all y d hd.1
    |some d0=>
     have e0:d0=d:=(T.least y d0 ek).unique hd;subst e0;let#[d',h1,h2]:=hg y (TW.mpr #[.inr y,(Mp.mem y).mpr (by rw[ek];exact λz=>by cases z),rfl]) d0 ek;exact#[d',T'.least y d' h1,h2]
  .rintro pre' d' post' m' ρ nx' hall' ⟨rfl,hg,s6,rfl⟩ hnx'
   have hd':d'∈ks.map US:=by rw[hall'];exact TM _ FM
   let#[k,hk,rfl]:=TW.mp hd';let#[x,rfl]:=Mp.dom k hk;have hx:=(Mp.mem x).mp hk;cases ek:K x with
   |none=>exact absurd ek hx
   | some d=>
    have v1:BO ks ds^.inr x=P3^.int d:=by rw[Mp.at_,ek];rfl
    have bad:(∀d1,K' x=P3 d1->¬d1*b<=d*t)->Pd (.bl n_) m':=λhb=>no s λf=>by
     let#[d1,h1,h2]:=f x d^T.least x d ek;cases ek':K' x with
     |none=>exact T'.all x d1 h1.1 ek'
     |some d2=>exact hb d2 ek'^by rw[(T'.least x d2 ek').unique h1];exact h2
    refine#[_,_,_,rfl,Al x,?_];cases ek':K' x with
    |none=>
     rw[show BO ks' ds'^.inr x=l_ by rw[Mp'.at_,ek'];rfl];exact Ci^Ci^bad λd1 h1=>by rw[ek']at h1;cases h1
    | some d1=>
     have v2:BO ks' ds'^.inr x=P3^.int d1:=by rw[Mp'.at_,ek'];rfl
     rw[v2];refine A1 #[_,_,_,_,rfl,Al x,v2,_,AE (j:=1) rfl,.inr #[by lk,by lk],_,_,_,_,rfl,Al x,v1,_,AE (j:=0) rfl,.inr #[by lk,by lk],?_];refine B8 (λc=>bad λd2 h2=>?_) λc=>?_
     .rw[ek']at h2;cases h2
      have:=(of_decide_eq_true c:d*t<d1*b)
      lk
     .have c:¬d*t<d1*b:=λz=>c^decide_eq_true z
      refine hnx' m' _ #[rfl,λy hy=>?_,.sh^.str x,rfl]
      rcases ZB.mp hy with z|z
      .exact hg y z
      .have e:y=x:=by injection On.mp z
       subst e;intro d2 h2;rw[ek]at h2;cases h2
       exact#[d1,ek',by lk])
theorem HK:A.Y "_law_each_let" 20 ["_law_net_here","_law_times_here","_law_pairs","_law_many","_law_thins"] .sh Py:=A.gk A.h28 ["_law_net_here","_law_times_here","_law_pairs","_law_many","_law_thins","_law_greedy","_law_paired","_law_steady","_law_tree","_law_small","_law_some","_law_thin"] (λ_ nd hr=>(AA (YD (dv 4)^Ky^AQ (Bo 5 nd)^AQ (Bo 6 nd)^AQ (Bo 7 nd)^AQ (Bo 8 nd)^AQ (Bo 9 nd) BS)
 (AA (Qw 10 nd^A4^AF (cg hr (JN A)^AM 0^AM 1^AM 5^Ai (cg hr (IC A)^AM 0^AM 1 AB) AB) AJ)
 (AA (DC 10 Nd Ox Oo BG D1 (pv 10)^AF (cg hr (J6 A)^AM 0^AM 1^AM 2^AM 6^Ai (cg hr (JM A)^AM 0^AM 1^AM 2 AB) AB) AJ)
 (AA (DC 10 Nd Ox Oo BG D1 (pv 10)^AF (cg hr (HJ A)^AM 0^AM 1^AM 3^AM 7^Ai (cg hr (Gi A)^AM 0^AM 1^AM 3 AB) AB) AJ)
 (AA (DC 10 Nd Ox Oo BG D1 (pv 10)^AF (cg hr (Ld A)^AM 0^AM 8^Ai (cg hr (J3 A)^AM 0 AB) AB) AJ)
 (AA (DC 10 Nd Ox Oo BG D1 (pv 10)^AF (cg hr (Mm A)^AM 0^AM 1^AM 9 AB) AJ)
 (AA (A7 d7 rfl (Ck^A4^AF (dv 5)^AF (dv 6)^AF (dv 7)^AF (Ad (dv 9) AC) AJ) (Bo 11 nd) (AD^DC 10 Nd Ox Oo BG D1 (pv 10)^AF (cg hr (Ge A)^AM 0^AM 1^AM 11^Ai (cg hr (D7 A)^AM 0^AM 1^AM 11 AB) AB) AJ))
 (AD^AH^BN (EG hr) CV BE (Hw ["_law_one"] [l_] (A6^G8 10) (λnq=>Bo 0 nq) Az^BN Xl aJ (dv 0) BE^Bg _)^by with_unfolding_all rfl))))))))) (@λss n Pd h=>by
 let#[N,t,b,ps,m,ord,G,Q,S,R,d,rfl,h,p]:=h;have okn:=h.ok;have szl:=PySem.sizeLine_eq;have hG:=h.g;have hQ:=h.q;have hS:=h.s;let#[r,ws0,c,ed,th,kp,_]:=h.ls;have hr:=JZ okn h.tm h.bt th kp
 have one:∀(T:Net) (k:Nat) (D2:E2) (s5 s6 s7 s8 s9:Slot),Kp90 N T t b->k<=20->D2.nx n [.sh^enc N,.sh^G7 t b,.sh^CM ps,.sh^.int (m:Int),.sh^.tup [enc G,enc Q,enc S,enc R,d],s5,s6,s7,s8,s9,.ow^.lst^(fN (k+1) m_).map .bl,.sh^enc T]->
   (Rb 10 "list" Ji^Ao (Ag Ob^AG (AK^AI 0)^AG (AK^AI 1)^AG (AK^AI 11)^AG (AK^Ag Ps^AG (AK^AI 0)^AG (AK^AI 1)^AG (AK^AI 11) Am) Am) BZ) D2 n [.sh^enc N,.sh^G7 t b,.sh^CM ps,.sh^.int (m:Int),.sh^.tup [enc G,enc Q,enc S,enc R,d],s5,s6,s7,s8,s9,.ow^.lst^(fN k m_).map .bl,.sh^enc T]:=by
  intro T k D2 s5 s6 s7 s8 s9 hT hk q;obtain⟨ts,e⟩:∃ts,T=⟨N.ps,ts⟩:=#[T.ts,hT.net];subst e;refine#[_,rfl,rfl,N,ts,t,b,rfl,okn,hT.th,h.tm,λws pap _=>#[N,ts,t,b,ws,rfl,okn,h.l24,hT.th,h.tm,(λlo p1 p2=>(pap lo p1 p2).up^by have:=okn.2.1;lk),_,_,rfl,rfl,by rw[Ev,jF];lk,?_],fun#[u,hu,hn]=>absurd (hT.nr u (eE.mp hu).1) hn];rw[List.replicate_succ',eX]at q;exact q
 refine#[rfl,rfl,?_];refine#[N,t,b,rfl,okn,h.tm,λo rs q1 q2 pap=>?_];obtain rfl:=Av (q1.trans h.o1.symm) q2 h.o2;refine#[N,t,b,o,rs,by rw[h.eG],okn,h.l24,h.tm,q1,q2,pap.up^by cbv,(by cbv:1<=sizeLine),?_];refine#[_,rfl,rfl,N,t,b,ps,rfl,okn,h.tm,h.bt,h.pr,λo' d' q1' q2' pap'=>?_];obtain rfl:=Av (q1'.trans h.o1.symm) q2' h.o2;refine#[N,Q,t,b,ps,d',rfl,okn,h.l24,#[hQ.ps,hQ.th],h.tm,h.pr,by rw[h.eQ];exact pap',_,_,rfl,rfl,(by cbv:1<sizeLine),?_];refine#[_,rfl,rfl,N,t,b,m,rfl,okn,h.tm,by have:=h.m1;lk,λo3 rs3 q13 q23 pap3=>?_];obtain rfl:=Av (q13.trans h.o1.symm) q23 h.o2;refine#[N,t,b,m,_,rs3,by rw[h.eS],okn,h.l24,h.tm,by have:=h.m1;lk,q13,q23,pap3,_,_,rfl,rfl,(by cbv:2<sizeLine),?_];refine#[_,rfl,rfl,N,rfl,okn,λo4 lo ws q14 q24 p1 p2 pap4=>?_];obtain rfl:=Av (q14.trans h.o1.symm) q24 h.o2;refine#[N,_,lo,ws,by rw[h.eR],okn,h.l24,q14,q24,p1,p2,pap4,_,_,rfl,rfl,(by cbv:3<sizeLine),?_];refine#[_,rfl,rfl,N,t,b,d,rfl,okn,h.l24,h.l10,h.tm,h.bt,h.ls,_,_,rfl,rfl,(by cbv:4<sizeLine),?_];subst ed;refine#[_,AE (j:=0) rfl,(by cbv:4<=sizeLine),?_];refine one G 5 _ _ _ _ _ _ hG (by cbv) ?_;refine one Q 6 _ _ _ _ _ _ hQ (by cbv) ?_;refine one S 7 _ _ _ _ _ _ hS (by cbv) ?_;refine one #[N.ps,r] 8 _ _ _ _ _ _ hr (by cbv) ?_;refine#[(by cbv:9<=10000000),?_];refine BA (λ_=>.bl m_) (λρ=>∃s,ρ=[s]) _ _ _ _ ?_ #[_,rfl] ?_
 .rintro e he ρ m' nx ⟨s,rfl⟩ hnx
  let#[x,hx,rfl]:=TW.mp he;rw[List.eq_of_mem_replicate hx];exact hnx _ #[_,rfl]
 rw[eA];exact NE (p:=λ_=>m_) (neg:=m_) p)
theorem IF:A.Y "_law_all_let" 21 ["_law_net_here","_law_times_here","_law_pairs","_law_many","_law_thins"] .sh Py:=A.gk A.h29 ["_law_net_here","_law_times_here","_law_pairs","_law_many","_law_thins","_law_good"] (λ_ nd hr=>(AA (Bi 5 nd BE)
 (AA (PZ (λ_ _ h=>h)^AD^Bi 5 nd^cg hr (HK A)^AM 0^AM 1^AM 2^AM 3^AM 4 AB)
 (AD^AH^dv 5)))) (@λss n Pd h=>by
 let#[N,t,b,ps,m,ord,G,Q,S,R,d,rfl,h,p]:=h;exact#[N,t,b,ps,m,ord,G,Q,S,R,d,rfl,h,p])
theorem IE:A.Y "_law_without" 1 ["_law_thin","_law_tie"] .sh Yc:=A.gk A.h2a ["_law_thin","_law_tie"] (λT _ hr=>(AD^AH^Ap^AF (Ad (dv 0) AC)^AF (OR T.Gaa^Hw ["_law_tie","_law_one"] [P3 1,l_] (A6^Ad (dv 0) AC) (λnq=>Bo 1 nq) (IV^Bq (Xj hr) aH (dv 1)^dv 0)^dv 1) AJ)) (@λss n Pd h=>by
 let#[M,u,rfl,okm,hu,p]:=h;have l60:=okm.2.2;refine#[_,AE (j:=0) rfl,_,AE (j:=1) rfl,by show(M.ts.map AN).length<=10000000;rw[Ev];lk,?_];refine EI (λd=>decide (Tb d≠u)) id (λρ=>∃s,ρ=[.sh^AN u,s]) _ _ _ _ ?_ #[_,rfl] ?_
 .rintro d hd ρ m nx sk ⟨s,rfl⟩ h1 h2
  let#[v,hv,rfl]:=TW.mp hd;refine#[Br okm.1 hv,Br okm.1 hu,?_]
  have e:(!Dn (AN v) (AN u))=decide (v≠u):=by
   rw[e9,i8,decide_eq_true_eq,←Bool.not_eq_true,IR]
  show if(!Dn (AN v) (AN u))=m_ then _ else _
  rw[e];exact B8 (λc=>h1 _ #[_,rfl] c) λc=>h2 _ #[_,rfl]^ft.mpr c
 .rw[eA,jc,jV]
  exact#[z2,p])
theorem Mq:A.Y "_law_sum" 1 ["_law_thin"] .sh Vu:=A.gk A.h2b ["_law_thin"] (λT _ hr=>(AD^AH (Ar (Tq rfl) aF rfl T.Gau boot_sum (AR (Hw ["_law_tie"] [l_] (A6^Ad (dv 0) AC) (λnq=>Bo 0 nq) Az^Ad (dv 0) AC) Ab)))) (@λss n Pd h=>by
 let#[M,rfl,okm,p]:=h;have l60:=okm.2.2;refine#[_,AE (j:=1) rfl,by show(M.ts.map AN).length<=10000000;rw[Ev];lk,?_];refine BA bY (λρ=>∃a,ρ=[a]) _ _ _ _ ?_ #[_,rfl] ?_
 .rintro d hd ρ m nx ⟨a,rfl⟩ hnx
  let#[t,ht,rfl]:=TW.mp hd;exact#[_,AE (j:=2) rfl,hnx _ #[_,rfl]]
 .rw[eA,fY]
  exact#[_,_,rfl,NX Tie.len M.ts,p])
end
section
variable {P:Program}{w:World}{K:Frag}{mg:Str->p_ Value}{base:Heap}
theorem LO:BU ["_law_script"] ["_law_script"]^AS E4:=by constructor <;>first|rfl|decide +kernel
theorem Lj{f:Ch}{fd:fJ}(T:Txt K mg)(F:Fun K "_law_feed" "_law_feed" E4 f fd):FnOk P w K mg base G6 1 f fd ["_law_script"]^LJ K:=by
 refine F.ok LO (λvs H Q E h=>?_) λcdv A outer s H vs Q E hr h=>?_
 .let#[a,ns,rfl,_]:=h
  rfl
 .let#[a,ns,rfl,#[hl,hS],q]:=h
  refine#[_,Dt^F3^N3^B_ (Ke L4 rfl T.Gap boot_list (B_ (Me sl_list (pv 0) O7^O6 A3) De))^B_ A3^B_ A3 De,?_];refine#[_,rfl,63,rfl,a,_,rfl,hS,λp hp=>#[p,_,rfl,.inl^SqL.of AW,λc hc=>#[by show 3<=sizeLine;decide,λg hg=>?_]]];rw[aB hl]at hg ⊢;have ncg:c≠g:=λz=>by rw[←z,AW]at hg;cases hg
  exact q c g _ ncg (by rw[AO ncg,AW]) AW
theorem lP:BU ["_law_script","_law_feed_here","_law_net_here","_law_times_here","_law_many","_law_stays","_law_pairs","_law_one","_law_greedy","_law_paired","_law_steady","_law_tree","_law_small","_law_thin","_law_tie","_law_fewer"] ["_law_script"]^AS I0:=by walk_at "s"
theorem Xm{h:eC}{f ff:Ch}{fd fdf:fJ}(A:Ctx P w K mg base h)(Gf:FnOk P w K mg base G6 1 ff fdf ["_law_script"]^LJ K)(mf:mg "_law_feed"=P3^.ref ff)(kf:keepIn K^.ref ff=m_)(bf:Binds K fdf ["_law_script"] [])(F:Fun K "law" "law" I0 f fd):FnOk P w K mg base G6 22 f fd ["_law_script"]^MZ K:=by
 have lQ:=IF A;have lR:=Mr A;have lO:=Cd A;have lS:=Mq A;have lU:=J_ A;have lV:=JO A;have lW:=IE A;have lX:=J7 A;have lY:=Fn A;have lZ:=Dv A;have lc:=JK A;have lf:=C6 A;have T:=A.T
 exact Zv (n0:=3000) F lP rfl (by cbv) (λcdv A0 outer s H E hr=>E5 (i:=1) lP.nd rfl (fh rfl) (O9 Gf (hr.mono^by cbv) rfl mf kf bf .nil WR (B_ (pv 0) De)))
  (λcdv A0 outer s H E hr=>(AA (Bi 2 lP.nd^cg hr lR^AX (CI 1)^Ai AC^Ai AC AB)
 (AA (Bi 3 lP.nd^cg hr lU^AX (CI 1) AB)
 (AA (Bi 4 lP.nd^cg hr lO^AX (CI 1)^Ai AC AB)
 (AA (Bi 5 lP.nd (Ar (Fg hr) L9 rfl T.Gak boot_repr (AR (dv 2) Ab)))
 (AA (Qw 6 lP.nd^A4 AJ)
 (AA (A7 d7 rfl (DV rfl T.Gaf (AR (G9 T.Gab^Ad (dv 2) AC) Ab)) (Bo 7 lP.nd) (AD^DC 6 Nd PySem.F.slot_list_extend PySem.F.type_list_extend QV aK (pv 6)^AF (Hw ["_law_one","_law_net_here","_law_other"] [P3 7,P3 2,l_] (DI.c (Kx rfl T.Gaf (AR (As Ax BI (dv 7) AC)^AR (G9 T.Gab^Ad (dv 2) AC) Ab))) (λnq=>Bo 2 nq) Az^Ap^AF (Ad (Ad (dv 1) AC)^dv 0)^AF (Ad (Ad (dv 1) AC)^dv 2) AJ) AJ))
 (AA (Bi 6 lP.nd^OR T.Gaa^G8 6)
 (AA (Bi 8 lP.nd^cg hr lc^AM 2^AM 3 AB)
 (AA (Bi 9 lP.nd^cg hr lf^AM 2^AM 3^AM 6 AB)
 (AA (Bi 10 lP.nd^cg hr lZ^AM 2^AM 3^AM 4 AB)
 (AA (Bi 11 lP.nd^cg hr lY^AM 2 AB)
 (AA (Bi 12 lP.nd^cg hr lX^AM 2^AM 3 AB)
 (AA (AT (Aj^AZ^cg hr lQ^AM 2^AM 3^AM 6^AM 4^Ai (Ap^AF (dv 8)^AF (dv 9)^AF (dv 10)^AF (dv 11)^AF (dv 12) AJ) AB) (AD^AH BE) AL)
 (AA (A7 d7 rfl (Ck^A4^AF (dv 8)^AF (dv 9)^AF (dv 10)^AF (Ad (dv 12) AC) AJ) (Bo 13 lP.nd) (AA (AT (DTW.dt^Bk (Aj^AZ^cg hr lV^AM 2^AM 3^AM 13 AB)^BV^Bq (Ct hr) EM (G9 T.Gab^Ad (dv 13) AC)^G9 T.Gab^Ad (Ad (dv 12) AC) AC) (AD^AH BE) AL)
 (AA (AT (Bq (Ct hr) EM (cg hr lS^AM 13 AB)^cg hr lS^AM 11 AB) (AD^AH BE) AL)
 (AD (A7 d7 rfl (Ck^Ad (dv 13) AC) (Bo 14 lP.nd) (AA (Bi 15 lP.nd^cg hr lW^AM 13^AM 14 AB)
 (AD^AT (DTW.dt^Bk (Bq (La hr) Pp (dv 13)^dv 9)^BV^Bq (Ct hr) EM (G9 T.Gab^Ad (dv 15) AC)^G9 T.Gab^Ad (Ad (dv 12) AC) AC) (AD^AT (AZ^cg hr lV^AM 2^AM 3^AM 15 AB) (AD^AH BE) AL) AL)))))))
 (AA (AT (Bq (CN hr) CV BE^Hw ["_law_greedy","_law_steady","_law_tie"] [P3 8,P3 10,l_] (A6^Ad (dv 11) AC) (λnq=>Bo 2 nq) Az^Bs (BN (CN hr) CV (dv 2) (Ad (dv 0) AC)^by with_unfolding_all rfl)^CF^BN (CN hr) CV (dv 2) (Ad (dv 1) AC)^by with_unfolding_all rfl) (AD^AH BE) AL)
 (AD^AH^Bs (BN Cc El (Ar (Fg hr) L9 rfl T.Gak boot_repr (AR (dv 2) Ab)) (dv 5)^Bg _)^CF^Z8 (BN Cc El (dv 4) AC^Bg _)^CF^BN Cc El (Ar (Fg hr) L9 rfl T.Gak boot_repr (AR (dv 10) Ab)) (Ar (Fg hr) L9 rfl T.Gak boot_repr (AR (dv 8) Ab))^Bg _))))))))))))))))) (by
 have szl:=PySem.sizeLine_eq;refine#[6,9,rfl,by cbv,by cbv,by cbv,λN n ok l1 l6 t9 hn=>?_];refine#[rfl,by lk,λt b n1 b1 bt t6 hn1=>?_];refine#[2,rfl,by cbv,by cbv,by lk,λmi m0 m2=>?_];let#[m,rfl]:=Int.eq_ofNat_of_zero_le m0;have okn:okN N:=#[ok,by lk,by lk];have tm:D4 t b:=#[b1,by lk,by lk,t6];have shN:=Iw okn;have hpl:(N.ps.map D.str).length=N.ps.length:=Ev ..;refine#[_,rfl,shN,(by cbv:0<=sizeLine),?_];refine#[_,AE (j:=0) rfl,_,_,rfl,rfl,_,rfl,#[by lk,by lk],?_]
 refine Cu (all:=DF 0 (((N.ps.map D.str).length:Int)).toNat) (λpre m' ρ=>m'=n1 - 1/\∃(ps:EN) (s7:Slot),ps.length<=5*pre.length/\(∀p∈ps,p.1∈N.ps/\p.2∈N.ps)/\(∀i j,i<pre.length->i<j->j<N.ps.length->(N.ps.getD i "",N.ps.getD j "")∈ps) /\
  ρ=[.no,.fd,.sh^enc N,.sh^G7 t b,.sh^.int (m:Int),.sh^.str^EW^enc N,.ow^.lst^ps.map Nt.pairD,s7,.no,.no,.no,.no,.no,.no,.no,.no]) ?_ ?_ _ [] _ _ rfl #[rfl,[],_,dq _,(λ_ h=>by cases h),(λi j h=>absurd h^Nat.not_lt_zero _),rfl]
 .rintro m' ρ ⟨rfl,ps,s7,q1,q2,q3,rfl⟩
  rw[Bt]at q1 q3;have pr:LV N ps:=#[by lk,q2]
  have all:∀u∈N.ts,(u.a,u.b)∈ps:=λu hu=>by
   let#[ha,hb,hlt,_]:=ok.tin u hu;let#[i,hi,ei]:=List.getElem_of_mem ha;let#[j,hj,ej]:=List.getElem_of_mem hb;have e1:N.ps.getD i ""=u.a:=by rw[eY,Op hi];exact ei
   have e2:N.ps.getD j ""=u.b:=by rw[eY,Op hj];exact ej
   have hij:i<j:=by
    rcases Nat.lt_trichotomy i j with z|z|z
    .exact z
    .rw[←e1,←e2,z]at hlt;exact absurd hlt^gH _
    .have:=IL ok.rise z hi
     rw[e1,e2]at this;exact absurd (iB hlt this)^gH _
   have:=q3 i j (by lk) hij hj
   rwa[e1,e2]at this
  refine#[N,t,b,rfl,okn,tm.1,tm.2.1,tm.2.2.1,tm.2.2.2,λord o1 o2=>?_];refine#[N,t,b,ps,rfl,okn,tm,pr,λord' o1' o2'=>?_];obtain rfl:=Av (o1'.trans o1.symm) o2' o2;refine#[N,t,b,m,rfl,okn,tm,by lk,λord' o1' o2'=>?_];obtain rfl:=Av (o1'.trans o1.symm) o2' o2;refine#[N,rfl,okn,λord' o1' o2'=>?_];obtain rfl:=Av (o1'.trans o1.symm) o2' o2;refine#[N,t,b,rfl,okn,tm,bt,by lk,λd ls=>?_];have H:Th90 N t b ps m ord' _ _ _ _ d:=#[okn,by lk,by lk,tm,bt,by lk,pr,all,o1,o2,rfl,rfl,rfl,rfl,ls];refine#[(by cbv:5<=sizeLine),N,t,b,ps,m,ord',_,_,_,_,d,rfl,H,?_];refine A1 ?_;let#[r,ws0,c,ed,th,kp,few,_]:=ls;subst ed;have hr:=JZ okn tm bt th kp;have okR:=BJ okn^BP [] ord';have okQ:=H.q.ok okn;refine#[_,AE (j:=0) rfl,(by cbv:4<=sizeLine),?_];refine HP (λ_ m' ρ=>m'=n1 - 1/\∃s13 s14 s15,ρ=[.no,.fd,.sh^enc N,.sh^G7 t b,.sh^.int (m:Int),.sh^.str^EW^enc N,.sh^CM ps,s7,.sh^enc^sub N^Aa N t b [] ord',.sh^enc^BD N t b ps N ord'.reverse,.sh^enc^BK N t b m ord',.sh^enc^DZ N ord',.sh^.tup [enc #[N.ps,r],.tup^ws0.map CW,c.D],s13,s14,s15]) ?_ _ _ _ ?_ #[rfl,_,_,_,rfl]
  .rintro m' ρ ⟨rfl,s13,s14,s15,rfl⟩
   refine#[_,AE (j:=1) rfl,by show((DZ N ord').ts.map AN).length<=10000000;rw[Ev];have:=okR.2.2;exact eJ this^by cbv,?_];refine BA (λ_=>.bl m_) (λρ=>∃s,ρ=[.sh^enc^sub N^Aa N t b [] ord',.sh^enc^BK N t b m ord',s]) _ _ _ _ ?_ #[_,rfl] ?_
   .rintro d hd ρ m' nx ⟨s,rfl⟩ hnx
    let#[u,hu,rfl]:=TW.mp hd;let#[u1,u2]:=sub_mem.mp hu;refine#[_,AE (j:=1) rfl,Br okR.1 hu,(CH (H.g.ok okn).1 λ_ h=>h).1,_,rfl,?_];rw[show((sub N^Aa N t b [] ord').ts.map AN).any (λy=>Dn y^AN u)=m_ by rw[Cp,decide_eq_true^sub_mem.mpr #[u1,FY okn (λ_ h=>by cases h) (λ_ h=>by cases h) u u2]]];refine#[_,AE (j:=1) rfl,Br okR.1 hu,(CH (H.s.ok okn).1 λ_ h=>h).1,_,rfl,?_];rw[show((BK N t b m ord').ts.map AN).any (λy=>Dn y^AN u)=m_ by rw[Cp,decide_eq_true (show u∈(BK N t b m ord').ts from sub_mem.mpr #[u1,DM okn (λ_ h=>by cases h) (λ_ h=>by cases h) u u2])]];exact hnx _ #[_,rfl]
   rw[eA];refine NE (p:=λ_=>m_) (neg:=n_) ?_;refine B8 (λc=>absurd c^by simp) λ_=>#[_,rfl,shN,?_];show(match D.bl (EW^enc N==EW^enc N)with|.bl m_=>cY _ _ _ _ _|.bl n_=>_|_=>False);rw[beq_self_eq_true];have hm:m=0\/m=1:=by lk
   rcases hm with rfl|rfl
   .have e:BK N t b 0 ord'=sub N^Aa N t b [] ord':=by unfold BK;rw[Eh]
    rw[e];refine#[_,rfl,Iw^H.g.ok okn,_,rfl,Iw^H.g.ok okn,?_];show D.bl (EW^enc^sub N^Aa N t b [] ord'==EW^enc^sub N^Aa N t b [] ord')=_;rw[beq_self_eq_true]
   .exact rfl
  .rintro k d m' ρ nx hd ⟨rfl,s13,s14,s15,rfl⟩ hnx
   obtain⟨T,rfl,hT⟩:∃T,d=enc T/\Kp90 N T t b:=by
    simp only[UF,d9,or_false]at hd
    rcases hd with rfl|rfl|rfl|rfl
    .exact#[_,rfl,H.g]
    .exact#[_,rfl,H.q]
    .exact#[_,rfl,H.s]
    .exact#[_,rfl,hr]
   have okT:=hT.ok okn;have lT:(T.ts.map AN).length=T.ts.length:=Ev ..;have lr:(r.map AN).length=r.length:=Ev ..;refine#[N,T,t,b,rfl,okn,okT,hT.ps,tm,λw hw=>?_];obtain rfl:w=m_:=hw.mpr^hT.wide okn;refine A1 #[_,AE (j:=1) rfl,_,_,rfl,rfl,_,AE (j:=0) rfl,_,AE (j:=1) rfl,_,_,rfl,rfl,?_];refine B8 (λc=>absurd (of_decide_eq_true c:((T.ts.map AN).length:Int)<((r.map AN).length:Int))^by have:=hT.few okn few;lk) λ_=>?_;refine#[T,rfl,okT,_,rfl,okR,?_];refine B8 (λc=>absurd (of_decide_eq_true c:MU T<MU^DZ N ord')^by have:=hT.tot okn o1 o2;lk) λ_=>?_;refine#[_,AE (j:=1) rfl,?_];refine HP (λ_ m' ρ=>m'=n1 - 1/\∃s14 s15,ρ=[.no,.fd,.sh^enc N,.sh^G7 t b,.sh^.int (m:Int),.sh^.str^EW^enc N,.sh^CM ps,s7,.sh^enc^sub N^Aa N t b [] ord',.sh^enc^BD N t b ps N ord'.reverse,.sh^enc^BK N t b m ord',.sh^enc^DZ N ord',.sh^.tup [enc #[N.ps,r],.tup^ws0.map CW,c.D],.sh^enc T,s14,s15]) ?_ _ _ _ ?_ #[rfl,_,_,rfl]
   .rintro m' ρ ⟨rfl,s14,s15,rfl⟩
    exact hnx _ _ #[rfl,_,_,_,rfl]
   .rintro k' d m' ρ nx' hd' ⟨rfl,s14,s15,rfl⟩ hnx'
    let#[u,hu,rfl]:=TW.mp hd';have okD:=Bv okT u;have lD:((Ah T u).ts.map AN).length=(Ah T u).ts.length:=Ev ..;have go:nx' (n1 - 1) [.no,.fd,.sh^enc N,.sh^G7 t b,.sh^.int (m:Int),.sh^.str^EW^enc N,.sh^CM ps,s7,.sh^enc^sub N^Aa N t b [] ord',.sh^enc^BD N t b ps N ord'.reverse,.sh^enc^BK N t b m ord',.sh^enc^DZ N ord',.sh^.tup [enc #[N.ps,r],.tup^ws0.map CW,c.D],.sh^enc T,.sh^AN u,.sh^enc^Ah T u]:=hnx' _ _ #[rfl,_,_,rfl];refine#[T,u,rfl,okT,hu,Kk okT,Kk okQ,?_];refine B8 (λc=>B8 (λ_=>?_) λz=>absurd rfl z) λc=>?_
    .have e:T=BD N t b ps N ord'.reverse:=Qu (hT.ps.trans H.q.ps.symm) c
     refine#[N,Ah T u,t,b,rfl,okn,okD,hT.ps,tm,λw hw=>?_];have no:¬EO N (Ah T u) t b:=e▸H.need (e▸hu);exact B8 (λz=>(no^hw.mp z).elim) λ_=>go
    .refine#[_,AE (j:=1) rfl,_,_,rfl,rfl,_,AE (j:=0) rfl,_,AE (j:=1) rfl,_,_,rfl,rfl,?_]
     refine B8 (λc=>?_) λ_=>go;have c:(((Ah T u).ts.map AN).length:Int)<((r.map AN).length:Int):=of_decide_eq_true c;refine#[N,Ah T u,t,b,rfl,okn,okD,hT.ps,tm,λw hw=>?_];have no:=hT.one okn few (u:=u) (by lk);exact B8 (λz=>(no^hw.mp z).elim) λ_=>go
 .rintro pre d post m' ρ nx hall ⟨rfl,ps,s7,q1,q2,q3,rfl⟩ hnx
  let#[rfl,hk]:=IK hall;rw[XV,d8]at hnx;have h6:pre.length<N.ps.length:=by lk
  generalize pre.length=i at hk hnx q1 q3 h6 ⊢
  have cm:∀x∈DF (0+(i:Int)+1) ((((N.ps.map D.str).length:Int)) - (0+(i:Int)+1)).toNat,∃j:Nat,x=.int (j:Int)/\i<j/\j<N.ps.length:=λx hx=>by
   let#[k,hk,rfl]:=JB hx;exact#[i+1+k,by congr 1;lk,by lk,by lk]
  refine#[_,rfl,rfl,_,AE (j:=0) rfl,_,_,rfl,rfl,_,_,rfl,#[by lk,by lk,by lk,by lk],?_];refine#[by rw[Bt];lk,?_];refine BA (λx=>Nt.pairD^Zc N.ps i x) (λρ=>∃s,ρ=[.sh^.int (0+(i:Int)),.sh^enc N,s]) _ _ _ _ ?_ #[_,rfl] ?_
  .rintro x hx ρ m' nx' ⟨s,rfl⟩ hnx'
   let#[j,rfl,h1,h2]:=cm x hx;refine#[_,AE (j:=0) rfl,D.str^N.ps.getD i "",?_,_,AE (j:=0) rfl,D.str^N.ps.getD j "",?_,(by cbv:2<=sizeLine),hnx' _ #[_,rfl]]
   .rw[show(0+(i:Int))=((i:Nat):Int) by lk]
    exact AE^by rw[di,Nt.getD_at h6];rfl
   .exact AE^by rw[di,Nt.getD_at h2];rfl
  rw[eA];refine#[_,_,rfl,rfl,by rw[Ev,Ev,Bt];lk,?_];refine hnx _ _ #[rfl,ps++(DF (0+(i:Int)+1) ((((N.ps.map D.str).length:Int)) - (0+(i:Int)+1)).toNat).map^Zc N.ps i,.sh^.int (0+(i:Int)),?_,λp hp=>?_,λa j ha hj h=>?_,?_]
  .rw[XV,Ev,Bt]
   lk
  .rcases ZB.mp hp with z|z
   .exact q2 p z
   .let#[x,hx,rfl]:=TW.mp z
    let#[j,rfl,h1,h2]:=cm x hx;exact#[getD_mem h6,getD_mem h2]
  .rcases Nat.lt_or_ge a i with z|z
   .exact Tk _^q3 a j z hj h
   .obtain rfl:a=i:=by lk
    refine TM _^TW.mpr #[.int (j:Int),?_,rfl];exact TW.mpr #[j - a - 1,fK.mpr^by lk,by congr 1;lk]
  .rw[eX,fY]
   rfl)
end
local macro_rules|`(tactic|walk_at "B")=>`(tactic|(intro _ _ _ _ _ _;exact cu λ_=>rfl))
theorem all_mk{l:PySem.W.OpenLaw}{w:eU}{K:Frag}{h:eC}{mg:Str->p_ Db}{fa:Ch}(hfa:mg "law"=P3^.ref fa)(A:C0 K mg h):∃fd:fJ,(∀(s:Rs) (v:Db),jX s fd #[[v],[]] [("_law_script",v)])/\∀base:eC,K.In base->base.Ns mainGlobals mg->FnOk l.prog w K mg base G6 22 fa fd ["_law_script"]^MZ K:=by
 let#[ff,ffd,mf,Ff]:=A.h20.fn A.X A.G;have bf:=Ff.binds (ps:=["_law_script"]) (by walk_at "B");let#[f,oc,od,an,sl,kV,dc,pm,cd,ct,a,l',c,k]:=A.h2c;cases hfa.symm.trans^mg_of A.X A.G a;exact#[fnOf "law" "law" (DN I0) (Bp I0) (AS I0) .none kV dc pm an cd ct,λs v=>.of_eq rfl,λbase _ _=>Xm A (Lj A.T Ff) mf Ff.kp bf^TJ (st:=I0) l' c k]
theorem walk{l:PySem.W.OpenLaw}{q:eK}{loose:o_ Str}{XP:(Str->p_ Db)->eC->Prop}{YP:eU->eC->Prop}{d:DefRec}{K:Params->Frag}(hn:l.most=P3 63)(hdf:d.params.defaults=[])
  (hY:∀(w:eU) (h:eC),YP w h->(K w.params).In h)
  (F:∀(w:eU) (mg:Str->p_ Db) (fa:Ch) (h:eC),(K w.params).In h->h.Ns mainGlobals mg->mg d.name=P3^.ref fa->
   ∃fd:fJ,(∀(s:Rs) (u:Db),jX s fd #[[u],[]] [("_law_script",u)])/\∀base:eC,(K w.params).In base->base.Ns mainGlobals mg->FnOk l.prog w (K w.params) mg base G6 22 fa fd ["_law_script"]^MZ^K w.params):
  PySem.W.WalkO q loose XP YP l.row.toRowW d [] (λf vs=>PySem.call f vs):=
 L2.Of (n:=63) (k:=22) (x:="_law_script") (CX:=λ_=>G6) (sp:=λw=>MZ^K w.params) hn (by cbv) hdf #[rfl,by cbv,by cbv,rfl] hY F (λ_ _ a ns hl _ hS=>#[a,ns,rfl,#[hl,hS],λ_=>rfl]) λ_ _ _ _ _ z=>z
end K90
end _p
namespace PySem.W.Fast
def tw11684552283655468478:True:=⟨⟩
def tw13880379032923263748:True:=⟨⟩
def tw9499977524341549111:True:=⟨⟩
def tw15551772908377561615:True:=⟨⟩
def tw10413818036856185157:True:=⟨⟩
def tw5574576420325915971:True:=⟨⟩
def tw3299475890558131360:True:=⟨⟩
def tw7021543343990924613:True:=⟨⟩
def tw13651363124144783652:True:=⟨⟩
def tw17704803337896970901:True:=⟨⟩
def tw10569352737124896354:True:=⟨⟩
def tw12552600249036366490:True:=⟨⟩
def tw16056112343321623115:True:=⟨⟩
def tw11792199121223272385:True:=⟨⟩
def tw4321197057737716629:True:=⟨⟩
def tw16832988672604570402:True:=⟨⟩
def tw2772302489170020129:True:=⟨⟩
def tw17639780267023789289:True:=⟨⟩
def tw469423782044720922:True:=⟨⟩
def tw12423287544860762816:True:=⟨⟩
def tw14464700923877165682:True:=⟨⟩
def tw7009387306292241549:True:=⟨⟩
def tw3694574090593961924:True:=⟨⟩
def tw13716538233897065109:True:=⟨⟩
def tw1690070724065696093:True:=⟨⟩
def tw7477821061624754948:True:=⟨⟩
def tw3282502782066710534:True:=⟨⟩
def tw14186463605939033703:True:=⟨⟩
def tw4517751703516820023:True:=⟨⟩
def tw11397604328235647352:True:=⟨⟩
def tw7837048162233821236:True:=⟨⟩
def tw7715366420927654191:True:=⟨⟩
def tw3984171336251070421:True:=⟨⟩
def tw11808600241485121010:True:=⟨⟩
def tw9736849141806771295:True:=⟨⟩
def tw3208474542084120613:True:=⟨⟩
def tw15728874418090993977:True:=⟨⟩
def tw3753029553482352691:True:=⟨⟩
def tw15857718455121013001:True:=⟨⟩
def tw4651007537385691274:True:=⟨⟩
def tw3466195799112220188:True:=⟨⟩
def tw15496511171795686085:True:=⟨⟩
def tw4954165525459172893:True:=⟨⟩
def tw7028875539050379312:True:=⟨⟩
def tw2777356436051158678:True:=⟨⟩
def tw7154643359475722065:True:=⟨⟩
def tw15215679654509420290:True:=⟨⟩
def tw401651967915088094:True:=⟨⟩
def tw10356083826699536971:True:=⟨⟩
def tw1676646985695229431:True:=⟨⟩
def tw10165627262579049006:True:=⟨⟩
def tw17982001362400593568:True:=⟨⟩
def tw3956501393698257413:True:=⟨⟩
def tw12173888973781891972:True:=⟨⟩
def tw4173529554518207482:True:=⟨⟩
def tw55793917235210244:True:=⟨⟩
def tw13745439089621019387:True:=⟨⟩
def tw18174722503660834001:True:=⟨⟩
def tw18076164489735070456:True:=⟨⟩
def tw1996846539085393058:True:=⟨⟩
def tw10813134184446413179:True:=⟨⟩
def tw3189908994369573675:True:=⟨⟩
def tw10244402169490423914:True:=⟨⟩
def tw10435803842059939782:True:=⟨⟩
def tw15661683281313103718:True:=⟨⟩
def tw8809981697903659604:True:=⟨⟩
def tw13062791433389591011:True:=⟨⟩
def tw15471446691640488036:True:=⟨⟩
def tw9281435705214896670:True:=⟨⟩
def tw12340163421081589754:True:=⟨⟩
def tw10837017888754597339:True:=⟨⟩
def tw1578355035688019354:True:=⟨⟩
def tw13512513692867815086:True:=⟨⟩
def tw8305196318131430824:True:=⟨⟩
def tw6471873625368533861:True:=⟨⟩
def tw10741730044346282609:True:=⟨⟩
def tw3877316275632858874:True:=⟨⟩
def tw2140421913557389874:True:=⟨⟩
def tw4415875113168269209:True:=⟨⟩
def tw6067876500455125609:True:=⟨⟩
def tw8894435700333268322:True:=⟨⟩
def tw5033438778167188085:True:=⟨⟩
def tw9026285377440809848:True:=⟨⟩
def tw3542179763050959040:True:=⟨⟩
def tw12425525416880502245:True:=⟨⟩
def tw14099091330060461821:True:=⟨⟩
def tw6967132938540925401:True:=⟨⟩
def tw12456008399184585555:True:=⟨⟩
def tw15931788901003038120:True:=⟨⟩
def tw14239322449247138960:True:=⟨⟩
def tw10693021626893751859:True:=⟨⟩
def tw3536923530693840902:True:=⟨⟩
def tw11751293536353072146:True:=⟨⟩
def tw7730749448750703951:True:=⟨⟩
def tw9168188064438605272:True:=⟨⟩
def tw15637186783833834569:True:=⟨⟩
def tw12598717192824386243:True:=⟨⟩
def tw5347734906774034817:True:=⟨⟩
def tw1553243650145195972:True:=⟨⟩
def tw8186846842569218228:True:=⟨⟩
def tw10022559539363715480:True:=⟨⟩
def tw1746768067556113046:True:=⟨⟩
def tw14542859859737224357:True:=⟨⟩
def tw1388441460051761994:True:=⟨⟩
def tw8156178926541643056:True:=⟨⟩
def tw9476805797590730242:True:=⟨⟩
def tw14284490790921798614:True:=⟨⟩
def tw14440524081727117442:True:=⟨⟩
def tw11555718476178231761:True:=⟨⟩
def tw3146286337132253150:True:=⟨⟩
def tw8030393082416656556:True:=⟨⟩
def tw1110958713473634403:True:=⟨⟩
def tw7113879614475664263:True:=⟨⟩
def tw10993399134774213251:True:=⟨⟩
def tw15219703141415129283:True:=⟨⟩
def tw14964484293686903485:True:=⟨⟩
def tw11326408333060043182:True:=⟨⟩
def tw10121014759588785225:True:=⟨⟩
def tw13631198797573442270:True:=⟨⟩
def tw10250939742045592098:True:=⟨⟩
def tw12058251764200638266:True:=⟨⟩
def tw7485279474101815761:True:=⟨⟩
def tw1181694065482783271:True:=⟨⟩
def tw3607364344472557937:True:=⟨⟩
def tw9636570883336810535:True:=⟨⟩
def tw4027855160545893155:True:=⟨⟩
def tw14241938772416901157:True:=⟨⟩
def tw17899829105652777659:True:=⟨⟩
def tw8242766490664768306:True:=⟨⟩
def tw15169812517615990133:True:=⟨⟩
def tw8717811904151642397:True:=⟨⟩
def tw18025413103470199161:True:=⟨⟩
def tw12351688390435644465:True:=⟨⟩
def tw13838152828540169402:True:=⟨⟩
def tw5215773682415022320:True:=⟨⟩
def tw5411334147836034617:True:=⟨⟩
def tw8059604992374672185:True:=⟨⟩
def tw10254238728465961424:True:=⟨⟩
def tw1901102181480520140:True:=⟨⟩
def tw6251861176667664708:True:=⟨⟩
def tw14210537878517832347:True:=⟨⟩
def tw10563771176489306565:True:=⟨⟩
def tw13120634054538352607:True:=⟨⟩
def tw13288638595287688906:True:=⟨⟩
def tw4678802638126756360:True:=⟨⟩
def tw7211164062756492080:True:=⟨⟩
def tw8467085220383585471:True:=⟨⟩
def tw7655962383139333659:True:=⟨⟩
def tw6596920031198236621:True:=⟨⟩
def tw8508190292245616640:True:=⟨⟩
def tw6977649908969620903:True:=⟨⟩
def tw4313097562571425083:True:=⟨⟩
def tw3362395946605410590:True:=⟨⟩
def tw16783612964576704504:True:=⟨⟩
def tw1583498746487162552:True:=⟨⟩
def tw10310298134552090911:True:=⟨⟩
def tw6291397144126794657:True:=⟨⟩
def tw18233055202329232620:True:=⟨⟩
def tw826389288056840632:True:=⟨⟩
def tw15883510140596953289:True:=⟨⟩
def tw11197821314648991406:True:=⟨⟩
def tw8354745752002040966:True:=⟨⟩
def tw17536721805033046140:True:=⟨⟩
def tw10763329655753295371:True:=⟨⟩
def tw12170468054655726412:True:=⟨⟩
def tw17172298129351130382:True:=⟨⟩
def tw1192881903482868213:True:=⟨⟩
def tw3792812982826073059:True:=⟨⟩
def tw15011744517855985071:True:=⟨⟩
def tw3452953497404435060:True:=⟨⟩
def tw16651228134489466374:True:=⟨⟩
def tw456938106597532309:True:=⟨⟩
def tw2827673654331666778:True:=⟨⟩
def tw5903938001056578407:True:=⟨⟩
def tw11182897609883195534:True:=⟨⟩
def tw8585641702603593418:True:=⟨⟩
def tw5473897338455433498:True:=⟨⟩
def tw15003004253953118217:True:=⟨⟩
def tw3593129938355932:True:=⟨⟩
def tw16944192097236817330:True:=⟨⟩
def tw6038409408524187049:True:=⟨⟩
def tw2383302207800667228:True:=⟨⟩
def tw3749658665544096022:True:=⟨⟩
def tw11667229979262624214:True:=⟨⟩
def tw11293037511180107888:True:=⟨⟩
def tw9859657158542888056:True:=⟨⟩
def tw649017551018757819:True:=⟨⟩
def tw5152416627548196317:True:=⟨⟩
def tw14661674234936097745:True:=⟨⟩
def tw16178389771626083439:True:=⟨⟩
def tw15439051581754629969:True:=⟨⟩
def tw14604997856663198814:True:=⟨⟩
def tw7711640378682930163:True:=⟨⟩
def tw18132522028246673281:True:=⟨⟩
def tw2197160013288186326:True:=⟨⟩
def tw6395447449799424776:True:=⟨⟩
def tw13476660102591278269:True:=⟨⟩
def tw4613953495796236733:True:=⟨⟩
def tw16459932134868277603:True:=⟨⟩
def tw13922065637336396307:True:=⟨⟩
def tw1911227537535956349:True:=⟨⟩
def tw11211511354251179627:True:=⟨⟩
def tw12629467614812275816:True:=⟨⟩
def tw1223987054796029051:True:=⟨⟩
def tw17303986835658565:True:=⟨⟩
def tw4614558969273271724:True:=⟨⟩
def tw7587018141121097413:True:=⟨⟩
def tw12543832881750742213:True:=⟨⟩
def tw6283951267797483681:True:=⟨⟩
def tw8097613625049004048:True:=⟨⟩
def tw5342576733777438697:True:=⟨⟩
def tw11447284352187783842:True:=⟨⟩
def tw16376002046046865259:True:=⟨⟩
def tw6134203288988443888:True:=⟨⟩
def tw10793297188112870425:True:=⟨⟩
def tw7366183025824143033:True:=⟨⟩
def tw5543434359992810672:True:=⟨⟩
def tw9641169750281400928:True:=⟨⟩
def tw2387660965037794007:True:=⟨⟩
def tw12411047455530433224:True:=⟨⟩
def tw1460400050198289538:True:=⟨⟩
def tw11779848422849094047:True:=⟨⟩
def tw441965888263292379:True:=⟨⟩
def tw15569739454699264649:True:=⟨⟩
def tw1699067189236866660:True:=⟨⟩
def tw12978746477828157797:True:=⟨⟩
def tw17626032610549734096:True:=⟨⟩
def tw9646394272859019662:True:=⟨⟩
def tw15492533469137558453:True:=⟨⟩
def tw4417052744507693271:True:=⟨⟩
def tw5771049572239342798:True:=⟨⟩
def tw13712129995421851155:True:=⟨⟩
def tw16359029260193004161:True:=⟨⟩
def tw13481064731088518212:True:=⟨⟩
def tw13387933903636636237:True:=⟨⟩
def tw9531721300733806663:True:=⟨⟩
def tw4400295805062786258:True:=⟨⟩
def tw4038401638499466610:True:=⟨⟩
def tw2226380629082502040:True:=⟨⟩
def tw5371472145212777416:True:=⟨⟩
def tw12016926586861261584:True:=⟨⟩
def tw9667185128457708270:True:=⟨⟩
def tw17048202751130625392:True:=⟨⟩
def tw11550183827488627446:True:=⟨⟩
def tw10333566948310575668:True:=⟨⟩
def tw11262540498237160663:True:=⟨⟩
def tw12116774474388420996:True:=⟨⟩
def tw7249756253385739644:True:=⟨⟩
def tw12033948871483214005:True:=⟨⟩
def tw6252368681380493650:True:=⟨⟩
def tw9730278538878927171:True:=⟨⟩
def tw2339024107613586078:True:=⟨⟩
def tw9156744453759468724:True:=⟨⟩
def tw18238802623045224761:True:=⟨⟩
def tw8060472843118720345:True:=⟨⟩
def tw4703647304870452854:True:=⟨⟩
def tw12468258454321012289:True:=⟨⟩
def tw11057225264823367805:True:=⟨⟩
def tw4521755329724171498:True:=⟨⟩
def tw11681063850656854929:True:=⟨⟩
def tw11294882204147641525:True:=⟨⟩
def tw3148485816500308562:True:=⟨⟩
def tw13081755872913329113:True:=⟨⟩
def tw1303216250610029089:True:=⟨⟩
def tw8298121435292504963:True:=⟨⟩
def tw1050407808515941673:True:=⟨⟩
def tw17036376251257739059:True:=⟨⟩
def tw16922622467866450409:True:=⟨⟩
def tw13400886758544141242:True:=⟨⟩
def tw14927225565916377213:True:=⟨⟩
def tw12294780313926404254:True:=⟨⟩
def tw9806733480998490389:True:=⟨⟩
def tw6452402909979340455:True:=⟨⟩
def tw16133201709940846855:True:=⟨⟩
def tw15444681984552034266:True:=⟨⟩
def tw14142792548715165775:True:=⟨⟩
def tw5721450201539539969:True:=⟨⟩
def tw10945065356527040180:True:=⟨⟩
def tw14308430364877408694:True:=⟨⟩
def tw12638842902477587403:True:=⟨⟩
def tw14977580471697465446:True:=⟨⟩
def tw6708780828090810642:True:=⟨⟩
def tw13757192235221666033:True:=⟨⟩
def tw6610165854523768134:True:=⟨⟩
def tw3861635241396681224:True:=⟨⟩
def tw13822382454571290288:True:=⟨⟩
def tw10822139816114125741:True:=⟨⟩
def tw11075619049188626871:True:=⟨⟩
def tw1055169422894479176:True:=⟨⟩
def tw6578177213395642146:True:=⟨⟩
def tw7443727884626974433:True:=⟨⟩
def tw7321562295171629499:True:=⟨⟩
def tw17556029311323802548:True:=⟨⟩
def tw1543317395987417721:True:=⟨⟩
def tw10160791403734009121:True:=⟨⟩
def tw1116388752704848116:True:=⟨⟩
end PySem.W.Fast
open _p
open PySem.W
set_option maxRecDepth 100000 in
set_option maxHeartbeats 0 in
theorem PySem.Challenge.cw_thinnet_k90_whole_all_thinnings_of_a_net_holds : PySem.Challenge.rw_thinnet_k90_whole_all_thinnings_of_a_net.Holds := by
 w_on;o_law;k_head;(case hw=>w_witness2)
 k_fill
 refine K90.walk (l:=PySem.Challenge.rw_thinnet_k90_whole_all_thinnings_of_a_net) rfl rfl (λw h Y=>PySem.W.kIn_of Y) ?F
 case F =>
  intro w mg fa h KX G hmg
  refine K90.all_mk (h:=h) hmg ?_
  apply K90.C0.mk KX G
  all_goals first
   | (refine' K90.Ht.mk ?a ?l ?c ?k;(case a=>k_is);(case l=>k_is);(case c=>k_is);(case k=>k_is))
   | (refine' K90.Hn.mk ?a;(case a=>k_is))
   | (refine' K90.Hi.mk ?a;(case a=>k_is))
#print axioms PySem.Challenge.cw_thinnet_k90_whole_all_thinnings_of_a_net_holds

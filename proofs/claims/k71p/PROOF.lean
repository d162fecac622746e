import PyProof.Rows.All
import Wide.All
import OpenK.AllK
import Wide.FinOn
import Lean
import PyProof.EqAt
import PyProof.EqKinds
import PyProof.TupleCall
import PyProof.P3In
import PyProof.NeData
import KE.KSortTup
import PyProof.CompUse
import KE.KEqDict
import KE.KDictSum
import PyProof.ReprLen
import PyProof.SumAny
import PyProof.Rows.SeqCalls
import KE.KRevIter
import PyProof.TupleOfGen
import PyProof.CollectIter
import PyProof.ConsumeS
import PyProof.WalkInts
import PyProof.Draws
import PyProof.EnumMake
import PyProof.ListNew
import PyProof.AttrMissHeap
import PyProof.FactsAll.dict
import PyProof.FactsAll.zip
import PyProof.StrBlockH
import PyProof.MeetsStr2
import KE.KIntText
import PyProof.Rows.FStr
import PyProof.StrLawsTight
import PyProof.Rows.StrItems
import PyProof.Rows.StrSplitAre
import PyProof.StrLawsOcc
import PyProof.Rows.ReprOcc
import PySem.Challenge.RW_thinnet_k71_lines_there_and_back
open PySem.W (Frag nsIn keepIn fnOf codeIn mg_of mg_none_of)
set_option genSizeOf false
set_option compiler.extract_closed false
set_option Elab.async false
set_option linter.all false
set_option maxRecDepth 100000
namespace _p
theorem zau0 (h : True := by first | exact .inl rfl | exact .inr rfl | assumption) : True := h
theorem zau1 (h : True := by decide) : True := h
theorem zau2 (h : True := by intro _; rfl) : True := h
theorem zau3 (h : True := by rfl) : True := h
theorem zau4 (h : True := by with_unfolding_all rfl) : True := h
theorem zau5 (h : True := by first | exact Or.inl rfl | exact Or.inr (Or.inl rfl) | exact Or.inr (Or.inr rfl)) : True := h
theorem zau6 (h : True := by intro _ _; rfl) : True := h
theorem zau7 (h : True := by intro z; cases z) : True := h
theorem zau8 (h : True := by intro _ z; cases z) : True := h
namespace L2
open PySem PySem.Spec PyProof.Rows
noncomputable abbrev Key:=Sum Int Str
noncomputable def Fz:Key->Value->Bool
 | .inl k,v=>Value.isInt k v
 | .inr x,v=>Value.isStrOf x v
noncomputable def SV(w:World):Key->Int
 | .inl k=>hashInt k
 | .inr x=>hashStr w x
theorem Au:∀{k:Key} {v:Value},Fz k v=true->(∃i t,k=Sum.inl i/\v=Value.int i t)\/(∃x t,k=Sum.inr x/\v=Value.str x t)
 | .inl i,v,h=>by
  obtain⟨t,e⟩:=Value.isInt_shape (k:=i) (v:=v) h
  exact .inl ⟨i,t,rfl,e⟩
 | .inr x,v,h=>by
  obtain⟨t,e⟩:=Value.isStrOf_shape (x:=x) (v:=v) h
  exact .inr ⟨x,t,rfl,e⟩
theorem K0(i:Int)(t:Tok):Fz (.inl i) (.int i t)=true:=by simp [Fz,Value.isInt]
theorem Kz(x:Str)(t:Tok):Fz (.inr x) (.str x t)=true:=by simp [Fz,Value.isStrOf]
theorem P8(a b:Int):decide ((Sum.inl a:Key)=Sum.inl b)=(a==b):=by
 by_cases e:a=b
 ·subst e; simp
 ·have h:¬(Sum.inl a:Key)=Sum.inl b:=fun q=>e (Sum.inl.inj q)
  rw [decide_eq_false h]
  exact(beq_eq_false_iff_ne.mpr e).symm
theorem P5(a b:Str):decide ((Sum.inr a:Key)=Sum.inr b)=decide (a=b):=by
 by_cases e:a=b
 ·subst e; simp
 ·have h:¬(Sum.inr a:Key)=Sum.inr b:=fun q=>e (Sum.inr.inj q)
  rw [decide_eq_false h,decide_eq_false e]
theorem P7(a:Int)(b:Str):decide ((Sum.inl a:Key)=Sum.inr b)=false:=decide_eq_false (fun q=>nomatch q)
theorem P6(a:Str)(b:Int):decide ((Sum.inr a:Key)=Sum.inl b)=false:=decide_eq_false (fun q=>nomatch q)
noncomputable def BA(prog:Program)(w:World):PySem.KeyKind prog w Key where
 is:=Fz
 hash:=SV w
 inj:=fun v a b ha hb=>by
  rcases Au ha with ⟨i,t,rfl,rfl⟩ | ⟨x,t,rfl,rfl⟩
  ·rcases Au hb with ⟨j,u,rfl,e⟩ | ⟨y,u,rfl,e⟩
   ·injection e with e1 _; rw [e1]
   ·exact nomatch e
  ·rcases Au hb with ⟨j,u,rfl,e⟩ | ⟨y,u,rfl,e⟩
   ·exact nomatch e
   ·injection e with e1 _; rw [e1]
 byValue:=fun k v h=>by
  rcases Au h with ⟨i,t,rfl,rfl⟩ | ⟨x,t,rfl,rfl⟩ <;> rfl
 pyHash:=fun hv h=>by
  rcases Au hv with ⟨i,t,rfl,rfl⟩ | ⟨x,t,rfl,rfl⟩
  ·exact wpAny_pyHash_int h
  ·exact wpAny_pyHash_str h
 eqBool:=fun hu hv h=>by
  rcases Au hu with ⟨i,t,rfl,rfl⟩ | ⟨x,t,rfl,rfl⟩
  ·rcases Au hv with ⟨j,u,rfl,rfl⟩ | ⟨y,u,rfl,rfl⟩
   ·rw [P8] at h; exact wpAny_eqBool_int h
   ·rw [P7] at h; exact SeqAt.EqAt.int_str i t y u _ _ _ _ h
  ·rcases Au hv with ⟨j,u,rfl,rfl⟩ | ⟨y,u,rfl,rfl⟩
   ·rw [P6] at h; exact SeqAt.EqAt.str_int x t j u _ _ _ _ h
   ·rw [P5] at h; exact wpAny_eqBool_str h
 «strs»:=fun k x t v h=>by
  rcases Au h with ⟨i,u,rfl,e⟩ | ⟨y,u,rfl,e⟩
  ·exact nomatch e
  ·injection e with e1 _
   subst e1
   cases v <;> rfl
theorem Hs(prog:Program)(w:World)(i:Int)(t:Tok):(BA prog w).is (.inl i) (.int i t)=true:=K0 i t
theorem Hr(prog:Program)(w:World)(x:Str)(t:Tok):(BA prog w).is (.inr x) (.str x t)=true:=Kz x t
inductive V where
 | non | bl (b:Bool) | int (i:Int) | str (x:Str) | byt (b:Array UInt8) | flt (b:UInt64) | ref (a:Addr) | ty (n:String)
 deriving DecidableEq
noncomputable def RelV:V->Value->Prop
 | .non,u=>u=Value.none
 | .bl b,u=>u=Value.bool b
 | .int i,u=>∃t,u=Value.int i t
 | .str x,u=>∃t,u=Value.str x t
 | .byt b,u=>∃t,u=Value.bytes b t
 | .flt b,u=>∃t,u=Value.float b t
 | .ref a,u=>u=Value.ref a
 | .ty n,u=>u=Value.type n
noncomputable abbrev Vals:List V->List Value->Prop:=Paired RelV
theorem Vals.length{xs:List V}{us:List Value}(r:Vals xs us):xs.length=us.length:=Paired.length r
theorem Vals.get:∀{xs:List V} {us:List Value} {i:Nat} {x:V},Vals xs us->xs[i]?=some x->∃u,us[i]?=some u/\RelV x u
 | _,_,_,_,.nil,e=>by simp at e
 | _,_,0,_,.cons r _,e=>by simp at e; subst e; exact⟨_,rfl,r⟩
 | _,_,i+1,x,.cons _ t,e=>by
  obtain⟨u,h1,h2⟩:=Vals.get (i:=i) (x:=x) t (by simpa using e)
  exact⟨u,by simpa using h1,h2⟩
theorem Vals.set{x:V}{u:Value}(r:RelV x u):∀{xs:List V} {us:List Value} (i:Nat),Vals xs us->Vals (xs.set i x) (us.set i u)
 | _,_,_,.nil=>.nil
 | _,_,0,.cons _ t=>.cons r t
 | _,_,i+1,.cons q t=>.cons q (Vals.set r i t)
theorem Vals.append:∀{xs ys:List V} {us ws:List Value},Vals xs us->Vals ys ws->Vals (xs++ys) (us++ws)
 | _,_,_,_,.nil,s=>s
 | _,_,_,_,.cons r t,s=>.cons r (Vals.append t s)
theorem Vals.take:∀{xs:List V} {us:List Value} (n:Nat),Vals xs us->Vals (xs.take n) (us.take n)
 | _,_,0,_=>.nil
 | _,_,_+1,.nil=>.nil
 | _,_,n+1,.cons r t=>.cons r (Vals.take n t)
theorem Vals.drop:∀{xs:List V} {us:List Value} (n:Nat),Vals xs us->Vals (xs.drop n) (us.drop n)
 | _,_,0,r=>r
 | _,_,_+1,.nil=>.nil
 | _,_,n+1,.cons _ t=>Vals.drop n t
noncomputable def RelO:Option V->Option Value->Prop
 | some v,some u=>RelV v u
 | none,none=>True
 | _,_=>False
noncomputable def KV{κ:Type}:List (κ×V)->List (κ×Value)->Prop:=Paired fun(p:κ×V) (q:κ×Value)=>p.1=q.1/\RelV p.2 q.2
noncomputable def kV:Key->V
 | .inl i=>.int i
 | .inr x=>.str x
inductive HO where
 | lst (xs:List V)
 | tup (xs:List V)
 | dK (kvs:List (Key×V)) | dT (kvs:List (List Key×V))
 | set (S:Int->Bool) (n:Nat)
 | ins (C dx:Addr) (fs:List (Str×V))
 | own (x:Addr)
 | xd (fs:List (Str×V))
 | met (f x:Addr)
 | rng (lo hi:Int)
 | frz (o:Obj) (u:HO)
 | tbl (ps:Array Value)
 | ext (φ:Heap->Prop)
noncomputable abbrev Hp:=Addr->Option HO
noncomputable def Aw(H:Hp)(a:Addr)(o:HO):Hp:=fun b=>if b=a then some o else H b
theorem AM{H:Hp}{a:Addr}{o:HO}:Aw H a o a=some o:=by unfold Aw; rw [if_pos rfl]
theorem AL{H:Hp}{a b:Addr}{o:HO}(h:b≠a):Aw H a o b=H b:=by unfold Aw; rw [if_neg h]
theorem RI{H:Hp}{a b:Addr}{o u:HO}(h:H a=some o)(h':H b=some u)(d:o≠u):a≠b:=by
 intro e; subst e; rw [h] at h'; exact d (Option.some.inj h')
theorem Ax{H:Hp}{a b:Addr}{o:HO}(h:H a=some o)(h':H b=none):a≠b:=by
 intro e; subst e; rw [h] at h'; cases h'
noncomputable def IsTupN(h:Heap)(a:Addr)(items:Array Value):Prop:=∃o,h.get? a=some o/\o.cls=.type "tuple"/\∃n,o.data=.seq items n/\o.dict=none/\o.slots=#[]
theorem IsTupN.tup{h:Heap}{a:Addr}{items:Array Value}(x:IsTupN h a items):IsTup h a items:=let ⟨o,h1,h2,n,h3,_⟩:=x; ⟨o,h1,h2,n,h3⟩
theorem IsTupN.new(h:Heap)(items:Array Value):IsTupN (h.push { cls:=.type "tuple",data:=.seq items }) h.objs.size items:=⟨_,Heap.get?_push_size _ rfl,rfl,_,rfl,rfl,rfl⟩
section
variable (P:Program)(w:World)
noncomputable def ObjOk(H:Hp)(h:Heap)(a:Addr):HO->Prop
 | .lst xs=>xs.length<=sizeLine/\∃(its:List Value) (n:Nat),Vals xs its/\h.get? a=some { cls:=.type "list",data:=.seq its.toArray n }
 | .tup xs=>xs.length<=sizeLine/\∃its:List Value,Vals xs its/\IsTupN h a its.toArray
 | .dK kvs=>kvs.length<=sizeLine/\(a==sysModules)=false/\∃vs,KV kvs vs/\h.DictOf (BA P w) a vs
 | .dT kvs=>kvs.length<=sizeLine/\(a==sysModules)=false/\∃xs:List (List Key×Addr×Value),
   Paired (fun(p:List Key×V) (q:List Key×Addr×Value)=>p.1=q.1/\H q.2.1=some (.tup (p.1.map kV))/\RelV p.2 q.2.2) kvs xs /\
   ∃o es ep,h.get? a=some o/\o.ExactDict/\o.data=.dict es ep/\es.toList=xs.map (entryOfKey (tupleKind (BA P w)))/\(xs.map (·.1)).Nodup
 | .set S n=>h.SetOf (intKind P w) a S n
 | .ins C dx fs=>H dx=some (.own a)/\fs.length<=1000/\dx≠a/\h.get? a=some (PySem.W.instObj C dx) /\
   ∃mA,h.Ns1 dx mA/\(∀f,RelO (fs.lookup f) (mA f))/\PySem.Within mA (fs.map (·.1))
 | .own _=>∃o,h.get? a=some o
 | .xd fs=>∃mA,h.Ns1 a mA/\∀f,RelO (fs.lookup f) (mA f)
 | .rng lo hi=>∃t u v,h.get? a=some { cls:=.type "range",data:=.fields #[.int lo t,.int hi u,.int 1 v] }
 | .frz o u=>h.get? a=some o/\ObjOk H h a u
 | .tbl ps=>h.get? a=some { cls:=.none,data:=.fields ps }
 | .met f x=>h.get? a=some (PySem.W.methodObj (.ref f) (.ref x))
 | .ext φ=>φ h/\(∃o,h.get? a=some o)/\∀h1 h2:Heap,φ h1->(∀o,h1.get? a=some o->h2.get? a=some o)->φ h2
noncomputable def HOk(H:Hp)(h:Heap):Prop:=∀a o,H a=some o->ObjOk P w H h a o
end
section
variable {P:Program}{w:World}{H H':Hp}{h h':Heap}{a:Addr}{o:HO}
theorem ObjOk.lt(x:ObjOk P w H h a o):a<h.objs.size:=by
 cases o with
 | lst xs=>obtain⟨_,_,_,_,e⟩:=x; exact Heap.lt_size e
 | tup xs=>obtain⟨_,_,_,p⟩:=x; exact p.tup.lt
 | dK kvs=>obtain⟨_,_,_,_,o,_,_,e,_⟩:=x; exact Heap.lt_size e
 | dT kvs=>obtain⟨_,_,_,_,o,_,_,e,_⟩:=x; exact Heap.lt_size e
 | set S n=>obtain⟨o,_,_,_,e,_⟩:=x; exact Heap.lt_size e
 | ins C dx fs=>obtain⟨_,_,_,e,_⟩:=x; exact Heap.lt_size e
 | own y=>obtain⟨_,e⟩:=x; exact Heap.lt_size e
 | xd fs=>obtain⟨_,⟨_,_,_,e,_⟩,_⟩:=x; exact Heap.lt_size e
 | rng lo hi=>obtain⟨_,_,_,e⟩:=x; exact Heap.lt_size e
 | frz ob u=>obtain⟨e,_⟩:=x; exact Heap.lt_size e
 | tbl ps=>exact Heap.lt_size (show h.get? a=some _ from x)
 | met f y=>exact Heap.lt_size (show h.get? a=some _ from x)
 | ext φ=>obtain⟨_,⟨_,e⟩,_⟩:=x; exact Heap.lt_size e
theorem Paired.mapP{α β:Type}{F G:α->β->Prop}:∀{l₁:List α} {l₂:List β},Paired F l₁ l₂->(∀a b,F a b->G a b)->Paired G l₁ l₂
 | _,_,.nil,_=>.nil
 | _,_,.cons r t,f=>.cons (f _ _ r) (Paired.mapP t f)
theorem ObjOk.stay(x:ObjOk P w H h a o)(k:∀b u,(b=a\/H b=some (.own a))->h.get? b=some u->h'.get? b=some u)
  (ho:∀b,H b=some (.own a)->H' b=some (.own a)) (ht:∀b xs,H b=some (.tup xs)->H' b=some (.tup xs)):ObjOk P w H' h' a o:=by
 induction o with
 | lst xs=>obtain⟨z,its,n,r,e⟩:=x; exact⟨z,its,n,r,k _ _ (.inl rfl) e⟩
 | tup xs=>obtain⟨z,its,r,ob,e,c⟩:=x; exact⟨z,its,r,ob,k _ _ (.inl rfl) e,c⟩
 | dK kvs=>obtain⟨z,y,vs,r,ob,es,ep,e,c⟩:=x; exact⟨z,y,vs,r,ob,es,ep,k _ _ (.inl rfl) e,c⟩
 | dT kvs =>
  obtain⟨z,y,xs,r,ob,es,ep,e,c⟩:=x
  exact⟨z,y,xs,Paired.mapP r fun p q z=>⟨z.1,ht _ _ z.2.1,z.2.2⟩,ob,es,ep,k _ _ (.inl rfl) e,c⟩
 | set S n=>obtain⟨ob,es,ep,t,e,c⟩:=x; exact⟨ob,es,ep,t,k _ _ (.inl rfl) e,c⟩
 | ins C dx fs =>
  obtain⟨d,z,ne,e,mA,⟨od,es,ep,e2,c⟩,r⟩:=x
  exact⟨ho _ d,z,ne,k _ _ (.inl rfl) e,mA,⟨od,es,ep,k _ _ (.inr d) e2,c⟩,r⟩
 | own y=>obtain⟨ob,e⟩:=x; exact⟨ob,k _ _ (.inl rfl) e⟩
 | xd fs=>obtain⟨mA,⟨od,es,ep,e,c⟩,r⟩:=x; exact⟨mA,⟨od,es,ep,k _ _ (.inl rfl) e,c⟩,r⟩
 | rng lo hi=>obtain⟨t,u,v,e⟩:=x; exact⟨t,u,v,k _ _ (.inl rfl) e⟩
 | frz ob u ih=>obtain⟨e,q⟩:=x; exact⟨k _ _ (.inl rfl) e,ih q⟩
 | tbl ps =>
  have e:h.get? a=some { cls:=.none,data:=.fields ps }:=x
  show h'.get? a=some { cls:=.none,data:=.fields ps }
  exact k a _ (.inl rfl) e
 | met f y =>
  have e:h.get? a=some (PySem.W.methodObj (.ref f) (.ref y)):=x
  show h'.get? a=some (PySem.W.methodObj (.ref f) (.ref y))
  exact k a _ (.inl rfl) e
 | ext φ=>obtain⟨p,⟨o,e⟩,st⟩:=x; exact⟨st _ _ p fun o q=>k _ _ (.inl rfl) q,⟨o,k _ _ (.inl rfl) e⟩,st⟩
theorem HOk.lt(x:HOk P w H h)(e:H a=some o):a<h.objs.size:=(x a o e).lt
theorem HOk.fresh(x:HOk P w H h)(e:h.objs.size<=a):H a=none:=by
 cases q:H a with
 | none=>rfl
 | some u=>exact absurd (Nat.lt_of_lt_of_le (x.lt q) e) (Nat.lt_irrefl _)
theorem HOk.kept(x:HOk P w H h)(k:∀b u,h.get? b=some u->h'.get? b=some u):HOk P w H h':=fun a o e =>
 (x a o e).stay (fun b u _ q=>k b u q) (fun _ q=>q) fun _ _ q=>q
theorem HOk.laid(x:HOk P w H h)(k:∀b u,h.get? b=some u->h'.get? b=some u)(hp:h.objs.size<=a)(new:ObjOk P w (Aw H a o) h' a o):HOk P w (Aw H a o) h':=fun b u e=>by
 have hn:=x.fresh hp
 by_cases hb:b=a
 ·subst hb; rw [AM] at e; cases e; exact new
 ·rw [AL hb] at e
  exact(x b u e).stay (fun c v _ q=>k c v q) (fun c q=>by rw [AL (Ax q hn)]; exact q) fun c xs q=>by rw [AL (Ax q hn)]; exact q
end
noncomputable def Rd(H:Hp)(a:Addr)(u:HO):Prop:=H a=some u\/∃o,H a=some (.frz o u)
theorem Rd.ok{P:Program}{w:World}{H:Hp}{h:Heap}{a:Addr}{u:HO}(r:Rd H a u)(x:HOk P w H h):ObjOk P w H h a u:=by
 rcases r with r | ⟨o,r⟩
 ·exact x a u r
 ·obtain⟨_,q⟩:=x a _ r
  exact q
noncomputable def Rq:Option HO->Prop
 | some (.lst _)=>True
 | some (.dK _)=>True
 | some (.dT _)=>True
 | some (.set _ _)=>True
 | some (.ins _ _ _)=>True
 | some (.ext _)=>True
 | _=>False
section
variable {P:Program}{w:World}{H:Hp}{h h':Heap}{x e:Addr}{o':HO}
theorem HOk.write(ok:HOk P w H h)(mu:Rq (H x))(he:e=x\/H e=some (.own x))(k:∀b u,b≠e->h.get? b=some u->h'.get? b=some u)(heo:∃u,h'.get? e=some u)
  (new:ObjOk P w (Aw H x o') h' x o'):HOk P w (Aw H x o') h':=fun b u q=>by
 have nown:∀c y,H c=some (.own y)->c≠x:=fun c y r z=>by subst z; rw [r] at mu; exact mu
 have ntup:∀c xs,H c=some (.tup xs)->c≠x:=fun c xs r z=>by subst z; rw [r] at mu; exact mu
 by_cases hb:b=x
 ·subst hb; rw [AM] at q; cases q; exact new
 ·rw [AL hb] at q
  by_cases hbe:b=e
  ·have q':H b=some (.own x):=by
    rcases he with z | z
    ·exact absurd (hbe.trans z) hb
    ·rw [hbe]; exact z
   rw [q] at q'; cases q'
   obtain⟨v,hv⟩:=heo
   exact⟨v,by rw [hbe]; exact hv⟩
  ·refine(ok b u q).stay (fun c v hc r=>k c v ?_ r) (fun c r=>by rw [AL (nown c b r)]; exact r) fun c xs r=>by rw [AL (ntup c xs r)]; exact r
   rcases hc with rfl | hc
   ·exact hbe
   ·rintro rfl
    rcases he with z | z
    ·exact nown c b hc z
    ·rw [hc] at z; cases z; exact hb rfl
end
structure Un (fs ex:List Addr) (H H':Hp) (h h':Heap):Prop where
 keep:∀b o,h.get? b=some o->H b=none->b∉fs->b∉ex->h'.get? b=some o
 slot:∀b o,h.get? b=some o->H b=none->b∈fs->b∉ex->∃sl,h'.get? b=some { o with slots:=sl }
 free:∀b o,h.get? b=some o->H b=none->b∉ex->H' b=none
 there:∀b o,h.get? b=some o->b∉ex->∃o',h'.get? b=some o'
 tups:∀b xs,H b=some (.tup xs)->H' b=some (.tup xs)
 frzs:∀b o u,H b=some (.frz o u)->H' b=some (.frz o u)
 tbls:∀b ps,H b=some (.tbl ps)->∃more,H' b=some (.tbl (ps++more))
section
variable {fs fs' ex ex':List Addr}{H H1 H2:Hp}{h h1 h2 h':Heap}{a x e:Addr}{o:HO}
theorem Un.any(u:Un fs ex H H1 h h1){b:Addr}{ob:Obj}(q:h.get? b=some ob)(n:H b=none)(hx:b∉ex):∃sl,h1.get? b=some { ob with slots:=sl }:=by
 by_cases hb:b∈fs
 ·exact u.slot b ob q n hb hx
 ·exact⟨ob.slots,u.keep b ob q n hb hx⟩
theorem Un.kept(k:∀b u,h.get? b=some u->h'.get? b=some u):Un fs ex H H h h' :=
 ⟨fun b ob q _ _ _=>k b ob q,fun b ob q _ _ _=>⟨ob.slots,k b ob q⟩,fun _ _ _ n _=>n,fun b ob q _=>⟨ob,k b ob q⟩,fun _ _ q=>q,fun _ _ _ q=>q,fun _ ps q=>⟨#[],by rw [q]; simp⟩⟩
theorem Un.refl:Un fs ex H H h h:=Un.kept fun _ _ q=>q
theorem Un.laid(k:∀b u,h.get? b=some u->h'.get? b=some u)(hp:h.objs.size<=a)(hn:H a=none):Un fs ex H (Aw H a o) h h' where
 keep:=fun b u q _ _ _=>k b u q
 slot:=fun b u q _ _ _=>⟨u.slots,k b u q⟩
 free:=fun b u q n _=>by rw [AL (Nat.ne_of_lt (Nat.lt_of_lt_of_le (Heap.lt_size q) hp))]; exact n
 there:=fun b u q _=>⟨u,k b u q⟩
 tups:=fun b xs q=>by rw [AL (Ax q hn)]; exact q
 frzs:=fun b u xs q=>by rw [AL (Ax q hn)]; exact q
 tbls:=fun b ps q=>⟨#[],by rw [AL (Ax q hn),q]; simp⟩
theorem Un.write(mu:Rq (H x))(he:e=x\/H e=some (.own x))(k:∀b u,b≠e->h.get? b=some u->h'.get? b=some u)(heo:∃u,h'.get? e=some u):Un fs ex H (Aw H x o) h h':=by
 have hx:∀b,H b=none->b≠x:=fun b n z=>by subst z; rw [n] at mu; exact mu
 have hb:∀b,H b=none->b≠e:=fun b n z=>by
  subst z
  rcases he with r | r
  ·exact hx b n r
  ·rw [n] at r; cases r
 have hm:∀b u,H b=some u->¬Rq (some u)->b≠x:=fun b u q nm z=>by subst z; rw [q] at mu; exact nm mu
 refine⟨fun b u q n _ _=>k b u (hb b n) q,fun b u q n _ _=>⟨u.slots,k b u (hb b n) q⟩,fun b u q n _=>by rw [AL (hx b n)]; exact n,fun b u q _=>?_,
  fun b xs q=>by rw [AL (hm b _ q fun z=>z)]; exact q,fun b u xs q=>by rw [AL (hm b _ q fun z=>z)]; exact q,fun b ps q=>⟨#[],by rw [AL (hm b _ q fun z=>z),q]; simp⟩⟩
 by_cases hbe:b=e
 ·subst hbe; exact heo
 ·exact⟨u,k b u hbe q⟩
end
noncomputable def Rx(h:Heap)(H:Hp):List Addr:=(List.range h.objs.size).filter fun a=>(H a).isSome
noncomputable def G1(h:Heap)(H:Hp):Heap:=PySem.W.hideAll h (Rx h H)
theorem K4(h:Heap)(H:Hp):(G1 h H).objs.size=h.objs.size:=PySem.W.hideAll_size _ _
theorem MR{h:Heap}{H:Hp}{b:Addr}{o:Obj}(e:h.get? b=some o)(n:H b=none):(G1 h H).get? b=some o :=
 PySem.W.hideAll_get _ e fun hm=>by
  have q:(H b).isSome=true:=(List.mem_filter.mp hm).2
  rw [n] at q; simp at q
theorem N3{h:Heap}{H:Hp}{b:Addr}{o:Obj}(e:(G1 h H).get? b=some o):h.get? b=some o/\H b=none:=by
 have e':h.get? b=some o:=PySem.W.of_hideAll (Rx h H) e
 refine⟨e',?_⟩
 cases q:H b with
 | none=>rfl
 | some x =>
  have hm:b∈Rx h H:=List.mem_filter.mpr ⟨List.mem_range.mpr (Heap.lt_size e'),by simp [q]⟩
  have z:(G1 h H).get? b=none:=PySem.W.hideAll_none (Rx h H) hm
  rw [z] at e; cases e
structure Mod (K:Frag) (mg:Str->Option Value) (base:Heap):Prop where
 kin:K.In base
 glob:base.Ns mainGlobals mg
 blt:∃mb,base.Ns builtinsNs mb/\∀x:Str,x ≠ "__name__"->mb x=bootBuiltins x
 nolimit:base.NoLimit
/-- the context: a def's body (or a comprehension's block) running. base: fixed through the whole law; s₀, H₀: the entry; outer: the frames whose slots others may change (a def's callers); stack: all frames that run;
   ex: iterators that were made ahead of the entry and are walked here (a comprehension's); fn: the names whose cells were made at the entry (a def: all; a comprehension's block: its own); calm: not within an except suite; pn: pins that every state bears; xe: what is wanted of an exception that leaves the code -/
structure Cx where
 prog:Program
 w:World
 K:Frag
 mg:Str->Option Value
 base:Heap
 A:Around
 N:List Str
 s₀:Shared
 H₀:Hp
 env:Env
 outer:List Env
 stack:List Env
 ex:List Addr
 fn:Str->Bool
 calm:Bool
 pn:List (Addr×Obj)
 xe:Value->Shared->Prop
noncomputable def MS(l:List Env):List Addr:=l.filterMap (·.frame)
noncomputable abbrev Cx.fs(X:Cx):List Addr:=MS X.outer
noncomputable def Qh(sc:Scope)(x:Str):Prop:=sc.names.lookup x=some .local\/sc.names.lookup x=some .cell\/sc.names.lookup x=some .free
noncomputable def Loc(sc:Scope)(x:Str):Prop:=sc.names.lookup x=some .local\/sc.names.lookup x=some .cell
noncomputable def Look(env:Env)(h:Heap)(m:Str->Option Value)(x:Str)(u:Value):Prop :=
 (env.kindOf x=some .local/\m x=some u)\/((env.kindOf x=some .cell\/env.kindOf x=some .free)/\∃c,env.cells.lookup x=some c/\h.IsCell c (some u))
structure Cx.Ok (X:Cx):Prop where
 mod:Mod X.K X.mg X.base
 kind:X.env.scope.kind=.function
 glob:X.env.globals=mainGlobals
 blt:X.env.builtins=builtinsNs
 above:X.s₀.heap.objs.size<=X.env.locals
 inj:∀x y c,X.env.cells.lookup x=some c->X.env.cells.lookup y=some c->x=y
 has:∀x,(X.env.kindOf x=some .cell\/X.env.kindOf x=some .free)->∃c,X.env.cells.lookup x=some c
 cab:∀x c,X.fn x=true->X.env.cells.lookup x=some c->X.s₀.heap.objs.size<=c
 hd:X.calm=true->X.A.handled=none
 frames:X.A.frames=some X.stack
 stk:X.stack=X.outer\/(X.stack=X.env::X.outer/\X.env.frame=some X.env.locals)
 exf:∀b∈X.ex,b≠X.env.locals/\∀x c,X.env.cells.lookup x=some c->c≠b
 bs:∀b o,X.base.get? b=some o->X.s₀.heap.get? b=some o/\X.H₀ b=none
 bsz:X.base.objs.size<=X.s₀.heap.objs.size
 noex:∀b o,X.base.get? b=some o->b∉X.ex
 exfs:∀b∈X.ex,b∉X.fs
 funs:X.s₀.heap.FunFrames X.base X.outer
 frf:∀b∈X.fs,X.H₀ b=none
structure Inv (X:Cx) (pins:List (Addr×Obj)) (σ:List (Option V)) (H:Hp) (s:Shared):Prop where
 ok:X.Ok
 os:s.os=X.s₀.os
 bare:AllBare s.gens
 base:Un X.fs X.ex X.H₀ H X.s₀.heap s.heap
 loc:∃m,s.heap.Ns X.env.locals m/\∀(i:Nat) (x:Str) (v:V),X.N[i]?=some x->σ[i]?=some (some v)->Qh X.env.scope x->∃u,RelV v u/\Look X.env s.heap m x u
 cell:∀x c,X.env.cells.lookup x=some c->∃v,s.heap.IsCell c v
 free:H X.env.locals=none
 freeC:∀x c,X.env.cells.lookup x=some c->H c=none
 pin:∀p∈X.pn++pins,s.heap.get? p.1=some p.2/\H p.1=none/\p.1≠X.env.locals/\p.1∉X.fs/\∀v,p.2.data≠.cell v
 hok:HOk X.prog X.w H s.heap
 len:σ.length=X.N.length
section
variable {X:Cx}{pins:List (Addr×Obj)}{σ:List (Option V)}{H H':Hp}{s:Shared}{h':Heap}
theorem Cx.Ok.nofr(ok:X.Ok){b:Addr}{o:Obj}(e:X.base.get? b=some o):b∉X.fs:=fun hb=>by
 have:=(ok.funs.mem hb).1
 rw [e] at this; cases this
theorem Inv.bs(I:Inv X pins σ H s):∀b o,X.base.get? b=some o->s.heap.get? b=some o/\H b=none:=fun b o e =>
 ⟨I.base.keep b o (I.ok.bs b o e).1 (I.ok.bs b o e).2 (I.ok.nofr e) (I.ok.noex b o e),I.base.free b o (I.ok.bs b o e).1 (I.ok.bs b o e).2 (I.ok.noex b o e)⟩
theorem Inv.bk(I:Inv X pins σ H s):∀b o,X.base.get? b=some o->s.heap.get? b=some o:=fun b o e=>(I.bs b o e).1
theorem Inv.mod(I:Inv X pins σ H s):Mod X.K X.mg X.base:=I.ok.mod
theorem Inv.kIn(I:Inv X pins σ H s):X.K.In s.heap:=I.ok.mod.kin.keeps I.bk
theorem Inv.lt(I:Inv X pins σ H s):X.env.locals<s.heap.objs.size:=let ⟨_,hn,_⟩:=I.loc; hn.lt
theorem Inv.sz(I:Inv X pins σ H s):X.s₀.heap.objs.size<=s.heap.objs.size:=Nat.le_trans I.ok.above (Nat.le_of_lt I.lt)
theorem Inv.nofs(I:Inv X pins σ H s){a:Addr}(h:s.heap.objs.size<=a):a∉X.fs:=fun hb=>by
 obtain⟨_,o,ho,_⟩:=I.ok.funs.mem hb
 exact absurd (Nat.lt_of_lt_of_le (Heap.lt_size ho) (Nat.le_trans I.sz h)) (Nat.lt_irrefl _)
theorem Inv.cne(I:Inv X pins σ H s):∀x c,X.env.cells.lookup x=some c->c≠X.env.locals:=fun x c e z=>by
 obtain⟨v,o,ho,hd⟩:=I.cell x c e
 obtain⟨m,⟨o',es,ep,ho',hd',_⟩,_⟩:=I.loc
 rw [z,ho'] at ho; cases ho; rw [hd'] at hd; cases hd
theorem Inv.funs(I:Inv X pins σ H s):s.heap.FunFrames X.base X.outer:=by
 have all:∀(l:List Env),(∀b∈MS l,b∈X.fs)->X.s₀.heap.FunFrames X.base l->s.heap.FunFrames X.base l:=by
  intro l
  induction l with
  | nil=>intro _ _; trivial
  | cons env r ih =>
   intro hs hl
   obtain⟨hk,⟨L,o,hf,hn,ho,hd⟩,hr⟩:=hl
   have hL:L∈X.fs:=hs L (by unfold MS; rw [List.filterMap_cons,hf]; exact List.mem_cons_self)
   obtain⟨sl,e⟩:=I.base.slot L o ho (I.ok.frf L hL) hL fun z=>I.ok.exfs L z hL
   exact⟨hk,⟨L,_,hf,hn,e,hd⟩,ih (fun b hb=>hs b (by unfold MS; rw [List.filterMap_cons,hf]; exact List.mem_cons_of_mem _ hb)) hr⟩
 exact all X.outer (fun _ hb=>hb) I.ok.funs
theorem Inv.stack(I:Inv X pins σ H s):s.heap.FunFrames X.base X.stack:=by
 rcases I.ok.stk with e | ⟨e,hf⟩
 ·rw [e]; exact I.funs
 ·rw [e]
  obtain⟨m,hn,_⟩:=I.loc
  refine .cons (by rw [I.ok.kind]; decide) hf hn ?_ I.funs
  exact Heap.get?_none_of_le (Nat.le_trans I.ok.bsz I.ok.above)
theorem Inv.stkSub(I:Inv X pins σ H s):∀b∈MS X.stack,b∈X.env.locals::X.fs:=fun b hb=>by
 rcases I.ok.stk with e | ⟨e,hf⟩
 ·rw [e] at hb; exact List.mem_cons_of_mem _ hb
 ·rw [e] at hb
  unfold MS at hb
  rw [List.filterMap_cons,hf] at hb
  exact hb
theorem Inv.stkFree(I:Inv X pins σ H s):∀b∈MS X.stack,H b=none:=fun b hb=>by
 rcases List.mem_cons.mp (I.stkSub b hb) with e | hb
 ·rw [e]; exact I.free
 ·obtain⟨_,o,ho,_⟩:=I.ok.funs.mem hb
  exact I.base.free b o ho (I.ok.frf b hb) fun z=>I.ok.exfs b z hb
theorem Inv.step{g':Array GenState}{t':Nat}{d':Drawn}{ch:List Addr}(I:Inv X pins σ H s)
  (hch:∀b∈ch,(b∈X.ex\/X.s₀.heap.objs.size<=b)/\b≠X.env.locals/\(∀x c,X.env.cells.lookup x=some c->c≠b)/\∀p∈X.pn++pins,p.1≠b)
  (keep:∀b o,b≠X.env.locals->b∉X.fs->b∉ch->s.heap.get? b=some o->H b=none->h'.get? b=some o)
  (slot:∀b o,b≠X.env.locals->b∈X.fs->b∉ch->s.heap.get? b=some o->H b=none->∃sl,h'.get? b=some { o with slots:=sl }) (free:∀b o,b∉ch->s.heap.get? b=some o->H b=none->H' b=none)
  (there:∀b o,b∉ch->s.heap.get? b=some o->∃o',h'.get? b=some o')
  (tups:∀b xs,H b=some (.tup xs)->H' b=some (.tup xs)) (frzs:∀b o u,H b=some (.frz o u)->H' b=some (.frz o u)) (tbls:∀b ps,H b=some (.tbl ps)->∃more,H' b=some (.tbl (ps++more)))
  (ns:∀m,s.heap.Ns X.env.locals m->h'.Ns X.env.locals m) (hok:HOk X.prog X.w H' h') (hg:AllBare g') :
  Inv X pins σ H' { s with heap:=h',gens:=g',drawn:=d',toks:=t' }:=by
 have neL:∀b o,X.s₀.heap.get? b=some o->b≠X.env.locals:=fun b o e=>Nat.ne_of_lt (Nat.lt_of_lt_of_le (Heap.lt_size e) I.ok.above)
 have neC:∀b o,X.s₀.heap.get? b=some o->b∉X.ex->b∉ch:=fun b o e hx hb=>by
  rcases (hch b hb).1 with z | z
  ·exact hx z
  ·exact absurd (Nat.lt_of_lt_of_le (Heap.lt_size e) z) (Nat.lt_irrefl _)
 have cellK:∀x c,X.env.cells.lookup x=some c->∀v,s.heap.IsCell c v->h'.IsCell c v:=fun x c e v ⟨o,ho,hd⟩=>by
  have nch:c∉ch:=fun z=>(hch c z).2.2.1 x c e rfl
  by_cases hc:c∈X.fs
  ·obtain⟨sl,q⟩:=slot c o (I.cne x c e) hc nch ho (I.freeC x c e)
   exact⟨_,q,hd⟩
  ·exact⟨o,keep c o (I.cne x c e) hc nch ho (I.freeC x c e),hd⟩
 refine⟨I.ok,I.os,hg,⟨fun b o e n hb hx=>?_,fun b o e n hb hx=>?_,fun b o e n hx=>?_,fun b o e hx=>?_,fun b xs e=>tups b xs (I.base.tups b xs e),fun b o xs e=>frzs b o xs (I.base.frzs b o xs e),fun b ps e=>?_⟩,?_,fun x c e=>?_,?_,fun x c e=>?_,fun p hp=>?_,hok,I.len⟩
 ·exact keep b o (neL b o e) hb (neC b o e hx) (I.base.keep b o e n hb hx) (I.base.free b o e n hx)
 ·obtain⟨sl,e1⟩:=I.base.slot b o e n hb hx
  obtain⟨sl',e2⟩:=slot b _ (neL b o e) hb (neC b o e hx) e1 (I.base.free b o e n hx)
  exact⟨sl',e2⟩
 ·obtain⟨o',e1⟩:=I.base.there b o e hx
  exact free b o' (neC b o e hx) e1 (I.base.free b o e n hx)
 ·obtain⟨o',e1⟩:=I.base.there b o e hx
  exact there b o' (neC b o e hx) e1
 ·obtain⟨m1,e1⟩:=I.base.tbls b ps e
  obtain⟨m2,e2⟩:=tbls b _ e1
  exact⟨m1++m2,by rw [e2,Array.append_assoc]⟩
 ·obtain⟨m,hn,hl⟩:=I.loc
  refine⟨m,ns m hn,fun i x v e1 e2 e3=>?_⟩
  obtain⟨u,r,l⟩:=hl i x v e1 e2 e3
  refine⟨u,r,?_⟩
  rcases l with l | ⟨k,c,e,z⟩
  ·exact .inl l
  ·exact .inr ⟨k,c,e,cellK x c e _ z⟩
 ·obtain⟨v,z⟩:=I.cell x c e
  exact⟨v,cellK x c e v z⟩
 ·obtain⟨m,⟨o,_,_,ho,_⟩,_⟩:=I.loc
  exact free _ o (fun z=>(hch _ z).2.1 rfl) ho I.free
 ·obtain⟨v,o,ho,hd⟩:=I.cell x c e
  exact free c o (fun z=>(hch c z).2.2.1 x c e rfl) ho (I.freeC x c e)
 ·obtain⟨e,n,ne,nf,d⟩:=I.pin p hp
  have nch:p.1∉ch:=fun z=>(hch p.1 z).2.2.2 p hp rfl
  exact⟨keep p.1 p.2 ne nf nch e n,free p.1 p.2 nch e n,ne,nf,d⟩
theorem Inv.un{t':Nat}(I:Inv X pins σ H s)(u:Un X.fs [] H H' s.heap h')(hok:HOk X.prog X.w H' h'):Inv X pins σ H' { s with heap:=h',toks:=t' }:=by
 obtain⟨m,⟨o,es,ep,ho,r⟩,_⟩:=id I.loc
 obtain⟨sl,hL⟩:=u.any ho I.free (by simp)
 exact I.step (g':=s.gens) (d':=s.drawn) (ch:=[]) (fun _ z=>nomatch z) (fun b o _ hb _ e n=>u.keep b o e n hb (by simp)) (fun b o _ hb _ e n=>u.slot b o e n hb (by simp)) (fun b o _ e n=>u.free b o e n (by simp)) (fun b o _ e=>u.there b o e (by simp)) u.tups u.frzs u.tbls (fun m' hm=>by
  obtain⟨o',es',ep',ho',r'⟩:=hm
  rw [ho] at ho'; cases ho'
  exact⟨_,es',ep',hL,r'⟩) hok I.bare
theorem Inv.call{g':Array GenState}{t':Nat}{d':Drawn}{ch:List Addr}(I:Inv X pins σ H s)(u:Un (MS X.stack) ch H H' s.heap h')(hok:HOk X.prog X.w H' h')(hg:AllBare g')
  (hch:∀b∈ch,(b∈X.ex\/X.s₀.heap.objs.size<=b)/\b≠X.env.locals/\(∀x c,X.env.cells.lookup x=some c->c≠b)/\∀p∈X.pn++pins,p.1≠b) :
  Inv X pins σ H' { s with heap:=h',gens:=g',drawn:=d',toks:=t' }:=by
 obtain⟨m,⟨o,es,ep,ho,r⟩,_⟩:=id I.loc
 obtain⟨sl,hL⟩:=u.any ho I.free fun z=>(hch _ z).2.1 rfl
 exact I.step (ch:=ch) hch (fun b o hL hb hc e n=>u.keep b o e n (fun z=>(List.mem_cons.mp (I.stkSub b z)).elim hL hb) hc) (fun b o _ _ hc e n=>u.any e n hc) (fun b o hc e n=>u.free b o e n hc) (fun b o hc e=>u.there b o e hc) u.tups u.frzs u.tbls (fun m' hm=>by
  obtain⟨o',es',ep',ho',r'⟩:=hm
  rw [ho] at ho'; cases ho'
  exact⟨_,es',ep',hL,r'⟩) hok hg
theorem Inv.turned{t':Nat}{it:Addr}(I:Inv X pins σ H s)(k:∀b o,b≠it->s.heap.get? b=some o->h'.get? b=some o)(hn:H it=none)(hL:it≠X.env.locals)
  (h1:it∈X.ex\/X.s₀.heap.objs.size<=it) (h2:∀x c,X.env.cells.lookup x=some c->c≠it) (h3:∀p∈X.pn++pins,p.1≠it):Inv X pins σ H { s with heap:=h',toks:=t' }:=by
 have nit:∀b u,H b=some u->b≠it:=fun b u e z=>by rw [z,hn] at e; cases e
 refine I.step (g':=s.gens) (d':=s.drawn) (ch:=[it]) (fun b hb=>?_) (fun b o _ _ hc e _=>k b o (fun z=>hc (by simp [z])) e) (fun b o _ _ hc e _=>⟨o.slots,k b o (fun z=>hc (by simp [z])) e⟩) (fun _ _ _ _ n=>n)
  (fun b o hc e=>⟨o,k b o (fun z=>hc (by simp [z])) e⟩) (fun _ _ e=>e) (fun _ _ _ e=>e) (fun b ps e=>⟨#[],by rw [e]; simp⟩) (fun m hm=>?_) (fun b u e=>?_) I.bare
 ·have e:b=it:=by simpa using hb
  subst e
  exact⟨h1,hL,h2,h3⟩
 ·obtain⟨o,es,ep,ho,r⟩:=hm
  exact⟨o,es,ep,k _ o (Ne.symm hL) ho,r⟩
 ·refine(I.hok b u e).stay (fun c v hc q=>k c v ?_ q) (fun _ q=>q) fun _ _ q=>q
  rcases hc with z | z
  ·rw [z]; exact nit b u e
  ·exact nit c _ z
theorem Inv.tok(I:Inv X pins σ H s)(t:Nat):Inv X pins σ H { s with toks:=t }:=I.un (h':=s.heap) (t':=t) Un.refl I.hok
theorem Inv.kept{t':Nat}(I:Inv X pins σ H s)(k:∀b u,s.heap.get? b=some u->h'.get? b=some u):Inv X pins σ H { s with heap:=h',toks:=t' }:=I.un (Un.kept k) (I.hok.kept k)
theorem Inv.laid{a:Addr}{o:HO}{t':Nat}(I:Inv X pins σ H s)(k:∀b u,s.heap.get? b=some u->h'.get? b=some u)(hp:s.heap.objs.size<=a)(new:ObjOk X.prog X.w (Aw H a o) h' a o) :
  Inv X pins σ (Aw H a o) { s with heap:=h',toks:=t' }:=I.un (Un.laid k hp (I.hok.fresh hp)) (I.hok.laid k hp new)
theorem Inv.write{x e:Addr}{o:HO}{t':Nat}(I:Inv X pins σ H s)(mu:Rq (H x))(he:e=x\/H e=some (.own x))(k:∀b u,b≠e->s.heap.get? b=some u->h'.get? b=some u)(heo:∃u,h'.get? e=some u)
  (new:ObjOk X.prog X.w (Aw H x o) h' x o):Inv X pins σ (Aw H x o) { s with heap:=h',toks:=t' }:=I.un (Un.write mu he k heo) (I.hok.write mu he k heo new)
theorem Inv.pins_of{pins':List (Addr×Obj)}(I:Inv X pins σ H s)(h:∀p∈pins',s.heap.get? p.1=some p.2/\H p.1=none/\p.1≠X.env.locals/\p.1∉X.fs/\∀v,p.2.data≠.cell v):Inv X pins' σ H s :=
 ⟨I.ok,I.os,I.bare,I.base,I.loc,I.cell,I.free,I.freeC,fun p hp=>(List.mem_append.mp hp).elim (fun z=>I.pin p (List.mem_append_left _ z)) (h p),I.hok,I.len⟩
theorem Ho{N:List Str}(hN:N.Nodup){i j:Nat}{x:Str}(a:N[i]?=some x)(b:N[j]?=some x):i=j:=by
 obtain⟨h1,e1⟩:=List.getElem?_eq_some_iff.mp a
 obtain⟨h2,e2⟩:=List.getElem?_eq_some_iff.mp b
 exact(List.getElem_inj hN).mp (e1.trans e2.symm)
theorem Fn{M:Model}{A:Around}{E:Value->Shared->Prop}{i:Nat}{x:Str}{v:V}{u:Value}{Q:Unit->Shared->Prop}(I:Inv X pins σ H s)(hN:X.N.Nodup)(hi:X.N[i]?=some x)(hx:Loc X.env.scope x)(r:RelV v u)
  (h:∀s',Inv X pins (σ.set i (some v)) H s'->(∃a,Heap.SameBut a s.heap s'.heap/\(a=X.env.locals\/X.env.cells.lookup x=some a))->Q () s') (hf:autoParam (X.fn x=true\/X.env.scope.names.lookup x=some .local) zau0._auto_1):wpAny M A (storeName X.env x u) Q E s:=by
 obtain⟨m,hn,hl⟩:=id I.loc
 have hcls:(X.env.scope.kind==.class||(X.env.scope.kind==.module&&X.env.locals != X.env.globals))=false:=by rw [I.ok.kind]; rfl
 have hiσ:i<σ.length:=by rw [I.len]; exact(List.getElem?_eq_some_iff.mp hi).1
 have cne:=I.cne
 have tracked:∀{a:Addr} {h':Heap},(∃o,s.heap.get? a=some o/\H a=none)->Heap.SameBut a s.heap h'->HOk X.prog X.w H h':=fun {a h'} ha hs b ob e=>by
  obtain⟨_,_,hfree⟩:=ha
  refine(I.hok b ob e).stay (fun c w' hc q=>(hs.2 c ?_).trans q) (fun _ q=>q) fun _ _ q=>q
  rintro rfl
  rcases hc with rfl | hc
  ·rw [hfree] at e; cases e
  ·rw [hfree] at hc; cases hc
 rcases hx with hk | hk
 ·refine wpAny_storeName_local hk hn (fun h' hn' hs=>?_) hcls
  obtain⟨oL,_,_,hoL,_⟩:=id hn
  refine h _ ⟨I.ok,I.os,I.bare,⟨fun b o e n hb hx=>?_,fun b o e n hb hx=>?_,I.base.free,fun b o e hx=>?_,I.base.tups,I.base.frzs,I.base.tbls⟩,⟨_,hn',fun j y v' e1 e2 e3=>?_⟩,fun y c e=>?_,I.free,I.freeC,fun p hp=>?_,tracked ⟨oL,hoL,I.free⟩ hs,by simpa using I.len⟩ ⟨_,hs,.inl rfl⟩
  ·exact(hs.2 b (Nat.ne_of_lt (Nat.lt_of_lt_of_le (Heap.lt_size e) I.ok.above))).trans (I.base.keep b o e n hb hx)
  ·obtain⟨sl,e1⟩:=I.base.slot b o e n hb hx
   exact⟨sl,(hs.2 b (Nat.ne_of_lt (Nat.lt_of_lt_of_le (Heap.lt_size e) I.ok.above))).trans e1⟩
  ·obtain⟨o',e1⟩:=I.base.there b o e hx
   exact⟨o',(hs.2 b (Nat.ne_of_lt (Nat.lt_of_lt_of_le (Heap.lt_size e) I.ok.above))).trans e1⟩
  ·by_cases hj:j=i
   ·subst hj
    rw [hi] at e1; cases e1
    rw [List.getElem?_set_self hiσ] at e2
    cases e2
    exact⟨u,r,.inl ⟨hk,by simp⟩⟩
   ·rw [List.getElem?_set_ne (Ne.symm hj)] at e2
    obtain⟨u',r',q⟩:=hl j y v' e1 e2 e3
    refine⟨u',r',?_⟩
    rcases q with ⟨k,e⟩ | ⟨k,c,e,z⟩
    ·refine .inl ⟨k,?_⟩
     have:y≠x:=fun e=>hj (Ho hN e1 (e▸hi))
     simp [this,e]
    ·exact .inr ⟨k,c,e,z.sameBut hs (cne y c e)⟩
  ·obtain⟨w',z⟩:=I.cell y c e
   exact⟨w',z.sameBut hs (cne y c e)⟩
  ·obtain⟨e,n,ne,nf,d⟩:=I.pin p hp
   exact⟨(hs.2 p.1 ne).trans e,n,ne,nf,d⟩
 ·have hfn:X.fn x=true:=by
   rcases hf with z | z
   ·exact z
   ·rw [z] at hk; cases hk
  obtain⟨c,hc⟩:=I.ok.has x (.inl hk)
  obtain⟨w',z⟩:=I.cell x c hc
  refine wpAny_storeName_cell I.ok.kind hk hc z (fun h' hc' hs=>?_)
  obtain⟨oc,hoc,hocd⟩:=id z
  refine h { s with heap:=h' } ⟨I.ok,I.os,I.bare,⟨fun b o e n hb hx=>?_,fun b o e n hb hx=>?_,I.base.free,fun b o e hx=>?_,I.base.tups,I.base.frzs,I.base.tbls⟩,⟨m,hn.sameBut hs (Ne.symm (cne x c hc)),fun j y v' e1 e2 e3=>?_⟩,fun y c' e=>?_,I.free,I.freeC,fun p hp=>?_,tracked ⟨oc,hoc,I.freeC x c hc⟩ hs,by simpa using I.len⟩ ⟨c,hs,.inr hc⟩
  ·exact(hs.2 b (Nat.ne_of_lt (Nat.lt_of_lt_of_le (Heap.lt_size e) (I.ok.cab x c hfn hc)))).trans (I.base.keep b o e n hb hx)
  ·obtain⟨sl,e1⟩:=I.base.slot b o e n hb hx
   exact⟨sl,(hs.2 b (Nat.ne_of_lt (Nat.lt_of_lt_of_le (Heap.lt_size e) (I.ok.cab x c hfn hc)))).trans e1⟩
  ·obtain⟨o',e1⟩:=I.base.there b o e hx
   exact⟨o',(hs.2 b (Nat.ne_of_lt (Nat.lt_of_lt_of_le (Heap.lt_size e) (I.ok.cab x c hfn hc)))).trans e1⟩
  ·by_cases hj:j=i
   ·subst hj
    rw [hi] at e1; cases e1
    rw [List.getElem?_set_self hiσ] at e2
    cases e2
    exact⟨u,r,.inr ⟨.inl hk,c,hc,hc'⟩⟩
   ·rw [List.getElem?_set_ne (Ne.symm hj)] at e2
    obtain⟨u',r',q⟩:=hl j y v' e1 e2 e3
    refine⟨u',r',?_⟩
    rcases q with q | ⟨k,c',e,z'⟩
    ·exact .inl q
    ·refine .inr ⟨k,c',e,z'.sameBut hs ?_⟩
     rintro rfl
     exact hj (Ho hN e1 (I.ok.inj _ _ _ e hc▸hi))
  ·by_cases hcc:c'=c
   ·subst hcc; exact⟨_,hc'⟩
   ·obtain⟨w2,z2⟩:=I.cell y c' e
    exact⟨w2,z2.sameBut hs hcc⟩
  ·obtain⟨e,n,ne,nf,d⟩:=I.pin p hp
   refine⟨(hs.2 p.1 ?_).trans e,n,ne,nf,d⟩
   intro q
   rw [q,hoc] at e
   have q':oc=p.2:=Option.some.inj e
   exact d w' (by rw [← q']; exact hocd)
theorem HV{M:Model}{A:Around}{E:Value->Shared->Prop}{i:Nat}{x:Str}{v:V}{u:Value}{Q:Unit->Shared->Prop}(I:Inv X pins σ H s)(hN:X.N.Nodup)(hi:X.N[i]?=some x)(hx:Loc X.env.scope x)(r:RelV v u)
  (h:∀s',Inv X pins (σ.set i (some v)) H s'->Q () s') (hf:autoParam (X.fn x=true\/X.env.scope.names.lookup x=some .local) zau0._auto_1):wpAny M A (storeName X.env x u) Q E s :=
 Fn I hN hi hx r (fun s' I' _=>h s' I') hf
theorem Inv.call'{s':Shared}{ch:List Addr}(I:Inv X pins σ H s)(ho:s'.os=s.os)(u:Un (MS X.stack) ch H H' s.heap s'.heap)(hok:HOk X.prog X.w H' s'.heap)(hg:AllBare s'.gens)
  (hch:∀b∈ch,(b∈X.ex\/X.s₀.heap.objs.size<=b)/\b≠X.env.locals/\(∀x c,X.env.cells.lookup x=some c->c≠b)/\∀p∈X.pn++pins,p.1≠b):Inv X pins σ H' s':=by
 obtain⟨h',g',d',t',o'⟩:=s'
 have e:o'=s.os:=ho
 subst e
 exact I.call (g':=g') (t':=t') (d':=d') u hok hg hch
end
noncomputable abbrev XK:=Value->Option Addr->Hp->Prop
noncomputable abbrev St:=List (Option V)
noncomputable abbrev VK:=V->Hp->Prop
noncomputable abbrev TE:=St->Hp->VK->Prop
noncomputable abbrev TT:=St->Hp->(Bool->Hp->Prop)->Prop
noncomputable abbrev TA:=St->Hp->(List V->Hp->Prop)->Prop
structure Ends where
 nx:St->Hp->Prop
 rt:VK
 bk:St->Hp->Prop:=fun _ _=>False
 ct:St->Hp->Prop:=fun _ _=>False
noncomputable abbrev TS:=Ends->St->Hp->Prop
noncomputable def EP(X:Cx)(pins:List (Addr×Obj))(σ:St)(Q:VK)(u:Value)(s':Shared):Prop:=∃v H',Inv X pins σ H' s'/\RelV v u/\Q v H'
noncomputable def TP(X:Cx)(pins:List (Addr×Obj))(σ:St)(Q:Bool->Hp->Prop)(b:Bool)(s':Shared):Prop:=∃H',Inv X pins σ H' s'/\Q b H'
noncomputable def AP(X:Cx)(pins:List (Addr×Obj))(σ:St)(Q:List V->Hp->Prop)(us:List Value)(s':Shared):Prop:=∃vs H',Inv X pins σ H' s'/\Vals vs us/\Q vs H'
noncomputable def SP(X:Cx)(pins:List (Addr×Obj))(D:Ends)(f:Flow)(s':Shared):Prop :=
 match f with
 | .next=>∃σ' H',Inv X pins σ' H' s'/\D.nx σ' H'
 | .brk=>∃σ' H',Inv X pins σ' H' s'/\D.bk σ' H'
 | .cont=>∃σ' H',Inv X pins σ' H' s'/\D.ct σ' H'
 | .ret u=>∃v σ' H',Inv X pins σ' H' s'/\RelV v u/\D.rt v H'
noncomputable def PE(X:Cx)(e:Expr)(t:TE):Prop :=
 ∀(pins:List (Addr×Obj)) (s:Shared) (σ:St) (H:Hp) (Q:VK),Inv X pins σ H s->t σ H Q->wpAny (model X.prog X.w) X.A (eval e X.env) (EP X pins σ Q) X.xe s
noncomputable def PT(X:Cx)(e:Expr)(t:TT):Prop :=
 ∀(pins:List (Addr×Obj)) (s:Shared) (σ:St) (H:Hp) (Q:Bool->Hp->Prop),Inv X pins σ H s->t σ H Q->wpAny (model X.prog X.w) X.A (isTrue e X.env (eval e X.env)) (TP X pins σ Q) X.xe s
noncomputable def PW(X:Cx)(e:Expr)(t:TT):Prop :=
 ∀(whole:Sem Value) (pins:List (Addr×Obj)) (s:Shared) (σ:St) (H:Hp) (Q:Bool->Hp->Prop),Inv X pins σ H s->t σ H Q->wpAny (model X.prog X.w) X.A (isTrue e X.env whole) (TP X pins σ Q) X.xe s
theorem PW.pt{X:Cx}{e:Expr}{t:TT}(h:PW X e t):PT X e t:=h _
noncomputable def PA(X:Cx)(es:List Expr)(t:TA):Prop :=
 ∀(pos:Pos) (pins:List (Addr×Obj)) (s:Shared) (σ:St) (H:Hp) (Q:List V->Hp->Prop),Inv X pins σ H s->t σ H Q->wpAny (model X.prog X.w) X.A (spliced (backTo pos (starEach es X.env))) (AP X pins σ Q) X.xe s
noncomputable def PS(X:Cx)(st:Stmt)(t:TS):Prop :=
 ∀(pins:List (Addr×Obj)) (s:Shared) (σ:St) (H:Hp) (D:Ends),Inv X pins σ H s->t D σ H->wpAny (model X.prog X.w) X.A (exec st X.env) (SP X pins D) X.xe s
noncomputable def PSs(X:Cx)(st:List Stmt)(t:TS):Prop :=
 ∀(pins:List (Addr×Obj)) (s:Shared) (σ:St) (H:Hp) (D:Ends),Inv X pins σ H s->t D σ H->wpAny (model X.prog X.w) X.A (execs st X.env) (SP X pins D) X.xe s
theorem A2{α:Type}{t:Sem α}{Q Q':α->Shared->Prop}{M:Model}{A:Around}{E:Value->Shared->Prop}{s:Shared}(h:wpAny M A t Q E s)(hQ:∀a s,Q a s->Q' a s):wpAny M A t Q' E s:=wpAny_mono h hQ fun _ _ x=>x
section
variable {X:Cx}
noncomputable def BG(i:Nat):TE:=fun σ H Q=>∃v,σ[i]?=some (some v)/\Q v H
noncomputable def tC(v:V):TE:=fun _ H Q=>Q v H
theorem Gm{i:Nat}{x:Str}{pos:Pos}(hN:X.N[i]?=some x)(hv:Qh X.env.scope x)(hd:autoParam ((x==("__debug__" : Str))=false) zau1._auto_1)(hcd:autoParam ((x==("__classdict__" : Str))=false) zau1._auto_1):PE X (.Name x pos) (BG i):=by
 intro pins s σ H Q I h
 obtain⟨v,e,h⟩:=h
 obtain⟨m,hn,hl⟩:=I.loc
 obtain⟨u,r,l⟩:=hl i x v hN e hv
 have fin:EP X pins σ Q u s:=⟨v,H,I,r,h⟩
 rcases l with ⟨hk,hm⟩ | ⟨hk,c,hc,hcell⟩
 ·exact wpAny_Name (wpAny_loadName_local I.ok.kind hk hn hm fin) hd
 ·rcases hk with hk | hk
  ·exact wpAny_Name (wpAny_loadName_cell I.ok.kind hk hc hcell fin) hd
  ·exact wpAny_Name (wpAny_loadName_free I.ok.kind hk hc hcell fin hcd) hd
theorem Aa{i j pos}:PE X (.Constant (.int i) j pos) (tC (.int i)):=fun _ _ _ H _ I h=>wpAny_Constant_int ⟨.int i,H,I.tok _,⟨_,rfl⟩,h⟩
theorem RF{b j pos}:PE X (.Constant (.bool b) j pos) (tC (.bl b)):=fun _ _ _ H _ I h=>Constant_bool ⟨.bl b,H,I,rfl,h⟩
theorem Pq{j pos}:PE X (.Constant .none j pos) (tC .non):=fun _ _ _ H _ I h=>Constant_none ⟨.non,H,I,rfl,h⟩
theorem Pn{x j pos}:PE X (.Constant (.str x) j pos) (tC (.str x)):=fun _ _ _ H _ I h=>Calls.Constant_str ⟨.str x,H,I.tok _,⟨_,rfl⟩,h⟩
noncomputable def Gl(X:Cx)(x:Str):Prop:=X.env.kindOf x=some .globalImplicit
theorem G0{E:Value->Shared->Prop}{pins:List (Addr×Obj)}{s:Shared}{σ:St}{H:Hp}{x:Str}{u:Value}{pos:Pos}{Q:Value->Shared->Prop}(I:Inv X pins σ H s)(hg:Gl X x)(hm:X.mg x=some u)(h:Q u s)
  (hd:autoParam ((x==("__debug__" : Str))=false) zau1._auto_1):wpAny (model X.prog X.w) X.A (eval (.Name x pos) X.env) Q E s :=
 Calls.Name_function_global I.ok.kind hg (Calls.loadGlobal_global (by rw [I.ok.glob]; exact I.mod.glob.keeps I.bk) hm h) hd
theorem E5{E:Value->Shared->Prop}{pins:List (Addr×Obj)}{s:Shared}{σ:St}{H:Hp}{x:Str}{u:Value}{pos:Pos}{Q:Value->Shared->Prop}(I:Inv X pins σ H s)(hg:Gl X x)(hm:X.mg x=none)(hv:bootBuiltins x=some u)(h:Q u s)
  (hn:autoParam (x ≠ "__name__") zau1._auto_1) (hd:autoParam ((x==("__debug__" : Str))=false) zau1._auto_1):wpAny (model X.prog X.w) X.A (eval (.Name x pos) X.env) Q E s:=by
 obtain⟨mb,h1,h2⟩:=I.mod.blt
 exact Calls.Name_function_global I.ok.kind hg (Calls.loadGlobal_builtin (by rw [I.ok.glob]; exact I.mod.glob.keeps I.bk) hm (by rw [I.ok.blt]; exact h1.keeps I.bk) ((h2 x hn).trans hv) h) hd
theorem Nm{x:Str}{v:V}{u:Value}{pos:Pos}(hg:Gl X x)(hm:X.mg x=some u)(r:RelV v u)(hd:autoParam ((x==("__debug__" : Str))=false) zau1._auto_1):PE X (.Name x pos) (tC v) :=
 fun _ _ _ H _ I h=>G0 I hg hm ⟨v,H,I,r,h⟩ hd
theorem Nu{x:Str}{v:V}{u:Value}{pos:Pos}(hg:Gl X x)(hm:X.mg x=none)(hv:bootBuiltins x=some u)(r:RelV v u)(hn:autoParam (x ≠ "__name__") zau1._auto_1)(hd:autoParam ((x==("__debug__" : Str))=false) zau1._auto_1):PE X (.Name x pos) (tC v) :=
 fun _ _ _ H _ I h=>E5 I hg hm hv ⟨v,H,I,r,h⟩ hn hd
variable {a b:Expr}{ta tb:TE}{pos:Pos}
noncomputable def tB(t:TE):TT:=fun σ H Q=>t σ H fun x H1=>∃c,x=.bl c/\Q c H1
theorem Pi{e:Expr}{t:TE}(h:PE X e t)(he:autoParam (∀whole,isTrue e X.env whole=(do let v ← whole; standAt e.pos; holding [v] (truthy v))) zau2._auto_1):PT X e (tB t):=by
 intro pins s σ H Q I hw
 refine isTrue_plain (A2 (h pins s σ H _ I hw) fun v s1 ⟨x,H1,I1,r1,q1⟩=>?_) (he _)
 obtain⟨d,rfl,q⟩:=q1
 cases r1
 exact wpAny_truthy_bool ⟨H1,I1,q⟩
variable {tA tB':TT}{rest:List Expr}
noncomputable def Qx(t u:TT):TT:=fun σ H Q=>t σ H fun c H1=>if c=true then u σ H1 Q else Q false H1
noncomputable def S4(t u:TT):TT:=fun σ H Q=>t σ H fun c H1=>if c=true then Q true H1 else u σ H1 Q
noncomputable def SL(t:TT):TT:=fun σ H Q=>t σ H fun c H1=>Q (!c) H1
theorem Jl(ha:PT X a tA):PW X (.BoolOp .And [a] pos) tA:=by
 intro wh pins s σ H Q I h
 refine isTrue_and (A2 (ha pins s σ H Q I h) fun c s1 e=>?_)
 cases c with
 | true=>exact isTrue_and_nil e
 | false=>exact e
theorem Ph(ha:PT X a tA):PW X (.BoolOp .Or [a] pos) tA:=by
 intro wh pins s σ H Q I h
 refine isTrue_or (A2 (ha pins s σ H Q I h) fun c s1 e=>?_)
 cases c with
 | false=>exact isTrue_or_nil e
 | true=>exact e
theorem Lj(ha:PT X a tA)(hb:PW X (.BoolOp .And (b::rest) pos) tB'):PW X (.BoolOp .And (a::b::rest) pos) (Qx tA tB'):=by
 intro wh pins s σ H Q I h
 refine isTrue_and (A2 (ha pins s σ H _ I h) fun c s1 ⟨H1,I1,q1⟩=>?_)
 cases c with
 | true=>exact hb wh pins s1 σ H1 Q I1 q1
 | false=>exact⟨H1,I1,q1⟩
theorem RC(ha:PT X a tA)(hb:PW X (.BoolOp .Or (b::rest) pos) tB'):PW X (.BoolOp .Or (a::b::rest) pos) (S4 tA tB'):=by
 intro wh pins s σ H Q I h
 refine isTrue_or (A2 (ha pins s σ H _ I h) fun c s1 ⟨H1,I1,q1⟩=>?_)
 cases c with
 | true=>exact⟨H1,I1,q1⟩
 | false=>exact hb wh pins s1 σ H1 Q I1 q1
theorem Pj(ha:PT X a tA):PT X (.UnaryOp .Not a pos) (SL tA):=by
 intro pins s σ H Q I h
 exact isTrue_not (ha pins s σ H (fun c H1=>Q (!c) H1) I h)
noncomputable def Qw(ta tb:TE):TE:=fun σ H Q=>ta σ H fun x H1=>∃c,x=.bl c/\if c=true then tb σ H1 Q else Q (.bl false) H1
noncomputable def SK(ta tb:TE):TE:=fun σ H Q=>ta σ H fun x H1=>∃c,x=.bl c/\if c=true then Q (.bl true) H1 else tb σ H1 Q
noncomputable def Qs(ta:TE):TE:=fun σ H Q=>ta σ H fun x H1=>∃c,x=.bl c/\Q (.bl (!c)) H1
theorem Po{op}{t:TE}(h:PE X a t):PE X (.BoolOp op [a] pos) t:=fun pins s σ H Q I hw=>BoolOp_one (h pins s σ H Q I hw)
theorem Pt(ha:PE X a ta)(hb:PE X (.BoolOp .And (b::rest) pos) tb):PE X (.BoolOp .And (a::b::rest) pos) (Qw ta tb):=by
 intro pins s σ H Q I h
 refine BoolOp_and (A2 (ha pins s σ H _ I h) fun v s1 ⟨x,H1,I1,r1,q1⟩=>?_)
 obtain⟨c,rfl,q1⟩:=q1
 cases r1
 refine wpAny_truthy_bool ?_
 cases c with
 | true=>exact hb pins s1 σ H1 Q I1 q1
 | false=>exact⟨.bl false,H1,I1,rfl,q1⟩
theorem RE(ha:PE X a ta)(hb:PE X (.BoolOp .Or (b::rest) pos) tb):PE X (.BoolOp .Or (a::b::rest) pos) (SK ta tb):=by
 intro pins s σ H Q I h
 refine BoolOp_or (A2 (ha pins s σ H _ I h) fun v s1 ⟨x,H1,I1,r1,q1⟩=>?_)
 obtain⟨c,rfl,q1⟩:=q1
 cases r1
 refine wpAny_truthy_bool ?_
 cases c with
 | false=>exact hb pins s1 σ H1 Q I1 q1
 | true=>exact⟨.bl true,H1,I1,rfl,q1⟩
theorem Pp(ha:PE X a ta):PE X (.UnaryOp .Not a pos) (Qs ta):=by
 intro pins s σ H Q I h
 refine UnaryOp_ (A2 (ha pins s σ H _ I h) fun v s1 ⟨x,H1,I1,r1,q1⟩=>?_)
 obtain⟨c,rfl,q1⟩:=q1
 cases r1
 exact not_of (wpAny_truthy_bool ⟨.bl (!c),H1,I1,rfl,q1⟩)
noncomputable def S5(t:TT)(ta tb:TE):TE:=fun σ H Q=>t σ H fun c H1=>if c=true then ta σ H1 Q else tb σ H1 Q
theorem Hj{c:Expr}(hc:PT X c tA)(ha:PE X a ta)(hb:PE X b tb):PE X (.IfExp c a b pos) (S5 tA ta tb):=by
 intro pins s σ H Q I h
 refine wpAny_IfExp (A2 (hc pins s σ H _ I h) fun d s1 ⟨H1,I1,q1⟩=>?_)
 cases d with
 | true=>exact ha pins s1 σ H1 Q I1 q1
 | false=>exact hb pins s1 σ H1 Q I1 q1
end
noncomputable def SqL(K:Frag)(H:Hp)(a:Addr)(xs:List V):Prop :=
 Rd H a (.lst xs) \/
  ∃(o:Obj) (its:Array Value) (n:Nat),K.lookup a=some o/\o.cls=.type "list"/\o.dict=none/\o.data=.seq its n/\its.size<=sizeLine/\Vals xs its.toList
noncomputable def SqT(K:Frag)(H:Hp)(a:Addr)(xs:List V):Prop :=
 Rd H a (.tup xs) \/
  ∃(o:Obj) (its:Array Value) (n:Nat),K.lookup a=some o/\o.cls=.type "tuple"/\o.data=.seq its n/\its.size<=sizeLine/\Vals xs its.toList
noncomputable def Se:Value->Option V
 | .none=>some .non
 | .bool b=>some (.bl b)
 | .int i _=>some (.int i)
 | .str x _=>some (.str x)
 | .bytes b _=>some (.byt b)
 | .float b _=>some (.flt b)
 | .ref a=>some (.ref a)
 | .type n=>some (.ty n)
 | _=>none
theorem RelV.abs{x:V}{u:Value}(r:RelV x u):Se u=some x:=by
 cases x with
 | non=>cases r; rfl
 | bl _=>cases r; rfl
 | int _=>obtain⟨t,rfl⟩:=r; rfl
 | str _=>obtain⟨t,rfl⟩:=r; rfl
 | byt _=>obtain⟨t,rfl⟩:=r; rfl
 | flt _=>obtain⟨t,rfl⟩:=r; rfl
 | ref _=>cases r; rfl
 | ty _=>cases r; rfl
theorem RelV.inj{x y:V}{u:Value}(r:RelV x u)(q:RelV y u):x=y:=Option.some.inj (r.abs.symm.trans q.abs)
theorem Vals.inj:∀{xs ys:List V} {us:List Value},Vals xs us->Vals ys us->xs=ys
 | _,_,_,.nil,.nil=>rfl
 | _,_,_,.cons r t,.cons r' t'=>by rw [r.inj r',Vals.inj t t']
section
variable {X:Cx}{pins:List (Addr×Obj)}{σ:St}{H:Hp}{s:Shared}{a:Addr}{xs ys:List V}
theorem SqL.of{K:Frag}(h:H a=some (.lst xs)):SqL K H a xs:=.inl (.inl h)
theorem SqT.of{K:Frag}(h:H a=some (.tup xs)):SqT K H a xs:=.inl (.inl h)
theorem Inv.list(I:Inv X pins σ H s)(h:SqL X.K H a xs):∃its:List Value,Vals xs its/\PlainL s.heap a its.toArray/\xs.length<=sizeLine:=by
 rcases h with h | ⟨o,its,n,hk,hc,hd,hs,hz,r⟩
 ·obtain⟨z,its,n,r,e⟩:=h.ok I.hok
  exact⟨its,r,⟨_,n,e,rfl,rfl,rfl⟩,z⟩
 ·refine⟨its.toList,r,⟨o,n,I.kIn a o hk,hc,hd,by simpa using hs⟩,?_⟩
  have e:=r.length
  simp only [Array.length_toList] at e
  omega
theorem Inv.tuple(I:Inv X pins σ H s)(h:SqT X.K H a xs):∃its:List Value,Vals xs its/\IsTup s.heap a its.toArray/\xs.length<=sizeLine:=by
 rcases h with h | ⟨o,its,n,hk,hc,hs,hz,r⟩
 ·obtain⟨z,its,r,p⟩:=h.ok I.hok
  exact⟨its,r,p.tup,z⟩
 ·refine⟨its.toList,r,⟨o,I.kIn a o hk,hc,n,by simpa using hs⟩,?_⟩
  have e:=r.length
  simp only [Array.length_toList] at e
  omega
theorem Inv.list_inj(I:Inv X pins σ H s)(h:SqL X.K H a xs)(h':SqL X.K H a ys):xs=ys:=by
 obtain⟨its,r,⟨o,n,e,_,_,d⟩,_⟩:=I.list h
 obtain⟨its',r',⟨o',n',e',_,_,d'⟩,_⟩:=I.list h'
 rw [e] at e'; cases e'
 rw [d] at d'
 injection d' with d1 _
 have:its=its':=by simpa using congrArg Array.toList d1
 subst this
 exact r.inj r'
theorem Inv.tuple_inj(I:Inv X pins σ H s)(h:SqT X.K H a xs)(h':SqT X.K H a ys):xs=ys:=by
 obtain⟨its,r,⟨o,e,_,n,d⟩,_⟩:=I.tuple h
 obtain⟨its',r',⟨o',e',_,n',d'⟩,_⟩:=I.tuple h'
 rw [e] at e'; cases e'
 rw [d] at d'
 injection d' with d1 _
 have:its=its':=by simpa using congrArg Array.toList d1
 subst this
 exact r.inj r'
end
noncomputable abbrev Cx.wish(X:Cx)(E:Value->Shared->Prop):Cx:={ X with xe:=E }
noncomputable abbrev Cx.nox(X:Cx):Cx:=X.wish fun _ _=>False
theorem Cx.Ok.wish{X:Cx}(ok:X.Ok)(E:Value->Shared->Prop):(X.wish E).Ok :=
 ⟨ok.mod,ok.kind,ok.glob,ok.blt,ok.above,ok.inj,ok.has,ok.cab,ok.hd,ok.frames,ok.stk,ok.exf,ok.bs,ok.bsz,ok.noex,ok.exfs,ok.funs,ok.frf⟩
theorem Cx.Ok.unwish{X:Cx}{E:Value->Shared->Prop}(ok:(X.wish E).Ok):X.Ok :=
 ⟨ok.mod,ok.kind,ok.glob,ok.blt,ok.above,ok.inj,ok.has,ok.cab,ok.hd,ok.frames,ok.stk,ok.exf,ok.bs,ok.bsz,ok.noex,ok.exfs,ok.funs,ok.frf⟩
section
variable {X:Cx}{pins:List (Addr×Obj)}{σ:St}{H:Hp}{s:Shared}{E:Value->Shared->Prop}
theorem Inv.wish(I:Inv X pins σ H s)(E:Value->Shared->Prop):Inv (X.wish E) pins σ H s:=⟨I.ok.wish E,I.os,I.bare,I.base,I.loc,I.cell,I.free,I.freeC,I.pin,I.hok,I.len⟩
theorem Inv.unwish(I:Inv (X.wish E) pins σ H s):Inv X pins σ H s:=⟨I.ok.unwish,I.os,I.bare,I.base,I.loc,I.cell,I.free,I.freeC,I.pin,I.hok,I.len⟩
theorem SP.unwish{D:Ends}{f:Flow}{s':Shared}(h:SP (X.wish E) pins D f s'):SP X pins D f s':=by
 cases f with
 | next=>obtain⟨σ',H',I,q⟩:=h; exact⟨σ',H',I.unwish,q⟩
 | brk=>obtain⟨σ',H',I,q⟩:=h; exact⟨σ',H',I.unwish,q⟩
 | cont=>obtain⟨σ',H',I,q⟩:=h; exact⟨σ',H',I.unwish,q⟩
 | ret u=>obtain⟨v,σ',H',I,r,q⟩:=h; exact⟨v,σ',H',I.unwish,r,q⟩
theorem PSs.nox{st:List Stmt}{t:TS}(h:PSs X.nox st t):PSs X st t:=fun pins s σ H D I hw =>
 wpAny_mono (h pins s σ H D (I.wish _) hw) (fun _ _ q=>q.unwish) fun _ _ z=>False.elim z
end
section
variable {X:Cx}{st:Stmt}{rest:List Stmt}{t u:TS}{e:Expr}{te:TE}{pos:Pos}
noncomputable def Oj:TS:=fun D σ H=>D.nx σ H
noncomputable def Kb(t u:TS):TS:=fun D σ H=>t { D with nx:=u D } σ H
theorem Gk:PSs X [] Oj:=fun _ _ σ H _ I h=>wpAny_execs_nil ⟨σ,H,I,h⟩
theorem BC(h1:PS X st t)(h2:PSs X rest u):PSs X (st::rest) (Kb t u):=by
 intro pins s σ H D I h
 refine wpAny_execs_cons (A2 (h1 pins s σ H { D with nx:=u D } I h) fun f s1 q=>?_)
 cases f with
 | next =>
  obtain⟨σ',H',I',q⟩:=q
  exact h2 pins s1 σ' H' D I' q
 | ret v=>exact q
 | brk=>exact q
 | cont=>exact q
theorem DR(h1:PS X st t):PSs X [st] t:=by
 intro pins s σ H D I h
 refine wpAny_execs_cons (A2 (h1 pins s σ H D I h) fun f s1 q=>?_)
 cases f with
 | next=>exact wpAny_execs_nil q
 | ret v=>exact q
 | brk=>exact q
 | cont=>exact q
theorem Inv.quiet{pins:List (Addr×Obj)}{σ:St}{H:Hp}{s:Shared}(I:Inv X pins σ H s):interactive X.env=false:=by simp [interactive,I.ok.kind]
noncomputable def Qu(te:TE):TS:=fun D σ H=>te σ H fun _ H1=>D.nx σ H1
theorem Jm(he:PE X e te)(hs:autoParam (swapsWith e none pos.line X.env=pure false) zau3._auto_1):PS X (.Expr e pos) (Qu te):=by
 intro pins s σ H D I h
 exact wpAny_Expr_any (A2 (he pins s σ H _ I h) fun v s1 ⟨x,H1,I1,r1,q1⟩=>⟨σ,H1,I1,q1⟩) I.quiet hs
noncomputable def NR(te:TE):TS:=fun D σ H=>te σ H D.rt
theorem D4(he:PE X e te):PS X (.Return (some e) pos) (NR te):=by
 intro pins s σ H D I h
 exact wpAny_Return_some (A2 (he pins s σ H _ I h) fun v s1 ⟨x,H1,I1,r1,q1⟩=>⟨x,σ,H1,I1,r1,q1⟩)
noncomputable def Qt(c:TT)(t u:TS):TS:=fun D σ H=>c σ H fun b H1=>if b=true then t D σ H1 else u D σ H1
theorem Ln{c:Expr}{a b:List Stmt}{tc:TT}(hc:PT X c tc)(ha:PSs X a t)(hb:PSs X b u):PS X (.If c a b pos) (Qt tc t u):=by
 intro pins s σ H D I h
 refine wpAny_If (A2 (hc pins s σ H _ I h) fun d s1 ⟨H1,I1,q1⟩=>?_)
 cases d with
 | true=>exact ha pins s1 σ H1 D I1 q1
 | false=>exact hb pins s1 σ H1 D I1 q1
end
noncomputable abbrev TG:=V->St->Hp->(St->Hp->Prop)->Prop
noncomputable abbrev QV:=List V->St->Hp->(St->Hp->Prop)->Prop
noncomputable def PG(X:Cx)(target:Expr)(t:TG):Prop :=
 ∀(pins:List (Addr×Obj)) (s:Shared) (σ:St) (H:Hp) (v:V) (u:Value) (Q:St->Hp->Prop),Inv X pins σ H s->RelV v u->t v σ H Q ->
  wpAny (model X.prog X.w) X.A (assign target X.env u) (fun _ s'=>∃σ' H',Inv X pins σ' H' s'/\Q σ' H') X.xe s
noncomputable def Ro(X:Cx)(ts:List Expr)(t:QV):Prop :=
 ∀(pins:List (Addr×Obj)) (s:Shared) (σ:St) (H:Hp) (vs:List V) (us:List Value) (Q:St->Hp->Prop),Inv X pins σ H s->Vals vs us->t vs σ H Q ->
  wpAny (model X.prog X.w) X.A (assignInOrder ((assignEach ts X.env).map (·.2)) us) (fun _ s'=>∃σ' H',Inv X pins σ' H' s'/\Q σ' H') X.xe s
noncomputable abbrev QU:=V->V->V->Hp->(Hp->Prop)->Prop
noncomputable def Rn(X:Cx)(t:QU):Prop :=
 ∀(pins:List (Addr×Obj)) (s:Shared) (σ:St) (H:Hp) (o i v:V) (ov iv u:Value) (Q:Hp->Prop),Inv X pins σ H s->RelV o ov->RelV i iv->RelV v u->t o i v H Q ->
  wpAny (model X.prog X.w) X.A (setItem ov iv u) (fun _ s'=>∃H',Inv X pins σ H' s'/\Q H') X.xe s
section
variable {X:Cx}{pos:Pos}
noncomputable def EM(i:Nat):TG:=fun v σ H Q=>Q (σ.set i (some v)) H
theorem Nj{i:Nat}{x:Str}(hN:X.N.Nodup)(hi:X.N[i]?=some x)(hx:Loc X.env.scope x)(hf:autoParam (X.fn x=true\/X.env.scope.names.lookup x=some .local) zau0._auto_1):PG X (.Name x pos) (EM i):=by
 intro pins s σ H v u Q I r h
 exact wpAny_assign_Name (HV I hN hi hx r (fun s' I'=>⟨_,H,I',h⟩) hf)
noncomputable def SZ:QV:=fun vs σ H Q=>vs=[]/\Q σ H
noncomputable def RO(t:TG)(u:QV):QV:=fun vs σ H Q=>∃v r,vs=v::r/\t v σ H fun σ' H'=>u r σ' H' Q
theorem Ni:Ro X [] SZ:=by
 intro pins s σ H vs us Q I r h
 obtain⟨e,h⟩:=h
 subst e
 cases r
 exact assignInOrder_nil ⟨σ,H,I,h⟩
theorem Lr{e:Expr}{es:List Expr}{t:TG}{u:QV}(h1:PG X e t)(h2:Ro X es u)
  (hs:autoParam ((assignEach (e::es) X.env).map (·.2)=assign e X.env::(assignEach es X.env).map (·.2)) zau3._auto_1):Ro X (e::es) (RO t u):=by
 intro pins s σ H vs us Q I r h
 obtain⟨v,vr,e1,h⟩:=h
 subst e1
 cases r with
 | cons r rr =>
  rw [hs]
  refine assignInOrder_cons (A2 (h1 pins s σ H _ _ _ I r h) fun _ s1 ⟨σ1,H1,I1,q1⟩=>?_)
  exact h2 pins s1 σ1 H1 _ _ Q I1 rr q1
noncomputable def SY(K:Frag)(n:Nat)(t:QV):TG:=fun v σ H Q=>∃a xs,v=.ref a/\SqT K H a xs/\xs.length=n/\t xs σ H Q
theorem Pl{es:List Expr}{k:Nat}{t:QV}{n:Nat}(hc:X.calm=true)(h:Ro X es t)
  (hn:autoParam ((assignEach es X.env).length=n) zau3._auto_1) (hst:autoParam ((assignEach es X.env).findIdx? (·.1)=none) zau3._auto_1):PG X (.Tuple es k pos) (SY X.K n t):=by
 intro pins s σ H v u Q I r hw
 obtain⟨a,xs,e1,hq,hl,hw⟩:=hw
 subst e1
 cases r
 obtain⟨its,rv,ht,hz⟩:=I.tuple hq
 refine assign_Tuple_tuple (I.ok.hd hc) ht (by simp [hn,← hl,rv.length]) hst fun h' hx=>?_
 have I1:Inv X pins σ H { s with heap:=h' }:=I.kept (t':=s.toks) fun b o e=>hx b o (Nat.ne_of_lt (Heap.lt_size e)) e
 exact h pins _ σ H xs _ Q I1 (by simpa using rv) hw
noncomputable def RN(to ti:TE)(t:QU):TG:=fun v σ H Q=>to σ H fun o H1=>ti σ H1 fun i H2=>t o i v H2 fun H3=>Q σ H3
theorem Iy{o i:Expr}{to ti:TE}{t:QU}(ho:PE X o to)(hi:PE X i ti)(hs:Rn X t)
  (ha:autoParam (∀v,assign (.Subscript o i pos) X.env v=(do
   let ov ← holding [v] (eval o X.env)
   let iv ← holding [v,ov] (eval i X.env)
   standAt pos
   holding [v,ov,iv] (setItem ov iv v)
   release [v,ov,iv] [])) zau2._auto_1):PG X (.Subscript o i pos) (RN to ti t):=by
 intro pins s σ H v u Q I r h
 rw [ha]
 refine wpAny_bind (wpAny_holding (A2 (ho pins s σ H _ I h) fun ov s1 ⟨x,H1,I1,r1,q1⟩=>?_))
 refine wpAny_bind (wpAny_holding (A2 (hi pins s1 σ H1 _ I1 q1) fun iv s2 ⟨y,H2,I2,r2,q2⟩=>?_))
 refine wpAny_bind (wpAny_standAt (wpAny_bind (wpAny_holding (A2 (hs pins s2 σ H2 x y v ov iv u _ I2 r1 r2 r q2) fun _ s3 ⟨H3,I3,q3⟩=>?_))))
 exact wpAny_release ⟨σ,H3,I3,q3⟩
noncomputable def HS(te:TE)(g:TG):TS:=fun D σ H=>te σ H fun x H1=>g x σ H1 D.nx
theorem Iu{tg e:Expr}{te:TE}{g:TG}(he:PE X e te)(hg:PG X tg g)(hs:autoParam (swapsWithSole [tg] e pos.line X.env=pure false) zau3._auto_1)(hw:autoParam (swappedStores [tg] e X.env=pure none) zau3._auto_1)
  (h1:autoParam ((assignEach [tg] X.env).map (·.2)=[assign tg X.env]) zau3._auto_1):PS X (.Assign [tg] e pos) (HS te g):=by
 intro pins s σ H D I h
 refine wpAny_Assign_stores (A2 (he pins s σ H _ I h) fun v s1 ⟨x,H1,I1,r1,q1⟩=>?_) hs hw
 rw [h1]
 exact A2 (hg pins s1 σ H1 x v _ I1 r1 q1) fun _ s2 q=>q
theorem C_{i:Nat}{x:Str}{e:Expr}{te:TE}{pos':Pos}(hN:X.N.Nodup)(hi:X.N[i]?=some x)(hx:Loc X.env.scope x)(he:PE X e te)(hs:autoParam (swapsWith e (some (.Name x pos')) pos.line X.env=pure false) zau3._auto_1)(hf:autoParam (X.fn x=true\/X.env.scope.names.lookup x=some .local) zau0._auto_1) :
  PS X (.Assign [.Name x pos'] e pos) (HS te (EM i)):=by
 intro pins s σ H D I h
 refine wpAny_Assign_Name (A2 (he pins s σ H _ I h) fun v s1 ⟨y,H1,I1,r1,q1⟩=>?_) hs
 exact HV I1 hN hi hx r1 (fun s2 I2=>⟨_,H1,I2,q1⟩) hf
end
section
variable {X:Cx}{pos:Pos}
end
structure It where
 go:Nat->Hp->Prop
 yld:Nat->Hp->V->Hp->Prop
 stop:Nat->Hp->Prop
noncomputable def EC(X:Cx)(pins:List (Addr×Obj))(H:Hp)(b:Addr):Prop :=
 H b=none/\b≠X.env.locals/\b∉X.fs/\(b∈X.ex\/X.s₀.heap.objs.size<=b)/\(∀x c,X.env.cells.lookup x=some c->c≠b)/\∀p∈X.pn++pins,p.1≠b
theorem Inv.fpOk{X:Cx}{pins:List (Addr×Obj)}{σ:St}{H H':Hp}{s:Shared}{b:Addr}(I:Inv X pins σ H s)(hb:s.heap.objs.size<=b)(hn:H' b=none):EC X pins H' b:=by
 refine⟨hn,Nat.ne_of_gt (Nat.lt_of_lt_of_le I.lt hb),I.nofs hb,.inr (Nat.le_trans I.sz hb),fun x c e z=>?_,fun p hp z=>?_⟩
 ·obtain⟨v,q⟩:=I.cell x c e
  exact absurd (Nat.lt_of_lt_of_le q.lt (by rw [z]; exact hb)) (Nat.lt_irrefl _)
 ·exact absurd (Nat.lt_of_lt_of_le (Heap.lt_size (I.pin p hp).1) (by rw [z]; exact hb)) (Nat.lt_irrefl _)
structure Turn (P:Program) (w:World) (K:Frag) (tg:Expr) (J:It) (fp:List Addr) (it:Addr) (tn:Nat->Heap->Prop):Prop where
 mem:it∈fp
 obj:∀i h,tn i h->∀b∈fp,∃o,h.get? b=some o/\∀v,o.data≠.cell v
 keep:∀i h h',tn i h->(∀b∈fp,∀o,h.get? b=some o->h'.get? b=some o)->tn i h'
 item:∀(X:Cx),X.prog=P->X.w=w->X.K=K->X.calm=true->∀(i:Nat) (pins:List (Addr×Obj)) (s:Shared) (σ:St) (H:Hp) (E:Value->Shared->Prop),Inv X pins σ H s->(∀b∈fp,EC X pins H b)->tn i s.heap->J.go i H ->
  wpAny (model P w) X.A (pyNext (.ref it)) (fun r s1=>∃u,r=some u /\
   wpAny (model P w) X.A (letOwnedTupleGo tg (.ref it) u) (fun _ s2=>∃x H',Inv X pins σ H' s2/\RelV x u/\J.yld i H x H'/\tn (i+1) s2.heap/\∀b∈fp,H' b=none) E s1) E s
 done:∀(X:Cx),X.prog=P->X.w=w->X.K=K->X.calm=true->∀(i:Nat) (pins:List (Addr×Obj)) (s:Shared) (σ:St) (H:Hp) (E:Value->Shared->Prop),Inv X pins σ H s->(∀b∈fp,EC X pins H b)->tn i s.heap->J.stop i H ->
  wpAny (model P w) X.A (pyNext (.ref it)) (fun r s1=>r=none/\Inv X pins σ H s1) E s
 self:∀(A:Around) (i:Nat) (s:Shared) (Q:Value->Shared->Prop) (E:Value->Shared->Prop),tn i s.heap->Q (.ref it) s->wpAny (model P w) A (pyIter (.ref it)) Q E s
noncomputable abbrev TI:=St->Hp->(It->Hp->Prop)->Prop
noncomputable def Sx(X:Cx)(pins:List (Addr×Obj))(σ:St)(tg:Expr)(R:It->Hp->Prop)(itv:Value)(s2:Shared):Prop :=
 ∃(it:Addr) (fp:List Addr) (tn:Nat->Heap->Prop) (J:It) (H':Hp),itv=.ref it/\Inv X pins σ H' s2/\Turn X.prog X.w X.K tg J fp it tn/\tn 0 s2.heap/\(∀b∈fp,EC X pins H' b)/\R J H'
noncomputable def PI(X:Cx)(tg iter:Expr)(wi:TI):Prop :=
 ∀(pins:List (Addr×Obj)) (s:Shared) (σ:St) (H:Hp) (R:It->Hp->Prop),Inv X pins σ H s->wi σ H R ->
  wpAny (model X.prog X.w) X.A (eval iter X.env) (fun v s1=>wpAny (model X.prog X.w) X.A (pyIter v) (Sx X pins σ tg R) X.xe s1) X.xe s
theorem Jz {M : Model} {A : Around} {E : Value → Shared → Prop} {s : Shared} {tg : Expr} {it : Addr} {u : Value} {o : Obj} {n : String} {vs : Array Value} {Q : Unit → Shared → Prop} (ho : s.heap.get? it = some o) (hc : o.cls = .type n) (hd : o.data = .fields vs)
    (hn : ["enumerate", "zip", "dict_itemiterator", "dict_reverseitemiterator", "odict_iterator", "itertools.zip_longest", "itertools.pairwise"].contains n = false) (hQ : Q () s) : wpAny M A (letOwnedTupleGo tg (.ref it) u) Q E s := by
  unfold letOwnedTupleGo
  cases tg <;> first
    | exact wpAny_pure hQ
    | (cases u <;> first
        | exact wpAny_pure hQ
        | (refine wpAny_bind (wpAny_load ho ?_)
           rw [hc, hd]
           show wpAny M A (if (["enumerate", "zip", "dict_itemiterator", "dict_reverseitemiterator", "odict_iterator", "itertools.zip_longest", "itertools.pairwise"].contains n && vs[0]? == some (rawInt _)) = true then _ else _) Q E s
           rw [if_neg (by intro h; rw [hn, Bool.false_and] at h; cases h)]
           exact wpAny_pure hQ))
noncomputable def S0(K:Frag)(a:Addr):It :=
 ⟨fun i H=>∃xs x,SqL K H a xs/\xs[i]?=some x,fun i H x H'=>H'=H/\∀xs,SqL K H a xs->xs[i]?=some x,fun i H=>∃xs,SqL K H a xs/\xs.length<=i⟩
noncomputable def Si(K:Frag)(a:Addr):It :=
 ⟨fun i H=>∃xs x,SqT K H a xs/\xs[i]?=some x,fun i H x H'=>H'=H/\∀xs,SqT K H a xs->xs[i]?=some x,fun i H=>∃xs,SqT K H a xs/\xs.length<=i⟩
noncomputable def SA(lo:Int)(n:Nat):It:=⟨fun i _=>i<n,fun i H x H'=>H'=H/\x=.int (lo+i),fun i _=>n<=i⟩
theorem KW{P:Program}{w:World}{K:Frag}{tg:Expr}(a it:Addr):Turn P w K tg (S0 K a) [it] it (fun i h=>h.IsListIter it a i) where
 mem:=by simp
 obj:=fun i h st b hb=>by
  have e:b=it:=by simpa using hb
  subst e
  obtain⟨o,e,c,d⟩:=st
  exact⟨o,e,fun v z=>by rw [d] at z; cases z⟩
 keep:=fun i h h' st k=>st.at fun o e=>k it (by simp) o e
 item:=by
  intro X hP hw hK hc i pins s σ H E I hf st hg
  subst hP hw hK
  obtain⟨xs,x,hq,hx⟩:=hg
  obtain⟨its,rv,p,hz⟩:=I.list hq
  obtain⟨u,hu,ru⟩:=rv.get hx
  obtain⟨f0,f1,f2,f3,f4,f5⟩:=hf it (by simp)
  refine wpAny_pyNext_list_item st p.isList (x:=u) (by simpa using hu) fun h' st' sb=>?_
  have I1:Inv X pins σ H { s with heap:=h' }:=I.turned (t':=s.toks) (fun b o hb e=>(sb.2 b hb).trans e) f0 f1 f3 f4 f5
  obtain⟨o,e,c,d⟩:=id st'
  exact⟨u,rfl,Jz (s:={ s with heap:=h' }) e c d (by decide) ⟨x,H,I1,ru,⟨rfl,fun ys hy=>by rw [I.list_inj hy hq]; exact hx⟩,st',fun b hb=>(hf b hb).1⟩⟩
 done:=by
  intro X hP hw hK hc i pins s σ H E I hf st hg
  subst hP hw hK
  obtain⟨xs,hq,hx⟩:=hg
  obtain⟨its,rv,p,hz⟩:=I.list hq
  obtain⟨f0,f1,f2,f3,f4,f5⟩:=hf it (by simp)
  have hl:=rv.length
  exact wpAny_pyNext_list_end (I.ok.hd hc) st p.isList (by simp; omega) fun h' eb=>⟨rfl,I.turned (t':=s.toks) (fun b o hb e=>eb b o hb e) f0 f1 f3 f4 f5⟩
 self:=fun _ _ _ _ _ st h=>wpAny_pyIter_listiter st h
theorem Ih{P:Program}{w:World}{K:Frag}{tg:Expr}(a it:Addr):Turn P w K tg (Si K a) [it] it (fun i h=>h.IsTupleIter it a i) where
 mem:=by simp
 obj:=fun i h st b hb=>by
  have e:b=it:=by simpa using hb
  subst e
  obtain⟨o,e,c,d⟩:=st
  exact⟨o,e,fun v z=>by rw [d] at z; cases z⟩
 keep:=fun i h h' st k=>st.at fun o e=>k it (by simp) o e
 item:=by
  intro X hP hw hK hc i pins s σ H E I hf st hg
  subst hP hw hK
  obtain⟨xs,x,hq,hx⟩:=hg
  obtain⟨its,rv,p,hz⟩:=I.tuple hq
  obtain⟨u,hu,ru⟩:=rv.get hx
  obtain⟨f0,f1,f2,f3,f4,f5⟩:=hf it (by simp)
  refine wpAny_pyNext_tuple_item st (show s.heap.IsTuple a its.toArray from p) (x:=u) (by simpa using hu) fun h' st' sb=>?_
  have I1:Inv X pins σ H { s with heap:=h' }:=I.turned (t':=s.toks) (fun b o hb e=>(sb.2 b hb).trans e) f0 f1 f3 f4 f5
  obtain⟨o,e,c,d⟩:=id st'
  exact⟨u,rfl,Jz (s:={ s with heap:=h' }) e c d (by decide) ⟨x,H,I1,ru,⟨rfl,fun ys hy=>by rw [I.tuple_inj hy hq]; exact hx⟩,st',fun b hb=>(hf b hb).1⟩⟩
 done:=by
  intro X hP hw hK hc i pins s σ H E I hf st hg
  subst hP hw hK
  obtain⟨xs,hq,hx⟩:=hg
  obtain⟨its,rv,p,hz⟩:=I.tuple hq
  obtain⟨f0,f1,f2,f3,f4,f5⟩:=hf it (by simp)
  have hl:=rv.length
  exact wpAny_pyNext_tuple_end (I.ok.hd hc) st (show s.heap.IsTuple a its.toArray from p) (by simp; omega) fun h' eb=>⟨rfl,I.turned (t':=s.toks) (fun b o hb e=>eb b o hb e) f0 f1 f3 f4 f5⟩
 self:=fun _ _ _ _ _ st h=>wpAny_pyIter_tupleiter st h
theorem Ii{P:Program}{w:World}{K:Frag}{tg:Expr}(it:Addr)(lo:Int)(n:Nat):Turn P w K tg (SA lo n) [it] it (fun i h=>IsRangeIter h it (lo+(i:Nat)*1) ((n:Int) - (i:Nat)) 1) where
 mem:=by simp
 obj:=fun i h st b hb=>by
  have e:b=it:=by simpa using hb
  subst e
  exact⟨_,st,fun v z=>by
   have z':Data.fields _=Data.cell v:=z
   cases z'⟩
 keep:=fun i h h' st k=>k it (by simp) _ st
 item:=by
  intro X hP hw hK hc i pins s σ H E I hf st hg
  subst hP hw hK
  obtain⟨f0,f1,f2,f3,f4,f5⟩:=hf it (by simp)
  have W:=Walks.range (prog:=X.prog) (w:=X.w) (I.ok.hd hc) it lo 1 n
  refine W.item i s _ _ hg st fun v h' tk hv st' kk=>?_
  obtain⟨t,rfl⟩:=hv
  have I1:Inv X pins σ H { s with heap:=h',toks:=tk }:=I.turned (fun b o hb e=>kk b o (by simpa using hb) e) f0 f1 f3 f4 f5
  refine⟨_,rfl,Jz (s:={ s with heap:=h',toks:=tk }) (n := "range_iterator") st' rfl rfl (by decide) ⟨.int (lo+i),H,I1,⟨t,?_⟩,⟨rfl,rfl⟩,st',fun b hb=>(hf b hb).1⟩⟩
  rw [Int.mul_one]
 done:=by
  intro X hP hw hK hc i pins s σ H E I hf st hg
  subst hP hw hK
  obtain⟨f0,f1,f2,f3,f4,f5⟩:=hf it (by simp)
  exact wpAny_pyNext_range_end (I.ok.hd hc) st (by have:n<=i:=hg; omega) fun h' eb=>⟨rfl,I.turned (t':=s.toks) (fun b o hb e=>eb b o hb e) f0 f1 f3 f4 f5⟩
 self:=fun _ _ _ _ _ st h=>wpAny_pyIter_rangeiter st h
section
variable {X:Cx}{tg:Expr}
theorem La{pins:List (Addr×Obj)}{σ:St}{H:Hp}{s:Shared}{R:It->Hp->Prop}{E:Value->Shared->Prop}{lo hi:Int}{t u v:Tok}{tk:Nat}(I:Inv X pins σ H s)(h1:-(2 ^ 62)<=lo)(h2:lo<2 ^ 62)(h3:-(2 ^ 62)<=hi)(h4:hi<2 ^ 62)
  (q:R (SA lo (hi - lo).toNat) H):wpAny (model X.prog X.w) X.A (pyIter (.ref s.heap.objs.size)) (Sx X pins σ tg R) E { s with heap:=s.heap.push { cls:=.type "range",data:=.fields #[.int lo t,.int hi u,.int 1 v] },toks:=tk }:=by
 refine wpAny_pyIter_range (IsRange.new ..) (small_one h1 h2 h3 h4) ?_
 have I1:Inv X pins σ H { s with heap:=s.heap.push { cls:=.type "range",data:=.fields #[.int lo t,.int hi u,.int 1 v] },toks:=tk }:=I.kept fun b o e=>Heap.get?_push_of_some _ e
 refine⟨(s.heap.push { cls:=.type "range",data:=.fields #[.int lo t,.int hi u,.int 1 v] }).objs.size,[(s.heap.push { cls:=.type "range",data:=.fields #[.int lo t,.int hi u,.int 1 v] }).objs.size],_,_,H,rfl,
  I1.kept (t':=tk) fun b o e=>Heap.get?_push_of_some _ e,Ii _ lo (hi - lo).toNat,?_,fun b hb=>?_,q⟩
 ·have e1:lo+((0:Nat):Int)*1=lo:=by simp
  have e2:(((hi - lo).toNat:Nat):Int) - ((0:Nat):Int)=Builtin.Range.rangeSize lo hi 1:=by rw [rangeSize_one]; split <;> omega
  show IsRangeIter _ _ (lo+((0:Nat):Int)*1) ((((hi - lo).toNat:Nat):Int) - ((0:Nat):Int)) 1
  rw [e1,e2]
  exact Heap.get?_push_size _ rfl
 ·have e:b=(s.heap.push { cls:=.type "range",data:=.fields #[.int lo t,.int hi u,.int 1 v] }).objs.size:=by simpa using hb
  subst e
  exact I1.fpOk (Nat.le_refl _) (I1.hok.fresh (Nat.le_refl _))
noncomputable def RL(ta:TA):TI:=fun σ H R=>ta σ H fun vs H1=>∃j:Int,vs=[.int j]/\-(2 ^ 62)<=j/\j<2 ^ 62/\R (SA 0 j.toNat) H1
theorem Kk{a:Expr}{ta:TA}{p pos:Pos}(hg:Gl X "range")(hm:X.mg "range"=none)(ha:PA X [a] ta)(hs:autoParam (starEach [a] X.env=[(false,eval a X.env)]) zau3._auto_1):PI X tg (.Call (.Name "range" p) [a] [] pos) (RL ta):=by
 intro pins s σ H R I h
 refine Call_ (E5 I hg hm boot_range (PyProof.Rows.callWith_type1 (A2 (ha pos pins s σ H _ I h) fun us s1 ⟨vs,H1,I1,r1,q1⟩=>?_) hs rfl))
 obtain⟨j,e,q1,q2,q⟩:=q1
 subst e
 cases r1 with
 | cons r rr =>
  cases rr
  obtain⟨t,rfl⟩:=r
  exact call_range_1 (La I1 (by omega) (by omega) q1 q2 (by simpa using q))
noncomputable def SN(wi:TI)(g:TG)(tb:TS):TS:=fun D σ H=>wi σ H fun J H1=>∃W:Nat->Nat->St->Hp->Prop,(∃m,W 0 m σ H1)/\∀i m σ H,W i m σ H ->
 (J.stop i H/\D.nx σ H)\/(J.go i H/\∃N:St->Hp->Prop,(∀σ' H',N σ' H'->∃m',m'<m/\W (i+1) m' σ' H')/\∀x H',J.yld i H x H'->g x σ H' fun σ2 H2=>tb { D with nx:=N,ct:=N,bk:=D.nx } σ2 H2)
noncomputable def Ew(fp:List Addr)(h:Heap):List (Addr×Obj):=fp.filterMap fun b=>(h.get? b).map fun o=>(b,o)
theorem CP{fp:List Addr}{h:Heap}{b:Addr}{o:Obj}(hb:b∈fp)(e:h.get? b=some o):(b,o)∈Ew fp h:=List.mem_filterMap.mpr ⟨b,hb,by rw [e]; rfl⟩
theorem Kr{fp:List Addr}{h:Heap}{p:Addr×Obj}(hp:p∈Ew fp h):p.1∈fp/\h.get? p.1=some p.2:=by
 obtain⟨b,hb,e⟩:=List.mem_filterMap.mp hp
 cases q:h.get? b with
 | none=>rw [q] at e; cases e
 | some o =>
  rw [q] at e
  have e':(b,o)=p:=Option.some.inj e
  subst e'
  exact⟨hb,q⟩
theorem Inv.pinned{pins:List (Addr×Obj)}{σ:St}{H:Hp}{s:Shared}{fp:List Addr}(I:Inv X pins σ H s)(hf:∀b∈fp,EC X pins H b)(ho:∀b∈fp,∃o,s.heap.get? b=some o/\∀v,o.data≠.cell v):Inv X (pins++Ew fp s.heap) σ H s :=
 I.pins_of fun p hp=>(List.mem_append.mp hp).elim (fun z=>I.pin p (List.mem_append_right _ z)) fun z=>by
  obtain⟨hb,e⟩:=Kr z
  obtain⟨f0,f1,f2,_⟩:=hf p.1 hb
  obtain⟨o,e',d⟩:=ho p.1 hb
  rw [e] at e'; cases e'
  exact⟨e,f0,f1,f2,d⟩
theorem Inv.unpinned{pins pl:List (Addr×Obj)}{σ:St}{H:Hp}{s:Shared}(I:Inv X (pins++pl) σ H s):Inv X pins σ H s:=I.pins_of fun p hp=>I.pin p (List.mem_append_right _ (List.mem_append_left _ hp))
theorem Ir{iter:Expr}{body:List Stmt}{wi:TI}{g:TG}{tb:TS}{pos:Pos}(hp:PassesOwn (model X.prog X.w) X.A X.env X.xe)(hc:X.calm=true)(hi:PI X tg iter wi)(hg:PG X tg g)(hb:PSs X body tb)
  (hs:autoParam (∀x,foldedSetIterable iter X.env x=pure x) zau2._auto_1):PS X (.For tg iter body [] pos) (SN wi g tb):=by
 intro pins s σ H D I h
 refine wpAny_For (A2 (hi pins s σ H _ I h) fun v s1 h1=>A2 h1 fun itv s2 h2=>?_) hs
 obtain⟨it,fp,tn,J,H2,e,I2,T,st2,f2,W,⟨m0,w0⟩,turn⟩:=h2
 subst e
 have stat:∀{H':Hp},(∀b∈fp,H' b=none)->∀b∈fp,EC X pins H' b:=fun hn b hb=>⟨hn b hb,(f2 b hb).2⟩
 refine codeAny_forLoop_any (fun n s'=>∃i σ' H',Inv X pins σ' H' s'/\tn i s'.heap/\(∀b∈fp,H' b=none)/\W i n σ' H') ?_ m0 ⟨0,σ,H2,I2,st2,fun b hb=>(f2 b hb).1,w0⟩
 rintro n s3 ⟨i,σ3,H3,I3,st3,fr3,w3⟩
 rcases turn i n σ3 H3 w3 with ⟨stop,qn⟩ | ⟨go,N,hN,step⟩
 ·refine wpAny_passesOwn hp (A2 (T.done X rfl rfl rfl hc i pins s3 σ3 H3 X.xe I3 (stat fr3) st3 stop) fun r s4 ⟨hr,I4⟩=>?_)
  subst hr
  exact wpAny_execs_nil ⟨σ3,H3,I4,qn⟩
 ·refine wpAny_passesOwn hp (A2 (T.item X rfl rfl rfl hc i pins s3 σ3 H3 X.xe I3 (stat fr3) st3 go) fun r s4 ⟨u,hr,h4⟩=>?_)
  subst hr
  refine wpAny_passesOwn hp (A2 h4 fun _ s5 ⟨x,H5,I5,r5,y5,st5,fr5⟩=>?_)
  have I5':=I5.pinned (stat fr5) (T.obj _ _ st5)
  refine wpAny_passesOwn hp (A2 (hg _ s5 σ3 H5 x u _ I5' r5 (step x H5 y5)) fun _ s6 ⟨σ6,H6,I6,q6⟩=>?_)
  refine wpAny_passesOwn hp (A2 (hb _ s6 σ6 H6 _ I6 q6) fun f s7 q7=>?_)
  have again:∀{σ7:St} {H7:Hp},Inv X (pins++Ew fp s5.heap) σ7 H7 s7->N σ7 H7->∃m,m<n/\∃i σ' H',Inv X pins σ' H' s7/\tn i s7.heap/\(∀b∈fp,H' b=none)/\W i m σ' H':=fun {σ7 H7} I7 n7=>by
   obtain⟨m',hm,w7⟩:=hN σ7 H7 n7
   refine⟨m',hm,i+1,σ7,H7,I7.unpinned,T.keep _ _ _ st5 fun b hb o e=>(I7.pin (b,o) (List.mem_append_right _ (List.mem_append_right _ (CP hb e)))).1,fun b hb=>?_,w7⟩
   obtain⟨o,e,d⟩:=T.obj _ _ st5 b hb
   exact(I7.pin (b,o) (List.mem_append_right _ (List.mem_append_right _ (CP hb e)))).2.1
  cases f with
  | next=>obtain⟨σ7,H7,I7,n7⟩:=q7; exact again I7 n7
  | cont=>obtain⟨σ7,H7,I7,n7⟩:=q7; exact again I7 n7
  | brk=>obtain⟨σ7,H7,I7,q7⟩:=q7; exact⟨σ7,H7,I7.unpinned,q7⟩
  | ret v=>obtain⟨x7,σ7,H7,I7,r7,q7⟩:=q7; exact⟨x7,σ7,H7,I7.unpinned,r7,q7⟩
end
noncomputable abbrev R2:=V->V->Hp->VK->Prop
noncomputable def OpR(X:Cx)(f:Value->Value->Sem Value)(r:R2):Prop :=
 ∀(pins:List (Addr×Obj)) (s:Shared) (σ:St) (H:Hp) (x y:V) (v u:Value) (Q:VK),Inv X pins σ H s->RelV x v->RelV y u->r x y H Q ->
  wpAny (model X.prog X.w) X.A (f v u) (EP X pins σ Q) X.xe s
noncomputable def Sf(X:Cx)(f:Value->Sem Value)(r:V->Hp->VK->Prop):Prop :=
 ∀(pins:List (Addr×Obj)) (s:Shared) (σ:St) (H:Hp) (x:V) (v:Value) (Q:VK),Inv X pins σ H s->RelV x v->r x H Q ->
  wpAny (model X.prog X.w) X.A (f v) (EP X pins σ Q) X.xe s
noncomputable def Bu(X:Cx)(f:Value)(r:List V->Hp->VK->Prop):Prop :=
 ∀(pins:List (Addr×Obj)) (s:Shared) (σ:St) (H:Hp) (xs:List V) (us:List Value) (Q:VK),Inv X pins σ H s->Vals xs us->r xs H Q ->
  wpAny (model X.prog X.w) X.A (call f us) (EP X pins σ Q) X.xe s
noncomputable def Sg(X:Cx)(r:V->Hp->(Bool->Hp->Prop)->Prop):Prop :=
 ∀(pins:List (Addr×Obj)) (s:Shared) (σ:St) (H:Hp) (x:V) (v:Value) (Q:Bool->Hp->Prop),Inv X pins σ H s->RelV x v->r x H Q ->
  wpAny (model X.prog X.w) X.A (truthy v) (TP X pins σ Q) X.xe s
noncomputable def CI(r:R2)(ta tb:TE):TE:=fun σ H Q=>ta σ H fun x H1=>tb σ H1 fun y H2=>r x y H2 Q
noncomputable def S2(r:V->Hp->VK->Prop)(ta:TE):TE:=fun σ H Q=>ta σ H fun x H1=>r x H1 Q
noncomputable def rI(C:Int->Int->Prop)(g:Int->Int->V):R2:=fun x y H Q=>∃i j,x=.int i/\y=.int j/\C i j/\Q (g i j) H
noncomputable def EW(g:Int->Int->V):R2:=fun x y H Q=>∃i j,x=.int i/\y=.int j/\Q (g i j) H
noncomputable def rU(g:Int->V):V->Hp->VK->Prop:=fun x H Q=>∃i,x=.int i/\Q (g i) H
section
variable {X:Cx}{a b c:Expr}{ta tb tc:TE}{pos:Pos}
theorem QM(ha:PE X a ta)(hb:PE X b tb){pins:List (Addr×Obj)}{s:Shared}{σ:St}{H:Hp}{R:V->V->Hp->Prop}(I:Inv X pins σ H s)
  (h:ta σ H fun x H1=>tb σ H1 fun y H2=>R x y H2) {Q:Value->Shared->Prop} {f:Value->Value->Sem Value}
  (hf:∀v u s2 x y H2,Inv X pins σ H2 s2->RelV x v->RelV y u->R x y H2->wpAny (model X.prog X.w) X.A (f v u) Q X.xe s2) :
  wpAny (model X.prog X.w) X.A (eval a X.env) (fun v s₁=>wpAny (model X.prog X.w) X.A (eval b X.env) (fun u s₂=>wpAny (model X.prog X.w) X.A (f v u) Q X.xe s₂) X.xe s₁) X.xe s:=by
 refine A2 (ha pins s σ H _ I h) fun v s1 ⟨x,H1,I1,r1,q1⟩=>?_
 refine A2 (hb pins s1 σ H1 _ I1 q1) fun u s2 ⟨y,H2,I2,r2,q2⟩=>?_
 exact hf v u s2 x y H2 I2 r1 r2 q2
theorem BD{op:Operator}{r:R2}(ho:OpR X (binaryOp op) r)(ha:PE X a ta)(hb:PE X b tb):PE X (.BinOp a op b pos) (CI r ta tb):=by
 intro pins s σ H Q I h
 exact wpAny_BinOp (QM ha hb I h fun v u s2 x y H2 I2 rx ry q=>ho pins s2 σ H2 x y v u Q I2 rx ry q)
theorem RD{op:UnaryOp}{r:V->Hp->VK->Prop}(ho:Sf X (unaryOp op) r)(ha:PE X a ta):PE X (.UnaryOp op a pos) (S2 r ta):=by
 intro pins s σ H Q I h
 exact UnaryOp_ (A2 (ha pins s σ H _ I h) fun v s1 ⟨x,H1,I1,r1,q1⟩=>ho pins s1 σ H1 x v Q I1 r1 q1)
theorem R0{f:Value->Value->Sem Value}{C:Int->Int->Prop}{g:Int->Int->Int}
  (rule:∀(i j:Int) (t u:Tok) (s:Shared) (Q:Value->Shared->Prop) (E:Value->Shared->Prop),C i j->Q (.int (g i j) s.toks) { s with toks:=s.toks+1 }->wpAny (model X.prog X.w) X.A (f (.int i t) (.int j u)) Q E s) :
  OpR X f (rI C fun i j=>.int (g i j)):=by
 intro pins s σ H x y v u Q I rx ry h
 obtain⟨i,j,rfl,rfl,hc,q⟩:=h
 obtain⟨t,rfl⟩:=rx
 obtain⟨t',rfl⟩:=ry
 exact rule i j t t' s _ _ hc ⟨.int (g i j),H,I.tok _,⟨_,rfl⟩,q⟩
theorem RH{f:Value->Value->Sem Value}{g:Int->Int->Int}
  (rule:∀(i j:Int) (t u:Tok) (s:Shared) (Q:Value->Shared->Prop) (E:Value->Shared->Prop),Q (.int (g i j) s.toks) { s with toks:=s.toks+1 }->wpAny (model X.prog X.w) X.A (f (.int i t) (.int j u)) Q E s) :
  OpR X f (EW fun i j=>.int (g i j)):=by
 intro pins s σ H x y v u Q I rx ry h
 obtain⟨i,j,rfl,rfl,q⟩:=h
 obtain⟨t,rfl⟩:=rx
 obtain⟨t',rfl⟩:=ry
 exact rule i j t t' s _ _ ⟨.int (g i j),H,I.tok _,⟨_,rfl⟩,q⟩
theorem Nz{f:Value->Value->Sem Value}{g:Int->Int->Bool}
  (rule:∀(i j:Int) (t u:Tok) (s:Shared) (Q:Value->Shared->Prop) (E:Value->Shared->Prop),Q (.bool (g i j)) s->wpAny (model X.prog X.w) X.A (f (.int i t) (.int j u)) Q E s) :
  OpR X f (EW fun i j=>.bl (g i j)):=by
 intro pins s σ H x y v u Q I rx ry h
 obtain⟨i,j,rfl,rfl,q⟩:=h
 obtain⟨t,rfl⟩:=rx
 obtain⟨t',rfl⟩:=ry
 exact rule i j t t' s _ _ ⟨.bl (g i j),H,I,rfl,q⟩
noncomputable def NI(i j:Int):Prop:=0<j/\j<1073741824
noncomputable def Oa(i j:Int):Prop:=0<=j/\j<=1000000/\i.natAbs<2 ^ 64
noncomputable def CMul(i j:Int):Prop:=(-(2 ^ 64)<i/\i<2 ^ 64)\/(-(2 ^ 64)<j/\j<2 ^ 64)
theorem CMul.ok{i j:Int}(h:CMul i j):IntMulOk i j:=by
 rcases h with ⟨h1,h2⟩ | ⟨h1,h2⟩
 ·exact .of_left (intBits_le_64 h1 h2)
 ·exact .of_right (intBits_le_64 h1 h2)
theorem op_add:OpR X (binaryOp .Add) (EW fun i j=>.int (i+j)):=RH fun _ _ _ _ _ _ _ q=>add_int q
theorem op_sub:OpR X (binaryOp .Sub) (EW fun i j=>.int (i - j)):=RH fun _ _ _ _ _ _ _ q=>sub_int q
theorem op_mul:OpR X (binaryOp .Mult) (rI CMul fun i j=>.int (i*j)):=R0 fun _ _ _ _ _ _ _ hc q=>mul_int q hc.ok
theorem EZ:OpR X (binaryOp .FloorDiv) (rI NI fun i j=>.int (i / j)):=R0 fun i j _ _ _ _ _ hc q=>by
 have h1:(0:Int)<j:=hc.1
 have h2:j<1073741824:=hc.2
 exact floordiv_int (by omega) (by rw [Int.fdiv_eq_ediv_of_nonneg i (by omega)]; exact q) (.inl (PyProof.noPylong_small (by omega)))
theorem CB:OpR X (binaryOp .Mod) (rI (fun _ j=>0<j) fun i j=>.int (i % j)):=R0 fun i j _ _ _ _ _ hc q=>by
 have h1:(0:Int)<j:=hc
 exact mod_int' (by omega) (by rw [Int.fmod_eq_emod_of_nonneg i (by omega)]; exact q)
theorem Ly:OpR X (binaryOp .Pow) (rI Oa fun i j=>.int (i ^ j.toNat)):=R0 fun _ _ _ _ _ _ _ hc q=>pow_int_small hc.1 hc.2.1 hc.2.2 q
theorem S1{f:Value->Sem Value}{g:Int->Int}
  (rule:∀(i:Int) (t:Tok) (s:Shared) (Q:Value->Shared->Prop) (E:Value->Shared->Prop),Q (.int (g i) s.toks) { s with toks:=s.toks+1 }->wpAny (model X.prog X.w) X.A (f (.int i t)) Q E s) :
  Sf X f (rU fun i=>.int (g i)):=by
 intro pins s σ H x v Q I rx h
 obtain⟨i,rfl,q⟩:=h
 obtain⟨t,rfl⟩:=rx
 exact rule i t s _ _ ⟨.int (g i),H,I.tok _,⟨_,rfl⟩,q⟩
theorem PR:Sf X (unaryOp .USub) (rU fun i=>.int (-i)):=S1 fun _ _ _ _ _ q=>neg_int q
end
noncomputable def Qy:V->V->Bool
 | .non,.non=>true | .non,.int _=>true | .int _,.non=>true | .non,.bl _=>true | .bl _,.non=>true | .non,.str _=>true | .str _,.non=>true
 | .int _,.int _=>true | .bl _,.bl _=>true | .str _,.str _=>true | .byt _,.byt _=>true
 | .int _,.str _=>true | .str _,.int _=>true | .bl _,.str _=>true | .str _,.bl _=>true
 | _,_=>false
noncomputable def Su:R2:=fun x y H Q=>Qy x y=true/\Q (.bl (decide (x=y))) H
noncomputable def Sq:R2:=fun x y H Q=>Qy x y=true/\Q (.bl (!decide (x=y))) H
theorem Ee{i j:Int}:decide (V.int i=V.int j)=(i==j):=by
 rw [Bool.eq_iff_iff]
 simp
theorem G8{i j:Bool}:decide (V.bl i=V.bl j)=(i==j):=by
 rw [Bool.eq_iff_iff]
 simp
theorem Ec{i j:Str}:decide (V.str i=V.str j)=(i==j):=by
 rw [Bool.eq_iff_iff]
 simp
theorem J7{i j:Array UInt8}:decide (V.byt i=V.byt j)=(i.toList==j.toList):=by
 rw [Bool.eq_iff_iff]
 cases i
 cases j
 simp
section
variable {X:Cx}{a b c:Expr}{ta tb tc:TE}{pos:Pos}
theorem AV{pins:List (Addr×Obj)}{σ:St}{H:Hp}{s:Shared}{Q:VK}{k k':Bool}(I:Inv X pins σ H s)(q:Q (.bl k) H)(e:k=k'):EP X pins σ Q (.bool k') s:=by
 subst e
 exact⟨.bl k,H,I,rfl,q⟩
theorem DV:OpR X (compareOp .Eq) Su:=by
 intro pins s σ H x y v u Q I rx ry h
 obtain⟨hs,q⟩:=h
 cases x with
 | non =>
  cases rx
  cases y with
  | non=>cases ry; exact PySem.EqNone.eq_none_none (AV I q (by simp))
  | bl j=>cases ry; exact PySem.EqNone.eq_none_bool (AV I q (by simp))
  | int j=>obtain⟨t',rfl⟩:=ry; exact PySem.EqNone.eq_none_int (AV I q (by simp))
  | str j=>obtain⟨t',rfl⟩:=ry; exact PySem.EqNone.eq_none_str (AV I q (by simp))
  | _=>exact absurd (show false=true from hs) Bool.false_ne_true
 | bl i =>
  cases rx
  cases y with
  | non=>cases ry; exact PySem.EqNone.eq_bool_none (AV I q (by simp))
  | bl j=>cases ry; exact eq_bool (AV I q G8)
  | str j=>obtain⟨t',rfl⟩:=ry; exact PySem.EqMixed.eq_bool_str (AV I q (by simp))
  | _=>exact absurd (show false=true from hs) Bool.false_ne_true
 | int i =>
  obtain⟨t,rfl⟩:=rx
  cases y with
  | non=>cases ry; exact PySem.EqNone.eq_int_none (AV I q (by simp))
  | int j=>obtain⟨t',rfl⟩:=ry; exact eq_int (AV I q Ee)
  | str j=>obtain⟨t',rfl⟩:=ry; exact PySem.EqMixed.eq_int_str (AV I q (by simp))
  | _=>exact absurd (show false=true from hs) Bool.false_ne_true
 | str i =>
  obtain⟨t,rfl⟩:=rx
  cases y with
  | non=>cases ry; exact PySem.EqNone.eq_str_none (AV I q (by simp))
  | bl j=>cases ry; exact PySem.EqMixed.eq_str_bool (AV I q (by simp))
  | int j=>obtain⟨t',rfl⟩:=ry; exact PySem.EqMixed.eq_str_int (AV I q (by simp))
  | str j=>obtain⟨t',rfl⟩:=ry; exact eq_str (AV I q Ec)
  | _=>exact absurd (show false=true from hs) Bool.false_ne_true
 | byt i =>
  obtain⟨t,rfl⟩:=rx
  cases y with
  | byt j=>obtain⟨t',rfl⟩:=ry; exact PySem.W.eq_bytes (AV I q J7)
  | _=>exact absurd (show false=true from hs) Bool.false_ne_true
 | _=>cases y <;> exact absurd (show false=true from hs) Bool.false_ne_true
theorem Jr:OpR X (compareOp .NotEq) Sq:=by
 intro pins s σ H x y v u Q I rx ry h
 obtain⟨hs,q⟩:=h
 cases x with
 | non =>
  cases rx
  cases y with
  | non=>cases ry; exact PySem.EqNone.ne_none_none (AV I q (by simp))
  | bl j=>cases ry; exact PySem.EqNone.ne_none_bool (AV I q (by simp))
  | int j=>obtain⟨t',rfl⟩:=ry; exact PySem.EqNone.ne_none_int (AV I q (by simp))
  | str j=>obtain⟨t',rfl⟩:=ry; exact PySem.EqNone.ne_none_str (AV I q (by simp))
  | _=>exact absurd (show false=true from hs) Bool.false_ne_true
 | bl i =>
  cases rx
  cases y with
  | non=>cases ry; exact PySem.EqNone.ne_bool_none (AV I q (by simp))
  | bl j=>cases ry; exact ne_bool (AV I q (congrArg not G8))
  | str j=>obtain⟨t',rfl⟩:=ry; exact PySem.EqMixed.ne_bool_str (AV I q (by simp))
  | _=>exact absurd (show false=true from hs) Bool.false_ne_true
 | int i =>
  obtain⟨t,rfl⟩:=rx
  cases y with
  | non=>cases ry; exact PySem.EqNone.ne_int_none (AV I q (by simp))
  | int j=>obtain⟨t',rfl⟩:=ry; exact ne_int (AV I q (congrArg not Ee))
  | str j=>obtain⟨t',rfl⟩:=ry; exact PySem.EqMixed.ne_int_str (AV I q (by simp))
  | _=>exact absurd (show false=true from hs) Bool.false_ne_true
 | str i =>
  obtain⟨t,rfl⟩:=rx
  cases y with
  | non=>cases ry; exact PySem.EqNone.ne_str_none (AV I q (by simp))
  | bl j=>cases ry; exact PySem.EqMixed.ne_str_bool (AV I q (by simp))
  | int j=>obtain⟨t',rfl⟩:=ry; exact PySem.EqMixed.ne_str_int (AV I q (by simp))
  | str j=>obtain⟨t',rfl⟩:=ry; exact ne_str (AV I q (congrArg not Ec))
  | _=>exact absurd (show false=true from hs) Bool.false_ne_true
 | byt i =>
  obtain⟨t,rfl⟩:=rx
  cases y with
  | byt j=>obtain⟨t',rfl⟩:=ry; exact PySem.W.ne_bytes (AV I q (congrArg not J7))
  | _=>exact absurd (show false=true from hs) Bool.false_ne_true
 | _=>cases y <;> exact absurd (show false=true from hs) Bool.false_ne_true
theorem op_lt:OpR X (compareOp .Lt) (EW fun i j=>.bl (decide (i<j))):=Nz fun _ _ _ _ _ _ _ q=>lt_int q
theorem op_le:OpR X (compareOp .LtE) (EW fun i j=>.bl (decide (i<=j))):=Nz fun _ _ _ _ _ _ _ q=>le_int q
theorem O3:OpR X (compareOp .Gt) (EW fun i j=>.bl (decide (j<i))):=Nz fun _ _ _ _ _ _ _ q=>gt_int q
theorem RG:OpR X (compareOp .GtE) (EW fun i j=>.bl (decide (j<=i))):=Nz fun _ _ _ _ _ _ _ q=>ge_int q
theorem Ko:OpR X (compareOp .Lt) (fun x y H Q=>∃i j,x=.str i/\y=.str j/\Q (.bl (decide (i.cps.toList<j.cps.toList))) H):=by
 intro pins s σ H x y v u Q I rx ry h
 obtain⟨i,j,rfl,rfl,q⟩:=h
 obtain⟨t,rfl⟩:=rx
 obtain⟨t',rfl⟩:=ry
 exact lt_str (AV I q rfl)
theorem Kq:OpR X (compareOp .In) (fun x y H Q=>∃i j,x=.str i/\y=.str j/\Q (.bl (!(Builtin.Str.occurrences j i 0 j.length 1).isEmpty)) H):=by
 intro pins s σ H x y v u Q I rx ry h
 obtain⟨i,j,rfl,rfl,q⟩:=h
 obtain⟨t,rfl⟩:=rx
 obtain⟨t',rfl⟩:=ry
 exact in_str (AV I q rfl)
theorem Nx:OpR X (compareOp .IsNot) (fun x y H Q=>y=.non/\Q (.bl (!decide (x=.non))) H):=by
 intro pins s σ H x y v u Q I rx ry h
 obtain⟨rfl,q⟩:=h
 cases ry
 refine isnot_none_gen (AV I q ?_)
 cases x <;> first
  | (cases rx; rfl)
  | (obtain⟨t,rfl⟩:=rx; rfl)
theorem OpR.or{f:Value->Value->Sem Value}{r r':R2}(h:OpR X f r)(h':OpR X f r'):OpR X f (fun x y H Q=>r x y H Q\/r' x y H Q):=by
 intro pins s σ H x y v u Q I rx ry q
 rcases q with q | q
 ·exact h pins s σ H x y v u Q I rx ry q
 ·exact h' pins s σ H x y v u Q I rx ry q
theorem Ab(b:Expr){op:CmpOp}(h:autoParam (op≠.In) zau1._auto_1)(h2:autoParam (op≠.NotIn) zau1._auto_1):behindInMarks op b=false:=by
 have e1:(op==CmpOp.In)=false:=by cases op <;> first | rfl | exact absurd rfl h
 have e2:(op==CmpOp.NotIn)=false:=by cases op <;> first | rfl | exact absurd rfl h2
 cases b <;> simp [behindInMarks,e1,e2]
theorem Nq{op:CmpOp}{r:R2}(ho:OpR X (compareOp op) r)(ha:PE X a ta)(hb:PE X b tb)(hm:behindInMarks op b=false):PE X (.Compare a [op] [b] pos) (CI r ta tb):=by
 intro pins s σ H Q I h
 exact wpAny_Compare1 (QM ha hb I h fun v u s2 x y H2 I2 rx ry q=>ho pins s2 σ H2 x y v u Q I2 rx ry q) hm
noncomputable def Jd(t:TE):TT:=fun σ H Q=>t σ H fun x H'=>∃k,x=.bl k/\Q k H'
theorem DQ{op:CmpOp}{r:R2}(ho:OpR X (compareOp op) r)(ha:PE X a ta)(hb:PE X b tb)(hm:behindInMarks op b=false):PT X (.Compare a [op] [b] pos) (Jd (CI r ta tb)):=by
 intro pins s σ H Q I h
 refine wpAny_isTrue_Compare1 (A2 (ha pins s σ H _ I h) fun v s1 ⟨x,H1,I1,r1,q1⟩=>A2 (hb pins s1 σ H1 _ I1 q1) fun u s2 ⟨y,H2,I2,r2,q2⟩ =>
  A2 (ho pins s2 σ H2 x y v u _ I2 r1 r2 q2) fun c s3 ⟨z,H3,I3,r3,k,e,q3⟩=>?_) hm
 subst e
 cases r3
 exact wpAny_truthy_bool ⟨H3,I3,q3⟩
noncomputable def Ij(r r':R2)(ta tb tc:TE):TE:=fun σ H Q=>ta σ H fun x H1=>tb σ H1 fun y H2=>r x y H2 fun z H3=>∃k,z=.bl k /\
 (if k=true then tc σ H3 fun w' H4=>r' y w' H4 Q else Q (.bl false) H3)
theorem Lu{op op':CmpOp}{r r':R2}(ho:OpR X (compareOp op) r)(ho':OpR X (compareOp op') r')(ha:PE X a ta)(hb:PE X b tb)(hc:PE X c tc)
  (hm:autoParam (lastMarks [op,op'] [b,c]=false) zau4._auto_1):PE X (.Compare a [op,op'] [b,c] pos) (Ij r r' ta tb tc):=by
 intro pins s σ H Q I h
 refine Compare_chain (A2 (ha pins s σ H _ I h) fun v s1 ⟨x,H1,I1,r1,q1⟩=>chain_link (A2 (hb pins s1 σ H1 _ I1 q1) fun u s2 ⟨y,H2,I2,r2,q2⟩ =>
  A2 (ho pins s2 σ H2 x y v u _ I2 r1 r2 q2) fun d s3 ⟨z,H3,I3,r3,k,e,q3⟩=>?_)) hm
 subst e
 cases r3
 refine wpAny_truthy_bool ?_
 cases k with
 | false=>exact ite_ff ⟨.bl false,H3,I3,rfl,q3⟩
 | true=>exact ite_tt (chain_last (A2 (hc pins s3 σ H3 _ I3 q3) fun w' s4 ⟨z',H4,I4,r4,q4⟩=>ho' pins s4 σ H4 y z' u w' Q I4 r2 r4 q4))
theorem Lm{op op':CmpOp}{r r':R2}(ho:OpR X (compareOp op) r)(ho':OpR X (compareOp op') r')(ha:PE X a ta)(hb:PE X b tb)(hc:PE X c tc)
  (hm:autoParam (lastMarks [op,op'] [b,c]=false) zau4._auto_1):PT X (.Compare a [op,op'] [b,c] pos) (Jd (Ij r r' ta tb tc)):=by
 intro pins s σ H Q I h
 refine isTrue_chain (A2 (ha pins s σ H _ I h) fun v s1 ⟨x,H1,I1,r1,q1⟩=>test_link (A2 (hb pins s1 σ H1 _ I1 q1) fun u s2 ⟨y,H2,I2,r2,q2⟩ =>
  A2 (ho pins s2 σ H2 x y v u _ I2 r1 r2 q2) fun d s3 ⟨z,H3,I3,r3,k,e,q3⟩=>?_)) hm
 subst e
 cases r3
 refine wpAny_truthy_bool ?_
 cases k with
 | false =>
  obtain⟨k',e',q'⟩:=q3
  cases e'
  exact ite_ff ⟨H3,I3,q'⟩
 | true =>
  refine ite_tt (test_last (A2 (hc pins s3 σ H3 _ I3 q3) fun w' s4 ⟨z',H4,I4,r4,q4⟩=>A2 (ho' pins s4 σ H4 y z' u w' _ I4 r2 r4 q4) fun d' s5 ⟨z2,H5,I5,r5,k2,e2,q5⟩=>?_))
  subst e2
  cases r5
  exact wpAny_truthy_bool ⟨H5,I5,q5⟩
noncomputable def OX(K:Frag)(x:V)(H:Hp)(k:Bool):Prop :=
 match x with
 | .non=>k=false
 | .bl b=>k=b
 | .int i=>k=(i != 0)
 | .str y=>y.length<=sizeLine/\k=((y.length:Int) != 0)
 | .byt y=>y.size<=sizeLine/\k=((y.size:Int) != 0)
 | .ref p=>(∃xs,SqL K H p xs/\k=!xs.isEmpty)\/(∃xs,SqT K H p xs/\k=!xs.isEmpty)\/∃kvs,H p=some (.dK kvs)/\k=!kvs.isEmpty
 | _=>False
theorem JJ{κ:Type}{kvs:List (κ×V)}{vs:List (κ×Value)}(r:KV kvs vs):(!vs.isEmpty)=!kvs.isEmpty:=by
 cases r <;> rfl
theorem E8{xs:List V}{its:List Value}(r:Vals xs its):(!its.toArray.isEmpty)=!xs.isEmpty:=by
 cases r <;> simp
theorem D7:(sizeLine:Nat)<2 ^ 63:=by rw [sizeLine_eq]; decide
theorem LM:Sg X (fun x H Q=>∃k,OX X.K x H k/\Q k H):=by
 intro pins s σ H x v Q I rx h
 obtain⟨k,e,q⟩:=h
 have hl:=D7
 have hs:sizeLine=16777216:=sizeLine_eq
 cases x with
 | non =>
  cases rx
  have e':k=false:=e
  subst e'
  exact truthy_none ⟨H,I,q⟩
 | bl b =>
  cases rx
  have e':k=b:=e
  subst e'
  exact wpAny_truthy_bool ⟨H,I,q⟩
 | int i =>
  obtain⟨t,rfl⟩:=rx
  have e':k=(i != 0):=e
  subst e'
  exact PySem.P.truthy_int ⟨H,I,q⟩
 | str y =>
  obtain⟨t,rfl⟩:=rx
  obtain⟨hy,e'⟩:y.length<=sizeLine/\k=((y.length:Int) != 0):=e
  subst e'
  exact PySem.P.truthy_str (by omega) ⟨H,I.tok _,q⟩
 | byt y =>
  obtain⟨t,rfl⟩:=rx
  obtain⟨hy,e'⟩:y.size<=sizeLine/\k=((y.size:Int) != 0):=e
  subst e'
  exact PySem.W.truthy_bytes (by omega) ⟨H,I.tok _,q⟩
 | ref p =>
  cases rx
  have e':(∃xs,SqL X.K H p xs/\k=!xs.isEmpty)\/(∃xs,SqT X.K H p xs/\k=!xs.isEmpty)\/∃kvs,H p=some (.dK kvs)/\k=!kvs.isEmpty:=e
  rcases e' with ⟨xs,hx,e'⟩ | ⟨xs,hx,e'⟩ | ⟨kvs,hx,e'⟩
  ·subst e'
   obtain⟨its,r,pl,hz⟩:=I.list hx
   have hlen:=r.length
   exact wpAny_truthy_list pl.isList (by simp only [List.size_toArray]; omega) ⟨H,I.tok _,by rw [E8 r]; exact q⟩
  ·subst e'
   obtain⟨its,r,pl,hz⟩:=I.tuple hx
   have hlen:=r.length
   exact truthy_tuple pl (by simp only [List.size_toArray]; omega) ⟨H,I.tok _,by rw [E8 r]; exact q⟩
  ·subst e'
   obtain⟨hz,hS,vs,r,m⟩:kvs.length<=sizeLine/\(p==sysModules)=false/\∃vs,KV kvs vs/\s.heap.DictOf (BA X.prog X.w) p vs:=I.hok p _ hx
   have hlen:kvs.length=vs.length:=Paired.length r
   exact wpAny_truthy_dict hS m (by omega) ⟨H,I.tok _,by rw [JJ r]; exact q⟩
 | _=>exact(show False from e).elim
theorem Ll(ha:PE X a ta)(he:∀whole,isTrue a X.env whole=(do let v ← whole; standAt a.pos; holding [v] (truthy v))) :
  PT X a (fun σ H Q=>ta σ H fun x H'=>∃k,OX X.K x H' k/\Q k H'):=by
 intro pins s σ H Q I h
 exact isTrue_plain (A2 (ha pins s σ H _ I h) fun v s1 ⟨x,H1,I1,r1,q1⟩=>LM pins s1 σ H1 x v Q I1 r1 q1) (he _)
theorem I0:OpR X (binaryOp .Add) (fun x y H Q=>∃i j,x=.str i/\y=.str j/\i.length+j.length<=sizeLine/\Q (.str (i++j)) H):=by
 intro pins s σ H x y v u Q I rx ry h
 obtain⟨i,j,rfl,rfl,hz,q⟩:=h
 obtain⟨t,rfl⟩:=rx
 obtain⟨t',rfl⟩:=ry
 exact add_str (fun t' tk=>⟨.str (i++j),H,I.tok _,⟨_,rfl⟩,q⟩) hz
theorem vals1{x:V}{us:List Value}(r:Vals [x] us):∃u,us=[u]/\RelV x u:=by
 cases r with
 | cons r1 r2=>cases r2; exact⟨_,rfl,r1⟩
theorem vals2{x y:V}{us:List Value}(r:Vals [x,y] us):∃u w',us=[u,w']/\RelV x u/\RelV y w':=by
 cases r with
 | cons r1 r2 =>
  cases r2 with
  | cons r3 r4=>cases r4; exact⟨_,_,rfl,r1,r3⟩
theorem LC(hc:X.calm=true):Bu X (.builtin "max") (fun xs H Q=>∃i j,xs=[.int i,.int j]/\Q (.int (if j > i then j else i)) H):=by
 intro pins s σ H xs us Q I r h
 obtain⟨i,j,rfl,q⟩:=h
 obtain⟨u,w',rfl,⟨t,rfl⟩,⟨t',rfl⟩⟩:=vals2 r
 refine max_two_ints (I.ok.hd hc) fun h' tk k=>⟨_,H,I.kept k,?_,q⟩
 by_cases hj:j > i
 ·rw [if_pos hj,if_pos hj]; exact⟨_,rfl⟩
 ·rw [if_neg hj,if_neg hj]; exact⟨_,rfl⟩
theorem LB(hc:X.calm=true):Bu X (.builtin "min") (fun xs H Q=>∃i j,xs=[.int i,.int j]/\Q (.int (if j<i then j else i)) H):=by
 intro pins s σ H xs us Q I r h
 obtain⟨i,j,rfl,q⟩:=h
 obtain⟨u,w',rfl,⟨t,rfl⟩,⟨t',rfl⟩⟩:=vals2 r
 refine min_two_ints (I.ok.hd hc) fun h' tk k=>⟨_,H,I.kept k,?_,q⟩
 by_cases hj:j<i
 ·rw [if_pos hj,if_pos hj]; exact⟨_,rfl⟩
 ·rw [if_neg hj,if_neg hj]; exact⟨_,rfl⟩
theorem HC:Bu X (.type "str") (fun xs H Q=>∃i,xs=[.int i]/\i.natAbs.log2<1920/\Q (.str (toString i)) H):=by
 intro pins s σ H xs us Q I r h
 obtain⟨i,rfl,hz,q⟩:=h
 obtain⟨u,rfl,t,rfl⟩:=vals1 r
 exact PySem.P.str_of_int hz ⟨.str _,H,I.tok _,⟨_,rfl⟩,q⟩
noncomputable def QY(K:Frag)(x:V)(H:Hp)(n:Nat):Prop :=
 match x with
 | .str y=>y.length<=sizeLine/\n=y.length
 | .byt y=>y.size<=sizeLine/\n=y.size
 | .ref p=>(∃xs,SqL K H p xs/\n=xs.length)\/∃xs,SqT K H p xs/\n=xs.length
 | _=>False
theorem Ai:Bu X (.builtin "len") (fun xs H Q=>∃x n,xs=[x]/\QY X.K x H n/\Q (.int n) H):=by
 intro pins s σ H xs us Q I r h
 obtain⟨x,n,rfl,e,q⟩:=h
 obtain⟨u,rfl,rx⟩:=vals1 r
 have hl:=D7
 have hs:sizeLine=16777216:=sizeLine_eq
 cases x with
 | str y =>
  obtain⟨t,rfl⟩:=rx
  obtain⟨hy,e'⟩:y.length<=sizeLine/\n=y.length:=e
  subst e'
  exact len_str (by omega) ⟨.int _,H,I.tok _,⟨_,rfl⟩,q⟩
 | byt y =>
  obtain⟨t,rfl⟩:=rx
  obtain⟨hy,e'⟩:y.size<=sizeLine/\n=y.size:=e
  subst e'
  exact PySem.W.len_bytes (by omega) ⟨.int _,H,I.tok _,⟨_,rfl⟩,q⟩
 | ref p =>
  cases rx
  have e':(∃xs,SqL X.K H p xs/\n=xs.length)\/∃xs,SqT X.K H p xs/\n=xs.length:=e
  rcases e' with ⟨xs,hx,e'⟩ | ⟨xs,hx,e'⟩
  ·subst e'
   obtain⟨its,r',pl,hz⟩:=I.list hx
   have hlen:=r'.length
   exact Calls.call_len_list pl.isList (by simp only [List.size_toArray]; omega) ⟨.int xs.length,H,I.tok _,⟨_,by simp only [List.size_toArray]; rw [hlen]⟩,q⟩
  ·subst e'
   obtain⟨its,r',pl,hz⟩:=I.tuple hx
   have hlen:=r'.length
   exact len_tuple pl (by simp only [List.size_toArray]; omega) ⟨.int xs.length,H,I.tok _,⟨_,by simp only [List.size_toArray]; rw [hlen]⟩,q⟩
 | _=>exact(show False from e).elim
end
structure ObjM (h:Heap) (x dx C:Addr) (mA:Str->Option Value):Prop where
 obj:h.get? x=some (PySem.W.instObj C dx)
 ns:h.Ns1 dx mA
 ne:dx≠x
theorem Kw{h:Heap}{dx:Addr}{mA:Str->Option Value}(n:h.Ns1 dx mA):∃od,h.get? dx=some od/\∀name,PySem.W.lookIn name od=some (mA name):=by
 obtain⟨o,es,ep,ho,hd,hk,_,hm⟩:=n
 refine⟨o,ho,fun name=>?_⟩
 have e:=hm name
 unfold nsFind findBy at e
 rw [← Array.find?_toList] at e
 unfold PySem.W.lookIn
 rw [hd]
 dsimp only
 split
 ·rename_i y q
  rw [q] at e
  exact congrArg some e
 ·rename_i q
  rw [q] at e
  have a:es.toList.any (·.refKey)=false:=by
   rw [List.any_eq_false]
   intro y hy
   obtain⟨z,t,hkey⟩:=hk y (Array.mem_toList_iff.mp hy)
   simp [DictEntry.refKey,hkey]
  have a':¬es.toList.any (·.refKey)=true:=by rw [a]; exact Bool.false_ne_true
  rw [if_neg a']
  exact congrArg some e
theorem ObjM.look{h:Heap}{x dx C:Addr}{mA:Str->Option Value}(I:ObjM h x dx C mA):∃od,PySem.W.InstAt h x (PySem.W.instObj C dx) C (some od)/\∀name,PySem.W.lookIn name od=some (mA name) :=
 let ⟨od,ho,hl⟩:=Kw I.ns
 ⟨od,⟨I.obj,rfl,rfl,ho⟩,hl⟩
section
variable {prog:Program}{w:World}{A:Around}{E:Value->Shared->Prop}{s:Shared}{K:Frag}{x dx C f:Addr}{mA:Str->Option Value}{name:Str}{v:Value}
end
theorem RelO.some_of{v:V}{o:Option Value}(r:RelO (some v) o):∃u,o=some u/\RelV v u:=by
 cases o with
 | none=>exact(show False from r).elim
 | some u=>exact⟨u,rfl,r⟩
section
variable {P:Program}{w:World}{H H':Hp}{h h':Heap}{a C dx:Addr}{fs fs':List (Str×V)}
theorem N_(hok:HOk P w H h)(e:H a=some (.ins C dx fs)):∃mA,ObjM h a dx C mA/\(∀f,RelO (fs.lookup f) (mA f))/\PySem.Within mA (fs.map (·.1))/\fs.length<=1000/\H dx=some (.own a):=by
 obtain⟨d,z,ne,ob,mA,n,r,q⟩:=(show ObjOk P w H h a (.ins C dx fs) from hok a _ e)
 exact⟨mA,⟨ob,n,ne⟩,r,q,z,d⟩
end
structure Cls (K:Frag) (C:Addr):Prop where
 pg:PySem.W.plainGet K C Str.empty=true
 hd:PySem.W.hasDictIn K C=true
 po:PySem.W.plainOver K C=true
 sa:PySem.W.findIn K (.ref C) "__setattr__"=some (some (.builtin "object.__setattr__"))
theorem Cls.get{K:Frag}{C:Addr}(c:Cls K C)(f:Str):PySem.W.plainGet K C f=true:=c.pg
structure TK (K:Frag) (C:Addr) (f:Str) (v:V) (u:Value):Prop where
 at_:PySem.W.findIn K (.ref C) f=some (some u)
 rel:RelV v u
 get:PySem.W.specialIn K u "__get__"=some none
 cp:PySem.W.copiedNames.contains f=false
structure TC (K:Frag) (C:Addr) (m:Str) (f:Addr):Prop where
 at_:PySem.W.findIn K (.ref C) m=some (some (.ref f))
 fn:PySem.W.isFn K (.ref f)=true
 kp:keepIn K (.ref f)=true
section
variable {X:Cx}{pins:List (Addr×Obj)}{σ:St}{H:Hp}{s:Shared}{a C dx:Addr}{fs:List (Str×V)}{f:Str}{v:V}{A:Around}{E:Value->Shared->Prop}
end
section
variable {X:Cx}{o e value:Expr}{f:Str}{pos pos' tpos:Pos}{ta tv:TE}
end
section
variable {X:Cx}{pins:List (Addr×Obj)}{σ:St}{H:Hp}{s:Shared}{A:Around}{E:Value->Shared->Prop}{Q:Value->Shared->Prop}{c:Value}{b:Bool}
inductive DD (K:Frag) (H:Hp):V->Value->Prop where
 | non:DD K H .non (.type "NoneType")
 | bl (x:Bool):DD K H (.bl x) (.type "bool")
 | int (i:Int):DD K H (.int i) (.type "int")
 | str (x:Str):DD K H (.str x) (.type "str")
 | flt (x:UInt64):DD K H (.flt x) (.type "float")
 | lst {a:Addr} {xs:List V} (e:H a=some (.lst xs)):DD K H (.ref a) (.type "list")
 | frz {a:Addr} {o:Obj} {xs:List V} (e:H a=some (.frz o (.lst xs))):DD K H (.ref a) (.type "list")
 | tup {a:Addr} {xs:List V} (e:H a=some (.tup xs)):DD K H (.ref a) (.type "tuple")
 | dF {a:Addr} {o:Obj} {kvs:List (Key×V)} (e:H a=some (.frz o (.dK kvs))):DD K H (.ref a) (.type "dict")
 | dK {a:Addr} {kvs:List (Key×V)} (e:H a=some (.dK kvs)):DD K H (.ref a) (.type "dict")
 | dT {a:Addr} {kvs:List (List Key×V)} (e:H a=some (.dT kvs)):DD K H (.ref a) (.type "dict")
 | ins {a C dx:Addr} {fs:List (Str×V)} (e:H a=some (.ins C dx fs)) (cl:Cls K C) (ha:PySem.W.findIn K (.ref C) "__class__"=some (some (.builtin "object.__class__")))
   (hn:PySem.W.specialIn K (.builtin "object.__class__") "__get__"=some (some (.builtin "getset_descriptor.__get__"))) (htk:PySem.W.takesIn K (.builtin "object.__class__")=some true)
   (hm:PySem.W.mroIn K C (.type "object")=some true):DD K H (.ref a) (.ref C)
theorem K1{x:V}{u t:Value}(I:Inv X pins σ H s)(rx:RelV x u)(ty:DD X.K H x t)(e:PySem.W.kitOne X.K t c=some b)(h:∀tk,Q (.bool b) { s with toks:=tk }) :
  wpAny (model X.prog X.w) A (call (.builtin "isinstance") [u,c]) Q E s:=by
 cases ty with
 | non=>cases (show u=Value.none from rx); exact PySem.W.kia_one PySem.W.kitx_none I.kIn True.intro e (fun z=>nomatch z) h
 | bl y=>cases (show u=Value.bool y from rx); exact PySem.W.kia_one PySem.W.kitx_bool I.kIn True.intro e (fun z=>nomatch z) h
 | int i=>obtain⟨t,q⟩:=(show ∃t,u=Value.int i t from rx); cases q; exact PySem.W.kia_one PySem.W.kitx_int I.kIn True.intro e (fun z=>nomatch z) h
 | str y=>obtain⟨t,q⟩:=(show ∃t,u=Value.str y t from rx); cases q; exact PySem.W.kia_one PySem.W.kitx_str I.kIn True.intro e (fun z=>nomatch z) h
 | flt y=>obtain⟨t,q⟩:=(show ∃t,u=Value.float y t from rx); cases q; exact PySem.W.kia_one PySem.W.kitx_float I.kIn True.intro e (fun z=>nomatch z) h
 | @lst a xs ea =>
  cases (show u=Value.ref a from rx)
  obtain⟨_,_,n,_,h1⟩:=(show ObjOk X.prog X.w H s.heap a (.lst xs) from I.hok a _ ea)
  exact PySem.W.kia_one PySem.W.kitx_list I.kIn ⟨_,h1,rfl⟩ e (fun z=>nomatch z) h
 | @frz a ob xs ea =>
  cases (show u=Value.ref a from rx)
  obtain⟨_,_,_,n,_,h1⟩:=(show ObjOk X.prog X.w H s.heap a (.frz ob (.lst xs)) from I.hok a _ ea)
  exact PySem.W.kia_one PySem.W.kitx_list I.kIn ⟨_,h1,rfl⟩ e (fun z=>nomatch z) h
 | @tup a xs ea =>
  cases (show u=Value.ref a from rx)
  obtain⟨_,_,_,p⟩:=(show ObjOk X.prog X.w H s.heap a (.tup xs) from I.hok a _ ea)
  obtain⟨o,h1,h2,_⟩:=p
  exact PySem.W.kia_one PySem.W.kitx_tuple I.kIn ⟨o,h1,h2⟩ e (fun z=>nomatch z) h
 | @dF a ob kvs ea =>
  cases (show u=Value.ref a from rx)
  obtain⟨_,_,_,vs,_,p⟩:=(show ObjOk X.prog X.w H s.heap a (.frz ob (.dK kvs)) from I.hok a _ ea)
  obtain⟨o,es,ep,h1,h2,_⟩:=p
  exact PySem.W.kia_one PySem.W.kitx_dict I.kIn ⟨o,h1,h2.1⟩ e (fun z=>nomatch z) h
 | @dK a kvs ea =>
  cases (show u=Value.ref a from rx)
  obtain⟨_,_,vs,_,p⟩:=(show ObjOk X.prog X.w H s.heap a (.dK kvs) from I.hok a _ ea)
  obtain⟨o,es,ep,h1,h2,_⟩:=p
  exact PySem.W.kia_one PySem.W.kitx_dict I.kIn ⟨o,h1,h2.1⟩ e (fun z=>nomatch z) h
 | @dT a kvs ea =>
  cases (show u=Value.ref a from rx)
  obtain⟨_,_,xs,_,o,es,ep,h1,h2,_⟩:=(show ObjOk X.prog X.w H s.heap a (.dT kvs) from I.hok a _ ea)
  exact PySem.W.kia_one PySem.W.kitx_dict I.kIn ⟨o,h1,h2.1⟩ e (fun z=>nomatch z) h
 | @ins a C dx fs ea cl ha hn htk hm =>
  cases (show u=Value.ref a from rx)
  obtain⟨mA,O,_⟩:=N_ I.hok ea
  obtain⟨od,J,_⟩:=O.look
  exact PySem.W.kia_one (PySem.W.kitx_own (cl.get _) cl.hd ha hn htk hm) I.kIn J e (fun z=>nomatch z) h
end
structure Room (k:Nat) (A:Around):Prop where
 hd:A.handled=none
 dp:A.depth+3*k+5<recursionLimit
 un:A.units+16*k+200<cLine
 gd:A.guards=some []
theorem Room.mono{j k:Nat}{A:Around}(r:Room k A)(h:j<=k):Room j A:=⟨r.hd,by have:=r.dp; omega,by have:=r.un; omega,by first | exact r.gd | (show pushGuards _ _=_; rw [r.gd]; rfl) | (simp [Around.under,pushGuards,Code.guards,Code.isGuard,r.gd])⟩
theorem Room.deeper{k:Nat}{A:Around}(r:Room (k+1) A)(env:Env):Room k (A.deeper env) :=
 ⟨r.hd,by have:=r.dp; show A.depth+1+3*k+5<_; omega,by have:=r.un; show A.units+3+16*k+200<_; omega,by first | exact r.gd | (show pushGuards _ _=_; rw [r.gd]; rfl) | (simp [Around.under,pushGuards,Code.guards,Code.isGuard,r.gd])⟩
theorem Room.depth{k:Nat}{A:Around}(r:Room k A):A.depth<recursionLimit:=by have:=r.dp; omega
theorem Room.units{k:Nat}{A:Around}(r:Room k A):A.units+64<cLine:=by have:=r.un; omega
theorem Room.units0{k:Nat}{A:Around}(r:Room k A):A.units<cLine:=by have:=r.un; omega
noncomputable def LO:TA:=fun _ H Q=>Q [] H
noncomputable def Je(ta:TE)(tr:TA):TA:=fun σ H Q=>ta σ H fun x H1=>tr σ H1 fun xs H2=>Q (x::xs) H2
section
variable {X:Cx}{e:Expr}{es:List Expr}{te:TE}{t:TA}{pos:Pos}
theorem CA:PA X [] LO:=fun _ _ _ _ H Q I h=>Calls.spliced_nil ⟨[],H,I,.nil,h⟩
theorem BM(ha:PE X e te)(hr:PA X es t)(hs:autoParam (starEach (e::es) X.env=(false,eval e X.env)::starEach es X.env) zau3._auto_1):PA X (e::es) (Je te t):=by
 intro pos pins s σ H Q I h
 rw [hs]
 show wpAny _ _ (spliced ((false,eval e X.env)::backTo pos (starEach es X.env))) _ _ s
 refine Calls.spliced_cons (A2 (ha pins s σ H _ I h) fun u s1 ⟨x,H1,I1,r1,q1⟩=>?_)
 exact A2 (hr pos pins s1 σ H1 _ I1 q1) fun us s2 ⟨xs,H2,I2,r2,q2⟩=>⟨x::xs,H2,I2,.cons r1 r2,q2⟩
noncomputable def SJ(t:TA):TE:=fun σ H Q=>t σ H fun xs H1=>xs.length<=sizeLine/\∀p,H1 p=none->Q (.ref p) (Aw H1 p (.tup xs))
noncomputable def SM(t:TA):TE:=fun σ H Q=>t σ H fun xs H1=>xs.length<=sizeLine/\∀p,H1 p=none->Q (.ref p) (Aw H1 p (.lst xs))
theorem Pm{x1}(h:PA X es t):PE X (.Tuple es x1 pos) (SJ t):=by
 intro pins s σ H Q I hq
 refine wpAny_Tuple_spliced (A2 (h pos pins s σ H _ I hq) fun us s1 ⟨xs,H1,I1,r,z,q⟩=>⟨by rw [← r.length]; exact z,?_⟩)
 have hf:H1 s1.heap.objs.size=none:=I1.hok.fresh (Nat.le_refl _)
 refine⟨.ref s1.heap.objs.size,Aw H1 s1.heap.objs.size (.tup xs),I1.laid (t':=s1.toks) (fun b u e=>Heap.get?_push_of_some _ e) (Nat.le_refl _) ?_,rfl,q _ hf⟩
 exact⟨z,us,r,IsTupN.new _ _⟩
theorem Iz(h:PA X es t):PE X (.List es pos) (SM t):=by
 intro pins s σ H Q I hq
 refine wpAny_List_spliced (A2 (h pos pins s σ H _ I hq) fun us s1 ⟨xs,H1,I1,r,z,q⟩=>⟨by rw [← r.length]; exact z,?_⟩)
 have hf:H1 s1.heap.objs.size=none:=I1.hok.fresh (Nat.le_refl _)
 refine⟨.ref s1.heap.objs.size,Aw H1 s1.heap.objs.size (.lst xs),I1.laid (t':=s1.toks) (fun b u e=>Heap.get?_push_of_some _ e) (Nat.le_refl _) ?_,rfl,q _ hf⟩
 exact⟨z,us,0,r,Heap.get?_push_size _ rfl⟩
end
noncomputable abbrev Sp:=List V->Hp->VK->XK->Prop
noncomputable abbrev NH:=List Env->Hp->Shared->XK->Value->Shared->Prop
structure OZ (P:Program) (w:World) (K:Frag) (mg:Str->Option Value) (base:Heap) (A:Around) (outer:List Env) (s:Shared) (H:Hp):Prop where
 frames:A.frames=some outer
 mod:Mod K mg base
 bs:∀b o,base.get? b=some o->s.heap.get? b=some o/\H b=none
 bsz:base.objs.size<=s.heap.objs.size
 funs:s.heap.FunFrames base outer
 frf:∀b∈MS outer,H b=none
 hok:HOk P w H s.heap
 bare:AllBare s.gens
noncomputable def CE(outer:List Env)(P:Program)(w:World)(H:Hp)(s:Shared)(Q:VK)(u:Value)(s':Shared):Prop :=
 ∃v H',s'.os=s.os/\AllBare s'.gens/\Un (MS outer) [] H H' s.heap s'.heap/\HOk P w H' s'.heap/\RelV v u/\Q v H'
noncomputable def CR(CX:NH)(outer:List Env)(P:Program)(w:World)(H:Hp)(s:Shared)(Q:VK)(E:XK)(r:Result)(s':Shared):Prop :=
 match r with
 | .ok (.ret u)=>CE outer P w H s Q u s'
 | .ok _=>False
 | .error e=>CX outer H s E e s'
structure BE (P:Program) (w:World) (K:Frag) (mg:Str->Option Value) (base:Heap) (CX:NH) (k:Nat) (f:Addr) (fd:FuncData) (ps:List Str) (sp:Sp):Prop where
 len:∀vs H Q E,sp vs H Q E->vs.length=ps.length
 run:∀(A:Around) (outer:List Env) (s:Shared) (H:Hp) (args:Args) (us:List Value) (vs:List V) (Q:VK) (E:XK),Room k A->OZ P w K mg base A outer s H->BindsTo s fd args (ps.zip us)->Vals vs us->sp vs H Q E ->
  codeAny (model P w) A (.call (.ref f) args) (CR CX outer P w H s Q E) s
section
variable {X:Cx}{pins:List (Addr×Obj)}{σ:St}{H:Hp}{s s':Shared}
theorem Inv.env0(I:Inv X pins σ H s):OZ X.prog X.w X.K X.mg X.base X.A X.stack s H :=
 ⟨I.ok.frames,I.ok.mod,I.bs,Nat.le_trans I.ok.bsz I.sz,I.stack,I.stkFree,I.hok,I.bare⟩
theorem Inv.after{Q:VK}{u:Value}(I:Inv X pins σ H s)(h:CE X.stack X.prog X.w H s Q u s'):EP X pins σ Q u s':=by
 obtain⟨v,H',os,bare,un,hok,r,q⟩:=h
 obtain⟨hh,g,d,t,os'⟩:=s'
 obtain rfl:os'=s.os:=os
 exact⟨v,H',I.call (h':=hh) (g':=g) (d':=d) (t':=t) (ch:=[]) un hok bare (fun b z=>absurd z (by simp)),r,q⟩
end
noncomputable def Jf(sp:Sp)(dvs:List V)(E:XK)(t:TA):TE:=fun σ H Q=>t σ H fun vs H1=>sp (vs++dvs) H1 Q E
noncomputable def Binds(K:Frag)(fd:FuncData)(ps:List Str)(ds:List Value):Prop :=
 ∀(s:Shared) (us:List Value),K.In s.heap->(us++ds).length=ps.length->BindsTo s fd ⟨us,[]⟩ (ps.zip (us++ds))
theorem Binds.all{K:Frag}{fd:FuncData}{ps:List Str}(h:∀us:List Value,us.length=ps.length->bindArgs fd ⟨us,[]⟩=pure (ps.zip us)):Binds K fd ps []:=fun s us _ hl=>by
 rw [List.append_nil] at hl ⊢
 exact .of_eq (h us hl)
noncomputable def HH(CX:NH)(X:Cx)(E:XK):Prop:=∀(pins:List (Addr×Obj)) (σ:St) (H:Hp) (s:Shared) (e:Value) (s':Shared),Inv X pins σ H s->CX X.stack H s E e s'->X.xe e s'
section
variable {X:Cx}{CX:NH}{k:Nat}{f C:Addr}{fd:FuncData}{ps:List Str}{sp:Sp}{dvs:List V}{ds:List Value}{E:XK}{x m:Str}{p pos apos:Pos}{e o:Expr}{es:List Expr}{ta:TE}{t:TA}
theorem LU{pins:List (Addr×Obj)}{σ:St}{H:Hp}{s:Shared}{Q:VK}{us:List Value}{vs:List V}(F:BE X.prog X.w X.K X.mg X.base CX k f fd ps sp)(hr:Room k X.A)(hb:Binds X.K fd ps ds)(hd:Vals dvs ds)(hx:HH CX X E)
  (I:Inv X pins σ H s) (r:Vals vs us) (h:sp (vs++dvs) H Q E):wpAny (model X.prog X.w) X.A (call (.ref f) us) (EP X pins σ Q) X.xe s:=by
 have r2:Vals (vs++dvs) (us++ds):=r.append hd
 have hl:(us++ds).length=ps.length:=by rw [← r2.length]; exact F.len _ _ _ _ h
 refine wpAny_call (codeAny_mono (F.run X.A X.stack s H ⟨us,[]⟩ (us++ds) (vs++dvs) Q E hr I.env0 (hb s us I.kIn hl) r2 h) fun r s' hq=>?_)
 cases r with
 | error e=>exact hx pins σ H s e s' I hq
 | ok fl =>
  cases fl with
  | ret u=>exact I.after hq
  | next=>exact False.elim hq
  | brk=>exact False.elim hq
  | cont=>exact False.elim hq
theorem Jp(F:BE X.prog X.w X.K X.mg X.base CX k f fd ps sp)(hr:Room k X.A)(hg:Gl X x)(hm:X.mg x=some (.ref f))(hk:keepIn X.K (.ref f)=true)(hb:Binds X.K fd ps ds)(hd:Vals dvs ds)(hx:HH CX X E)
  (ha:PA X (e::es) t) (hdb:autoParam ((x==("__debug__" : Str))=false) zau1._auto_1) (he:autoParam (starEach (e::es) X.env=(false,eval e X.env)::starEach es X.env) zau3._auto_1) (hpl:autoParam ((backTo pos (starEach es X.env)).any (·.1)=false) zau3._auto_1) :
  PE X (.Call (.Name x p) (e::es) [] pos) (Jf sp dvs E t):=by
 intro pins s σ H Q I h
 refine wpAny_Call_Name_kw (G0 I hg hm ?_ hdb)
 refine PySem.W.callWith_K (h₀:=X.base) I.ok.mod.kin hk (A2 (ha pos pins s σ H _ I h) fun us s1 ⟨vs,H1,I1,r,q⟩=>⟨I1.kIn,?_⟩) he hpl
 exact LU F hr hb hd hx I1 r q
theorem Lv(F:BE X.prog X.w X.K X.mg X.base CX k f fd ps sp)(hr:Room k X.A)(hg:Gl X x)(hm:X.mg x=some (.ref f))(hk:keepIn X.K (.ref f)=true)(hb:Binds X.K fd ps ds)(hd:Vals dvs ds)(hx:HH CX X E)
  (hdb:autoParam ((x==("__debug__" : Str))=false) zau1._auto_1):PE X (.Call (.Name x p) [] [] pos) (Jf sp dvs E LO):=by
 intro pins s σ H Q I h
 refine wpAny_Call_Name_kw (G0 I hg hm ?_ hdb)
 exact PySem.W.callWith_K0 I.kIn hk (LU (us:=[]) F hr hb hd hx I .nil h)
structure Mk (K:Frag) (C f:Addr):Prop where
 makes:PySem.W.makesIn K C=true
 init:PySem.W.findIn K (.ref C) "__init__"=some (some (.ref f))
 fn:PySem.W.isFn K (.ref f)=true
 kp:keepIn K (.ref C)=true
end
section
variable {X:Cx}{CX:NH}{k:Nat}{f C:Addr}{fd:FuncData}{ps ks:List Str}{sp:Sp}{E:XK}{x m:Str}{p pos apos kpos:Pos}{e o:Expr}{es:List Expr}{kws:List Keyword}{te ta:TE}{t tk:TA}{nm:Option Str}
structure Sh (K:Frag) (fd:FuncData) (ps ks:List Str) (g:List Value->List Value->List Value) (gV:List V->List V->List V):Prop where
 to:∀(s:Shared) (us ws:List Value),K.In s.heap->(g us ws).length=ps.length->BindsTo s fd ⟨us,ks.zip ws⟩ (ps.zip (g us ws))
 rel:∀{vs:List V} {us:List Value} {zs:List V} {ws:List Value},Vals vs us->Vals zs ws->Vals (gV vs zs) (g us ws)
variable {g:List Value->List Value->List Value}{gV:List V->List V->List V}
end
structure AY (N P:List Str) (sc:Scope):Prop where
 kind:sc.kind=.function
 co:sc.isCoroutine=false
 gen:sc.isGenerator=false
 nd:N.Nodup
 pre:N.take P.length=P
 par:∀x∈P,sc.names.lookup x=some .local\/sc.names.lookup x=some .cell
 nofree:∀y∈sc.names,y.2≠.free
theorem GF{kindOf:Str->Option NameKind}{x:Str}:∀{binds:List (Str×Value)} {m:Str->Option Value},(∀v,(x,v)∉binds)->bindL kindOf binds m x=m x
 | [],_,_=>rfl
 | (n,v)::r,m,h=>by
  unfold bindL
  rw [GF fun w hw=>h w (List.mem_cons_of_mem _ hw)]
  split
  ·have:x≠n:=by rintro rfl; exact h v List.mem_cons_self
   simp [this]
  ·rfl
theorem GH{kindOf:Str->Option NameKind}{x:Str}:∀{binds:List (Str×Value)} {m:Str->Option Value},(∀v,(x,v)∉binds)->bindC kindOf binds m x=m x
 | [],_,_=>rfl
 | (n,v)::r,m,h=>by
  unfold bindC
  rw [GH fun w hw=>h w (List.mem_cons_of_mem _ hw)]
  split
  ·rfl
  ·have:x≠n:=by rintro rfl; exact h v List.mem_cons_self
   simp [this]
theorem GG{kindOf:Str->Option NameKind}{x:Str}{v:Value}:∀{P:List Str} {vs:List Value} {i:Nat} {m:Str->Option Value},P.Nodup->P[i]?=some x->vs[i]?=some v->kindOf x=some .local ->
  bindL kindOf (P.zip vs) m x=some v
 | [],_,_,_,_,h,_,_=>by simp at h
 | _::_,[],_,_,_,_,h,_=>by simp at h
 | p::P,w::vs,0,m,nd,h1,h2,hk=>by
  simp at h1 h2; subst h1; subst h2
  show bindL kindOf ((p,w)::P.zip vs) m p=_
  unfold bindL
  rw [GF fun v hv=>(List.nodup_cons.mp nd).1 (List.of_mem_zip hv).1,if_pos hk]
  simp
 | p::P,w::vs,i+1,m,nd,h1,h2,hk=>by
  show bindL kindOf ((p,w)::P.zip vs) m x=_
  unfold bindL
  exact GG (i:=i) (List.nodup_cons.mp nd).2 (by simpa using h1) (by simpa using h2) hk
theorem GI{kindOf:Str->Option NameKind}{x:Str}{v:Value}:∀{P:List Str} {vs:List Value} {i:Nat} {m:Str->Option Value},P.Nodup->P[i]?=some x->vs[i]?=some v->kindOf x≠some .local ->
  bindC kindOf (P.zip vs) m x=some v
 | [],_,_,_,_,h,_,_=>by simp at h
 | _::_,[],_,_,_,_,h,_=>by simp at h
 | p::P,w::vs,0,m,nd,h1,h2,hk=>by
  simp at h1 h2; subst h1; subst h2
  show bindC kindOf ((p,w)::P.zip vs) m p=_
  unfold bindC
  rw [GH fun v hv=>(List.nodup_cons.mp nd).1 (List.of_mem_zip hv).1,if_neg hk]
  simp
 | p::P,w::vs,i+1,m,nd,h1,h2,hk=>by
  show bindC kindOf ((p,w)::P.zip vs) m x=_
  unfold bindC
  exact GI (i:=i) (List.nodup_cons.mp nd).2 (by simpa using h1) (by simpa using h2) hk
noncomputable def start(N:List Str)(vs:List V):St:=vs.map some++List.replicate (N.length - vs.length) none
noncomputable def G_(CX:NH)(P:Program)(w:World)(K:Frag)(mg:Str->Option Value)(base:Heap)(N:List Str)(qual:Str)(scope:Scope)(f:Addr)(cd:Value)(A:Around)(outer:List Env)(s:Shared)(H:Hp)(E:XK):Cx where
 prog:=P
 w:=w
 K:=K
 mg:=mg
 base:=base
 A:=A.deeper (envOfC qual scope s.heap.objs.size f cd)
 N:=N
 s₀:=s
 H₀:=H
 env:=envOfC qual scope s.heap.objs.size f cd
 outer:=outer
 stack:=envOfC qual scope s.heap.objs.size f cd::outer
 ex:=[]
 calm:=true
 fn:=fun _=>true
 pn:=[]
 xe:=fun e s'=>wpAny (model P w) (A.deeper (envOfC qual scope s.heap.objs.size f cd)) (leaving (envOfC qual scope s.heap.objs.size f cd) e) (fun _ s''=>CX outer H s E e s'') (fun e' s''=>CX outer H s E e' s'') s'
theorem IR{sc:Scope}{n:Nat}{x:Str}(h:sc.names.lookup x=some .cell):∃c,(cellsFrom n sc.names []).lookup x=some c:=by
 have q:=PySem.W.cellsFrom_some sc.names n [] (.inl h)
 exact Option.isSome_iff_exists.mp q
theorem K3{CX:NH}{P:Program}{w:World}{K:Frag}{mg:Str->Option Value}{base:Heap}{N ps:List Str}{qual:Str}{scope:Scope}{f:Addr}{cd:Value}{A:Around}{outer:List Env}{s s1:Shared}{H:Hp}{E:XK}{us:List Value}{vs:List V}
  (S:AY N ps scope) (hd:A.handled=none) (e0:OZ P w K mg base A outer s H) (hl:vs.length=ps.length) (r:Vals vs us)
  (x:InCallC s s.heap.objs.size (bindL (envOfC qual scope s.heap.objs.size f cd).kindOf (ps.zip us) fun _=>none) (cellsFrom (s.heap.objs.size+1) scope.names []) (bindC (envOfC qual scope s.heap.objs.size f cd).kindOf (ps.zip us) fun _=>none) s1) :
  Inv (G_ CX P w K mg base N qual scope f cd A outer s H E) [] (start N vs) H s1:=by
 have hpl:ps.length<=N.length:=by have:=congrArg List.length S.pre; rw [List.length_take] at this; omega
 obtain⟨h1,tk,rfl,hk⟩:=x.done
 have noA:∀b:Addr,b∉(G_ CX P w K mg base N qual scope f cd A outer s H E).ex:=fun b z=>absurd (show b∈([]:List Addr) from z) (by simp)
 refine⟨⟨e0.mod,S.kind,rfl,rfl,Nat.le_refl _,fun y z c h1 h2=>?_,fun y hy=>?_,fun y c _ h=>?_,fun _=>hd,Around.frames_deeper e0.frames,.inr ⟨rfl,rfl⟩,fun b z=>absurd z (noA b),e0.bs,e0.bsz,fun b _ _=>noA b,fun b z=>absurd z (noA b),e0.funs,e0.frf⟩,
  rfl,e0.bare,Un.kept hk,⟨_,x.toInCall.ns,fun i y v h1 h2 h3=>?_⟩,fun y c h=>⟨_,x.cell y c h⟩,e0.hok.fresh (Nat.le_refl _),fun y c h=>?_,fun p hp=>absurd (show p∈([]:List (Addr×Obj)) from hp) (by simp),e0.hok.kept hk,?_⟩
 ·exact name_of_addr x.apart (PySem.mem_of_lookup h1) (PySem.mem_of_lookup h2)
 ·have hy:scope.names.lookup y=some .cell\/scope.names.lookup y=some .free:=hy
  rcases hy with hy | hy
  ·exact IR hy
  ·exact absurd rfl (S.nofree _ (PySem.mem_of_lookup hy))
 ·exact Nat.le_of_lt (x.above y c (PySem.mem_of_lookup h))
 ·have hi:i<vs.length:=by
   unfold start at h2
   by_cases hi:i<vs.length
   ·exact hi
   ·rw [List.getElem?_append_right (by simpa using hi)] at h2
    rw [List.getElem?_replicate] at h2
    split at h2 <;> cases h2
  have ha:vs[i]?=some v:=by
   unfold start at h2
   rw [List.getElem?_append_left (by simpa using hi),List.getElem?_map] at h2
   cases e:vs[i]? with
   | none=>rw [e] at h2; cases h2
   | some a=>rw [e] at h2; cases h2; rfl
  obtain⟨u,hu,rv⟩:=r.get ha
  have hp:ps[i]?=some y:=by
   rw [← S.pre,List.getElem?_take_of_lt (by omega)]; exact h1
  have ndP:ps.Nodup:=by rw [← S.pre]; exact S.nd.sublist (List.take_sublist _ _)
  refine⟨u,rv,?_⟩
  rcases S.par y (List.mem_of_getElem? hp) with k | k
  ·exact .inl ⟨k,GG ndP hp hu k⟩
  ·obtain⟨c,e⟩:=IR (n:=s.heap.objs.size+1) k
   refine .inr ⟨.inl k,c,e,?_⟩
   have q:=x.cell y c e
   rw [GI ndP hp hu (by show scope.names.lookup y≠_; rw [k]; decide)] at q
   exact q
 ·exact e0.hok.fresh (Nat.le_of_lt (x.above y c (PySem.mem_of_lookup h)))
 ·unfold start
  show _=N.length
  rw [List.length_append,List.length_map,List.length_replicate]
  omega
theorem RP{CX:NH}{P:Program}{w:World}{K:Frag}{mg:Str->Option Value}{base:Heap}{k:Nat}{f:Addr}{name qual:Str}{params:Arguments}{body:List Stmt}{scope:Scope}{dV kV doc pm cdv ct oc:Value}{an od:Option Addr}
  {osl:Array (Option Value)} {N ps:List Str} {sp:Sp} (lk:K.lookup f=some ⟨oc,od,.func (fnOf name qual params body scope dV kV doc pm an cdv ct),osl⟩) (hcd:codeIn K cdv qual=true) (S:AY N ps scope)
  (len:∀vs H Q E,sp vs H Q E->vs.length=ps.length)
  (hbody:∀(A:Around) (outer:List Env) (s:Shared) (H:Hp) (vs:List V) (Q:VK) (E:XK),Room k (A.deeper (envOfC qual scope s.heap.objs.size f cdv))->sp vs H Q E ->
   ∃t,PSs (G_ CX P w K mg base N qual scope f cdv A outer s H E) body t/\t { nx:=fun _ H'=>Q .non H',rt:=Q } (start N vs) H) :
  BE P w K mg base CX (k+1) f (fnOf name qual params body scope dV kV doc pm an cdv ct) ps sp:=by
 refine⟨len,fun A outer s H args us vs Q E hr e0 hb r hsp=>?_⟩
 have hl:=len _ _ _ _ hsp
 have KX:K.In s.heap:=e0.mod.kin.keeps fun b o e=>(e0.bs b o e).1
 have lim:s.heap.NoLimit:=e0.mod.nolimit.keeps fun b o e=>(e0.bs b o e).1
 have hkind:∀y∈ps.zip us,scope.names.lookup y.1=some .local\/(scope.names.lookup y.1=some .cell/\((cellsFrom (s.heap.objs.size+1) scope.names []).lookup y.1).isSome=true):=fun⟨n,v⟩ hy=>by
  rcases S.par n (List.of_mem_zip hy).1 with q | q
  ·exact .inl q
  ·exact .inr ⟨q,PySem.W.cellsFrom_some _ _ _ (.inl q)⟩
 refine codeAny_call_function hr.depth (KX _ _ lk) rfl S.co S.gen rfl (PySem.W.codeRec_of KX hcd) (hb _ _ _ _ ?_)
 refine wpAny_newFunctionEnv_cells S.kind hkind fun env he s1 x=>?_
 subst he
 refine⟨lim.keeps x.toInCall.keep,codeAny_func ?_⟩
 obtain⟨t,ht,hq⟩:=hbody A outer s H vs Q E (hr.deeper _) hsp
 have I:Inv (G_ CX P w K mg base N qual scope f cdv A outer s H E) [] (start N vs) H s1:=K3 S hr.hd e0 hl r x
 refine wpAny_mono (ht [] s1 (start N vs) H _ I hq) (fun fl s' hs=>?_) fun e s' hs=>hs
 have fin:∀{σ':St} {H':Hp} {v:V} {u:Value},Inv (G_ CX P w K mg base N qual scope f cdv A outer s H E) [] σ' H' s'->RelV v u->Q v H'->CE outer P w H s Q u s' :=
  fun {σ' H' v u} J rv q=>⟨v,H',J.os,J.bare,J.base,J.hok,rv,q⟩
 cases fl with
 | ret u =>
  obtain⟨v,σ',H',J,rv,q⟩:=hs
  exact fin J rv q
 | next =>
  obtain⟨σ',H',J,q⟩:=hs
  exact fin (v:=V.non) (u:=Value.none) J rfl q
 | brk =>
  obtain⟨_,_,_,q⟩:=hs
  exact False.elim q
 | cont =>
  obtain⟨_,_,_,q⟩:=hs
  exact False.elim q
section
variable {X:Cx}{x:Str}{p pos:Pos}{e:Expr}{es:List Expr}{t:TA}{id T:String}{r:List V->Hp->VK->Prop}
noncomputable def Ry(r:List V->Hp->VK->Prop)(t:TA):TE:=fun σ H Q=>t σ H fun vs H1=>r vs H1 Q
theorem DU(hc:Bu X (.builtin id) r)(hg:Gl X x)(hm:X.mg x=none)(hv:bootBuiltins x=some (.builtin id))(ha:PA X (e::es) t)(hn:autoParam (x ≠ "__name__") zau1._auto_1)(hdb:autoParam ((x==("__debug__" : Str))=false) zau1._auto_1)
  (he:autoParam (starEach (e::es) X.env=(false,eval e X.env)::starEach es X.env) zau3._auto_1) (hpl:autoParam ((backTo pos (starEach es X.env)).any (·.1)=false) zau3._auto_1):PE X (.Call (.Name x p) (e::es) [] pos) (Ry r t):=by
 intro pins s σ H Q I h
 refine wpAny_Call_Name_kw (E5 I hg hm hv ?_ hn hdb)
 exact PyProof.Rows.callWith_builtin1 (A2 (ha pos pins s σ H _ I h) fun us s1 ⟨vs,H1,I1,r1,q1⟩=>hc pins s1 σ H1 vs us Q I1 r1 q1) he hpl
theorem Fq(hc:Bu X (.type T) r)(hg:Gl X x)(hm:X.mg x=none)(hv:bootBuiltins x=some (.type T))(ha:PA X (e::es) t)(hn:autoParam (x ≠ "__name__") zau1._auto_1)(hdb:autoParam ((x==("__debug__" : Str))=false) zau1._auto_1)
  (he:autoParam (starEach (e::es) X.env=(false,eval e X.env)::starEach es X.env) zau3._auto_1) (hpl:autoParam ((backTo pos (starEach es X.env)).any (·.1)=false) zau3._auto_1):PE X (.Call (.Name x p) (e::es) [] pos) (Ry r t):=by
 intro pins s σ H Q I h
 refine wpAny_Call_Name_kw (E5 I hg hm hv ?_ hn hdb)
 exact PyProof.Rows.callWith_type1 (A2 (ha pos pins s σ H _ I h) fun us s1 ⟨vs,H1,I1,r1,q1⟩=>hc pins s1 σ H1 vs us Q I1 r1 q1) he hpl
end
end L2
namespace HT
open PySem PyProof.Rows
section
open PySem.SeqAt
open PySem.AutoSeq1 (wpAny_loadPart')
open PySem.MeetsSeq PySem.MeetsSeq2 PySem.MeetsSeq3
end
section
variable {prog:Program}{w:World}{A:Around}{E:Value->Shared->Prop}{s:Shared}
theorem cat_tup{t b:Addr}{vs ws:List Value}{Q:Value->Shared->Prop}(ht:IsTup s.heap t vs.toArray)(hb:IsTup s.heap b ws.toArray)(hv:vs≠[])
  (h1:ws=[]->Q (.ref t) s) (h2:ws≠[]->Q (.ref s.heap.objs.size) { s with heap:=s.heap.push { cls:=.type "tuple",data:=.seq (vs++ws).toArray } })
  (hsz:vs.length+ws.length<=sizeLine):wpAny (model prog w) A (binaryOp .Add (.ref t) (.ref b)) Q E s:=by
 obtain⟨⟨cls,dd,data,sl⟩,ho,hc,n,hd⟩:=id ht
 obtain⟨⟨cls2,dd2,data2,sl2⟩,ho2,hc2,n2,hd2⟩:=id hb
 simp only at hc hd hc2 hd2
 subst hc hd hc2 hd2
 have e:vs.toArray++ws.toArray=(vs++ws).toArray:=by simp
 by_cases hw:ws=[]
 ·exact concat_meets ⟨_,ho,rfl⟩ ⟨_,ho2,rfl⟩ noFill_tuple_add seq_tuple_add PySem.F.slot_tuple_add PySem.F.entry_tuple_add (PySem.F.args_tuple_add_2 _ _)
   (tuple_addW1 t b vs.toArray ws.toArray n n2 dd dd2 sl sl2 (by simpa using hv) (by simp [hw])) ⟨ho,ho2,h1 hw⟩
 ·refine concat_meets ⟨_,ho,rfl⟩ ⟨_,ho2,rfl⟩ noFill_tuple_add seq_tuple_add PySem.F.slot_tuple_add PySem.F.entry_tuple_add (PySem.F.args_tuple_add_2 _ _)
   (tuple_addW2 t b vs.toArray ws.toArray n n2 dd dd2 sl sl2 (by simpa using hv) (by simpa using hw) (by rw [List.size_toArray,List.size_toArray]; exact hsz)) ⟨ho,ho2,?_⟩
  rw [e]
  exact h2 hw
noncomputable def sIx(n d:Nat):Option Int->Nat
 | none=>d
 | some v=>if v<0 then (v+(n:Int)).toNat else min v.toNat n
theorem sIx_none(n d:Nat):sIx n d none=d:=rfl
theorem sIx_nat(n d k:Nat):sIx n d (some (k:Int))=min k n:=by
 show (if (k:Int)<0 then ((k:Int)+(n:Int)).toNat else min (k:Int).toNat n)=min k n
 rw [if_neg (by omega),Int.toNat_natCast]
theorem Pb(n d:Nat)(hd:d<=n)(o:Option Int):sIx n d o<=n:=by
 cases o with
 | none=>exact hd
 | some v =>
  show (if v<0 then (v+(n:Int)).toNat else min v.toNat n)<=n
  by_cases hv:v<0
  ·rw [if_pos hv]; omega
  ·rw [if_neg hv]; exact Nat.min_le_right _ _
theorem KC(v:Int)(n d:Nat):(if v<0 then max (v+(n:Int)) 0 else min v (n:Int))=((sIx n d (some v):Nat):Int):=by
 show (if v<0 then max (v+(n:Int)) 0 else min v (n:Int))=(((if v<0 then (v+(n:Int)).toNat else min v.toNat n):Nat):Int)
 by_cases hv:v<0
 ·simp only [if_pos hv]; omega
 ·simp only [if_neg hv]; omega
theorem JX(lo hi:Option Int)(n:Nat):Builtin.Slice.sliceAdjust lo hi 1 (n:Int)=(((sIx n 0 lo:Nat):Int),((sIx n n hi:Nat):Int)):=by
 have h1:¬((1:Int)<0):=by omega
 unfold Builtin.Slice.sliceAdjust
 simp only [h1,if_false]
 refine Prod.ext ?_ ?_
 ·cases lo with
  | none=>rfl
  | some v=>exact KC v n 0
 ·cases hi with
  | none=>rfl
  | some v=>exact KC v n n
theorem Iv(i j:Nat):Builtin.Slice.slicePlaces (i:Int) (j:Int) 1=j - i:=by
 unfold Builtin.Slice.slicePlaces
 have h1:(1:Int) > 0:=by omega
 simp only [h1,if_true,Int.ediv_one]
 split <;> omega
theorem Ej{v:Value}{o:Option Int}{Q:Option Int->Shared->Prop}(p:IsPart v o)(h:Q o s):wpAny (model prog w) A (Builtin.Slice.slicePartIndex v) Q E s:=by
 cases p with
 | none=>exact slicePart_none h
 | int i t=>exact slicePart_int h
theorem sliceApplied_gen{sl:Addr}{vl vu:Value}{lo hi:Option Int}{n:Nat}{Q:Int×Int×Nat->Shared->Prop}(hs:s.heap.IsSliceOf sl vl vu .none)(pl:IsPart vl lo)(pu:IsPart vu hi)
  (h:Q (((sIx n 0 lo:Nat):Int),1,sIx n n hi - sIx n 0 lo) s):wpAny (model prog w) A (Builtin.Slice.sliceApplied (.ref sl) (pure (n:Int))) Q E s:=by
 obtain⟨os,hos,hcs,hds⟩:=id hs
 unfold Builtin.Slice.sliceApplied Builtin.Slice.sliceFields
 refine wpAny_bind (wpAny_bind (wpAny_field hos hds (x:=vl) rfl (wpAny_bind (wpAny_field hos hds (x:=vu) rfl (wpAny_bind (wpAny_field hos hds (x:=.none) rfl (wpAny_pure ?_)))))))
 refine wpAny_bind (slicePart_none ?_)
 show wpAny _ _ (if ((1:Int)==0)=true then _ else _) _ _ s
 rw [if_neg (by decide)]
 refine wpAny_bind (Ej pl (wpAny_bind (Ej pu (wpAny_bind (wpAny_pure ?_)))))
 show wpAny _ _ (match Builtin.Slice.sliceAdjust lo hi 1 (n:Int) with | (lo,hi)=>pure (lo,(1:Int),Builtin.Slice.slicePlaces lo hi 1)) _ _ s
 rw [JX lo hi n]
 show wpAny _ _ (pure (((sIx n 0 lo:Nat):Int),(1:Int),Builtin.Slice.slicePlaces ((sIx n 0 lo:Nat):Int) ((sIx n n hi:Nat):Int) 1)) _ _ s
 rw [Iv]
 exact wpAny_pure h
theorem Lp(xs:Array Value)(i k:Nat):((List.range k).filterMap fun(m:Nat)=>xs[((i:Int)+(m:Int)*1).toNat]?).toArray=((xs.toList.drop i).take k).toArray:=by
 have e:(fun(m:Nat)=>xs[((i:Int)+(m:Int)*1).toNat]?)=fun m=>xs[i+m]?:=by
  funext m
  have:((i:Int)+(m:Int)*1).toNat=i+m:=by omega
  rw [this]
 rw [e]
 have:=pick_run xs i k
 rw [List.filterMap_map] at this
 have e2:((fun x=>xs[x]?)∘fun x=>i+x)=fun m=>xs[i+m]?:=rfl
 rw [e2] at this
 rw [this]
theorem getItem_tuple_cut{t sl:Addr}{items:Array Value}{vl vu:Value}{lo hi:Option Int}{Q:Value->Shared->Prop}(ht:IsTup s.heap t items)(hs:s.heap.IsSliceOf sl vl vu .none)(pl:IsPart vl lo)(pu:IsPart vu hi)
  (hw:¬(sIx items.size 0 lo=0/\sIx items.size items.size hi=items.size))
  (h:Q (.ref s.heap.objs.size) { s with heap:=s.heap.push { cls:=.type "tuple",data:=.seq ((items.toList.drop (sIx items.size 0 lo)).take (sIx items.size items.size hi - sIx items.size 0 lo)).toArray } })
  (hsz:items.size<=sizeLine):wpAny (model prog w) A (getItem (.ref t) (.ref sl)) Q E s:=by
 have htake:sizeOk (.seq ((items.toList.drop (sIx items.size 0 lo)).take (sIx items.size items.size hi - sIx items.size 0 lo)).toArray):=by
  show ((items.toList.drop (sIx items.size 0 lo)).take (sIx items.size items.size hi - sIx items.size 0 lo)).toArray.size<=sizeLine
  rw [List.size_toArray,List.length_take,List.length_drop,Array.length_toList]
  omega
 have hj:sIx items.size items.size hi<=items.size:=Pb _ _ (Nat.le_refl _) hi
 obtain⟨os,hos,hcs,hds⟩:=id hs
 have hTs:s.TypeIs (.ref sl) "slice":=⟨os,hos,hcs⟩
 unfold getItem
 try with_reducible refine wpAny_holding ?_
 first | refine wpAny_bind (wpAny_pure ?_) | skip
 refine wpAny_bind (wpAny_sequenceKey ht.typeIs (by decide) ?_)
 refine wpAny_bind (wpAny_callSpecial?_slot (name:=Str.ofString "__getitem__") ht.typeIs PyProof.Rows.slot_tuple_getitem
  (wpAny_call_entry PyProof.Rows.slot_tuple_getitem ht.typeIs entry_tuple_getitem ?_ (args_tuple_getitem _ _)))
 show wpAny _ _ (Builtin.Tuple.tupleItemsOf (.ref t) >>= _) _ _ s
 refine wpAny_bind (tupleItemsOf_ ht ?_)
 refine wpAny_bind (wpAny_typeOf hTs ?_)
 rw [if_pos (by decide)]
 refine wpAny_bind (sliceApplied_gen hs pl pu ?_)
 have hno:¬((((sIx items.size 0 lo:Nat):Int)==0&&(1:Int)==1&&(sIx items.size items.size hi - sIx items.size 0 lo)==items.size)=true):=by
  intro q
  rw [Bool.and_eq_true,Bool.and_eq_true] at q
  have q1:((sIx items.size 0 lo:Nat):Int)=0:=eq_of_beq q.1.1
  have q2:sIx items.size items.size hi - sIx items.size 0 lo=items.size:=eq_of_beq q.2
  exact hw ⟨by omega,by omega⟩
 show wpAny _ _ (if (((sIx items.size 0 lo:Nat):Int)==0&&(1:Int)==1&&(sIx items.size items.size hi - sIx items.size 0 lo)==items.size)=true then _ else _) _ _ s
 rw [if_neg hno,Lp]
 first
  | exact wpAny_bind (m:=Builtin.Tuple.tupleExact _) (wpAny_newObj_type (wpAny_pure ⟨_,rfl,wpAny_pure h⟩) htake)
  | exact wpAny_bind (m:=Builtin.Tuple.tupleExact _) (wpAny_newObj_type (wpAny_bind (wpAny_pure (wpAny_pure ⟨_,rfl,wpAny_pure h⟩))) htake)
  | exact wpAny_bind (wpAny_bind (m:=Builtin.Tuple.tupleExact _) (wpAny_newObj_type (wpAny_pure (wpAny_pure ⟨_,rfl,wpAny_pure h⟩)) htake))
  | exact wpAny_bind (wpAny_bind (m:=Builtin.Tuple.tupleExact _) (wpAny_newObj_type (wpAny_pure ⟨_,rfl,wpAny_pure h⟩) htake))
end
end HT
namespace L2
open PySem PySem.Spec PyProof.Rows
noncomputable abbrev TO:=St->Hp->(Option Int->Hp->Prop)->Prop
noncomputable def PO(X:Cx)(e:Option Expr)(t:TO):Prop :=
 ∀(pins:List (Addr×Obj)) (s:Shared) (σ:St) (H:Hp) (Q:Option Int->Hp->Prop),Inv X pins σ H s->t σ H Q ->
  wpAny (model X.prog X.w) X.A (evalPart e X.env) (fun u s'=>∃o H',Inv X pins σ H' s'/\IsPart u o/\Q o H') X.xe s
noncomputable def NS:TO:=fun _ H Q=>Q none H
noncomputable def Qr(t:TE):TO:=fun σ H Q=>t σ H fun x H1=>∃i,x=.int i/\Q (some i) H1
section
variable {X:Cx}{e:Expr}{te:TE}{lo hi:Option Expr}{tl th:TO}{pos p2:Pos}
theorem Jo:PO X none NS:=by
 intro pins s σ H Q I h
 rw [evalPart_none]
 exact wpAny_pure ⟨none,H,I,.none,h⟩
theorem Jn(h:PE X e te):PO X (some e) (Qr te):=by
 intro pins s σ H Q I hw
 rw [evalPart_some]
 refine A2 (h pins s σ H _ I hw) fun u s1 ⟨x,H1,I1,r1,q1⟩=>?_
 obtain⟨i,rfl,q⟩:=q1
 obtain⟨t,rfl⟩:=r1
 exact⟨some i,H1,I1,.int i t,q⟩
noncomputable def SlR(X:Cx)(r:V->Option Int->Option Int->Hp->VK->Prop):Prop :=
 ∀(pins:List (Addr×Obj)) (s:Shared) (σ:St) (H:Hp) (x:V) (v vl vu:Value) (lo hi:Option Int) (sl:Addr) (Q:VK),Inv X pins σ H s->RelV x v->s.heap.IsSliceOf sl vl vu .none->IsPart vl lo->IsPart vu hi->r x lo hi H Q ->
  ∃T id,typeLookup (.type T) "__getitem__"=pure (some (.builtin id))/\s.TypeIs v T/\wpAny (model X.prog X.w) X.A (getItem v (.ref sl)) (EP X pins σ Q) X.xe s
theorem SlR.or{r r':V->Option Int->Option Int->Hp->VK->Prop}(h:SlR X r)(h':SlR X r'):SlR X (fun x lo hi H Q=>r x lo hi H Q\/r' x lo hi H Q):=by
 intro pins s σ H x v vl vu lo hi sl Q I rx hs pl pu q
 rcases q with q | q
 ·exact h pins s σ H x v vl vu lo hi sl Q I rx hs pl pu q
 ·exact h' pins s σ H x v vl vu lo hi sl Q I rx hs pl pu q
noncomputable def S3(r:V->Option Int->Option Int->Hp->VK->Prop)(te:TE)(tl th:TO):TE:=fun σ H Q=>te σ H fun x H1=>tl σ H1 fun l H2=>th σ H2 fun u H3=>r x l u H3 Q
theorem Hi{r:V->Option Int->Option Int->Hp->VK->Prop}(hr:SlR X r)(he:PE X e te)(hl:PO X lo tl)(hu:PO X hi th):PE X (.Subscript e (.Slice lo hi none p2) pos) (S3 r te tl th):=by
 intro pins s σ H Q I h
 refine Subscript_ (A2 (he pins s σ H _ I h) fun v s1 ⟨x,H1,I1,r1,q1⟩=>?_)
 refine wpAny_Slice (A2 (hl pins s1 σ H1 _ I1 q1) fun vl s2 ⟨l,H2,I2,pl,q2⟩=>A2 (hu pins s2 σ H2 _ I2 q2) fun vu s3 ⟨u,H3,I3,pu,q3⟩=>?_)
 rw [evalPart_none]
 refine wpAny_pure ?_
 have I4:Inv X pins σ H3 { s3 with heap:=s3.heap.push { cls:=.type "slice",data:=.fields #[vl,vu,.none] } }:=I3.kept (t':=s3.toks) fun b ob q=>Heap.get?_push_of_some _ q
 obtain⟨T,id,hT,ht,hg⟩:=hr pins { s3 with heap:=s3.heap.push { cls:=.type "slice",data:=.fields #[vl,vu,.none] } } σ H3 x v vl vu l u s3.heap.objs.size Q I4 r1 (Heap.IsSliceOf.new ..) pl pu q3
 show wpAny (model X.prog X.w) X.A (subscriptTail e (.Slice lo hi none p2) v (.ref s3.heap.objs.size)) (EP X pins σ Q) X.xe { s3 with heap:=s3.heap.push { cls:=.type "slice",data:=.fields #[vl,vu,.none] } }
 exact tail_any (ops:=[.ref s3.heap.objs.size,v]) ht hT hg (by with_unfolding_all rfl)
noncomputable def Fc(xs:List V)(lo hi:Option Int):List V:=(xs.drop (HT.sIx xs.length 0 lo)).take (HT.sIx xs.length xs.length hi - HT.sIx xs.length 0 lo)
theorem EQ(xs:List V)(lo hi:Option Int):(Fc xs lo hi).length<=xs.length:=by
 unfold Fc
 rw [List.length_take,List.length_drop]
 omega
noncomputable def Q1(K:Frag):V->Option Int->Option Int->Hp->VK->Prop:=fun x lo hi H Q=>∃a xs,x=.ref a/\SqT K H a xs /\
 ¬(HT.sIx xs.length 0 lo=0/\HT.sIx xs.length xs.length hi=xs.length)/\∀p,H p=none->Q (.ref p) (Aw H p (.tup (Fc xs lo hi)))
theorem sl_tup:SlR X (Q1 X.K):=by
 intro pins s σ H x v vl vu lo hi sl Q I rx hs pl pu h
 obtain⟨a,xs,rfl,hx,hw,q⟩:=h
 cases rx
 obtain⟨its,r,ht,hz⟩:=I.tuple hx
 have hlen:its.toArray.size=xs.length:=by rw [List.size_toArray]; exact r.length.symm
 refine⟨"tuple",_,PyProof.Rows.slot_tuple_getitem.lookup,ht.typeIs,?_⟩
 refine HT.getItem_tuple_cut ht hs pl pu (by rw [hlen]; exact hw) ?_ (by rw [hlen]; exact hz)
 rw [hlen]
 refine⟨.ref s.heap.objs.size,_,I.laid (t':=s.toks) (o:=.tup (Fc xs lo hi)) (fun b ob q=>Heap.get?_push_of_some _ q) (Nat.le_refl _) ?_,rfl,q _ (I.hok.fresh (Nat.le_refl _))⟩
 exact⟨Nat.le_trans (EQ xs lo hi) hz,_,(r.drop (HT.sIx xs.length 0 lo)).take (HT.sIx xs.length xs.length hi - HT.sIx xs.length 0 lo),IsTupN.new _ _⟩
noncomputable def Lh(K:Frag):R2:=fun x y H Q=>∃a b xs ys,x=.ref a/\y=.ref b/\SqT K H a xs/\SqT K H b ys/\xs≠[]/\xs.length+ys.length<=sizeLine /\
 (ys=[]->Q (.ref a) H)/\(ys≠[]->∀p,H p=none->Q (.ref p) (Aw H p (.tup (xs++ys))))
theorem Vals.nil_iff{xs:List V}{us:List Value}(r:Vals xs us):us=[]↔xs=[]:=by
 cases r with
 | nil=>simp
 | cons _ _=>simp
theorem op_catT:OpR X (binaryOp .Add) (Lh X.K):=by
 intro pins s σ H x y v u Q I rx ry h
 obtain⟨a,b,xs,ys,rfl,rfl,ha,hb,hx,hz,q1,q2⟩:=h
 cases rx
 cases ry
 obtain⟨its,r1,p1,_⟩:=I.tuple ha
 obtain⟨its2,r2,p2,_⟩:=I.tuple hb
 refine HT.cat_tup p1 p2 (fun z=>hx (r1.nil_iff.mp z)) (fun z=>⟨.ref a,H,I,rfl,q1 (r2.nil_iff.mp z)⟩) (fun z=>?_) (by rw [← r1.length,← r2.length]; exact hz)
 refine⟨.ref s.heap.objs.size,_,I.laid (t':=s.toks) (o:=.tup (xs++ys)) (fun b ob q=>Heap.get?_push_of_some _ q) (Nat.le_refl _) ?_,rfl,q2 (fun w=>z (r2.nil_iff.mpr w)) _ (I.hok.fresh (Nat.le_refl _))⟩
 exact⟨by rw [List.length_append]; exact hz,_,r1.append r2,IsTupN.new _ _⟩
end
noncomputable def NJ(n:Nat)(i:Int):Option Nat:=if 0<=i then (if i<n then some i.toNat else none) else if -(n:Int)<=i then some (i+n).toNat else none
noncomputable def atI{α:Type}(xs:List α)(i:Int):Option α:=(NJ xs.length i).bind fun j=>xs[j]?
theorem Jw{n:Nat}{i:Int}{j:Nat}(h:NJ n i=some j):seqIndex? i n=some j/\j<n/\-(n:Int)<=i/\i<n:=by
 unfold NJ at h
 by_cases h0:0<=i
 ·rw [if_pos h0] at h
  by_cases h1:i<n
  ·rw [if_pos h1] at h
   have e:i.toNat=j:=Option.some.inj h
   exact⟨by rw [seqIndex_of h0 h1,e],by omega,by omega,h1⟩
  ·rw [if_neg h1] at h; cases h
 ·rw [if_neg h0] at h
  by_cases h1:-(n:Int)<=i
  ·rw [if_pos h1] at h
   have e:(i+n).toNat=j:=Option.some.inj h
   exact⟨by rw [seqIndex_neg (by omega) h1,e],by omega,h1,by omega⟩
  ·rw [if_neg h1] at h; cases h
theorem HD{α:Type}{xs:List α}{i:Int}{v:α}(h:atI xs i=some v):∃j,seqIndex? i xs.length=some j/\xs[j]?=some v/\j<xs.length/\-(xs.length:Int)<=i/\i<xs.length:=by
 unfold atI at h
 cases e:NJ xs.length i with
 | none=>rw [e] at h; cases h
 | some j =>
  rw [e] at h
  obtain⟨h1,h2,h3,h4⟩:=Jw e
  exact⟨j,h1,h,h2,h3,h4⟩
theorem AZ{α:Type}{xs:List α}{j:Nat}{v:α}(h:xs[j]?=some v):atI xs (j:Int)=some v:=by
 have hj:j<xs.length:=(List.getElem?_eq_some_iff.mp h).1
 have e:NJ xs.length (j:Int)=some j:=by
  unfold NJ
  rw [if_pos (by omega),if_pos (by omega)]; simp
 unfold atI; rw [e]; exact h
theorem IW{α:Type}(xs:List α)(v:α):atI (xs++[v]) (-1)=some v:=by
 have hl:(xs++[v]).length=xs.length+1:=by simp
 have e:NJ (xs++[v]).length (-1)=some xs.length:=by
  unfold NJ
  rw [hl,if_neg (by decide),if_pos (by omega)]
  congr 1
  omega
 unfold atI
 rw [e]
 show (xs++[v])[xs.length]?=some v
 simp
noncomputable def KR(b:Expr):Prop:=∀o i,subscripted b false o i=operate [o,i] (getItem o i)
noncomputable def IxR(X:Cx)(r:R2):Prop :=
 ∀(value slice:Expr) (pins:List (Addr×Obj)) (s:Shared) (σ:St) (H:Hp) (x y:V) (v u:Value) (Q:VK),Inv X pins σ H s->RelV x v->RelV y u->r x y H Q ->
  subscripted slice false v u=operate [v,u] (getItem v u)->wpAny (model X.prog X.w) X.A (subscriptTail value slice v u) (EP X pins σ Q) X.xe s
noncomputable def Qi(X:Cx)(id:String)(r:V->List V->Hp->VK->Prop):Prop :=
 ∀(pins:List (Addr×Obj)) (s:Shared) (σ:St) (H:Hp) (x:V) (xs:List V) (v:Value) (us:List Value) (Q:VK),Inv X pins σ H s->RelV x v->Vals xs us->r x xs H Q ->
  wpAny (model X.prog X.w) X.A (call (.builtin id) (v::us)) (EP X pins σ Q) X.xe s
section
variable {X:Cx}{a b:Expr}{ta tb:TE}{pos:Pos}
theorem IxR.or{r r':R2}(h:IxR X r)(h':IxR X r'):IxR X (fun x y H Q=>r x y H Q\/r' x y H Q):=by
 intro value slice pins s σ H x y v u Q I rx ry q hs
 rcases q with q | q
 ·exact h value slice pins s σ H x y v u Q I rx ry q hs
 ·exact h' value slice pins s σ H x y v u Q I rx ry q hs
theorem Cy{r:R2}(hr:IxR X r)(ha:PE X a ta)(hb:PE X b tb)(hs:KR b):PE X (.Subscript a b pos) (CI r ta tb):=by
 intro pins s σ H Q I h
 exact Subscript_ (QM ha hb I h fun v u s2 x y H2 I2 rx ry q=>hr a b pins s2 σ H2 x y v u Q I2 rx ry q (hs _ _))
noncomputable def Pf(K:Frag):R2:=fun x y H Q=>∃p xs i v,x=.ref p/\y=.int i/\SqL K H p xs/\atI xs i=some v/\Q v H
noncomputable def Q8(K:Frag):R2:=fun x y H Q=>∃p xs i v,x=.ref p/\y=.int i/\SqT K H p xs/\atI xs i=some v/\Q v H
noncomputable def Q9:R2:=fun x y H Q=>∃z i c,x=.str z/\y=.int i/\z.length<=sizeLine/\atI z.cps.toList i=some c/\Q (.str ⟨#[c]⟩) H
theorem ix_list:IxR X (Pf X.K):=by
 intro value slice pins s σ H x y v u Q I rx ry h hs
 obtain⟨p,xs,i,z,rfl,rfl,hq,he,q⟩:=h
 cases rx
 obtain⟨t,rfl⟩:=ry
 obtain⟨its,r,pl,hz⟩:=I.list hq
 obtain⟨j,h1,h2,h3,h4,h5⟩:=HD he
 obtain⟨w,ew,rw'⟩:=r.get h2
 have hl:=r.length
 have hn:=D7
 have fin:EP X pins σ Q w s:=⟨z,H,I,rw',q⟩
 by_cases h0:0<=i
 ·have hj:i.toNat=j:=by
   rw [seqIndex_of h0 h5] at h1
   exact Option.some.inj h1
  exact item_listR pl.isList h0 (by omega) (by rw [hj]; simpa using ew) fin hs
 ·have hj:(i+(its.toArray.size:Int)).toNat=j:=by
   rw [seqIndex_neg (by omega) h4] at h1
   rw [List.size_toArray,← hl]
   exact Option.some.inj h1
  exact subscriptTail_builtinR (x:=w) pl.isList.typeIs slot_list_getitem.lookup
   (wpAny_getItem_list_neg (Q:=fun r s'=>r=w/\EP X pins σ Q r s') pl.isList (by omega) (by rw [List.size_toArray] <;> omega) (by omega) (by rw [hj]; simpa using ew) ⟨rfl,fin⟩) hs
theorem ix_tup:IxR X (Q8 X.K):=by
 intro value slice pins s σ H x y v u Q I rx ry h hs
 obtain⟨p,xs,i,z,rfl,rfl,hq,he,q⟩:=h
 cases rx
 obtain⟨t,rfl⟩:=ry
 obtain⟨its,r,pl,hz⟩:=I.tuple hq
 obtain⟨j,h1,h2,h3,h4,h5⟩:=HD he
 obtain⟨w,ew,rw'⟩:=r.get h2
 have hl:=r.length
 have hn:=D7
 have fin:EP X pins σ Q w s:=⟨z,H,I,rw',q⟩
 exact subscriptTail_builtinR (x:=w) pl.typeIs slot_tuple_getitem.lookup
  (getItem_tuple (j:=j) (Q:=fun r s'=>r=w/\EP X pins σ Q r s') pl (by omega) (by omega) (by rw [List.size_toArray,← hl]; exact h1) (by simpa using ew) ⟨rfl,fin⟩) hs
theorem P9:IxR X Q9:=by
 intro value slice pins s σ H x y v u Q I rx ry h hs
 obtain⟨z,i,c,rfl,rfl,hz,he,q⟩:=h
 obtain⟨t,rfl⟩:=rx
 obtain⟨t',rfl⟩:=ry
 obtain⟨j,h1,h2,h3,h4,h5⟩:=HD he
 have hl:z.cps.toList.length=z.length:=by simp [Str.length]
 rw [hl] at h1 h4 h5
 have hn:=D7
 exact tail_any (typeIs_str s z t) slot_str_getitem.lookup (getItem_str (c:=c) (by
  have e1:decide (i < -(2 ^ 63:Int))=false:=decide_eq_false (by omega)
  have e2:decide (i≥2 ^ 63)=false:=decide_eq_false (by omega)
  rw [e1,e2,Bool.or_false]) (by rw [h1]; simpa using h2) ⟨.str ⟨#[c]⟩,H,I.tok _,⟨_,rfl⟩,q⟩) hs
noncomputable def Sr(K:Frag):R2:=fun x y H Q=>Pf K x y H Q\/Q8 K x y H Q\/Q9 x y H Q
theorem Ah:IxR X (Sr X.K):=ix_list.or (ix_tup.or P9)
theorem JC(its:List Value)(n j:Nat)(u:Value):Obj.mapSeq (·.setIfInBounds j u) { cls:=.type "list",data:=.seq its.toArray n }={ cls:=.type "list",data:=.seq (its.set j u).toArray n }:=by
 simp [Obj.mapSeq]
theorem Inv.lst{pins:List (Addr×Obj)}{σ:St}{H:Hp}{s:Shared}{p:Addr}{xs:List V}(I:Inv X pins σ H s)(h:H p=some (.lst xs)) :
  ∃(its:List Value) (n:Nat),Vals xs its/\s.heap.get? p=some { cls:=.type "list",data:=.seq its.toArray n }/\xs.length<=sizeLine:=by
 obtain⟨z,its,n,r,e⟩:=I.hok p _ h
 exact⟨its,n,r,e,z⟩
theorem Inv.lstUpd{pins:List (Addr×Obj)}{σ:St}{H:Hp}{s:Shared}{p:Addr}{xs ys:List V}{its its':List Value}{n n':Nat}{f:Obj->Obj}(I:Inv X pins σ H s)(h:H p=some (.lst xs))
  (ho:s.heap.get? p=some { cls:=.type "list",data:=.seq its.toArray n }) (hf:f { cls:=.type "list",data:=.seq its.toArray n }={ cls:=.type "list",data:=.seq its'.toArray n' }) (r:Vals ys its') (hz:ys.length<=sizeLine) (t:Nat) :
  Inv X pins σ (Aw H p (.lst ys)) { s with heap:=s.heap.update p f,toks:=t }:=by
 have e:(s.heap.update p f).get? p=some { cls:=.type "list",data:=.seq its'.toArray n' }:=by
  rw [Heap.get?_update_self f ho (by rw [hf] <;> rfl),hf]
 refine I.write (x:=p) (e:=p) (by rw [h]; trivial) (.inl rfl) (fun b u hb q=>(Heap.get?_update_other _ _ (Ne.symm hb)).trans q) ⟨_,e⟩ ?_
 exact⟨hz,its',n',r,e⟩
noncomputable def Os:V->V->V->Hp->(Hp->Prop)->Prop:=fun o i v H Q=>∃p xs k j,o=.ref p/\i=.int k/\H p=some (.lst xs)/\NJ xs.length k=some j/\Q (Aw H p (.lst (xs.set j v)))
theorem set_list:Rn X Os:=by
 intro pins s σ H o i v ov iv u Q I ro ri rv h
 obtain⟨p,xs,k,j,rfl,rfl,hp,hj,q⟩:=h
 cases ro
 obtain⟨t,rfl⟩:=ri
 obtain⟨its,n,r,ho,hz⟩:=I.lst hp
 obtain⟨h1,h2,h3,h4⟩:=Jw hj
 have hl:=r.length
 have hn:=D7
 have I':Inv X pins σ (Aw H p (.lst (xs.set j v))) { s with heap:=s.heap.update p (Obj.mapSeq (·.setIfInBounds j u)) } :=
  I.lstUpd hp ho (JC its n j u) (r.set rv j) (by rw [List.length_set]; exact hz) s.toks
 by_cases h0:0<=k
 ·have hk:k.toNat=j:=by
   rw [seqIndex_of h0 h4] at h1
   exact Option.some.inj h1
  exact PySem.W.ki_setAt ho h0 (by omega) (by rw [List.size_toArray,← hl]; exact h4) (by rw [hk]; exact⟨_,I',q⟩)
 ·have hk:(k+(its.toArray.size:Int)).toNat=j:=by
   rw [seqIndex_neg (by omega) h3] at h1
   rw [List.size_toArray,← hl]
   exact Option.some.inj h1
  exact PySem.W.ki_setBack ho (by omega) (by rw [List.size_toArray,← hl]; exact h3) (by omega) (by rw [hk]; exact⟨_,I',q⟩)
theorem GZ(lo hi:Option Int)(n:Nat):(sliceBounds lo hi none n).1=((HT.sIx n 0 lo:Nat):Int)/\(sliceBounds lo hi none n).2.1=((HT.sIx n n hi:Nat):Int)/\(sliceBounds lo hi none n).2.2=1:=by
 refine⟨?_,?_,rfl⟩
 ·cases lo with
  | none=>simp [sliceBounds,HT.sIx]
  | some i =>
   simp only [sliceBounds,HT.sIx,Option.getD_none,show (1:Int) > 0 by decide,if_true]
   by_cases h:i<0
   ·simp only [h,if_true] <;> omega
   ·simp only [h,if_false] <;> omega
 ·cases hi with
  | none=>simp [sliceBounds,HT.sIx]
  | some i =>
   simp only [sliceBounds,HT.sIx,Option.getD_none,show (1:Int) > 0 by decide,if_true]
   by_cases h:i<0
   ·simp only [h,if_true] <;> omega
   ·simp only [h,if_false] <;> omega
theorem FR(its:List Value)(lo hi:Option Int):slicePick its.toArray lo hi none=((its.drop (HT.sIx its.length 0 lo)).take (HT.sIx its.length its.length hi - HT.sIx its.length 0 lo)).toArray:=by
 obtain⟨h1,h2,h3⟩:=GZ lo hi its.toArray.size
 unfold slicePick
 rw [h1,h2,h3]
 simp only [sliceRange_one,pick_run,List.size_toArray] <;> rfl
noncomputable def Q2(K:Frag):V->Option Int->Option Int->Hp->VK->Prop:=fun x lo hi H Q=>∃a xs,x=.ref a/\SqL K H a xs/\∀p,H p=none->Q (.ref p) (Aw H p (.lst (Fc xs lo hi)))
theorem sl_list:SlR X (Q2 X.K):=by
 intro pins s σ H x v vl vu lo hi sl Q I rx hs pl pu h
 obtain⟨a,xs,rfl,hx,q⟩:=h
 cases rx
 obtain⟨its,r,ht,hz⟩:=I.list hx
 have hlen:=r.length
 refine⟨"list",_,slot_list_getitem.lookup,ht.isList.typeIs,?_⟩
 refine wpAny_getItem_list_slice ht.isList hs pl pu .none (by simp) ?_ (by rw [List.size_toArray] <;> omega)
 rw [FR,← hlen]
 refine⟨.ref s.heap.objs.size,_,I.laid (t':=s.toks) (o:=.lst (Fc xs lo hi)) (fun b ob q=>Heap.get?_push_of_some _ q) (Nat.le_refl _) ?_,rfl,q _ (I.hok.fresh (Nat.le_refl _))⟩
 exact⟨Nat.le_trans (EQ xs lo hi) hz,_,0,(r.drop (HT.sIx xs.length 0 lo)).take (HT.sIx xs.length xs.length hi - HT.sIx xs.length 0 lo),Heap.get?_push_size _ rfl⟩
noncomputable def O6:V->Bool
 | .non=>true
 | .bl _=>true
 | .int _=>true
 | .str _=>true
 | _=>false
noncomputable def RX:V->V->Bool
 | .non,.non=>true
 | .bl a,.bl b=>a==b
 | .bl a,.int b=>(if a then 1 else 0)==b
 | .int a,.bl b=>a==(if b then 1 else 0)
 | .int a,.int b=>a==b
 | .str a,.str b=>a==b
 | _,_=>false
theorem G5{A:Around}{s:Shared}{y x:V}{u v:Value}(ry:RelV y u)(rx:RelV x v)(fy:O6 y=true)(fx:O6 x=true):SeqAt.EqAt A s u v (RX y x):=by
 cases y with
 | non =>
  cases ry
  cases x with
  | non=>cases rx; exact SeqAt.EqAt.same _
  | bl b=>cases rx; exact SeqAt.EqAt.none_bool b
  | int b=>obtain⟨t,rfl⟩:=rx; exact SeqAt.EqAt.none_int b t
  | str b=>obtain⟨t,rfl⟩:=rx; exact SeqAt.EqAt.none_str b t
  | _=>exact absurd (show false=true from fx) Bool.false_ne_true
 | bl a =>
  cases ry
  cases x with
  | non=>cases rx; exact SeqAt.EqAt.bool_none a
  | bl b=>cases rx; exact SeqAt.EqAt.bool_bool a b
  | int b=>obtain⟨t,rfl⟩:=rx; exact SeqAt.EqAt.bool_int a b t
  | str b=>obtain⟨t,rfl⟩:=rx; exact SeqAt.EqAt.bool_str a b t
  | _=>exact absurd (show false=true from fx) Bool.false_ne_true
 | int a =>
  obtain⟨t',rfl⟩:=ry
  cases x with
  | non=>cases rx; exact SeqAt.EqAt.int_none a t'
  | bl b=>cases rx; exact SeqAt.EqAt.int_bool a t' b
  | int b=>obtain⟨t,rfl⟩:=rx; exact SeqAt.EqAt.int_int a t' b t
  | str b=>obtain⟨t,rfl⟩:=rx; exact SeqAt.EqAt.int_str a t' b t
  | _=>exact absurd (show false=true from fx) Bool.false_ne_true
 | str a =>
  obtain⟨t',rfl⟩:=ry
  cases x with
  | non=>cases rx; exact SeqAt.EqAt.str_none a t'
  | bl b=>cases rx; exact SeqAt.EqAt.str_bool a t' b
  | int b=>obtain⟨t,rfl⟩:=rx; exact SeqAt.EqAt.str_int a t' b t
  | str b=>obtain⟨t,rfl⟩:=rx; exact SeqAt.EqAt.str_str a t' b t
  | _=>exact absurd (show false=true from fx) Bool.false_ne_true
 | _=>exact absurd (show false=true from fy) Bool.false_ne_true
theorem Dq:Bu X (.type "list") (fun xs H Q=>∃p ys,xs=[.ref p]/\(SqL X.K H p ys\/SqT X.K H p ys)/\∀l,H l=none->Q (.ref l) (Aw H l (.lst ys))):=by
 intro pins s σ H xs us Q I r h
 obtain⟨p,ys,rfl,hq,q⟩:=h
 obtain⟨u,rfl,rx⟩:=vals1 r
 cases rx
 have fin:∀(its:List Value),Vals ys its->ys.length<=sizeLine->∀(h':Heap) (c':Nat),(∀b o',s.heap.get? b=some o'->h'.get? b=some o') ->
   h'.get? s.heap.objs.size=some { cls:=.type "list",dict:=none,data:=.seq its.toArray c',slots:=#[] }->EP X pins σ Q (.ref s.heap.objs.size) { s with heap:=h' }:=fun its r' hz h' c' kp e =>
  ⟨.ref s.heap.objs.size,_,I.laid (t':=s.toks) kp (Nat.le_refl _) (show ObjOk X.prog X.w _ h' _ (.lst ys) from⟨hz,its,c',r',e⟩),rfl,q _ (I.hok.fresh (Nat.le_refl _))⟩
 rcases hq with hq | hq
 ·obtain⟨its,r',pl,hz⟩:=I.list hq
  have hlen:=r'.length
  obtain⟨o,ho,hc,n,hd⟩:=pl.isList
  exact call_list_seq p (.inl rfl) ho hc hd (fun h' c' kp e=>fin its r' hz h' c' kp e) (by simp only [List.size_toArray] <;> omega)
 ·obtain⟨its,r',pl,hz⟩:=I.tuple hq
  have hlen:=r'.length
  obtain⟨o,ho,hc,n,hd⟩:=pl
  exact call_list_seq p (.inr rfl) ho hc hd (fun h' c' kp e=>fin its r' hz h' c' kp e) (by simp only [List.size_toArray] <;> omega)
theorem Bp:Bu X (.type "tuple") (fun xs H Q=>∃p ys,xs=[.ref p]/\((SqL X.K H p ys/\∀l,H l=none->Q (.ref l) (Aw H l (.tup ys)))\/(SqT X.K H p ys/\Q (.ref p) H))):=by
 intro pins s σ H xs us Q I r h
 obtain⟨p,ys,rfl,h⟩:=h
 obtain⟨u,rfl,rx⟩:=vals1 r
 cases rx
 rcases h with ⟨hq,q⟩ | ⟨hq,q⟩
 ·obtain⟨its,r',pl,hz⟩:=I.list hq
  have hlen:=r'.length
  refine call_tuple_list pl.isList (fun h' kp=>?_) (by simp only [List.size_toArray] <;> omega)
  have I1:Inv X pins σ H { s with heap:=h' }:=I.kept (t':=s.toks) kp
  have I2:Inv X pins σ (Aw H h'.objs.size (.tup ys)) { s with heap:=h'.push { cls:=.type "tuple",data:=.seq its.toArray } } :=
   I1.laid (t':=s.toks) (fun b o e=>Heap.get?_push_of_some _ e) (Nat.le_refl _) (show ObjOk X.prog X.w _ _ _ (.tup ys) from⟨hz,its,r',IsTupN.new _ _⟩)
  exact⟨.ref h'.objs.size,_,I2,rfl,q _ (I1.hok.fresh (Nat.le_refl _))⟩
 ·obtain⟨its,r',pl,hz⟩:=I.tuple hq
  exact call_tuple_same pl ⟨.ref p,H,I,rfl,q⟩
noncomputable def Rv(K:Frag)(T:String)(x:V)(H:Hp):Prop:=match x with
 | .str _=>T = "str"
 | .int _=>T = "int"
 | .ref p=>(T = "list"/\∃xs,SqL K H p xs)\/(T = "tuple"/\∃o,K.lookup p=some o/\o.cls=.type "tuple"/\o.dict=none) \/
   (T = "dict"/\((∃kvs,H p=some (.dK kvs))\/∃kvs,H p=some (.dT kvs)))\/(T = "set"/\∃S n,H p=some (.set S n))
 | _=>False
theorem LL{pins:List (Addr×Obj)}{σ:St}{H:Hp}{s:Shared}{T:String}{x:V}{v:Value}(I:Inv X pins σ H s)(r:RelV x v)(ty:Rv X.K T x H) :
  s.TypeIs v T/\∀a,v=.ref a->∃ob,s.heap.get? a=some ob/\ob.dict=none:=by
 cases x with
 | str z =>
  obtain⟨t,rfl⟩:=r
  cases (show T = "str" from ty)
  exact⟨typeIs_str s z t,fun _ e=>nomatch e⟩
 | int i =>
  obtain⟨t,rfl⟩:=r
  cases (show T = "int" from ty)
  exact⟨typeIs_int s i t,fun _ e=>nomatch e⟩
 | ref p =>
  cases r
  rcases ty with ⟨rfl,xs,hq⟩ | ⟨rfl,o,hk,hc,hd⟩ | ⟨rfl,hk⟩ | ⟨rfl,S,n,hk⟩
  ·obtain⟨its,_,pl,_⟩:=I.list hq
   refine⟨pl.isList.typeIs,fun a e=>?_⟩
   cases e
   obtain⟨o,n,e,c,hd,_⟩:=pl
   exact⟨o,e,hd⟩
  ·refine⟨⟨o,I.kIn p o hk,hc⟩,fun a e=>?_⟩
   cases e
   exact⟨o,I.kIn _ o hk,hd⟩
  ·have z:∃o,s.heap.get? p=some o/\o.ExactDict:=by
    rcases hk with ⟨kvs,hk⟩ | ⟨kvs,hk⟩
    ·obtain⟨_,_,_,_,o,_,_,e,ex,_⟩:=I.hok p _ hk
     exact⟨o,e,ex⟩
    ·obtain⟨_,_,_,_,o,_,_,e,ex,_⟩:=I.hok p _ hk
     exact⟨o,e,ex⟩
   obtain⟨o,e,ex⟩:=z
   refine⟨⟨o,e,ex.1⟩,fun a e2=>?_⟩
   cases e2
   exact⟨o,e,ex.2.1⟩
  ·obtain⟨o,_,_,_,e,ex,_⟩:=I.hok p _ hk
   refine⟨⟨o,e,ex.1⟩,fun a e2=>?_⟩
   cases e2
   exact⟨o,e,ex.2.1⟩
 | _=>exact False.elim ty
noncomputable def SQ(K:Frag)(T:String)(r:V->List V->Hp->VK->Prop)(to:TE):TE:=fun σ H Q=>to σ H fun x H1=>Rv K T x H1/\r x [] H1 Q
noncomputable def S6(K:Frag)(T:String)(r:V->List V->Hp->VK->Prop)(to:TE)(t:TA):TE:=fun σ H Q=>to σ H fun x H1=>Rv K T x H1/\t σ H1 fun xs H2=>r x xs H2 Q
variable {o e:Expr}{es:List Expr}{to:TE}{t:TA}{name:Str}{apos cpos:Pos}{T id:String}{r:V->List V->Hp->VK->Prop}
theorem Ps(pa:PlainAttrs T)(slot:Slot T name id)(hty:typeOf (.builtin id)=pure (.type "method_descriptor"))(hm:Qi X id r)(ho:PE X o to)
  (hbase:autoParam (attributeBase o name X.env (eval o X.env)=eval o X.env) zau3._auto_1) (hline:autoParam ((apos.endLine==cpos.line)=true) zau3._auto_1):PE X (.Call (.Attribute o name apos) [] [] cpos) (SQ X.K T r to):=by
 intro pins s σ H Q I h
 refine wpAny_Call_method0_late hbase hline (A2 (ho pins s σ H _ I h) fun v s1 ⟨x,H1,I1,r1,ty,q1⟩=>?_)
 obtain⟨h1,h2⟩:=LL I1 r1 ty
 exact⟨T,id,pa,slot,hty,h1,h2,Calls.callWith_builtin rfl (PySem.evalArgs_none (hm pins s1 σ H1 x [] v [] Q I1 r1 .nil q1))⟩
theorem O2(pa:PlainAttrs T)(slot:Slot T name id)(hty:typeOf (.builtin id)=pure (.type "method_descriptor"))(hm:Qi X id r)(ho:PE X o to)(ha:PA X (e::es) t)
  (hbase:autoParam (attributeBase o name X.env (eval o X.env)=eval o X.env) zau3._auto_1)
  (hfew:autoParam (((backTo cpos (starEach (e::es) X.env)).all (fun x=>!x.1)&&(backToKw cpos (keywordEach [] X.env)).all (fun x=>x.1.isSome)
   && decide ((e::es).length+([]:List Keyword).length+(if ([]:List Keyword).isEmpty then 0 else 1)<30))=true) zau3._auto_1)
  (hline:autoParam ((apos.endLine==cpos.line)=true) zau3._auto_1) (hs:autoParam (starEach (e::es) X.env=(false,eval e X.env)::starEach es X.env) zau3._auto_1) (hplain:autoParam ((backTo cpos (starEach es X.env)).any (·.1)=false) zau3._auto_1) :
  PE X (.Call (.Attribute o name apos) (e::es) [] cpos) (S6 X.K T r to t):=by
 intro pins s σ H Q I h
 refine wpAny_Call_method_late hbase hfew hline rfl (A2 (ho pins s σ H _ I h) fun v s1 ⟨x,H1,I1,r1,ty,q1⟩=>?_)
 obtain⟨h1,h2⟩:=LL I1 r1 ty
 refine⟨T,id,pa,slot,hty,h1,h2,?_⟩
 have hA:=ha cpos pins s1 σ H1 _ I1 q1
 rw [hs] at hA ⊢
 refine Calls.callWith_builtin (by show (false||(backTo cpos (starEach es X.env)).any (·.1))=false; rw [hplain] <;> rfl) (Calls.evalArgs_plain ?_)
 exact A2 hA fun us s2 ⟨vs,H2,I2,r2,q2⟩=>hm pins s2 σ H2 x vs v us Q I2 r1 r2 q2
end
noncomputable def R_(X:Cx)(id:String)(r:V->List V->Hp->VK->Prop):Prop :=
 ∀(pins:List (Addr×Obj)) (s:Shared) (σ:St) (H:Hp) (x:V) (xs:List V) (v:Value) (us:List Value) (Q:VK),Inv X pins σ H s->RelV x v->Vals xs us->r x xs H Q ->
  wpAny (model X.prog X.w) X.A (call (.builtin id) (v::us)) (EP X pins σ Q) X.xe s
theorem Vals.one:∀{x:V} {us:List Value},Vals [x] us->∃u,us=[u]/\RelV x u
 | _,_,.cons r .nil=>⟨_,rfl,r⟩
theorem Vals.zero:∀{us:List Value},Vals [] us->us=[]
 | _,.nil=>rfl
theorem Vals.reverse{xs:List V}{us:List Value}(h:Vals xs us):Vals xs.reverse us.reverse:=by
 induction h with
 | nil=>exact .nil
 | cons r t ih=>rw [List.reverse_cons,List.reverse_cons]; exact Vals.append ih (.cons r .nil)
section
variable {X:Cx}{pins:List (Addr×Obj)}{σ:St}{H:Hp}{s:Shared}{l b:Addr}{xs ys zs:List V}
theorem Inv.lset{its its':List Value}{n:Nat}{f:Array Value->Array Value}{t':Nat}(I:Inv X pins σ H s)(hH:H l=some (.lst xs))
  (e:s.heap.get? l=some { cls:=.type "list",data:=.seq its.toArray n }) (hf:f its.toArray=its'.toArray) (hv:Vals ys its') (hz:ys.length<=sizeLine) :
  Inv X pins σ (Aw H l (.lst ys)) { s with heap:=s.heap.update l (Obj.mapSeq f),toks:=t' }:=by
 have q:=PySem.IsL.update e f
 rw [hf] at q
 refine I.write (x:=l) (e:=l) (by rw [hH]; exact trivial) (.inl rfl) (fun b' u hb hu=>(Heap.get?_update_other s.heap (Obj.mapSeq f) (Ne.symm hb)).trans hu) ⟨_,q⟩ ?_
 exact⟨hz,its',_,hv,q⟩
theorem Inv.lnew{its:List Value}{t':Nat}(I:Inv X pins σ H s)(hv:Vals ys its)(hz:ys.length<=sizeLine) :
  Inv X pins σ (Aw H s.heap.objs.size (.lst ys)) { s with heap:=s.heap.push { cls:=.type "list",data:=.seq its.toArray },toks:=t' } :=
 I.laid (fun _ _ q=>Heap.get?_push_of_some _ q) (Nat.le_refl _) ⟨hz,its,0,hv,Heap.get?_push_size _ rfl⟩
theorem Inv.fresh(I:Inv X pins σ H s):H s.heap.objs.size=none:=I.hok.fresh (Nat.le_refl _)
theorem Inv.lstM(I:Inv X pins σ H s)(hH:H l=some (.lst xs)):xs.length<=sizeLine/\∃(its:List Value) (n:Nat),Vals xs its/\xs.length=its.length/\s.heap.get? l=some { cls:=.type "list",data:=.seq its.toArray n }:=by
 obtain⟨z,its,n,r,e⟩:=I.hok l _ hH
 exact⟨z,its,n,r,r.length,e⟩
theorem L5{n:Nat}(h:n<=sizeLine):Builtin.List.listTooLong n=false:=by
 unfold Builtin.List.listTooLong
 exact decide_eq_false (by omega)
end
section
variable {X:Cx}
noncomputable def Jj:V->List V->Hp->VK->Prop:=fun x vs H Q=>∃l xs y,x=.ref l/\vs=[y]/\H l=some (.lst xs)/\xs.length<sizeLine/\Q .non (Aw H l (.lst (xs++[y])))
theorem CL:R_ X "list.append" Jj:=by
 intro pins s σ H x vs v us Q I rx rv h
 obtain⟨l,xs,y,rfl,rfl,hH,hz,q⟩:=h
 cases rx
 obtain⟨u,rfl,ru⟩:=rv.one
 obtain⟨z,its,n,r,hl,e⟩:=I.lstM hH
 refine call_meets F.slot_list_append ⟨_,e,rfl⟩ F.entry_list_append (F.args_list_append_2 _ _) (PySem.list_append l its.toArray n u (by rw [List.size_toArray]; omega)) ⟨e,?_⟩
 refine⟨.non,_,I.lset (its':=its++[u]) hH e (by simp) (r.append (.cons ru .nil)) ?_,rfl,q⟩
 rw [List.length_append,List.length_singleton]
 omega
noncomputable def Ji:V->List V->Hp->VK->Prop:=fun x vs H Q=>∃l b xs zs,x=.ref l/\vs=[.ref b]/\H l=some (.lst xs)/\H b=some (.lst zs)/\xs.length+zs.length<=sizeLine/\Q .non (Aw H l (.lst (xs++zs)))
theorem Ks:R_ X "list.extend" Ji:=by
 intro pins s σ H x vs v us Q I rx rv h
 obtain⟨l,b,xs,zs,rfl,rfl,hH,hB,hz,q⟩:=h
 cases rx
 obtain⟨u,rfl,ru⟩:=rv.one
 cases ru
 obtain⟨z,its,n,r,hl,e⟩:=I.lstM hH
 obtain⟨z2,its2,n2,r2,hl2,e2⟩:=I.lstM hB
 have hsz:its.toArray.size+its2.toArray.size<=sizeLine:=by rw [List.size_toArray,List.size_toArray]; omega
 have hlong:¬(!its.toArray.isEmpty&&Builtin.List.listTooLong (its.toArray.size+its2.toArray.size))=true:=by
  rw [L5 hsz,Bool.and_false]
  exact Bool.false_ne_true
 refine call_meets F.slot_list_extend ⟨_,e,rfl⟩ F.entry_list_extend (F.args_list_extend_2 _ _)
  (AutoSeq1.list_extend_list_list_0 l its.toArray n b its2.toArray n2 hlong (by rw [List.size_toArray]; omega) (by omega)) ⟨e,e2,?_⟩
 refine⟨.non,_,I.lset (its':=its++its2) hH e (by simp) (r.append r2) ?_,rfl,q⟩
 rw [List.length_append]
 omega
noncomputable def Hc:V->List V->Hp->VK->Prop:=fun x vs H Q=>∃l xs,x=.ref l/\vs=[]/\H l=some (.lst xs)/\Q .non (Aw H l (.lst xs.reverse))
theorem JB:R_ X "list.reverse" Hc:=by
 intro pins s σ H x vs v us Q I rx rv h
 obtain⟨l,xs,rfl,rfl,hH,q⟩:=h
 cases rx
 have hus:=rv.zero
 subst hus
 obtain⟨z,its,n,r,hl,e⟩:=I.lstM hH
 refine call_meets F.slot_list_reverse ⟨_,e,rfl⟩ F.entry_list_reverse (F.args_list_reverse_1 _) (AutoSeq1.list_reverse_list_0 l its.toArray n (by rw [List.size_toArray]; omega)) ⟨e,?_⟩
 refine⟨.non,_,I.lset (its':=its.reverse) hH e (by simp) r.reverse ?_,rfl,q⟩
 rw [List.length_reverse]
 omega
noncomputable def Lf:V->List V->Hp->VK->Prop:=fun x vs H Q=>∃l xs,x=.ref l/\vs=[]/\H l=some (.lst xs)/\Q .non (Aw H l (.lst []))
theorem L9:R_ X "list.clear" Lf:=by
 intro pins s σ H x vs v us Q I rx rv h
 obtain⟨l,xs,rfl,rfl,hH,q⟩:=h
 cases rx
 have hus:=rv.zero
 subst hus
 obtain⟨z,its,n,r,hl,e⟩:=I.lstM hH
 refine call_meets F.slot_list_clear ⟨_,e,rfl⟩ F.entry_list_clear (F.args_list_clear_1 _) (AutoSeq1.list_clear_list_0 l its.toArray n (by rw [List.size_toArray]; omega)) ⟨e,?_⟩
 exact⟨.non,_,I.lset (its':=[]) (ys:=[]) hH e rfl .nil (Nat.zero_le _),rfl,q⟩
end
section
variable {prog:Program}{w:World}{A:Around}{E:Value->Shared->Prop}{s:Shared}
end
section
variable {X:Cx}
end
end L2
namespace Att
open PySem PySem.W PySem.Calls PyProof.Rows
theorem EX{P:Params}{h:Heap}:∀(ns:List Int) (vs:List Value),WellAll P h vs (ns.map WData.int)->IntsAre vs ns:=by
 intro ns
 induction ns with
 | nil =>
  intro vs w
  rw [List.map_nil] at w
  cases w
  exact .nil
 | cons n ns ih =>
  intro vs w
  rw [List.map_cons] at w
  cases w with
  | cons a b =>
   cases a
   exact .cons _ _ (ih _ b)
theorem Ke{l:OpenLaw}{n:Nat}(hn:l.most=some n){P:Params}{h:Heap}{args:List WData}{vals:List Value}
  (hpre:l.row.toRowW.claim.pre args=true) (hwl:WellAll P h vals args) :
  ∃a vs ns,vals=[Value.ref a]/\args=[WData.list (ns.map WData.int)]/\h.get? a=some { cls:=.type "list",data:=.seq vs.toArray }/\IntsAre vs ns/\ns.length<=n:=by
 have hsh:WShape.hasAll [] args [.list .int]=true:=(pre_splitW hpre).1
 have hc:l.pre.holds [] { args:=args }=true:=(pre_splitW hpre).2
 obtain⟨d,r,rfl,h1,h2⟩:=hasAllW_cons hsh
 obtain rfl:=hasAllW_nil h2
 obtain⟨xs,rfl,h3⟩:=hasW_list h1
 obtain⟨ns,rfl⟩:=items_int h3
 have hlen:ns.length<=n:=by
  unfold OpenLaw.pre at hc
  have h4:(WTm.not (.lt (.lit (.int (n:Int))) (.len (.arg 0)))).holds [] { args:=[.list (ns.map .int)] }=true:=by
   have h4:=(holds_andW hc).1
   rw [hn] at h4
   exact h4
  have h5:=condW_of h4 (w_not (w_lt w_lit (w_len_list (w_arg rfl))))
  rw [List.length_map] at h5
  refine Nat.le_of_not_lt fun q=>?_
  have q':(n:Int)<((ns.length:Nat):Int):=by omega
  first
   | (rw [decide_eq_true q'] at h5; exact absurd h5 (by decide))
   | (simp at h5; omega)
 cases hwl with
 | cons w1 w2 =>
  cases w2
  cases w1 with
  | list ho hall=>exact⟨_,_,ns,rfl,rfl,ho,EX ns _ hall,hlen⟩
theorem Kj(l:OpenLaw)(args:List WData):l.row.toRowW.claim.post args (.bool true) args=true :=
 postW_of (r:=l.row.toRowW) (X:=(true==true))
  (show WShape.has [] (.bool true) .bool=true by first | rfl | decide | simp [WShape.has,WShape.arms,WShape.armsAll])
  (show (WTm.eq .res (.lit (.bool true))).value [] { args:=args,res:=some (.bool true),after:=args }=some (.bool (true==true)) from w_eq_bool (w_res rfl) w_lit) rfl
theorem attach_call{l:OpenLaw}{n:Nat}{q:Program}{loose:List Str}{XP:(Str->Option Value)->Heap->Prop}{YP:World->Heap->Prop}{d:DefRec}
  (hn:l.most=some n) (hdf:d.params.defaults=[])
  (call:∀(w:World) (s₀ s₁:Shared) (mg mb:Str->Option Value) (fa:Addr) (o:Obj) (pm cd doc:Value) (a:Addr) (vs:List Value) (ns:List Int),
   Ground q loose [] XP w s₀ mg mb s₁.heap->YP w s₁.heap ->
   s₁.heap.get? fa=some o->o.data=.func (docDef d.name d.params d.body d.scope pm cd doc)->s₁.heap.CodeRec cd d.name->mg d.name=some (.ref fa) ->
   s₁.heap.get? a=some { cls:=.type "list",data:=.seq vs.toArray }->IntsAre vs ns->ns.length<=n->s₁.gens=#[] ->
   codeAny (model l.prog w) callerA (.call (.ref fa) ⟨[.ref a],[]⟩) (fun r s'=>r=.ok (.ret (.bool true))/\OldK s₁.heap s'.heap/\s'.os=s₁.os/\AllBare s'.gens) s₁) :
  WalkO q loose XP YP l.row.toRowW d [] (fun f vs=>PySem.call f vs):=by
 intro w s₀ s₁ mg mb G Y fa o pm cd doc dV kV ho hd hcd hD hmg hg args vals as hpre hlay hrd hwl hlo
 obtain rfl:dV=.none:=Dflts.none hD hdf
 obtain rfl:kV=.none:=Dflts.noKw hD
 obtain⟨a,vs,ns,rfl,rfl,hobj,hints,hlen⟩:=Ke hn hpre hwl
 refine enter_call (codeAny_mono (call w s₀ s₁ mg mb fa o pm cd doc a vs ns G Y ho (fd_plain hd) hcd hmg hobj hints hlen hg) fun r s' hq=>?_)
 obtain⟨rfl,h2,h3,h4⟩:=hq
 exact⟨.inl ⟨.bool true,.bool true,[],rfl,fun _=>rfl,.bool true,Kj l _,fun _=>⟨List.Pairwise.nil,fun _ hm=>(nomatch hm)⟩⟩,h2,h3,h4⟩
section
variable {prog:Program}{w:World}{A:Around}{E:Value->Shared->Prop}{s:Shared}{K:Frag}
end
end Att
namespace L2
open PySem PySem.Spec PyProof.Rows
theorem Fi:∀{vs:List Value} {ns:List Int},IntsAre vs ns->Vals (ns.map V.int) vs
 | _,_,.nil=>.nil
 | _,_,.cons n t h=>.cons ⟨t,rfl⟩ (Fi h)
noncomputable def QW(H:Hp):Prop:=∀b,H b=none\/∃o xs,H b=some (.frz o (.lst xs))
theorem MC{P:Program}{w:World}{K:Frag}{mg mb:Str->Option Value}{CX:NH}{k:Nat}{fa a:Addr}{fd:FuncData}{x:Str}{sp:Sp}{s₁:Shared}{vs:List Value}{ns:List Int}
  (KX:K.In s₁.heap) (hns:s₁.heap.Ns mainGlobals mg) (hb:s₁.heap.Ns builtinsNs mb) (hbb:∀x:Str,x ≠ "__name__"->mb x=bootBuiltins x) (hlim:s₁.heap.NoLimit) (hg:s₁.gens=#[])
  (ha:s₁.heap.get? a=some { cls:=.type "list",data:=.seq vs.toArray }) (hi:IntsAre vs ns) (hl:ns.length<=sizeLine) (hr:Room k callerA)
  (F:∀base:Heap,K.In base->base.Ns mainGlobals mg->BE P w K mg base CX k fa fd [x] sp) (hbind:∀(s:Shared) (u:Value),BindsTo s fd ⟨[u],[]⟩ [(x,u)])
  (hsp:∀H:Hp,QW H->SqL K H a (ns.map V.int)->sp [.ref a] H (fun v _=>v=.bl true) fun _ _ _=>False)
  (hCX:∀H e s',CX [] H s₁ (fun _ _ _=>False) e s'->False) :
  codeAny (model P w) callerA (.call (.ref fa) ⟨[.ref a],[]⟩) (fun r s'=>r=.ok (.ret (.bool true))/\OldK s₁.heap s'.heap/\s'.os=s₁.os/\AllBare s'.gens) s₁:=by
 have rv:=Fi hi
 have lenV:=hi.length
 have core:∀H:Hp,QW H->SqL K H a (ns.map V.int)->HOk P w H s₁.heap->(∀b,H b≠none->b=a)->(H a≠none->K.lookup a=none) ->
   codeAny (model P w) callerA (.call (.ref fa) ⟨[.ref a],[]⟩) (fun r s'=>r=.ok (.ret (.bool true))/\OldK s₁.heap s'.heap/\s'.os=s₁.os/\AllBare s'.gens) s₁:=by
  intro H hO hS hok hA hK
  have base_of:∀{b:Addr} {o:Obj},s₁.heap.get? b=some o->H b=none->(G1 s₁.heap H).get? b=some o:=fun e n=>MR e n
  have noA:∀{b:Addr} {o:Obj} {es:Array DictEntry} {ep:Nat},s₁.heap.get? b=some o->o.data=.dict es ep->H b=none:=fun {b o es ep} e d=>by
   cases q:H b with
   | none=>rfl
   | some u =>
    have e':b=a:=hA b (by rw [q]; simp)
    subst e'
    rw [ha] at e; cases e
    have d':Data.seq vs.toArray _=Data.dict es ep:=d
    cases d'
  have nsK:∀{b:Addr} {m:Str->Option Value},s₁.heap.Ns b m->(G1 s₁.heap H).Ns b m:=fun {b m} ⟨o,es,ep,e,d,r⟩=>⟨o,es,ep,base_of e (noA e d),d,r⟩
  have hKb:K.In (G1 s₁.heap H):=fun b o e=>base_of (KX b o e) (by
   cases q:H b with
   | none=>rfl
   | some u =>
    have e':b=a:=hA b (by rw [q]; simp)
    subst e'
    rw [hK (by rw [q]; simp)] at e; cases e)
  have hM:Mod K mg (G1 s₁.heap H):=⟨hKb,nsK hns,⟨mb,nsK hb,hbb⟩,let ⟨mc,h1,h2⟩:=hlim; ⟨mc,nsK h1,h2⟩⟩
  have e0:OZ P w K mg (G1 s₁.heap H) callerA [] s₁ H:=⟨rfl,hM,fun b o e=>N3 e,Nat.le_of_eq (K4 _ _),trivial,fun b hb=>absurd (show b∈([]:List Addr) from hb) (by simp),hok,.of_eq hg⟩
  refine codeAny_mono ((F _ hKb (nsK hns)).run callerA [] s₁ H ⟨[.ref a],[]⟩ [.ref a] [.ref a] _ _ hr e0 (hbind s₁ (.ref a)) (.cons rfl .nil) (hsp H hO hS)) fun r s' h=>?_
  cases r with
  | error e=>exact(hCX H e s' h).elim
  | ok fl =>
   cases fl with
   | next=>exact False.elim h
   | brk=>exact False.elim h
   | cont=>exact False.elim h
   | ret u =>
    obtain⟨v,H',os,bare,un,hok',r',q⟩:=h
    have q':v=.bl true:=q
    subst q'
    obtain rfl:u=Value.bool true:=r'
    refine⟨rfl,OldK.of_keep fun b o e=>?_,os,bare⟩
    cases q:H b with
    | none=>exact un.keep b o e q (by intro z; exact absurd (show b∈([]:List Addr) from z) (by simp)) (by simp)
    | some u =>
     rcases hO b with z | ⟨ob,xs,z⟩
     ·rw [q] at z; cases z
     ·have z2:=un.frzs b ob _ z
      obtain⟨e1,_⟩:=hok b _ z
      obtain⟨e2,_⟩:=hok' b _ z2
      rw [e] at e1; cases e1
      exact e2
 cases hk:K.lookup a with
 | some o =>
  have e:=KX a o hk
  rw [ha] at e
  cases e
  refine core (fun _=>none) (fun _=>.inl rfl) (.inr ⟨_,vs.toArray,_,hk,rfl,rfl,rfl,by rw [List.size_toArray,lenV]; exact hl,by simpa using rv⟩) (fun b u z=>by have z':(none:Option HO)=some u:=z; cases z') (fun b z=>absurd rfl z) fun z=>absurd rfl z
 | none =>
  refine core (fun b=>if b=a then some (.frz { cls:=.type "list",data:=.seq vs.toArray } (.lst (ns.map V.int))) else none) (fun b=>?_) (.inl (.inr ⟨{ cls:=.type "list",data:=.seq vs.toArray },if_pos rfl⟩)) (fun b u z=>?_) (fun b z=>?_) fun _=>hk
  ·by_cases hb:b=a
   ·exact .inr ⟨_,_,if_pos hb⟩
   ·exact .inl (if_neg hb)
  ·by_cases hb:b=a
   ·have z':=(if_pos hb).symm.trans z
    cases z'
    subst hb
    exact⟨ha,by rw [List.length_map]; exact hl,vs,_,rv,ha⟩
   ·have z':=(if_neg hb).symm.trans z
    cases z'
  ·by_cases hb:b=a
   ·exact hb
   ·exact absurd (if_neg hb) z
theorem Ja{l:PySem.W.OpenLaw}{n k:Nat}{q:Program}{loose:List Str}{XP:(Str->Option Value)->Heap->Prop}{YP:World->Heap->Prop}{d:DefRec}{K:Params->Frag}{CX:World->NH}{sp:World->Sp}{x:Str}
  (hn:l.most=some n) (hn2:n<=sizeLine) (hdf:d.params.defaults=[]) (hr:Room k callerA)
  (hY:∀(w:World) (h:Heap),YP w h->(K w.params).In h)
  (F:∀(w:World) (mg:Str->Option Value) (fa:Addr) (h:Heap),(K w.params).In h->h.Ns mainGlobals mg->mg d.name=some (.ref fa) ->
   ∃fd:FuncData,(∀(s:Shared) (u:Value),BindsTo s fd ⟨[u],[]⟩ [(x,u)]) /\
    ∀base:Heap,(K w.params).In base->base.Ns mainGlobals mg->BE l.prog w (K w.params) mg base (CX w) k fa fd [x] (sp w))
  (hsp:∀(w:World) (H:Hp) (a:Addr) (ns:List Int),ns.length<=n->QW H->SqL (K w.params) H a (ns.map V.int)->sp w [.ref a] H (fun v _=>v=.bl true) fun _ _ _=>False)
  (hCX:∀(w:World) (H:Hp) (s:Shared) (e:Value) (s':Shared),CX w [] H s (fun _ _ _=>False) e s'->False) :
  PySem.W.WalkO q loose XP YP l.row.toRowW d [] (fun f vs=>PySem.call f vs):=by
 refine Att.attach_call hn hdf fun w s₀ s₁ mg mb fa o pm cd doc a vs ns G Y ho hd hcd hmg hobj hints hlen hg=>?_
 have KX:=hY w _ Y
 obtain⟨fd,hb,hF⟩:=F w mg fa _ KX G.T.g hmg
 exact MC KX G.T.g G.T.b G.T.builtins G.T.nolimit hg hobj hints (Nat.le_trans hlen hn2) hr hF hb (fun H hO hS=>hsp w H a ns hlen hO hS) fun H e s'=>hCX w H s₁ e s'
end L2
/- THE LAST THEOREM (shape; LID, My.* are yours):
   My.Adr: a structure of the addresses that your layer names (classes, functions); My.Txt K t: a structure (Prop) of the equations over K;
   My.txt_mk : {K} {implicit addresses ..} (e1 : nsIn K mainGlobals "law" = some (some (.ref f))) (e2 : K.lookup f = some ⟨oc, od, .func (fnOf "law" "law" params body scope dV kV doc pm an cdv ct), sl⟩) (e3 : codeIn K cdv "law" = true) .. : ∃ t, My.Txt K t
set_option maxRecDepth 100000 in
set_option maxHeartbeats 0 in
theorem PySem.Challenge.cw_LID_holds : PySem.Challenge.rw_LID.Holds := by
 w_on; o_law; k_head; (case hw=>w_witness2)
 k_fill
 refine L2.Ja (l:=PySem.Challenge.rw_LID) (n:=63) (k:=40) (x := "script") (CX:=fun w=>..) (sp:=fun _=>My.sp_law) rfl (by decide) rfl ⟨rfl,by decide,by decide⟩ (fun w h Y=>PySem.W.kIn_of Y) ?F ?S ?C
 case F =>
  intro w mg fa h KX G hmg
  have T:∃t,My.Txt (L2.KOf KX) t:=by
   dsimp only [L2.KOf]                          -- K must stand as «<heap const> w.params» for k_is
   refine' My.txt_mk ?e1 ?e2 ?e3 ..
   (case e1=>PySem.W.k_is)                    -- in the order: a name -> its address -> its object -> its parts
   (case e2=>PySem.W.k_is)
   ..
  obtain⟨t,T⟩:=T
  have e0:=hmg.symm.trans (mg_of KX G T.law)
  cases e0                                       -- fa is the law's own address
  exact⟨_,fun s u=>.of_eq rfl,fun base kb nb=>My.law_fn T kb nb⟩     -- if «.of_eq rfl» comes too early: refine' ⟨_,?b,fun base kb nb=>My.law_fn T kb nb⟩; exact fun s u=>.of_eq rfl
 case S=>exact fun w H a ns hl hO hS=>..
 case C=>exact ..
(the tactic k_is has no namespace: write k_is) -/
namespace L2
open PySem PySem.Spec PyProof.Rows
noncomputable def AX(s:Stmt):Arguments:=match s with
 | .FunctionDef _ a _ _ _ _ _ _ _ _=>a
 | _=>{ posonlyargs:=[],args:=[],vararg:=none,kwonlyargs:=[],kw_defaults:=[],kwarg:=none,defaults:=[] }
noncomputable def AT(s:Stmt):List Stmt:=match s with
 | .FunctionDef _ _ b _ _ _ _ _ _ _=>b
 | _=>[]
noncomputable def AC(s:Stmt):Scope:=match s with
 | .FunctionDef _ _ _ _ _ _ sc _ _ _=>sc
 | _=>{ kind:=.function,names:=[],isGenerator:=false,isCoroutine:=false }
noncomputable abbrev Cq:NH:=fun _ _ _ _ _ _=>False
noncomputable abbrev E0:XK:=fun _ _ _=>False
theorem Lw{X:Cx}:HH Cq X E0:=fun _ _ _ _ _ _ _ h=>h.elim
structure Fun (K:Frag) (x qual:Str) (st:Stmt) (f:Addr) (fd:FuncData):Prop where
 ex:∃(oc:Value) (od:Option Addr) (kV doc pm:Value) (an:Option Addr) (cdv ct:Value) (osl:Array (Option Value)),
  fd=fnOf x qual (AX st) (AT st) (AC st) .none kV doc pm an cdv ct/\K.lookup f=some ⟨oc,od,.func fd,osl⟩/\codeIn K cdv qual=true
 kp:keepIn K (.ref f)=true
section
variable {P:Program}{w:World}{K:Frag}{mg:Str->Option Value}{base:Heap}
theorem Fun.ok{x qual:Str}{st:Stmt}{f:Addr}{fd:FuncData}{N ps:List Str}{k:Nat}{sp:Sp}(F:Fun K x qual st f fd)(S:AY N ps (AC st))(len:∀vs H Q E,sp vs H Q E->vs.length=ps.length)
  (hbody:∀(cdv:Value) (A:Around) (outer:List Env) (s:Shared) (H:Hp) (vs:List V) (Q:VK) (E:XK),Room k (A.deeper (envOfC qual (AC st) s.heap.objs.size f cdv))->sp vs H Q E ->
   ∃t,PSs (G_ Cq P w K mg base N qual (AC st) f cdv A outer s H E).nox (AT st) t/\t { nx:=fun _ H'=>Q .non H',rt:=Q } (start N vs) H):BE P w K mg base Cq (k+1) f fd ps sp:=by
 obtain⟨oc,od,kV,doc,pm,an,cdv,ct,osl,rfl,lk,hcd⟩:=F.ex
 refine RP lk hcd S len fun A outer s H vs Q E hr hsp=>?_
 obtain⟨t,h,q⟩:=hbody cdv A outer s H vs Q E hr hsp
 exact⟨t,h.nox,q⟩
theorem Fun.binds{x qual:Str}{st:Stmt}{f:Addr}{fd:FuncData}{ps:List Str}(F:Fun K x qual st f fd)
  (h:∀(kV doc pm:Value) (an:Option Addr) (cdv ct:Value) (us:List Value),us.length=ps.length->bindArgs (fnOf x qual (AX st) (AT st) (AC st) .none kV doc pm an cdv ct) ⟨us,[]⟩=pure (ps.zip us)):Binds K fd ps []:=by
 obtain⟨oc,od,kV,doc,pm,an,cdv,ct,osl,rfl,lk,hcd⟩:=F.ex
 exact .all (h kV doc pm an cdv ct)
theorem A0{x qual:Str}{st:Stmt}{f:Addr}{oc:Value}{od an:Option Addr}{osl:Array (Option Value)}{kV doc pm cdv ct:Value}(l:K.lookup f=some ⟨oc,od,.func (fnOf x qual (AX st) (AT st) (AC st) .none kV doc pm an cdv ct),osl⟩)
  (c:codeIn K cdv qual=true) (k:keepIn K (.ref f)=true):Fun K x qual st f (fnOf x qual (AX st) (AT st) (AC st) .none kV doc pm an cdv ct):=⟨⟨oc,od,kV,doc,pm,an,cdv,ct,osl,rfl,l,c⟩,k⟩
end
theorem O5{A:Around}{k:Nat}(hr:Room k A):A.units+1<cLine:=Nat.lt_of_le_of_lt (Nat.add_le_add_left (by decide:1<=64) _) hr.units
section
variable {X:Cx}
theorem pv(i:Nat){x:Str}{pos:Pos}(hN:autoParam (X.N[i]?=some x) zau3._auto_1)(hv:autoParam (Qh X.env.scope x) zau5._auto_1)(hd:autoParam ((x==("__debug__" : Str))=false) zau1._auto_1)
  (hcd:autoParam ((x==("__classdict__" : Str))=false) zau1._auto_1):PE X (.Name x pos) (BG i):=Gm hN hv hd hcd
end
theorem B6{A B:Prop}(h:B):if false=true then A else B:=by
 rw [if_neg Bool.false_ne_true]
 exact h
theorem JG{A B:Prop}(h:A):if true=true then A else B:=by
 rw [if_pos rfl]
 exact h
theorem JH{c A B:Prop}[Decidable c](h1:c->A)(h2:¬c->B):if c then A else B:=by
 by_cases h:c
 ·rw [if_pos h]
  exact h1 h
 ·rw [if_neg h]
  exact h2 h
section
variable {κ:Type}[DecidableEq κ]
noncomputable def Cw(kvs:List (κ×V))(k:κ):Option V:=(kvs.find? fun kv=>decide (kv.1=k)).map (·.2)
noncomputable def putK(kvs:List (κ×V))(k:κ)(v:V):List (κ×V) :=
 if (kvs.any fun kv=>decide (kv.1=k))=true then kvs.map (fun kv=>if kv.1=k then (kv.1,v) else kv) else kvs++[(k,v)]
theorem DL{p:κ×V}{r:List (κ×V)}{k:κ}(e:p.1=k):Cw (p::r) k=some p.2:=by simp [Cw,List.find?_cons,e]
theorem DM{p:κ×V}{r:List (κ×V)}{k:κ}(e:¬p.1=k):Cw (p::r) k=Cw r k:=by simp [Cw,List.find?_cons,e]
theorem HK(k:κ):∀kvs:List (κ×V),(kvs.any fun kv=>decide (kv.1=k))=(Cw kvs k).isSome
 | []=>rfl
 | p::r=>by
  rw [List.any_cons]
  by_cases e:p.1=k
  ·simp only [DL e,decide_eq_true e,Bool.true_or,Option.isSome_some]
  ·rw [DM e,decide_eq_false e,Bool.false_or]; exact HK k r
theorem EL(kvs:List (κ×V))(k:κ)(v:V):(putK kvs k v).length<=kvs.length+1:=by
 unfold putK
 split
 ·rw [List.length_map]; omega
 ·rw [List.length_append,List.length_cons,List.length_nil]; omega
theorem RelO.isSome_eq{o:Option V}{u:Option Value}(r:RelO o u):o.isSome=u.isSome:=by
 cases o with
 | none=>cases u with
  | none=>rfl
  | some _=>exact(show False from r).elim
 | some _=>cases u with
  | none=>exact(show False from r).elim
  | some _=>rfl
theorem KV.val{kvs:List (κ×V)}{vs:List (κ×Value)}(r:KV kvs vs)(k:κ):RelO (Cw kvs k) (valueAt vs k):=by
 unfold KV at r
 induction r with
 | nil=>exact True.intro
 | @cons p q ps qs h t ih =>
  obtain⟨h1,h2⟩:=h
  by_cases e:p.1=k
  ·have e':q.1=k:=h1.symm.trans e
   have b:valueAt (q::qs) k=some q.2:=by simp [valueAt,List.find?_cons,e']
   rw [DL e,b]; exact h2
  ·have e':¬q.1=k:=fun z=>e (h1.trans z)
   have b:valueAt (q::qs) k=valueAt qs k:=by simp [valueAt,List.find?_cons,e']
   rw [DM e,b]; exact ih
theorem KV.any{kvs:List (κ×V)}{vs:List (κ×Value)}(r:KV kvs vs)(k:κ):(kvs.any fun kv=>decide (kv.1=k))=vs.any fun kv=>decide (kv.1=k):=by
 unfold KV at r
 induction r with
 | nil=>rfl
 | cons h t ih=>rw [List.any_cons,List.any_cons,ih,h.1]
theorem KV.repl{kvs:List (κ×V)}{vs:List (κ×Value)}(r:KV kvs vs)(k:κ){y:V}{u:Value}(ry:RelV y u) :
  KV (kvs.map fun kv=>if kv.1=k then (kv.1,y) else kv) (vs.map fun kv=>if kv.1=k then (kv.1,u) else kv):=by
 unfold KV at r ⊢
 induction r with
 | nil=>exact .nil
 | @cons p q ps qs h t ih =>
  rw [List.map_cons,List.map_cons]
  refine .cons ?_ ih
  obtain⟨h1,h2⟩:=h
  by_cases e:p.1=k
  ·rw [if_pos e,if_pos (h1.symm.trans e)]; exact⟨h1,ry⟩
  ·rw [if_neg e,if_neg (fun z=>e (h1.trans z))]; exact⟨h1,h2⟩
theorem KV.put{kvs:List (κ×V)}{vs:List (κ×Value)}(r:KV kvs vs)(k:κ){y:V}{u:Value}(ry:RelV y u):KV (putK kvs k y) (stored vs k u):=by
 unfold putK stored
 rw [r.any k]
 by_cases e:(vs.any fun kv=>decide (kv.1=k))=true
 ·rw [if_pos e,if_pos e]; exact r.repl k ry
 ·rw [if_neg e,if_neg e]; exact Paired.snoc r ⟨rfl,ry⟩
theorem KV.length{kvs:List (κ×V)}{vs:List (κ×Value)}(r:KV kvs vs):kvs.length=vs.length:=Paired.length r
end
theorem MH{P:Program}{w:World}{k:Key}{u:Value}(r:RelV (kV k) u):(BA P w).is k u=true:=by
 cases k with
 | inl i=>obtain⟨t,e⟩:=(show ∃t,u=Value.int i t from r); subst e; exact Hs P w i t
 | inr x=>obtain⟨t,e⟩:=(show ∃t,u=Value.str x t from r); subst e; exact Hr P w x t
theorem F_{P:Program}{w:World}:∀{ks:List Key} {us:List Value},Vals (ks.map kV) us->ItemsAre (BA P w) ks us
 | [],_,r=>by rw [List.map_nil] at r; cases r; exact .nil
 | k::ks,_,r=>by
  rw [List.map_cons] at r
  cases r with
  | cons h t=>exact .cons (MH h) (F_ t)
noncomputable abbrev KT(H:Hp):List (List Key×V)->List (List Key×Addr×Value)->Prop:=Paired fun p q=>p.1=q.1/\H q.2.1=some (.tup (p.1.map kV))/\RelV p.2 q.2.2
theorem KT.val{H:Hp}{kvs:List (List Key×V)}{xs:List (List Key×Addr×Value)}(r:KT H kvs xs)(k:List Key):RelO (Cw kvs k) ((atKey xs k).map (·.2)):=by
 induction r with
 | nil=>exact True.intro
 | @cons p q ps qs h t ih =>
  obtain⟨h1,_,h2⟩:=h
  by_cases e:p.1=k
  ·have e':q.1=k:=h1.symm.trans e
   have b:atKey (q::qs) k=some q.2:=by simp [atKey,List.find?_cons,e']
   rw [DL e,b]; exact h2
  ·have e':¬q.1=k:=fun z=>e (h1.trans z)
   have b:atKey (q::qs) k=atKey qs k:=by simp [atKey,List.find?_cons,e']
   rw [DM e,b]; exact ih
theorem KT.repl{H:Hp}{kvs:List (List Key×V)}{xs:List (List Key×Addr×Value)}(r:KT H kvs xs)(k:List Key){y:V}{u:Value}(ry:RelV y u) :
  KT H (kvs.map fun kv=>if kv.1=k then (kv.1,y) else kv) (xs.map (putAt k u)):=by
 induction r with
 | nil=>exact .nil
 | @cons p q ps qs h t ih =>
  rw [List.map_cons,List.map_cons]
  refine .cons ?_ ih
  obtain⟨h1,h2,h3⟩:=h
  unfold putAt
  by_cases e:p.1=k
  ·rw [if_pos e,if_pos (h1.symm.trans e)]; exact⟨h1,h2,ry⟩
  ·rw [if_neg e,if_neg (fun z=>e (h1.trans z))]; exact⟨h1,h2,h3⟩
theorem KT.put{H:Hp}{kvs:List (List Key×V)}{xs:List (List Key×Addr×Value)}(r:KT H kvs xs)(k:List Key){b:Addr}{y:V}{u:Value}(hb:H b=some (.tup (k.map kV)))(ry:RelV y u) :
  KT H (putK kvs k y) (storedH xs k b u):=by
 have e:(kvs.any fun kv=>decide (kv.1=k))=(atKey xs k).isSome:=by
  rw [HK,(r.val k).isSome_eq,Option.isSome_map]
 unfold putK storedH
 rw [e]
 by_cases q:(atKey xs k).isSome=true
 ·rw [if_pos q,if_pos q]; exact r.repl k ry
 ·rw [if_neg q,if_neg q]; exact Paired.snoc r ⟨rfl,hb,ry⟩
theorem KT.keeps{H H':Hp}{kvs:List (List Key×V)}{xs:List (List Key×Addr×Value)}(r:KT H kvs xs)(ht:∀b ys,H b=some (.tup ys)->H' b=some (.tup ys)):KT H' kvs xs :=
 Paired.mapP r fun _ _ z=>⟨z.1,ht _ _ z.2.1,z.2.2⟩
section
variable {P:Program}{w:World}{H:Hp}{h:Heap}{a:Addr}
theorem Ol{u:HO}(ok:HOk P w H h)(e:Rd H a u):ObjOk P w H h a u:=e.ok ok
theorem Mp{kvs:List (Key×V)}(ok:HOk P w H h)(e:Rd H a (.dK kvs)):kvs.length<=sizeLine/\(a==sysModules)=false/\∃vs,KV kvs vs/\h.DictOf (BA P w) a vs :=
 show ObjOk P w H h a (.dK kvs) from Ol ok e
theorem RZ{kvs:List (Key×V)}(ok:HOk P w H h)(e:H a=some (.dK kvs)):kvs.length<=sizeLine/\(a==sysModules)=false/\∃vs,KV kvs vs/\h.DictOf (BA P w) a vs:=Mp ok (.inl e)
theorem JF{ks:List Key}(ok:HOk P w H h)(e:H a=some (.tup (ks.map kV))):(tupleKind (BA P w)).is h ks a:=by
 obtain⟨_,its,r,o,h1,h2,n,h3,_⟩:=(show ObjOk P w H h a (.tup (ks.map kV)) from ok a _ e)
 exact⟨o,its.toArray,n,h1,h2,h3,by simpa using F_ r⟩
theorem IL{kvs:List (List Key×V)}(ok:HOk P w H h)(e:Rd H a (.dT kvs)):kvs.length<=sizeLine/\(a==sysModules)=false /\
  ∃xs,KT H kvs xs/\h.DictOfH (tupleKind (BA P w)) a xs:=by
 obtain⟨z,y,xs,r,o,es,ep,h1,h2,h3,h4,h5⟩:=(show ObjOk P w H h a (.dT kvs) from Ol ok e)
 refine⟨z,y,xs,r,o,es,ep,h1,h2,h3,h4,fun x hx=>?_,h5⟩
 have all:∀{l:List (List Key×V)} {m:List (List Key×Addr×Value)},KT H l m->∀x∈m,(tupleKind (BA P w)).is h x.1 x.2.1:=by
  intro l m q
  induction q with
  | nil=>intro x hx; exact nomatch hx
  | @cons p q ps qs hq t ih =>
   intro x hx
   rcases List.mem_cons.mp hx with e | hx
   ·subst e
    exact JF ok (by rw [← hq.1]; exact hq.2.1)
   ·exact ih x hx
 exact all r x hx
theorem RY{kvs:List (List Key×V)}(ok:HOk P w H h)(e:H a=some (.dT kvs)):kvs.length<=sizeLine/\(a==sysModules)=false /\
  ∃xs,KT H kvs xs/\h.DictOfH (tupleKind (BA P w)) a xs:=IL ok (.inl e)
end
noncomputable def NG(H:Hp)(a:Addr)(y:V)(r:Option V):Prop :=
 (∃kvs k,Rd H a (.dK kvs)/\y=kV k/\r=Cw kvs k)\/∃kvs k b,Rd H a (.dT kvs)/\y=.ref b/\H b=some (.tup (k.map kV))/\r=Cw kvs k
noncomputable def DPut(H:Hp)(a:Addr)(y v:V)(H':Hp):Prop :=
 (∃kvs k,H a=some (.dK kvs)/\y=kV k/\kvs.length<sizeLine/\H'=Aw H a (.dK (putK kvs k v))) \/
 ∃kvs k b,H a=some (.dT kvs)/\y=.ref b/\H b=some (.tup (k.map kV))/\kvs.length<sizeLine/\H'=Aw H a (.dT (putK kvs k v))
theorem DPut.t{H:Hp}{a b:Addr}{kvs:List (List Key×V)}{k:List Key}{v:V}(e:H a=some (.dT kvs))(eb:H b=some (.tup (k.map kV)))(hl:kvs.length<sizeLine) :
  DPut H a (.ref b) v (Aw H a (.dT (putK kvs k v))):=.inr ⟨kvs,k,b,e,rfl,eb,hl,rfl⟩
section
variable {X:Cx}{pins:List (Addr×Obj)}{σ:St}{H:Hp}{s:Shared}{a:Addr}{y v:V}{u r:Value}{o:Option V}{A:Around}{E:Value->Shared->Prop}
theorem Inv.big(I:Inv X pins σ H s):sysModules<s.heap.objs.size:=by
 have h:mainGlobals<s.heap.objs.size:=(I.mod.glob.keeps I.bk).lt
 exact Nat.lt_trans (by decide) h
theorem LA{Q:Value->Shared->Prop}(hu:A.units+1<cLine)(I:Inv X pins σ H s)(g:NG H a y (some v))(ry:RelV y u)(h:∀w' s',Inv X pins σ H s'->RelV v w'->Q w' s') :
  wpAny (model X.prog X.w) A (getItem (.ref a) u) Q E s:=by
 rcases g with ⟨kvs,k,e,ey,l⟩ | ⟨kvs,k,b,e,ey,eb,l⟩
 ·subst ey
  obtain⟨z,hd,vs,rel,dd⟩:=Mp I.hok e
  obtain⟨w',hw,rw'⟩:=RelO.some_of (v:=v) (o:=valueAt vs k) (by rw [l]; exact rel.val k)
  exact wpAny_getItem_of (MH ry) dd.mapOf hw (h w' _ (I.tok _) rw')
 ·subst ey
  cases (show u=Value.ref b from ry)
  obtain⟨z,hd,xs,rel,dd⟩:=IL I.hok e
  obtain⟨w',hw,rw'⟩:=RelO.some_of (v:=v) (o:=(atKey xs k).map (·.2)) (by rw [l]; exact rel.val k)
  obtain⟨p,hp,hp2⟩:=Option.map_eq_some_iff.mp hw
  refine wpAny_getItem_heap (tupleKind_room_in1 hu) (JF I.hok eb) dd hp ?_
  rw [hp2]
  exact h w' _ (I.tok _) rw'
theorem J8{h':Heap}{t':Nat}{ob:HO}(I:Inv X pins σ H s)(mu:Rq (H a))(hs:Heap.SameBut a s.heap h')(he:∃q,h'.get? a=some q)(new:ObjOk X.prog X.w (Aw H a ob) h' a ob) :
  Inv X pins σ (Aw H a ob) { s with heap:=h',toks:=t' } :=
 I.write (x:=a) (e:=a) mu (.inl rfl) (fun b q hb z=>(hs.2 b hb).trans z) he new
theorem QG{P:Program}{w:World}{H':Hp}{h':Heap}{kvs:List (Key×V)}{vs:List (Key×Value)}(z:kvs.length<=sizeLine)(hd:(a==sysModules)=false)(rel:KV kvs vs)(dd:h'.DictOf (BA P w) a vs) :
  ObjOk P w H' h' a (.dK kvs):=⟨z,hd,vs,rel,dd⟩
theorem K_{H':Hp}{Q:Unit->Shared->Prop}(hu:A.units+1<cLine)(I:Inv X pins σ H s)(g:DPut H a y v H')(ry:RelV y u)(rv:RelV v r)(h:∀s',Inv X pins σ H' s'->Q () s') :
  wpAny (model X.prog X.w) A (setItem (.ref a) u r) Q E s:=by
 rcases g with ⟨kvs,k,e,ey,l,eH⟩ | ⟨kvs,k,b,e,ey,eb,l,eH⟩
 ·subst ey eH
  obtain⟨z,hd,vs,rel,dd⟩:=RZ I.hok e
  have hz:vs.length<=sizeLine:=by rw [← rel.length]; exact z
  have hl:(putK kvs k v).length<=sizeLine:=by have:=EL kvs k v; omega
  refine wpAny_setItem_pairs (hsz:=hz) (MH ry) dd fun h' dd' hs=>h _ ?_
  have he:∃q,h'.get? a=some q:=let ⟨q,_,_,hq,_⟩:=dd'; ⟨q,hq⟩
  exact J8 I (by rw [e]; exact True.intro) hs he (QG hl hd (rel.put k rv) dd')
 ·subst ey eH
  cases (show u=Value.ref b from ry)
  obtain⟨z,hd,xs,rel,dd⟩:=RY I.hok e
  have hz:xs.length<=sizeLine:=by rw [← Paired.length rel]; exact z
  have hl:(putK kvs k v).length<=sizeLine:=by have:=EL kvs k v; omega
  refine wpAny_setItem_heap (hsz:=hz) (tupleKind_room_in1 hu) (JF I.hok eb) dd fun h' dd' hs=>h _ ?_
  obtain⟨q,es,ep,hq,h2,h3,h4,_,h5⟩:=dd'
  refine J8 I (by rw [e]; exact True.intro) hs ⟨q,hq⟩ ⟨hl,hd,_,(rel.put k eb rv).keeps fun c ys ec=>?_,q,es,ep,hq,h2,h3,h4,h5⟩
  rw [AL (RI ec e (fun z=>nomatch z))]
  exact ec
end
section
variable {X:Cx}{pins:List (Addr×Obj)}{σ:St}{H:Hp}{s:Shared}{a:Addr}{kvs:List (Key×V)}{k:Key}{u:Value}{A:Around}{E:Value->Shared->Prop}
end
noncomputable def QX(i:Expr):Prop:=∀ov iv,subscripted i false ov iv=operate [ov,iv] (getItem ov iv)
theorem NV{prog:Program}{w:World}{A:Around}{E:Value->Shared->Prop}{s:Shared}{env:Env}{value slice:Expr}{pos:Pos}{T id:String}{Q:Value->Shared->Prop}
  (hl:typeLookup (.type T) "__getitem__"=pure (some (.builtin id))) (hs:QX slice)
  (h:wpAny (model prog w) A (eval value env) (fun o s₁=>wpAny (model prog w) A (eval slice env) (fun i s₂=>s₂.TypeIs o T/\wpAny (model prog w) A (getItem o i) Q E s₂) E s₁) E s) :
  wpAny (model prog w) A (eval (.Subscript value slice pos) env) Q E s:=by
 refine Subscript_ (wpAny_mono h (fun o s₁ h₁=>wpAny_mono h₁ (fun i s₂ h₂=>?_) fun _ _ x=>x) fun _ _ x=>x)
 obtain⟨hT,h₂⟩:=h₂
 unfold subscriptTail
 refine wpAny_bind ?_
 rw [getitemInPython_of_ne hT.not_modules]
 refine wpAny_bind (wpAny_specialOf hT hl ?_)
 have fin:wpAny (model prog w) A (subscripted slice false o i) (fun r s₃=>wpAny (model prog w) A (letTemporaryGo value o r >>= fun _=>pure r) Q E s₃) E s₂:=by
  rw [hs o i]
  exact wpAny_operating (wpAny_mono h₂ (fun r s₃ h₃=>wpAny_bind (wpAny_letTemporaryGo (wpAny_pure h₃))) fun _ _ x=>x)
 first
  | exact wpAny_pure (wpAny_bind fin)
  | exact wpAny_bind (wpAny_pure (wpAny_bind fin))
  | exact wpAny_bind fin
theorem IO{X:Cx}{pins:List (Addr×Obj)}{σ:St}{H:Hp}{s:Shared}{a:Addr}{y:V}{o:Option V}(I:Inv X pins σ H s)(g:NG H a y o):s.TypeIs (.ref a) "dict":=by
 rcases g with ⟨kvs,k,e,_,_⟩ | ⟨kvs,k,b,e,_,_,_⟩
 ·obtain⟨_,_,vs,_,dd⟩:=Mp I.hok e
  exact dd.typeIs
 ·obtain⟨_,_,xs,_,dd⟩:=IL I.hok e
  exact dd.typeIs
noncomputable def Qv(td ty:TE):TE:=fun σ H Q=>td σ H fun x H1=>ty σ H1 fun y H2=>∃a v,x=.ref a/\NG H2 a y (some v)/\Q v H2
noncomputable def Qz(td ty tv:TE):TS:=fun D σ H=>tv σ H fun v H1=>td σ H1 fun x H2=>ty σ H2 fun y H3=>∃a H4,x=.ref a/\DPut H3 a y v H4/\D.nx σ H4
section
variable {X:Cx}{o i e value:Expr}{pos pos' tpos:Pos}{td ty tv:TE}
theorem Nn(hu:X.A.units+1<cLine)(ho:PE X o td)(hi:PE X i ty)(hs:QX i):PE X (.Subscript o i pos) (Qv td ty):=by
 intro pins s σ H Q I h
 refine NV PySem.F.slot_dict_getitem.lookup hs (A2 (ho pins s σ H _ I h) fun u s1 ⟨x,H1,I1,rx,q1⟩=>A2 (hi pins s1 σ H1 _ I1 q1) fun iv s2 ⟨y,H2,I2,ry,a,v,ex,g,q2⟩=>?_)
 subst ex
 obtain rfl:u=Value.ref a:=rx
 exact⟨IO I2 g,LA hu I2 g ry fun w' s3 I3 rw'=>⟨v,H2,I3,rw',q2⟩⟩
theorem Nd(hu:X.A.units+1<cLine)(ho:PE X o td)(hi:PE X i ty)(hv:PE X value tv)(hs:swapsWith value (some (.Subscript o i pos')) pos.line X.env=pure false) :
  PS X (.Assign [.Subscript o i pos'] value pos) (Qz td ty tv):=by
 intro pins s σ H D I h
 refine wpAny_Assign_Subscript (A2 (hv pins s σ H _ I h) fun r s1 ⟨v,H1,I1,rv,q1⟩=>A2 (ho pins s1 σ H1 _ I1 q1) fun u s2 ⟨x,H2,I2,rx,q2⟩=>A2 (hi pins s2 σ H2 _ I2 q2) fun iv s3 ⟨y,H3,I3,ry,a,H4,ex,g,q3⟩=>?_) hs
 subst ex
 obtain rfl:u=Value.ref a:=rx
 exact K_ hu I3 g ry rv fun s4 I4=>⟨σ,H4,I4,q3⟩
end
theorem Mh{P:Program}{w:World}{H:Hp}(h:Heap)(hb:sysModules<h.objs.size):ObjOk P w H (h.push { cls:=.type "dict",data:=.dict #[] }) h.objs.size (.dT []) :=
 ⟨Nat.zero_le _,beq_eq_false_iff_ne.mpr (Ne.symm (Nat.ne_of_lt hb)),[],.nil,_,#[],0,Heap.get?_push_size _ rfl,⟨rfl,rfl,rfl⟩,rfl,rfl,List.nodup_nil⟩
noncomputable def PY:TE:=fun _ H Q=>∀p,H p=none->Q (.ref p) (Aw H p (.dT []))
section
variable {X:Cx}{pos:Pos}
theorem Ls:PE X (.Dict [] [] pos) PY:=fun pins s σ H Q I h =>
 wpAny_Dict_empty ⟨.ref s.heap.objs.size,_,I.laid (a:=s.heap.objs.size) (o:=.dT []) (t':=s.toks) (fun _ _ q=>Heap.get?_push_of_some _ q) (Nat.le_refl _) (Mh s.heap I.big),rfl,h _ (I.hok.fresh (Nat.le_refl _))⟩
end
structure M1 (X:Cx) (o:Expr) (m:Str) (apos:Pos) (e:Expr) (cpos:Pos):Prop where
 base:attributeBase o m X.env (eval o X.env)=eval o X.env
 few:((backTo cpos (starEach [e] X.env)).all (fun x=>!x.1)&&(backToKw cpos (keywordEach [] X.env)).all (fun x=>x.1.isSome)
  && decide (([e]:List Expr).length+([]:List Keyword).length+(if ([]:List Keyword).isEmpty then 0 else 1)<30))=true
 line:(apos.endLine==cpos.line)=true
 trees:backTo cpos (starEach [e] X.env)=[(false,eval e X.env)]
structure M2 (X:Cx) (o:Expr) (m:Str) (apos:Pos) (e f:Expr) (cpos:Pos):Prop where
 base:attributeBase o m X.env (eval o X.env)=eval o X.env
 few:((backTo cpos (starEach [e,f] X.env)).all (fun x=>!x.1)&&(backToKw cpos (keywordEach [] X.env)).all (fun x=>x.1.isSome)
  && decide (([e,f]:List Expr).length+([]:List Keyword).length+(if ([]:List Keyword).isEmpty then 0 else 1)<30))=true
 line:(apos.endLine==cpos.line)=true
 trees:backTo cpos (starEach [e,f] X.env)=[(false,eval e X.env),(false,eval f X.env)]
section
variable {X:Cx}{pins:List (Addr×Obj)}{σ:St}{H:Hp}{s:Shared}{a:Addr}{y d:V}{u r:Value}{o:Option V}{A:Around}{E:Value->Shared->Prop}
end
section
variable {X:Cx}{o e f:Expr}{apos cpos:Pos}{td ty tx:TE}
end
section
variable {X:Cx}{pins:List (Addr×Obj)}{σ:St}{H:Hp}{s:Shared}{a:Addr}{kvs:List (Key×V)}{A:Around}{E:Value->Shared->Prop}
end
section
variable {X:Cx}{pins:List (Addr×Obj)}{σ:St}{H:Hp}{s:Shared}{a:Addr}{y:V}{u:Value}{A:Around}{E:Value->Shared->Prop}
end
end L2
set_option maxHeartbeats 4000000
namespace L2
open PySem PySem.Spec PyProof.Rows
section
theorem JS{env:Env}:∀(names:List (Str×NameKind)) (cs:List (Str×Addr)),(∀x,(x,NameKind.free)∈names->∃c,env.cells.lookup x=some c)->(∀x c,cs.lookup x=some c->env.cells.lookup x=some c) ->
  ∃cl,(forIn names cs fun(x:Str×NameKind) (r:List (Str×Addr))=>(if (x.2==NameKind.free)=true then do let a ← cellOf env x.1; pure (ForInStep.yield ((x.1,a)::r)) else pure (ForInStep.yield r):Sem (ForInStep (List (Str×Addr)))))=(pure cl:Sem _) /\
   (∀x c,cl.lookup x=some c->env.cells.lookup x=some c)/\(∀x,((x,NameKind.free)∈names\/∃c,cs.lookup x=some c)->∃c,cl.lookup x=some c):=by
 intro names
 induction names with
 | nil =>
  intro cs _ h2
  exact⟨cs,rfl,h2,fun x hx=>hx.elim (fun z=>absurd z (by simp)) fun z=>z⟩
 | cons p r ih =>
  intro cs h1 h2
  obtain⟨n,k⟩:=p
  by_cases hk:k=NameKind.free
  ·subst hk
   obtain⟨c,hc⟩:=h1 n List.mem_cons_self
   have hcell:cellOf env n=pure c:=by simp only [cellOf,hc]
   obtain⟨cl,e,a,b⟩:=ih ((n,c)::cs) (fun x hx=>h1 x (List.mem_cons_of_mem _ hx)) (fun x c' hx=>by
    rw [List.lookup_cons] at hx
    cases hb:x==n with
    | true =>
     rw [hb] at hx
     have hx':some c=some c':=hx
     cases hx'
     have:x=n:=by simpa using hb
     rw [this]; exact hc
    | false=>rw [hb] at hx; exact h2 x c' hx)
   refine⟨cl,?_,a,fun x hx=>b x ?_⟩
   ·rw [List.forIn_cons]
    simp only [beq_self_eq_true,if_true,hcell,pure_bind]
    exact e
   ·by_cases hxn:x=n
    ·subst hxn
     exact .inr ⟨c,by simp [List.lookup_cons]⟩
    ·rcases hx with hx | ⟨c',hx⟩
     ·rcases List.mem_cons.mp hx with hx | hx
      ·cases hx; exact absurd rfl hxn
      ·exact .inl hx
     ·refine .inr ⟨c',?_⟩
      have:(x==n)=false:=by simpa using hxn
      rw [List.lookup_cons,this]
      exact hx
  ·have hk':(k==NameKind.free)=false:=by simpa using hk
   obtain⟨cl,e,a,b⟩:=ih cs (fun x hx=>h1 x (List.mem_cons_of_mem _ hx)) h2
   refine⟨cl,?_,a,fun x hx=>b x ?_⟩
   ·rw [List.forIn_cons]
    simp only [hk',Bool.false_eq_true,if_false,pure_bind]
    exact e
   ·rcases hx with hx | hx
    ·rcases List.mem_cons.mp hx with hx | hx
     ·cases hx; exact absurd rfl hk
     ·exact .inl hx
    ·exact .inr hx
theorem FH{scope:Scope}{env:Env}(h:∀x,(x,NameKind.free)∈scope.names->∃c,env.cells.lookup x=some c) :
  ∃cl,closureFor scope env=pure cl/\(∀x c,cl.lookup x=some c->env.cells.lookup x=some c)/\(∀x,(x,NameKind.free)∈scope.names->∃c,cl.lookup x=some c):=by
 obtain⟨cl,e,a,b⟩:=JS scope.names [] h (fun x c hx=>by simp at hx)
 refine⟨cl,?_,a,fun x hx=>b x (.inl hx)⟩
 simp only [closureFor]
 rw [e,pure_bind]
variable {prog:Program}{w:World}{A:Around}{E:Value->Shared->Prop}{R:Result->Shared->Prop}{s:Shared}
theorem HA{elt target iter:Expr}{ifs:List Expr}{scope:Scope}{pos:Pos}{it acc:Value}{env:Env}(I:Nat->Shared->Prop)
  (turn:∀n s,I n s->wpAny (model prog w) A (pyNext it) (fun r s₁=>match r with
   | none=>R (.ok .next) s₁
   | some v=>wpAny (model prog w) A (letOwnedTupleGo target it v) (fun _ s₁'=>wpAny (model prog w) A (assign target env v) (fun _ s₂ =>
     wpAny (model prog w) A (forIn ifs true fun c r=>if r=true then do let ok ← isTrue c env (eval c env); pure (ForInStep.yield ok) else pure (ForInStep.yield r)) (fun ok s₃ =>
      if ok=true then wpAny (model prog w) A (eval elt env) (fun x s₄ =>
       wpAny (model prog w) A (call (.builtin "list.append") [acc,x]) (fun _ s₅=>∃m,m<n/\I m s₅) (fun _ _=>False) s₄) (fun _ _=>False) s₃
      else ∃m,m<n/\I m s₃) (fun _ _=>False) s₂) (fun _ _=>False) s₁') (fun _ _=>False) s₁) (fun _ _=>False) s)
  (n:Nat) (h:I n s) :
  codeAny (model prog w) A (.compLoop (.ListComp elt [⟨target,iter,ifs,0⟩] scope pos) 0 it acc env) R s:=by
 refine codeAny_loop rfl I (fun n s hI=>?_) n h
 show wpAny _ A ((compTurn (.ListComp elt [⟨target,iter,ifs,0⟩] scope pos) 0 it acc env).onRaise (fun x=>do noteFrame x env; theTreesLotGoes x)) _ _ s
 refine wpAny_noted ?_
 rw [compTurn_list]
 refine wpAny_bind (wpAny_standAt (wpAny_bind (wpAny_mono (turn n s hI) (fun r s₁ h₁=>?_) fun _ _ h'=>h'.elim)))
 cases r with
 | none=>exact wpAny_pure h₁
 | some v =>
  refine wpAny_bind (wpAny_mono h₁ (fun _ s₁' h₁'=>?_) fun _ _ h'=>h'.elim)
  refine wpAny_bind (wpAny_mono h₁' (fun _ s₂ h₂=>wpAny_bind (wpAny_mono h₂ (fun ok s₃ h₃=>?_) fun _ _ h'=>h'.elim)) fun _ _ h'=>h'.elim)
  cases ok with
  | false=>exact wpAny_pure ⟨rfl,h₃⟩
  | true =>
   exact wpAny_bind (wpAny_bind (wpAny_mono h₃ (fun x s₄ h₄=>wpAny_bind (wpAny_mono h₄ (fun _ s₅ h₅=>wpAny_pure (wpAny_pure ⟨rfl,h₅⟩)) fun _ _ h'=>h'.elim)) fun _ _ h'=>h'.elim))
end
noncomputable def Ad(X:Cx)(sc:Scope)(N':List Str)(cl:List (Str×Addr))(C:Addr)(s:Shared)(H:Hp)(ex:List Addr):Cx where
 prog:=X.prog
 w:=X.w
 K:=X.K
 mg:=X.mg
 base:=X.base
 A:=X.A
 N:=N'
 s₀:=s
 H₀:=H
 env:=compEnvC sc cl C X.env
 outer:=X.stack
 stack:=X.stack
 ex:=ex
 fn:=fun _=>false
 calm:=true
 pn:=[]
 xe:=fun _ _=>False
noncomputable def Bn(js:List (Option Nat))(σ:St):St:=js.map fun o=>match o with
 | some i=>(σ[i]?).getD none
 | none=>none
noncomputable def N9(o:Option NameKind):Bool:=match o with
 | some .cell=>true
 | some .free=>true
 | _=>false
theorem Jy{o:Option NameKind}(h:N9 o=true):o=some .cell\/o=some .free:=by
 unfold N9 at h
 split at h
 ·exact .inl rfl
 ·exact .inr rfl
 ·cases h
noncomputable def isFree(o:Option NameKind):Bool:=match o with
 | some .free=>true
 | _=>false
theorem K2{o:Option NameKind}(h:isFree o=true):o=some .free:=by
 unfold isFree at h
 split at h
 ·rfl
 ·cases h
noncomputable def MN(o:Option NameKind):Bool:=match o with
 | some .local=>true
 | _=>false
theorem MM{o:Option NameKind}(h:MN o=true):o=some .local:=by
 unfold MN at h
 split at h
 ·rfl
 ·cases h
noncomputable def MP(k:ScopeKind):Bool:=match k with
 | .function=>true
 | _=>false
theorem MO{k:ScopeKind}(h:MP k=true):k=.function:=by
 unfold MP at h
 split at h
 ·rfl
 ·cases h
noncomputable def ST(sc esc:Scope)(p:Str×NameKind):Bool:=match p.2 with
 | .cell=>false
 | .free=>N9 (esc.names.lookup p.1)
 | .local=>MN (sc.names.lookup p.1)
 | _=>true
noncomputable def Sb(x:Option Str)(y:Str):Bool:=match x with
 | some z=>z==y
 | none=>false
theorem QE{x:Option Str}{y:Str}(h:Sb x y=true):x=some y:=by
 unfold Sb at h
 split at h
 ·exact congrArg some (by simpa using h)
 ·cases h
noncomputable def Do(sc esc:Scope)(N:List Str):List Str->List (Option Nat)->Bool
 | [],[]=>true
 | x::xs,some j::js=>isFree (sc.names.lookup x)&&Sb (N[j]?) x&&N9 (esc.names.lookup x)&&Do sc esc N xs js
 | _::xs,none::js=>Do sc esc N xs js
 | _,_=>false
noncomputable def FG(sc esc:Scope)(N N':List Str)(js:List (Option Nat)):Bool:=MP sc.kind&&sc.names.all (ST sc esc)&&Do sc esc N N' js
theorem Ce{sc esc:Scope}{N:List Str}:∀{N':List Str} {js:List (Option Nat)},Do sc esc N N' js=true->js.length=N'.length
 | [],[],_=>rfl
 | x::xs,some j::js,h=>by
  unfold Do at h
  rw [Bool.and_eq_true] at h
  rw [List.length_cons,List.length_cons,Ce h.2]
 | x::xs,none::js,h=>by
  unfold Do at h
  rw [List.length_cons,List.length_cons,Ce h]
 | [],some _::_,h=>by unfold Do at h; cases h
 | [],none::_,h=>by unfold Do at h; cases h
 | _::_,[],h=>by unfold Do at h; cases h
theorem HB{sc esc:Scope}{N:List Str}:∀{N':List Str} {js:List (Option Nat)},Do sc esc N N' js=true->∀{k:Nat} {x:Str} {j:Nat},N'[k]?=some x->js[k]?=some (some j) ->
  sc.names.lookup x=some .free/\N[j]?=some x/\(esc.names.lookup x=some .cell\/esc.names.lookup x=some .free)
 | [],_,_,k,x,j,h1,_=>by simp at h1
 | _::_,[],h,_,_,_,_,_=>by unfold Do at h; cases h
 | y::ys,some i::js,h,k,x,j,h1,h2=>by
  unfold Do at h
  rw [Bool.and_eq_true,Bool.and_eq_true,Bool.and_eq_true] at h
  cases k with
  | zero =>
   simp at h1 h2
   subst h1 h2
   exact⟨K2 h.1.1.1,QE h.1.1.2,Jy h.1.2⟩
  | succ k=>exact HB h.2 (k:=k) (by simpa using h1) (by simpa using h2)
 | y::ys,none::js,h,k,x,j,h1,h2=>by
  unfold Do at h
  cases k with
  | zero=>simp at h2
  | succ k=>exact HB h (k:=k) (by simpa using h1) (by simpa using h2)
theorem Ky{js:List (Option Nat)}{σ:St}{k:Nat}{v:V}(h:(Bn js σ)[k]?=some (some v)):∃j,js[k]?=some (some j)/\σ[j]?=some (some v):=by
 unfold Bn at h
 rw [List.getElem?_map] at h
 cases e:js[k]? with
 | none=>rw [e] at h; cases h
 | some o =>
  rw [e] at h
  cases o with
  | none=>cases h
  | some j =>
   refine⟨j,rfl,?_⟩
   have h':some ((σ[j]?).getD none)=some (some v):=h
   have h2:=Option.some.inj h'
   cases q:σ[j]? with
   | none=>rw [q] at h2; cases h2
   | some w=>rw [q] at h2; exact congrArg some h2
theorem Bw{env:Env}:∀{names:List (Str×NameKind)} {x:Str},names.lookup x=some .free ->
  (names.map fun(n,k)=>if (k==NameKind.free&&env.scope.kind==.function&&env.kindOf n==some .cell) then (n,NameKind.cell) else (n,k)).lookup x=some .cell \/
  (names.map fun(n,k)=>if (k==NameKind.free&&env.scope.kind==.function&&env.kindOf n==some .cell) then (n,NameKind.cell) else (n,k)).lookup x=some .free
 | [],_,h=>by simp at h
 | (n,k)::r,x,h=>by
  have ih:=@Bw env r x
  show List.lookup x ((if (k==NameKind.free&&env.scope.kind==.function&&env.kindOf n==some .cell)=true then (n,NameKind.cell) else (n,k))::_)=_\/List.lookup x ((if (k==NameKind.free&&env.scope.kind==.function&&env.kindOf n==some .cell)=true then (n,NameKind.cell) else (n,k))::_)=_
  by_cases hc:(k==NameKind.free&&env.scope.kind==.function&&env.kindOf n==some .cell)=true
  ·rw [if_pos hc]
   cases hx:x==n with
   | true=>exact .inl (by simp only [List.lookup_cons,hx])
   | false =>
    simp only [List.lookup_cons,hx] at h ⊢
    exact ih h
  ·rw [if_neg hc]
   cases hx:x==n with
   | true =>
    simp only [List.lookup_cons,hx] at h ⊢
    exact .inr h
   | false =>
    simp only [List.lookup_cons,hx] at h ⊢
    exact ih h
theorem Im{env:Env}{sc:Scope}(hcell:∀y∈sc.names,y.2≠.cell){x:Str}(h:(relabel sc env).names.lookup x=some .cell\/(relabel sc env).names.lookup x=some .free):(x,NameKind.free)∈sc.names:=by
 have hm:(x,NameKind.cell)∈(relabel sc env).names\/(x,NameKind.free)∈(relabel sc env).names:=h.elim (fun z=>.inl (PySem.mem_of_lookup z)) fun z=>.inr (PySem.mem_of_lookup z)
 have go:∀k:NameKind,(k=.cell\/k=.free)->(x,k)∈(relabel sc env).names->(x,NameKind.free)∈sc.names:=by
  intro k hk hmem
  unfold relabel at hmem
  obtain⟨⟨n,k0⟩,hn,e⟩:=List.mem_map.mp hmem
  by_cases hc:(k0==NameKind.free&&env.scope.kind==.function&&env.kindOf n==some .cell)=true
  ·have e':(n,NameKind.cell)=(x,k):=by
    have:=e
    simp only [hc,if_true] at this
    exact this
   have hk0:k0=.free:=by
    rw [Bool.and_eq_true,Bool.and_eq_true] at hc
    simpa using hc.1.1
   cases e'
   subst hk0
   exact hn
  ·have e':(n,k0)=(x,k):=by
    have:=e
    simp only [hc,if_false] at this
    exact this
   cases e'
   rcases hk with rfl | rfl
   ·exact absurd rfl (hcell _ hn)
   ·exact hn
 exact hm.elim (go _ (.inl rfl)) (go _ (.inr rfl))
section
variable {X:Cx}{pins:List (Addr×Obj)}{σ:St}{H:Hp}{s:Shared}
structure CompOk (X:Cx) (sc:Scope) (N':List Str) (js:List (Option Nat)):Prop where
 kind:sc.kind=.function
 cell:∀y∈sc.names,y.2≠.cell
 free:∀x,(x,NameKind.free)∈sc.names->X.env.scope.names.lookup x=some .cell\/X.env.scope.names.lookup x=some .free
 names:∀y∈sc.names,y.2=.local->sc.names.lookup y.1=some .local
 cap:Do sc X.env.scope X.N N' js=true
theorem CompOk.of{sc:Scope}{N':List Str}{js:List (Option Nat)}(h:FG sc X.env.scope X.N N' js=true):CompOk X sc N' js:=by
 unfold FG at h
 rw [Bool.and_eq_true,Bool.and_eq_true,List.all_eq_true] at h
 obtain⟨⟨h1,h2⟩,h3⟩:=h
 refine⟨MO h1,fun y hy e=>?_,fun x hx=>?_,fun y hy e=>?_,h3⟩
 ·have q:=h2 y hy
  unfold ST at q
  rw [e] at q
  cases q
 ·have q:=h2 _ hx
  exact Jy q
 ·have q:=h2 y hy
  unfold ST at q
  rw [e] at q
  exact MM q
theorem IE{sc:Scope}{N':List Str}{js:List (Option Nat)}{cl:List (Str×Addr)}{fp:List Addr}{h₁:Heap}{tk:Nat}(I:Inv X pins σ H s)(hc:X.calm=true)(O:CompOk X sc N' js)
  (hcl:∀x c,cl.lookup x=some c->X.env.cells.lookup x=some c) (hcl2:∀x,(x,NameKind.free)∈sc.names->∃c,cl.lookup x=some c)
  (hf:∀b∈fp,EC X pins H b) (ho:∀b∈fp,∃o,s.heap.get? b=some o)
  (hns:h₁.Ns (s.heap.objs.size+1) (fun _=>none)) (hk:∀b o,s.heap.get? b=some o->h₁.get? b=some o) (hD:∃n,h₁.get? s.heap.objs.size=some { cls:=.type "list",data:=.seq #[] n }) :
  Inv (Ad X sc N' cl (s.heap.objs.size+1) s H fp) [] (Bn js σ) (Aw H s.heap.objs.size (.lst [])) { s with heap:=h₁,toks:=tk }:=by
 have fr:∀a,s.heap.objs.size<=a->H a=none:=fun a ha=>I.hok.fresh ha
 have cellLt:∀x c,cl.lookup x=some c->c<s.heap.objs.size:=fun x c e=>by
  obtain⟨v,q⟩:=I.cell x c (hcl x c e)
  exact q.lt
 have ok:(Ad X sc N' cl (s.heap.objs.size+1) s H fp).Ok:=by
  refine⟨I.ok.mod,O.kind,I.ok.glob,I.ok.blt,Nat.le_succ _,fun x y c h1 h2=>I.ok.inj x y c (hcl x c h1) (hcl y c h2),fun x hx=>?_,fun x c hx=>?_,fun _=>I.ok.hd hc,I.ok.frames,.inl rfl,fun b hb=>⟨?_,fun x c e=>?_⟩,I.bs,Nat.le_trans I.ok.bsz I.sz,fun b o e hb=>?_,fun b hb hb2=>?_,I.stack,I.stkFree⟩
  ·exact hcl2 x (Im (env:=X.env) O.cell hx)
  ·exact absurd (show false=true from hx) Bool.false_ne_true
  ·obtain⟨o,e⟩:=ho b hb
   exact Nat.ne_of_lt (Nat.lt_succ_of_lt (Heap.lt_size e))
  ·exact(hf b hb).2.2.2.2.1 x c (hcl x c e)
  ·rcases (hf b hb).2.2.2.1 with z | z
   ·exact I.ok.noex b o e z
   ·have h1:b<X.base.objs.size:=Heap.lt_size e
    exact absurd (Nat.lt_of_lt_of_le h1 (Nat.le_trans I.ok.bsz z)) (Nat.lt_irrefl _)
  ·rcases List.mem_cons.mp (I.stkSub b hb2) with z | z
   ·exact(hf b hb).2.1 z
   ·exact(hf b hb).2.2.1 z
 refine⟨ok,rfl,I.bare,?_,⟨_,hns,fun i x v h1 h2 h3=>?_⟩,fun x c e=>?_,?_,fun x c e=>?_,fun p hp=>absurd (show p∈([]:List (Addr×Obj)) from hp) (by simp),?_,?_⟩
 ·exact Un.laid hk (Nat.le_refl _) (fr _ (Nat.le_refl _))
 ·obtain⟨j,e1,e2⟩:=Ky h2
  obtain⟨c1,c2,c3⟩:=HB O.cap h1 e1
  obtain⟨m,_,hl⟩:=I.loc
  obtain⟨u,r,l⟩:=hl j x v c2 e2 (.inr c3)
  refine⟨u,r,.inr ⟨Bw c1,?_⟩⟩
  rcases l with ⟨l1,_⟩ | ⟨_,c,l2,l3⟩
  ·have l1':X.env.scope.names.lookup x=some .local:=l1
   rcases c3 with c3 | c3 <;> (rw [l1'] at c3; cases c3)
  ·obtain⟨c',e'⟩:=hcl2 x (PySem.mem_of_lookup c1)
   have:c'=c:=Option.some.inj ((hcl x c' e').symm.trans l2)
   subst this
   obtain⟨oc,hoc,hocd⟩:=id l3
   exact⟨c',e',oc,hk _ _ hoc,hocd⟩
 ·obtain⟨v,oc,hoc,hocd⟩:=I.cell x c (hcl x c e)
  exact⟨v,oc,hk _ _ hoc,hocd⟩
 ·show Aw H s.heap.objs.size (.lst []) (s.heap.objs.size+1)=none
  rw [AL (Nat.succ_ne_self _)]
  exact fr _ (Nat.le_succ _)
 ·show Aw H s.heap.objs.size (.lst []) c=none
  rw [AL (Nat.ne_of_lt (cellLt x c e))]
  exact I.freeC x c (hcl x c e)
 ·refine I.hok.laid hk (Nat.le_refl _) ?_
  obtain⟨n,e⟩:=hD
  exact⟨Nat.zero_le _,[],n,.nil,e⟩
 ·unfold Bn
  show (js.map _).length=N'.length
  rw [List.length_map]
  exact Ce O.cap
theorem Un.but{fs ex:List Addr}{H H1:Hp}{h h1 h':Heap}{C:Addr}(u:Un fs ex H H1 h h1)(hC:h.get? C=none)(hs:∀b,b≠C->h'.get? b=h1.get? b):Un fs ex H H1 h h':=by
 have ne:∀{b:Addr} {o:Obj},h.get? b=some o->b≠C:=fun {b o} e z=>by rw [z,hC] at e; cases e
 refine⟨fun b o e n h1 h2=>(hs b (ne e)).trans (u.keep b o e n h1 h2),fun b o e n h1 h2=>?_,u.free,fun b o e h1=>?_,u.tups,u.frzs,u.tbls⟩
 ·obtain⟨sl,q⟩:=u.slot b o e n h1 h2
  exact⟨sl,(hs b (ne e)).trans q⟩
 ·obtain⟨o',q⟩:=u.there b o e h1
  exact⟨o',(hs b (ne e)).trans q⟩
theorem E9{sc:Scope}{N':List Str}{cl:List (Str×Addr)}{C:Addr}{fp:List Addr}{pins':List (Addr×Obj)}{σ':St}{H':Hp}{s':Shared}{h':Heap}(I:Inv X pins σ H s)(hf:∀b∈fp,EC X pins H b)(hC:s.heap.objs.size<=C)
  (J:Inv (Ad X sc N' cl C s H fp) pins' σ' H' s') (hs:∀b,b≠C->h'.get? b=s'.heap.get? b):Inv X pins σ H' { s' with heap:=h' }:=by
 have nC:s.heap.get? C=none:=by
  cases e:s.heap.get? C with
  | none=>rfl
  | some o=>exact absurd (Heap.lt_size e) (Nat.not_lt.mpr hC)
 have hC':H' C=none:=J.free
 refine I.call' (s':={ s' with heap:=h' }) (ch:=fp) J.os (Un.but J.base nC hs) (fun a o e=>?_) J.bare fun b hb=>?_
 ·exact(J.hok a o e).stay (fun b u hb q=>(hs b (fun z=>by
   rw [z] at hb
   rcases hb with z2 | z2
   ·rw [← z2,hC'] at e; cases e
   ·rw [hC'] at z2; cases z2)).trans q) (fun _ q=>q) fun _ _ q=>q
 ·obtain⟨f0,f1,f2,f3,f4,f5⟩:=hf b hb
  exact⟨f3,f1,f4,f5⟩
end
noncomputable def R9(X:Cx)(ifs:List Expr)(t:TT):Prop :=
 ∀(pins:List (Addr×Obj)) (s:Shared) (σ:St) (H:Hp) (Q:Bool->Hp->Prop),Inv X pins σ H s->t σ H Q ->
  wpAny (model X.prog X.w) X.A (forIn ifs true fun c r=>if r=true then do let ok ← isTrue c X.env (eval c X.env); pure (ForInStep.yield ok) else pure (ForInStep.yield r)) (TP X pins σ Q) X.xe s
noncomputable def SI:TT:=fun _ H Q=>Q true H
theorem Ng{X:Cx}:R9 X [] SI:=fun pins s σ H Q I h=>wpAny_tests_nil ⟨H,I,h⟩
noncomputable def LP(X:Cx)(sc:Scope)(N':List Str)(js:List (Option Nat))(tg elt:Expr)(ifs:List Expr)(wi:TI):TE:=fun σ H Q=>wi σ H fun J H1=>∀l,H1 l=none->X.K.lookup l=none->∀cl C s H0 fp,∃(g:TG) (tt:TT) (te:TE) (W:Nat->Nat->St->Hp->Prop),
 PG (Ad X sc N' cl C s H0 fp) tg g/\R9 (Ad X sc N' cl C s H0 fp) ifs tt/\PE (Ad X sc N' cl C s H0 fp) elt te/\(∃m,W 0 m (Bn js σ) (Aw H1 l (.lst [])))/\∀i m σ' H',W i m σ' H' ->
 (J.stop i H'/\Q (.ref l) H')\/(J.go i H'/\∀x H2,J.yld i H' x H2->g x σ' H2 fun σ3 H3=>tt σ3 H3 fun b H4=>if b=true then te σ3 H4 fun y H5=>∃ys,H5 l=some (.lst ys)/\ys.length<sizeLine/\∃m',m'<m/\W (i+1) m' σ3 (Aw H5 l (.lst (ys++[y]))) else ∃m',m'<m/\W (i+1) m' σ3 H4)
section
variable {X:Cx}{tg elt iter:Expr}{ifs:List Expr}{sc:Scope}{pos:Pos}{N':List Str}{js:List (Option Nat)}{wi:TI}{g:TG}{tt:TT}{te:TE}
theorem GC{pins:List (Addr×Obj)}{σ:St}{H:Hp}{s:Shared}{cl:List (Str×Addr)}{C l it:Addr}{fp:List Addr}{tn:Nat->Heap->Prop}{J:It}{s3:Shared}{Q:VK}{R:Result->Shared->Prop}{W:Nat->Nat->St->Hp->Prop}{m0:Nat}{σ0:St}{H0:Hp}
  (I:Inv X pins σ H s) (hf:∀b∈fp,EC X pins H b) (hlt:∀b∈fp,b<s.heap.objs.size) (hC:s.heap.objs.size<=C)
  (T:Turn X.prog X.w X.K tg J fp it tn)
  (hg:PG (Ad X sc N' cl C s H fp) tg g) (ht:R9 (Ad X sc N' cl C s H fp) ifs tt) (he:PE (Ad X sc N' cl C s H fp) elt te)
  (hW:∀i m σ' H',W i m σ' H' ->
   (J.stop i H'/\Q (.ref l) H')\/(J.go i H'/\∀x H2,J.yld i H' x H2->g x σ' H2 fun σ3 H3=>tt σ3 H3 fun b H4=>if b=true then te σ3 H4 fun y H5=>∃ys,H5 l=some (.lst ys)/\ys.length<sizeLine/\∃m',m'<m/\W (i+1) m' σ3 (Aw H5 l (.lst (ys++[y]))) else ∃m',m'<m/\W (i+1) m' σ3 H4))
  (hR:∀σ' H' s',Inv (Ad X sc N' cl C s H fp) [] σ' H' s'->Q (.ref l) H'->R (.ok .next) s')
  (I3:Inv (Ad X sc N' cl C s H fp) [] σ0 H0 s3) (t3:tn 0 s3.heap) (f3:∀b∈fp,H0 b=none) (w0:W 0 m0 σ0 H0) :
  codeAny (model X.prog X.w) X.A (.compLoop (.ListComp elt [⟨tg,iter,ifs,0⟩] sc pos) 0 (.ref it) (.ref l) (compEnvC sc cl C X.env)) R s3:=by
 have stat:∀{H':Hp},(∀b∈fp,H' b=none)->∀b∈fp,EC (Ad X sc N' cl C s H fp) [] H' b:=fun hn b hb=>by
  have q:=I3.ok.exf b hb
  refine⟨hn b hb,q.1,I3.ok.exfs b hb,.inl hb,q.2,fun p hp=>absurd (show p∈([]:List (Addr×Obj)) from hp) (by simp)⟩
 refine HA (fun n s'=>∃i σ' H',Inv (Ad X sc N' cl C s H fp) [] σ' H' s'/\tn i s'.heap/\(∀b∈fp,H' b=none)/\W i n σ' H') ?_ m0 ⟨0,σ0,H0,I3,t3,f3,w0⟩
 rintro n s4 ⟨i,σ4,H4,I4,st4,fr4,w4⟩
 rcases hW i n σ4 H4 w4 with ⟨stop,qn⟩ | ⟨go,step⟩
 ·refine A2 (T.done (Ad X sc N' cl C s H fp) rfl rfl rfl rfl i [] s4 σ4 H4 (fun _ _=>False) I4 (stat fr4) st4 stop) fun r s5 ⟨hr,I5⟩=>?_
  subst hr
  exact hR σ4 H4 s5 I5 qn
 ·refine A2 (T.item (Ad X sc N' cl C s H fp) rfl rfl rfl rfl i [] s4 σ4 H4 (fun _ _=>False) I4 (stat fr4) st4 go) fun r s5 ⟨u,hr,h5⟩=>?_
  subst hr
  refine A2 h5 fun _ s6 ⟨x,H6,I6,r6,y6,st6,fr6⟩=>?_
  have I6':=I6.pinned (stat fr6) (T.obj _ _ st6)
  refine A2 (hg _ s6 σ4 H6 x u _ I6' r6 (step x H6 y6)) fun _ s7 ⟨σ7,H7,I7,q7⟩=>?_
  have again:∀{σ9:St} {H9:Hp} {s9:Shared} {m':Nat},Inv (Ad X sc N' cl C s H fp) ([]++Ew fp s6.heap) σ9 H9 s9->m'<n->W (i+1) m' σ9 H9->∃m,m<n/\∃i σ' H',Inv (Ad X sc N' cl C s H fp) [] σ' H' s9/\tn i s9.heap/\(∀b∈fp,H' b=none)/\W i m σ' H':=fun {σ9 H9 s9 m'} I9 hm w9=>by
   refine⟨m',hm,i+1,σ9,H9,I9.unpinned,T.keep _ _ _ st6 fun b hb o e=>(I9.pin (b,o) (List.mem_append_right _ (List.mem_append_right _ (CP hb e)))).1,fun b hb=>?_,w9⟩
   obtain⟨o,e,d⟩:=T.obj _ _ st6 b hb
   exact(I9.pin (b,o) (List.mem_append_right _ (List.mem_append_right _ (CP hb e)))).2.1
  refine A2 (ht _ s7 σ7 H7 _ I7 q7) fun ok s8 ⟨H8,I8,q8⟩=>?_
  cases ok with
  | false =>
   have q8':∃m',m'<n/\W (i+1) m' σ7 H8:=q8
   obtain⟨m',hm,w8⟩:=q8'
   show ∃m,m<n/\_
   exact again I8 hm w8
  | true =>
   refine A2 (he _ s8 σ7 H8 _ I8 q8) fun y s9 ⟨yv,H9,I9,ry,q9⟩=>?_
   obtain⟨ys,hl,hz,m',hm,w9⟩:=q9
   refine A2 (CL (X:=Ad X sc N' cl C s H fp) _ s9 σ7 H9 (.ref l) [yv] (.ref l) [y] (fun v H'=>v=.non/\H'=Aw H9 l (.lst (ys++[yv]))) I9 rfl (.cons ry .nil) ⟨l,ys,yv,rfl,rfl,hl,hz,rfl,rfl⟩) fun _ sa ⟨v,Ha,Ia,_,_,eH⟩=>?_
   subst eH
   exact again Ia hm w9
theorem Np(hc:X.calm=true)(N':List Str)(js:List (Option Nat))(hi:PI X tg iter wi)
  (hB:FG sc X.env.scope X.N N' js=true)
  (hs:autoParam (∀x,foldedSetIterable iter X.env x=pure x) zau2._auto_1) :
  PE X (.ListComp elt [⟨tg,iter,ifs,0⟩] sc pos) (LP X sc N' js tg elt ifs wi):=by
 intro pins s σ H Q I h
 have O:CompOk X sc N' js:=CompOk.of hB
 obtain⟨cl,hclos,hcl,hcl2⟩:=FH (scope:=sc) (env:=X.env) fun x hx=>I.ok.has x (O.free x hx)
 rw [eval_ListComp]
 refine wpAny_comprehension_free (use:=none) rfl hs hclos O.kind O.names (A2 (hi pins s σ H _ I h) fun v s1 h1=>A2 h1 fun itv s2 h2=>?_)
 obtain⟨it,fp,tn,J,H2,e,I2,T,st2,f2,hq⟩:=h2
 subst e
 have kfree:X.K.lookup s2.heap.objs.size=none:=by
  cases q:X.K.lookup s2.heap.objs.size with
  | none=>rfl
  | some o=>exact absurd (Heap.lt_size (I2.kIn _ _ q)) (Nat.lt_irrefl _)
 obtain⟨g,tt,te,W,hg,ht,he,⟨m0,w0⟩,hW⟩:=hq s2.heap.objs.size (I2.hok.fresh (Nat.le_refl _)) kfree cl (s2.heap.objs.size+1) s2 H2 fp
 refine wpAny_newObj_type (wpAny_newFunctionEnv O.cell (by intro y hy; simp at hy) (fun h₁ hns₁ hsb₁=>?_) O.kind)
 dsimp only at hns₁ hsb₁ ⊢
 generalize hH2:s2.heap.push { cls:=.type "list",dict:=none,data:=.seq ([]:List Value).toArray }=Hh at hns₁ hsb₁ ⊢
 have hCe:Hh.objs.size=s2.heap.objs.size+1:=by rw [← hH2,Heap.size_push]
 have hlt:∀b∈fp,b<s2.heap.objs.size:=fun b hb=>by
  obtain⟨o,e,_⟩:=T.obj _ _ st2 b hb
  exact Heap.lt_size e
 have old:∀b o,s2.heap.get? b=some o->h₁.get? b=some o:=fun b o e=>hsb₁.extBut b o (by rw [hCe]; exact Nat.ne_of_lt (Nat.lt_succ_of_lt (Heap.lt_size e))) (Heap.get?_push_of_some _ (hH2▸Heap.get?_push_of_some _ e))
 have hD:∃n,h₁.get? s2.heap.objs.size=some { cls:=.type "list",data:=.seq #[] n }:=⟨_,hsb₁.extBut _ _ (by rw [hCe]; exact Nat.ne_of_lt (Nat.lt_succ_self _)) (Heap.get?_push_of_some _ (hH2▸Heap.get?_push_size _ rfl))⟩
 have I3:∀tk,Inv (Ad X sc N' cl (s2.heap.objs.size+1) s2 H2 fp) [] (Bn js σ) (Aw H2 s2.heap.objs.size (.lst [])) { s2 with heap:=h₁,toks:=tk }:=fun tk =>
  IE I2 hc O hcl hcl2 f2 (fun b hb=>let ⟨o,e,_⟩:=T.obj _ _ st2 b hb; ⟨o,e⟩) (by rw [← hCe]; exact hns₁) old hD
 have st3:tn 0 h₁:=T.keep _ _ _ st2 fun b hb o e=>old b o e
 have fr3:∀b∈fp,Aw H2 s2.heap.objs.size (.lst []) b=none:=fun b hb=>by
  rw [AL (Nat.ne_of_lt (hlt b hb))]
  exact(f2 b hb).1
 have loop:∀tk,codeAny (model X.prog X.w) X.A (.compLoop (.ListComp elt [⟨tg,iter,ifs,0⟩] sc pos) 0 (.ref it) (.ref s2.heap.objs.size) (compEnvC sc cl (s2.heap.objs.size+1) X.env))
   (compPost (model X.prog X.w) X.A X.xe none (EP X pins σ Q) (.ref s2.heap.objs.size) (s2.heap.objs.size+1)) { s2 with heap:=h₁,toks:=tk }:=fun tk=>by
  refine GC (W:=W) (m0:=m0) (Q:=Q) I2 f2 hlt (Nat.le_succ _) T hg ht he hW (fun σ' H' s' J' q'=>?_) (I3 tk) st3 fr3 w0
  obtain⟨m,hn,_⟩:=J'.loc
  exact⟨m,hn,fun h' hs'=>⟨.ref _,H',E9 I2 f2 (Nat.le_succ _) J' fun b hb=>hs'.2 b hb,rfl,q'⟩⟩
 rw [show (newEnv sc Hh.objs.size X.env.globals cl X.env.qual none .none (some X.env) builtinsNs).locals=s2.heap.objs.size+1 from hCe]
 show codeAny (model X.prog X.w) X.A (.compStart (.ListComp elt [⟨tg,iter,ifs,0⟩] sc pos) 0 (.ref it) (.ref s2.heap.objs.size) (compEnvC sc cl (s2.heap.objs.size+1) X.env)) _ _
 exact codeAny_compStart_list (loop _) (T.self _ 0 _ _ _ st3 (loop _))
end
end L2
namespace Dp
open PySem PySem.Spec PyProof.Rows L2
inductive D where
 | non | bl (b:Bool) | int (i:Int) | str (x:Str) | tup (xs:List D) | lst (xs:List D) | dic (ks:List Key) (xs:List D) | fdi (ks:List Key) (xs:List D) | dit (ks:List (List Key)) (xs:List D)
 deriving Inhabited
noncomputable def NdT(M:Addr->Prop)(H:Hp)(a:Addr)(vs:List V):Prop:=H a=some (.tup vs)
noncomputable def NdL(M:Addr->Prop)(H:Hp)(a:Addr)(vs:List V):Prop:=¬M a/\H a=some (.lst vs)
noncomputable def NdD(M:Addr->Prop)(H:Hp)(a:Addr)(ks:List Key)(vs:List V):Prop:=¬M a/\H a=some (.dK (ks.zip vs))
noncomputable def NdF(M:Addr->Prop)(H:Hp)(a:Addr)(ks:List Key)(vs:List V):Prop:=∃o,¬M a/\H a=some (.frz o (.dK (ks.zip vs)))
noncomputable def NdU(M:Addr->Prop)(H:Hp)(a:Addr)(ks:List (List Key))(vs:List V):Prop:=¬M a/\H a=some (.dT (ks.zip vs))
mutual
noncomputable def At(K:Frag)(M:Addr->Prop)(H:Hp):D->V->Prop
 | .non,v=>v=.non
 | .bl b,v=>v=.bl b
 | .int i,v=>v=.int i
 | .str x,v=>v=.str x/\x.length<=sizeLine
 | .tup ds,v=>∃a vs,v=.ref a/\NdT M H a vs/\Ats K M H ds vs
 | .lst ds,v=>∃a vs,v=.ref a/\NdL M H a vs/\Ats K M H ds vs
 | .dic ks ds,v=>∃a vs,v=.ref a/\NdD M H a ks vs/\ks.length=ds.length/\Ats K M H ds vs
 | .fdi ks ds,v=>∃a vs,v=.ref a/\NdF M H a ks vs/\ks.length=ds.length/\Ats K M H ds vs
 | .dit ks ds,v=>∃a vs,v=.ref a/\NdU M H a ks vs/\ks.length=ds.length/\Ats K M H ds vs
noncomputable def Ats(K:Frag)(M:Addr->Prop)(H:Hp):List D->List V->Prop
 | [],vs=>vs=[]
 | d::ds,vs=>∃v r,vs=v::r/\At K M H d v/\Ats K M H ds r
end
section
variable {K:Frag}{M M':Addr->Prop}{H H':Hp}{a:Addr}{vs:List V}{ks:List Key}
theorem NdT.sq(h:NdT M H a vs):SqT K H a vs:=.inl (.inl h)
noncomputable def Pres(M:Addr->Prop)(H:Hp)(M':Addr->Prop)(H':Hp):Prop:=(∀b o,H b=some o->¬M b->H' b=some o)/\(∀b,M' b->M b\/H b=none)/\∀b vs,H b=some (.tup vs)->H' b=some (.tup vs)
theorem Pres.nd{u:HO}(p:Pres M H M' H')(n:¬M a)(h:H a=some u):¬M' a/\H' a=some u:=by
 refine⟨fun z=>?_,p.1 _ _ h n⟩
 rcases p.2.1 a z with z | z
 ·exact n z
 ·rw [z] at h; cases h
theorem NdT.pres(p:Pres M H M' H')(h:NdT M H a vs):NdT M' H' a vs:=p.2.2 _ _ h
theorem NdL.pres(p:Pres M H M' H')(h:NdL M H a vs):NdL M' H' a vs:=p.nd h.1 h.2
theorem NdD.pres(p:Pres M H M' H')(h:NdD M H a ks vs):NdD M' H' a ks vs:=p.nd h.1 h.2
theorem NdU.pres{ks:List (List Key)}(p:Pres M H M' H')(h:NdU M H a ks vs):NdU M' H' a ks vs:=p.nd h.1 h.2
theorem NdF.pres(p:Pres M H M' H')(h:NdF M H a ks vs):NdF M' H' a ks vs:=let ⟨o,h1,h2⟩:=h; ⟨o,p.nd h1 h2⟩
mutual
theorem At.pres(p:Pres M H M' H'):∀{d:D} {v:V},At K M H d v->At K M' H' d v
 | .non,v,h=>h
 | .bl b,v,h=>h
 | .int i,v,h=>h
 | .str x,v,h=>h
 | .tup ds,v,h=>by
  obtain⟨a,vs,e,hn,hs⟩:=h
  exact⟨a,vs,e,hn.pres p,Ats.pres p hs⟩
 | .lst ds,v,h=>by
  obtain⟨a,vs,e,hn,hs⟩:=h
  exact⟨a,vs,e,hn.pres p,Ats.pres p hs⟩
 | .dic ks ds,v,h=>by
  obtain⟨a,vs,e,hn,hl,hs⟩:=h
  exact⟨a,vs,e,hn.pres p,hl,Ats.pres p hs⟩
 | .fdi ks ds,v,h=>by
  obtain⟨a,vs,e,hn,hl,hs⟩:=h
  exact⟨a,vs,e,hn.pres p,hl,Ats.pres p hs⟩
 | .dit ks ds,v,h=>by
  obtain⟨a,vs,e,hn,hl,hs⟩:=h
  exact⟨a,vs,e,hn.pres p,hl,Ats.pres p hs⟩
theorem Ats.pres(p:Pres M H M' H'):∀{ds:List D} {vs:List V},Ats K M H ds vs->Ats K M' H' ds vs
 | [],vs,h=>h
 | d::ds,vs,h=>by
  obtain⟨v,r,e,h1,h2⟩:=h
  exact⟨v,r,e,At.pres p h1,Ats.pres p h2⟩
end
theorem Pres.trans{M1 M2 M3:Addr->Prop}{H1 H2 H3:Hp}(p:Pres M1 H1 M2 H2)(q:Pres M2 H2 M3 H3):Pres M1 H1 M3 H3:=by
 refine⟨fun b o e n=>?_,fun b z=>?_,fun b vs e=>q.2.2 b vs (p.2.2 b vs e)⟩
 ·refine q.1 b o (p.1 b o e n) fun z=>?_
  rcases p.2.1 b z with z | z
  ·exact n z
  ·rw [z] at e; cases e
 ·rcases q.2.1 b z with z | z
  ·exact p.2.1 b z
  ·cases e:H1 b with
   | none=>exact .inr rfl
   | some o =>
    by_cases n:M1 b
    ·exact .inl n
    ·rw [p.1 b o e n] at z; cases z
theorem Pres.refl(M:Addr->Prop)(H:Hp):Pres M H M H:=⟨fun _ _ e _=>e,fun _ z=>.inl z,fun _ _ e=>e⟩
theorem Pres.less(h:∀b,M' b->M b):Pres M H M' H:=⟨fun _ _ e _=>e,fun b z=>.inl (h b z),fun _ _ e=>e⟩
theorem Ats.length:∀{ds:List D} {vs:List V},Ats K M H ds vs->vs.length=ds.length
 | [],vs,h=>by cases h; rfl
 | d::ds,vs,h=>by
  obtain⟨v,r,e,h1,h2⟩:=h
  subst e
  rw [List.length_cons,List.length_cons,Ats.length h2]
theorem Ats.get:∀{ds:List D} {vs:List V} {i:Nat} {d:D},Ats K M H ds vs->ds[i]?=some d->∃v,vs[i]?=some v/\At K M H d v
 | [],vs,i,d,h,e=>by simp at e
 | d0::ds,vs,0,d,h,e=>by
  obtain⟨v,r,e1,h1,h2⟩:=h
  simp at e
  subst e e1
  exact⟨v,rfl,h1⟩
 | d0::ds,vs,i+1,d,h,e=>by
  obtain⟨v,r,e1,h1,h2⟩:=h
  subst e1
  obtain⟨u,e2,h3⟩:=Ats.get (i:=i) (d:=d) h2 (by simpa using e)
  exact⟨u,by simpa using e2,h3⟩
theorem Ats.append:∀{ds es:List D} {vs us:List V},Ats K M H ds vs->Ats K M H es us->Ats K M H (ds++es) (vs++us)
 | [],es,vs,us,h,g=>by cases h; exact g
 | d::ds,es,vs,us,h,g=>by
  obtain⟨v,r,e,h1,h2⟩:=h
  subst e
  exact⟨v,r++us,rfl,h1,Ats.append h2 g⟩
theorem Ats.drop:∀{ds:List D} {vs:List V} (n:Nat),Ats K M H ds vs->Ats K M H (ds.drop n) (vs.drop n)
 | ds,vs,0,h=>h
 | [],vs,n+1,h=>by cases h; exact rfl
 | d::ds,vs,n+1,h=>by
  obtain⟨v,r,e,h1,h2⟩:=h
  subst e
  exact Ats.drop n h2
theorem Ats.take:∀{ds:List D} {vs:List V} (n:Nat),Ats K M H ds vs->Ats K M H (ds.take n) (vs.take n)
 | ds,vs,0,h=>rfl
 | [],vs,n+1,h=>by cases h; exact rfl
 | d::ds,vs,n+1,h=>by
  obtain⟨v,r,e,h1,h2⟩:=h
  subst e
  exact⟨v,r.take n,rfl,h1,Ats.take n h2⟩
theorem Ats.one{d:D}{v:V}(h:At K M H d v):Ats K M H [d] [v]:=⟨v,[],rfl,h,rfl⟩
theorem Ats.reverse:∀{ds:List D} {vs:List V},Ats K M H ds vs->Ats K M H ds.reverse vs.reverse
 | [],vs,h=>by cases h; exact rfl
 | d::ds,vs,h=>by
  obtain⟨v,r,e,h1,h2⟩:=h
  subst e
  rw [List.reverse_cons,List.reverse_cons]
  exact Ats.append (Ats.reverse h2) (Ats.one h1)
end
inductive Kd where
 | sh | tp | fr
noncomputable def Tops(K:Frag)(M:Addr->Prop)(H:Hp)(a:Addr):D->Prop
 | .lst ds=>∃vs,H a=some (.lst vs)/\Ats K M H ds vs
 | .dic ks ds=>∃vs,H a=some (.dK (ks.zip vs))/\ks.length=ds.length/\Ats K M H ds vs
 | .dit ks ds=>∃vs,H a=some (.dT (ks.zip vs))/\ks.length=ds.length/\Ats K M H ds vs
 | _=>False
theorem Tops.notT{K:Frag}{M:Addr->Prop}{H:Hp}{a:Addr}{d:D}(h:Tops K M H a d){vs:List V}:H a≠some (.tup vs):=fun q=>by
 cases d with
 | lst ds=>obtain⟨us,e,_⟩:=h; rw [e] at q; cases q
 | dic ks ds=>obtain⟨us,e,_⟩:=h; rw [e] at q; cases q
 | dit ks ds=>obtain⟨us,e,_⟩:=h; rw [e] at q; cases q
 | _=>exact h.elim
theorem Tops.pres{K:Frag}{M M':Addr->Prop}{H H':Hp}{a:Addr}{d:D}(h:Tops K M H a d)(p:Pres M H M' H')(e:∀o,H a=some o->H' a=some o):Tops K M' H' a d:=by
 cases d with
 | lst ds=>obtain⟨vs,h1,h2⟩:=h; exact⟨vs,e _ h1,h2.pres p⟩
 | dic ks ds=>obtain⟨vs,h1,h2,h3⟩:=h; exact⟨vs,e _ h1,h2,h3.pres p⟩
 | dit ks ds=>obtain⟨vs,h1,h2,h3⟩:=h; exact⟨vs,e _ h1,h2,h3.pres p⟩
 | _=>exact(show False from h).elim
theorem Tops.at{K:Frag}{M:Addr->Prop}{H:Hp}{a:Addr}{d:D}(h:Tops K M H a d)(n:¬M a):At K M H d (.ref a):=by
 cases d with
 | lst ds=>obtain⟨vs,h1,h2⟩:=h; exact⟨a,vs,rfl,⟨n,h1⟩,h2⟩
 | dic ks ds=>obtain⟨vs,h1,h2,h3⟩:=h; exact⟨a,vs,rfl,⟨n,h1⟩,h2,h3⟩
 | dit ks ds=>obtain⟨vs,h1,h2,h3⟩:=h; exact⟨a,vs,rfl,⟨n,h1⟩,h2,h3⟩
 | _=>exact(show False from h).elim
noncomputable def AtT(K:Frag)(U:Addr->Prop)(M:Addr->Prop)(H:Hp):D->V->Prop
 | .lst ds,v=>∃a vs,v=.ref a/\¬U a/\Rd H a (.lst vs)/\Ats K M H ds vs
 | .dic ks ds,v=>∃a vs,v=.ref a/\¬U a/\H a=some (.dK (ks.zip vs))/\ks.length=ds.length/\Ats K M H ds vs
 | .dit ks ds,v=>∃a vs,v=.ref a/\¬U a/\H a=some (.dT (ks.zip vs))/\ks.length=ds.length/\Ats K M H ds vs
 | d,v=>At K M H d v
theorem Tops.att{K:Frag}{U M:Addr->Prop}{H:Hp}{a:Addr}{d:D}(h:Tops K M H a d)(n:¬U a):AtT K U M H d (.ref a):=by
 cases d with
 | lst ds=>obtain⟨vs,h1,h2⟩:=h; exact⟨a,vs,rfl,n,.inl h1,h2⟩
 | dic ks ds=>obtain⟨vs,h1,h2,h3⟩:=h; exact⟨a,vs,rfl,n,h1,h2,h3⟩
 | dit ks ds=>obtain⟨vs,h1,h2,h3⟩:=h; exact⟨a,vs,rfl,n,h1,h2,h3⟩
 | _=>exact(show False from h).elim
noncomputable def VR(K:Frag)(U:Addr->Prop)(M:Addr->Prop)(H H':Hp):Kd->V->D->Prop
 | .sh,v,d=>At K M H' d v
 | .tp,v,d=>AtT K U M H' d v
 | .fr,v,d=>∃a,v=.ref a/\H a=none/\Tops K (fun b=>M b\/b=a) H' a d
noncomputable def FeedOk(K:Frag)(M:Addr->Prop)(H:Hp)(f:Addr×Addr)(n:Nat):Prop :=
 ∃(at_ rest:Int) (cells:List Int),H f.1=some (.lst [.ref f.2,.int at_,.int rest])/\f.2≠f.1/\NdL M H f.2 (cells.map V.int)/\cells.length<=63/\0<=at_/\at_+n<=2 ^ 60
noncomputable def FeedC(K:Frag)(F:Option (Addr×Addr))(M:Addr->Prop)(H:Hp)(n:Nat):Prop:=∀f,F=some f->FeedOk K M H f n
noncomputable def Ext(U:Addr->Prop)(H H':Hp):Prop:=∀b o,H b=some o->∃o',H' b=some o'/\(¬U b->o'=o)/\∀vs,o=.tup vs->o'=o
theorem Ext.keep{U:Addr->Prop}{H H':Hp}(p:Ext U H H'){b:Addr}{o:HO}(e:H b=some o)(n:¬U b):H' b=some o:=by
 obtain⟨o',q,r,_⟩:=p b o e
 rw [q,r n]
theorem Ext.tup{U:Addr->Prop}{H H':Hp}(p:Ext U H H'){b:Addr}{vs:List V}(e:H b=some (.tup vs)):H' b=some (.tup vs):=by
 obtain⟨o',q,_,r⟩:=p b _ e
 rw [q,r vs rfl]
theorem Ext.free{U:Addr->Prop}{H H':Hp}(p:Ext U H H'){b:Addr}(e:H' b=none):H b=none:=by
 cases q:H b with
 | none=>rfl
 | some o =>
  obtain⟨o',z,_⟩:=p b o q
  rw [e] at z; cases z
theorem Ext.refl(U:Addr->Prop)(H:Hp):Ext U H H:=fun _ o e=>⟨o,e,fun _=>rfl,fun _ _=>rfl⟩
theorem Ext.trans{U:Addr->Prop}{H1 H2 H3:Hp}(p:Ext U H1 H2)(q:Ext U H2 H3):Ext U H1 H3:=fun b o e=>by
 obtain⟨o',e1,r1,t1⟩:=p b o e
 obtain⟨o2,e2,r2,t2⟩:=q b o' e1
 exact⟨o2,e2,fun n=>(r2 n).trans (r1 n),fun vs z=>(t2 vs ((t1 vs z).trans z)).trans (t1 vs z)⟩
noncomputable def Grow(H H':Hp):Prop:=H'=H\/∃p o,H p=none/\H'=Aw H p o
theorem Grow.all{H H':Hp}(g:Grow H H'):∀b o,H b=some o->H' b=some o:=by
 intro b o e
 rcases g with rfl | ⟨p,u,n,rfl⟩
 ·exact e
 ·rw [AL (Ax e n)]; exact e
theorem Grow.refl{H:Hp}:Grow H H:=.inl rfl
theorem Grow.ext{U:Addr->Prop}{H H':Hp}(g:Grow H H'):Ext U H H':=fun b o e=>⟨o,g.all b o e,fun _=>rfl,fun _ _=>rfl⟩
theorem Grow.pres{M:Addr->Prop}{H H':Hp}(g:Grow H H'):Pres M H M H':=⟨fun b o e _=>g.all b o e,fun _ z=>.inl z,fun b vs e=>g.all b _ e⟩
theorem FeedOk.pres{K:Frag}{M M':Addr->Prop}{H H':Hp}{f:Addr×Addr}{n:Nat}(h:FeedOk K M H f n)(p:Pres M H M' H')(e:∀o,H f.1=some o->H' f.1=some o):FeedOk K M' H' f n:=by
 obtain⟨a,r,cs,h1,h2,h3,h4⟩:=h
 exact⟨a,r,cs,e _ h1,h2,h3.pres p,h4⟩
theorem FeedC.pres{K:Frag}{F:Option (Addr×Addr)}{M M':Addr->Prop}{H H':Hp}{n:Nat}(h:FeedC K F M H n)(p:Pres M H M' H')(e:∀f o,F=some f->H f.1=some o->H' f.1=some o):FeedC K F M' H' n:=fun f hf=>(h f hf).pres p fun o q=>e f o hf q
theorem FeedC.grow{K:Frag}{F:Option (Addr×Addr)}{M:Addr->Prop}{H H':Hp}{n:Nat}(h:FeedC K F M H n)(g:Grow H H'):FeedC K F M H' n:=h.pres g.pres fun f o _ e=>g.all f.1 o e
theorem FeedC.more{K:Frag}{F:Option (Addr×Addr)}{M:Addr->Prop}{H:Hp}{n:Nat}(h:FeedC K F M H n)(a:Addr)(ha:∀f,F=some f->f.2≠a):FeedC K F (fun b=>M b\/b=a) H n:=fun f hf=>by
 obtain⟨x,r,cs,h1,h2,h3,h4⟩:=h f hf
 exact⟨x,r,cs,h1,h2,⟨fun z=>z.elim h3.1 (ha f hf),h3.2⟩,h4⟩
inductive Slot where
 | no | sh (d:D) | br (d:D) | fd | ow (d:D) | lt (a:Addr) (d:D)
noncomputable def Slot.owns:Slot->Bool
 | .ow _=>true
 | .lt _ _=>true
 | _=>false
noncomputable def SlotOk(K:Frag)(F:Option (Addr×Addr))(U:Addr->Prop)(M:Addr->Prop)(H:Hp):Slot->Option V->Prop
 | .no,_=>True
 | .sh d,o=>∃v,o=some v/\At K M H d v
 | .br d,o=>∃v,o=some v/\AtT K U M H d v
 | .fd,o=>∃f,o=some (.ref f.1)/\F=some f
 | .ow d,o=>∃a,o=some (.ref a)/\M a/\¬U a/\Tops K M H a d
 | .lt a d,o=>o=some (.ref a)/\M a/\¬U a/\Tops K M H a d
structure Fm where
 M0:Addr->Prop
 F:Option (Addr×Addr)
 U:Addr->Prop
 V:Addr->Prop
 H0:Hp
 pins:List ((Addr->Prop)×Hp)
 kp:List (Addr×HO)
noncomputable def Apart(ρ:List Slot)(σ:L2.St):Prop:=∀(i j:Nat) (s t:Slot) (a:Addr),ρ[i]?=some s->s.owns=true->ρ[j]?=some t->t.owns=true->(σ[i]?).getD none=some (.ref a)->(σ[j]?).getD none=some (.ref a)->i=j
structure Rel (K:Frag) (C:Fm) (M:Addr->Prop) (H:Hp) (n:Nat) (ρ:List Slot) (σ:L2.St):Prop where
 len:ρ.length=σ.length
 sub:∀a,C.M0 a->M a
 dom:∀a,M a->∃o,H a=some o
 ext:Ext C.U C.H0 H
 fU:∀f,C.F=some f->C.U f.1
 uV:∀a,C.U a->C.V a
 vM:∀a,C.V a->M a
 feed:FeedC K C.F M H n
 sl:∀(i:Nat) (s:Slot),ρ[i]?=some s->SlotOk K C.F C.V M H s ((σ[i]?).getD none)
 pin:∀p∈C.pins,Pres p.1 p.2 M H
 br0:∀(i:Nat) (d:D) (a:Addr),ρ[i]?=some (.br d)->(σ[i]?).getD none=some (.ref a)->∃o,C.H0 a=some o
 new:∀(i:Nat) (s:Slot) (a:Addr),ρ[i]?=some s->s.owns=true->(σ[i]?).getD none=some (.ref a)->¬C.M0 a/\C.H0 a=none
 two:Apart ρ σ
 kept:∀p∈C.kp,H p.1=some p.2/\M p.1/\¬C.V p.1/\∀(i:Nat) (d:D),ρ[i]?=some (.ow d)->(σ[i]?).getD none≠some (.ref p.1)
section
variable {K:Frag}{C:Fm}{M:Addr->Prop}{H H':Hp}{n n':Nat}{ρ:List Slot}{σ:L2.St}{d:D}{v:V}{κ:Kd}
theorem Rel.pres(R:Rel K C M H n ρ σ)(e:Ext C.U H H'):Pres M H M H':=⟨fun b o q nb=>e.keep q fun z=>nb (R.vM b (R.uV b z)),fun _ z=>.inl z,fun b vs q=>e.tup q⟩
theorem AtT.pres{U V':Addr->Prop}{M':Addr->Prop}(h:AtT K V' M H d v)(p:Pres M H M' H')(e:Ext U H H')(uV:∀a,U a->V' a):AtT K V' M' H' d v:=by
 cases d with
 | lst ds =>
  obtain⟨a,vs,e1,n1,hq,hs⟩:=h
  refine⟨a,vs,e1,n1,?_,hs.pres p⟩
  rcases hq with hq | ⟨o,hq⟩
  ·exact .inl (e.keep hq fun z=>n1 (uV a z))
  ·exact .inr ⟨o,e.keep hq fun z=>n1 (uV a z)⟩
 | dic ks ds =>
  obtain⟨a,vs,e1,n1,hq,hl,hs⟩:=h
  exact⟨a,vs,e1,n1,e.keep hq fun z=>n1 (uV a z),hl,hs.pres p⟩
 | dit ks ds =>
  obtain⟨a,vs,e1,n1,hq,hl,hs⟩:=h
  exact⟨a,vs,e1,n1,e.keep hq fun z=>n1 (uV a z),hl,hs.pres p⟩
 | non=>exact At.pres (K:=K) p (d:=.non) h
 | bl b=>exact At.pres (K:=K) p (d:=.bl b) h
 | int i=>exact At.pres (K:=K) p (d:=.int i) h
 | str x=>exact At.pres (K:=K) p (d:=.str x) h
 | tup ds=>exact At.pres (K:=K) p (d:=.tup ds) h
 | fdi ks ds=>exact At.pres (K:=K) p (d:=.fdi ks ds) h
theorem AtT.same{U V':Addr->Prop}{M':Addr->Prop}(h:AtT K U M H d v)(p:Pres M H M' H')(e:∀a o,v=.ref a->H a=some o->H' a=some o)(nv:∀a,v=.ref a->¬U a->¬V' a):AtT K V' M' H' d v:=by
 cases d with
 | lst ds =>
  obtain⟨a,vs,e1,n1,hq,hs⟩:=h
  refine⟨a,vs,e1,nv a e1 n1,?_,hs.pres p⟩
  rcases hq with hq | ⟨o,hq⟩
  ·exact .inl (e a _ e1 hq)
  ·exact .inr ⟨o,e a _ e1 hq⟩
 | dic ks ds =>
  obtain⟨a,vs,e1,n1,hq,hl,hs⟩:=h
  exact⟨a,vs,e1,nv a e1 n1,e a _ e1 hq,hl,hs.pres p⟩
 | dit ks ds =>
  obtain⟨a,vs,e1,n1,hq,hl,hs⟩:=h
  exact⟨a,vs,e1,nv a e1 n1,e a _ e1 hq,hl,hs.pres p⟩
 | non=>exact At.pres (K:=K) p (d:=.non) h
 | bl b=>exact At.pres (K:=K) p (d:=.bl b) h
 | int i=>exact At.pres (K:=K) p (d:=.int i) h
 | str x=>exact At.pres (K:=K) p (d:=.str x) h
 | tup ds=>exact At.pres (K:=K) p (d:=.tup ds) h
 | fdi ks ds=>exact At.pres (K:=K) p (d:=.fdi ks ds) h
theorem AtT.lies{U:Addr->Prop}{a:Addr}(h:AtT K U M H d (.ref a)):∃o,H a=some o:=by
 cases d with
 | lst ds =>
  obtain⟨b,vs,e,_,hq,_⟩:=h
  cases e
  rcases hq with hq | ⟨o,hq⟩
  ·exact⟨_,hq⟩
  ·exact⟨_,hq⟩
 | dic ks ds =>
  obtain⟨b,vs,e,_,hq,_⟩:=h
  cases e
  exact⟨_,hq⟩
 | dit ks ds =>
  obtain⟨b,vs,e,_,hq,_⟩:=h
  cases e
  exact⟨_,hq⟩
 | non=>cases (show V.ref a=.non from h)
 | bl b=>cases (show V.ref a=.bl b from h)
 | int i=>cases (show V.ref a=.int i from h)
 | str x=>cases (show V.ref a=.str x/\_ from h).1
 | tup ds =>
  obtain⟨b,vs,e,hq,_⟩:=h
  cases e
  exact⟨_,hq⟩
 | fdi ks ds =>
  obtain⟨b,vs,e,⟨o,_,hq⟩,_⟩:=h
  cases e
  exact⟨_,hq⟩
theorem SlotOk.pres{F:Option (Addr×Addr)}{U V' M':Addr->Prop}{s:Slot}{o:Option V}(h:SlotOk K F V' M H s o)(p:Pres M H M' H')(m:∀a,M a->M' a)(e:Ext U H H')(uV:∀a,U a->V' a):SlotOk K F V' M' H' s o:=by
 cases s with
 | no=>trivial
 | sh d=>obtain⟨v,e1,h1⟩:=h; exact⟨v,e1,h1.pres p⟩
 | br d=>obtain⟨v,e1,h1⟩:=h; exact⟨v,e1,h1.pres p e uV⟩
 | fd=>exact h
 | ow d=>obtain⟨a,e1,h1,h2,h3⟩:=h; exact⟨a,e1,m a h1,h2,h3.pres p fun o q=>e.keep q fun z=>h2 (uV a z)⟩
 | lt a d=>obtain⟨e1,h1,h2,h3⟩:=h; exact⟨e1,m a h1,h2,h3.pres p fun o q=>e.keep q fun z=>h2 (uV a z)⟩
theorem Rel.step(R:Rel K C M H n ρ σ)(e:Ext C.U H H')(f:FeedC K C.F M H' n'):Rel K C M H' n' ρ σ:=by
 have p:=R.pres e
 refine⟨R.len,R.sub,fun a z=>?_,R.ext.trans e,R.fU,R.uV,R.vM,f,fun i s q=>(R.sl i s q).pres p (fun _ z=>z) e R.uV,fun q hq=>(R.pin q hq).trans p,R.br0,R.new,R.two,fun q hq=>?_⟩
 ·obtain⟨o,h1⟩:=R.dom a z
  obtain⟨o',h2,_⟩:=e a o h1
  exact⟨o',h2⟩
 ·obtain⟨h1,h2,h3,h4⟩:=R.kept q hq
  exact⟨e.keep h1 fun z=>h3 (R.uV _ z),h2,h3,h4⟩
theorem Rel.udom(R:Rel K C M H n ρ σ):∀a,C.U a->∃o,H a=some o:=fun a z=>R.dom a (R.vM a (R.uV a z))
theorem At.tp{U:Addr->Prop}(uM:∀a,U a->M a)(h:At K M H d v):AtT K U M H d v:=by
 cases d with
 | lst ds =>
  obtain⟨a,vs,e,hn,hs⟩:=h
  exact⟨a,vs,e,fun z=>hn.1 (uM a z),.inl hn.2,hs⟩
 | dic ks ds =>
  obtain⟨a,vs,e,hn,hl,hs⟩:=h
  exact⟨a,vs,e,fun z=>hn.1 (uM a z),hn.2,hl,hs⟩
 | dit ks ds =>
  obtain⟨a,vs,e,hn,hl,hs⟩:=h
  exact⟨a,vs,e,fun z=>hn.1 (uM a z),hn.2,hl,hs⟩
 | non=>exact h
 | bl b=>exact h
 | int i=>exact h
 | str x=>exact h
 | tup ds=>exact h
 | fdi ks ds=>exact h
theorem VR.back{U V':Addr->Prop}{H1:Hp}(e:Ext U H H1)(h:VR K V' M H1 H' κ v d):VR K V' M H H' κ v d:=by
 cases κ with
 | sh=>exact h
 | tp=>exact h
 | fr =>
  obtain⟨a,e1,h1,h2⟩:=h
  exact⟨a,e1,e.free h1,h2⟩
theorem VR.shOf{U:Addr->Prop}(dom:∀a,M a->∃o,H a=some o)(h:VR K U M H H' κ v d)(hk:κ≠.tp):At K M H' d v:=by
 cases κ with
 | sh=>exact h
 | tp=>exact absurd rfl hk
 | fr =>
  obtain⟨a,rfl,h1,h2⟩:=h
  refine(h2.pres (Pres.less (M':=M) fun _ z=>.inl z) fun _ z=>z).at fun z=>?_
  obtain⟨o,q⟩:=dom a z
  rw [h1] at q; cases q
theorem VR.tpOf{U:Addr->Prop}(dom:∀a,M a->∃o,H a=some o)(uM:∀a,U a->M a)(h:VR K U M H H' κ v d):AtT K U M H' d v:=by
 cases κ with
 | sh=>exact At.tp uM h
 | tp=>exact h
 | fr=>exact At.tp uM (VR.shOf dom h (by intro z; cases z))
theorem C7{α:Type}{l:List α}{i j:Nat}{x y:α}(h:(l.set i x)[j]?=some y):(j=i/\i<l.length/\y=x)\/(j≠i/\l[j]?=some y):=by
 rw [List.getElem?_set] at h
 by_cases e:i=j
 ·rw [if_pos e] at h
  by_cases hl:i<l.length
  ·rw [if_pos hl] at h
   exact .inl ⟨e.symm,hl,(Option.some.inj h).symm⟩
  ·rw [if_neg hl] at h; cases h
 ·rw [if_neg e] at h
  exact .inr ⟨fun z=>e z.symm,h⟩
theorem Gb{l:L2.St}{i j:Nat}{x:Option V}(h:j≠i):((l.set i x)[j]?).getD none=(l[j]?).getD none:=by
 rw [List.getElem?_set,if_neg (fun z=>h z.symm)]
theorem LS{l:L2.St}{i:Nat}{x:Option V}(h:i<l.length):((l.set i x)[i]?).getD none=x:=by
 rw [List.getElem?_set,if_pos rfl,if_pos h]
 rfl
theorem Rel.set(R:Rel K C M H n ρ σ){i:Nat}(h:At K M H d v):Rel K C M H n (ρ.set i (.sh d)) (σ.set i (some v)):=by
 have two:∀(j:Nat) (s:Slot),(ρ.set i (.sh d))[j]?=some s->s.owns=true->ρ[j]?=some s/\((σ.set i (some v))[j]?).getD none=(σ[j]?).getD none:=fun j s q o=>by
  rcases C7 q with ⟨_,_,rfl⟩ | ⟨hj,q⟩
  ·cases o
  ·exact⟨q,Gb hj⟩
 refine⟨by rw [List.length_set,List.length_set]; exact R.len,R.sub,R.dom,R.ext,R.fU,R.uV,R.vM,R.feed,fun j s q=>?_,R.pin,fun j e a q q2=>?_,fun j s a q o q2=>?_,fun j k s t a q1 o1 q2 o2 z1 z2=>?_,fun p hp=>?_⟩
 ·rcases C7 q with ⟨rfl,hl,rfl⟩ | ⟨hj,q⟩
  ·rw [LS (by rw [← R.len]; exact hl)]
   exact⟨v,rfl,h⟩
  ·rw [Gb hj]
   exact R.sl j s q
 ·rcases C7 q with ⟨_,_,e⟩ | ⟨hj,q⟩
  ·cases e
  ·rw [Gb hj] at q2
   exact R.br0 j e a q q2
 ·obtain⟨q1,e⟩:=two j s q o
  rw [e] at q2
  exact R.new j s a q1 o q2
 ·obtain⟨p1,e1⟩:=two j s q1 o1
  obtain⟨p2,e2⟩:=two k t q2 o2
  rw [e1] at z1
  rw [e2] at z2
  exact R.two j k s t a p1 o1 p2 o2 z1 z2
 ·obtain⟨h1,h2,h3,h4⟩:=R.kept p hp
  refine⟨h1,h2,h3,fun j e q=>?_⟩
  obtain⟨q1,e2⟩:=two j _ q rfl
  rw [e2]
  exact h4 j e q1
theorem Rel.owner(R:Rel K C M H n ρ σ){i:Nat}{s:Slot}(h:ρ[i]?=some s)(o:s.owns=true):∃a e,(σ[i]?).getD none=some (.ref a)/\M a/\¬C.V a/\Tops K M H a e/\¬C.M0 a/\C.H0 a=none:=by
 have q:=R.sl i s h
 cases s with
 | ow d=>obtain⟨a,e1,h1,h2,h3⟩:=q; exact⟨a,d,e1,h1,h2,h3,R.new i _ a h o e1⟩
 | lt a d=>obtain⟨e1,h1,h2,h3⟩:=q; exact⟨a,d,e1,h1,h2,h3,R.new i _ a h o e1⟩
 | _=>cases o
theorem Rel.setOw(R:Rel K C M H n ρ σ){i:Nat}{a:Addr}(e:Ext C.U H H')(f:FeedC K C.F M H' n')(ha:H a=none)(h:Tops K (fun b=>M b\/b=a) H' a d) :
  Rel K C (fun b=>M b\/b=a) H' n' (ρ.set i (.ow d)) (σ.set i (some (.ref a))):=by
 have R1:=R.step e f
 have ne:∀b,M b->b≠a:=fun b z q=>by
  obtain⟨o,w⟩:=R.dom b z
  rw [q,ha] at w; cases w
 have a0:¬C.M0 a/\C.H0 a=none:=⟨fun z=>ne a (R.sub a z) rfl,R.ext.free ha⟩
 have pr:Pres M H (fun b=>M b\/b=a) H':=⟨fun b o q nb=>e.keep q fun z=>nb (R.vM b (R.uV b z)),fun b z=>z.elim .inl fun z=>.inr (by rw [z]; exact ha),fun b vs q=>e.tup q⟩
 have two:∀(j:Nat) (s:Slot),(ρ.set i (.ow d))[j]?=some s->(j=i/\s=.ow d/\((σ.set i (some (.ref a)))[j]?).getD none=some (.ref a))\/(j≠i/\ρ[j]?=some s/\((σ.set i (some (.ref a)))[j]?).getD none=(σ[j]?).getD none):=fun j s q=>by
  rcases C7 q with ⟨rfl,hl,rfl⟩ | ⟨hj,q⟩
  ·exact .inl ⟨rfl,rfl,LS (by rw [← R.len]; exact hl)⟩
  ·exact .inr ⟨hj,q,Gb hj⟩
 have old:∀(j:Nat) (s:Slot) (b:Addr),ρ[j]?=some s->s.owns=true->(σ[j]?).getD none=some (.ref b)->b≠a:=fun j s b q o z=>by
  obtain⟨c,_,e1,m,_⟩:=R.owner q o
  rw [e1] at z
  cases z
  exact ne _ m
 have hd:∃o,H' a=some o:=by
  cases d with
  | lst ds=>obtain⟨vs,q,_⟩:=h; exact⟨_,q⟩
  | dic ks ds=>obtain⟨vs,q,_⟩:=h; exact⟨_,q⟩
  | dit ks ds=>obtain⟨vs,q,_⟩:=h; exact⟨_,q⟩
  | _=>exact(show False from h).elim
 refine⟨by rw [List.length_set,List.length_set]; exact R.len,fun b z=>.inl (R.sub b z),fun b z=>?_,R1.ext,R.fU,R.uV,fun b z=>.inl (R.vM b z),f.more a fun g hg q=>?_,fun j s q=>?_,fun q hq=>(R.pin q hq).trans pr,fun j e2 b q q2=>?_,fun j s b q o q2=>?_,fun j k s t b q1 o1 q2 o2 z1 z2=>?_,fun p hp=>?_⟩
 ·rcases z with z | z
  ·exact R1.dom b z
  ·rw [z]; exact hd
 ·obtain⟨_,_,_,_,_,h3,_⟩:=R.feed g hg
  have:=h3.2
  rw [q,ha] at this; cases this
 ·rcases two j s q with ⟨rfl,rfl,e1⟩ | ⟨hj,q1,e1⟩
  ·rw [e1]
   exact⟨a,rfl,.inr rfl,fun z=>ne a (R.vM a z) rfl,h⟩
  ·rw [e1]
   exact(R.sl j s q1).pres pr (fun _ z=>.inl z) e R.uV
 ·rcases two j _ q with ⟨_,e1,_⟩ | ⟨hj,q1,e1⟩
  ·cases e1
  ·rw [e1] at q2
   exact R.br0 j e2 b q1 q2
 ·rcases two j s q with ⟨_,_,e1⟩ | ⟨hj,q1,e1⟩
  ·rw [e1] at q2
   cases q2
   exact a0
  ·rw [e1] at q2
   exact R.new j s b q1 o q2
 ·rcases two j s q1 with ⟨rfl,_,e1⟩ | ⟨hj,p1,e1⟩
  ·rw [e1] at z1
   cases z1
   rcases two k t q2 with ⟨rfl,_,_⟩ | ⟨hk,p2,e2⟩
   ·rfl
   ·rw [e2] at z2
    exact absurd rfl (old k t a p2 o2 z2)
  ·rw [e1] at z1
   rcases two k t q2 with ⟨rfl,_,e2⟩ | ⟨hk,p2,e2⟩
   ·rw [e2] at z2
    cases z2
    exact absurd rfl (old j s a p1 o1 z1)
   ·rw [e2] at z2
    exact R.two j k s t b p1 o1 p2 o2 z1 z2
 ·obtain⟨h1,h2,h3,h4⟩:=R1.kept p hp
  refine⟨h1,.inl h2,h3,fun j e2 q=>?_⟩
  rcases two j _ q with ⟨_,_,e1⟩ | ⟨hj,q1,e1⟩
  ·rw [e1]
   intro z
   cases z
   exact ne _ h2 rfl
  ·rw [e1]
   exact h4 j e2 q1
theorem Rel.mut(R:Rel K C M H n ρ σ){i:Nat}{a:Addr}{e:D}{o:HO}(hi:ρ[i]?=some (.ow d))(ha:(σ[i]?).getD none=some (.ref a))(h:Tops K M (Aw H a o) a e) :
  Rel K C M (Aw H a o) n (ρ.set i (.ow e)) σ:=by
 obtain⟨b,_,e1,m,nv,t,n0,h0⟩:=R.owner hi rfl
 rw [ha] at e1
 cases e1
 have pr:Pres M H M (Aw H a o):=⟨fun b o' q nb=>by rw [AL (fun z=>nb (by rw [z]; exact m))]; exact q,fun _ z=>.inl z,fun b vs q=>by rw [AL (fun z=>t.notT (by rw [← z]; exact q))]; exact q⟩
 have old:∀(j:Nat) (s:Slot),(ρ.set i (.ow e))[j]?=some s->(j=i/\s=.ow e)\/(j≠i/\ρ[j]?=some s):=fun j s q=>by
  rcases C7 q with ⟨rfl,hl,rfl⟩ | ⟨hj,q⟩
  ·exact .inl ⟨rfl,rfl⟩
  ·exact .inr ⟨hj,q⟩
 have far:∀(j:Nat) (s:Slot) (b:Addr),j≠i->ρ[j]?=some s->s.owns=true->(σ[j]?).getD none=some (.ref b)->b≠a:=fun j s b hj q o z w=>by
  subst w
  exact hj (R.two j i s _ b q o hi rfl z ha)
 refine⟨by rw [List.length_set]; exact R.len,R.sub,fun b z=>?_,fun b o' q=>?_,R.fU,R.uV,R.vM,R.feed.pres pr fun f o' hf q=>?_,fun j s q=>?_,fun q hq=>(R.pin q hq).trans pr,fun j e2 b q q2=>?_,fun j s b q o2 q2=>?_,fun j k s t b q1 o1 q2 o2 z1 z2=>?_,fun p hp=>?_⟩
 ·by_cases hb:b=a
  ·exact⟨o,by rw [hb,AM]⟩
  ·obtain⟨o',q⟩:=R.dom b z
   exact⟨o',by rw [AL hb]; exact q⟩
 ·obtain⟨o2,q2,r⟩:=R.ext b o' q
  have hb:b≠a:=fun z=>by rw [z,h0] at q; cases q
  exact⟨o2,by rw [AL hb]; exact q2,r⟩
 ·have hb:f.1≠a:=fun z=>nv (by rw [← z]; exact R.uV _ (R.fU f hf))
  rw [AL hb]; exact q
 ·rcases old j s q with ⟨rfl,rfl⟩ | ⟨hj,q1⟩
  ·rw [ha]
   exact⟨a,rfl,m,nv,h⟩
  ·have q2:=R.sl j s q1
   cases s with
   | no=>trivial
   | sh d=>obtain⟨v,e1,h1⟩:=q2; exact⟨v,e1,h1.pres pr⟩
   | br d =>
    obtain⟨v,e1,h1⟩:=q2
    refine⟨v,e1,h1.same pr (fun b o' z q=>?_) fun _ _ z=>z⟩
    subst z
    obtain⟨o3,w⟩:=R.br0 j d b q1 e1
    rw [AL (fun z=>by rw [z,h0] at w; cases w)]
    exact q
   | fd=>exact q2
   | ow d =>
    obtain⟨b,e1,h1,h2,h3⟩:=q2
    exact⟨b,e1,h1,h2,h3.pres pr fun o' w=>by rw [AL (far j _ b hj q1 rfl e1)]; exact w⟩
   | lt b d =>
    obtain⟨e1,h1,h2,h3⟩:=q2
    exact⟨e1,h1,h2,h3.pres pr fun o' w=>by rw [AL (far j _ b hj q1 rfl e1)]; exact w⟩
 ·rcases old j _ q with ⟨_,e1⟩ | ⟨hj,q1⟩
  ·cases e1
  ·exact R.br0 j e2 b q1 q2
 ·rcases old j s q with ⟨rfl,_⟩ | ⟨hj,q1⟩
  ·exact R.new j _ b hi rfl q2
  ·exact R.new j s b q1 o2 q2
 ·rcases old j s q1 with ⟨rfl,rfl⟩ | ⟨hj,p1⟩
  ·rcases old k t q2 with ⟨rfl,_⟩ | ⟨hk,p2⟩
   ·rfl
   ·exact R.two j k _ t b hi rfl p2 o2 z1 z2
  ·rcases old k t q2 with ⟨rfl,rfl⟩ | ⟨hk,p2⟩
   ·exact R.two j k s _ b p1 o1 hi rfl z1 z2
   ·exact R.two j k s t b p1 o1 p2 o2 z1 z2
 ·obtain⟨h1,h2,h3,h4⟩:=R.kept p hp
  have hb:p.1≠a:=fun z=>h4 i d hi (by rw [ha,z])
  refine⟨by rw [AL hb]; exact h1,h2,h3,fun j e2 q=>?_⟩
  rcases old j _ q with ⟨rfl,_⟩ | ⟨hj,q1⟩
  ·exact h4 j d hi
  ·exact h4 j e2 q1
theorem Rel.lend(R:Rel K C M H n ρ σ){i:Nat}{a:Addr}{o:HO}(hi:ρ[i]?=some (.ow d))(ha:(σ[i]?).getD none=some (.ref a))(ho:H a=some o):Rel K { C with kp:=(a,o)::C.kp } M H n (ρ.set i (.lt a d)) σ:=by
 obtain⟨b,e1,m,nv,t⟩:=R.sl i _ hi
 rw [ha] at e1
 cases e1
 have old:∀(j:Nat) (s:Slot),(ρ.set i (.lt a d))[j]?=some s->(j=i/\s=.lt a d)\/(j≠i/\ρ[j]?=some s):=fun j s q=>by
  rcases C7 q with ⟨rfl,hl,rfl⟩ | ⟨hj,q⟩
  ·exact .inl ⟨rfl,rfl⟩
  ·exact .inr ⟨hj,q⟩
 refine⟨by rw [List.length_set]; exact R.len,R.sub,R.dom,R.ext,R.fU,R.uV,R.vM,R.feed,fun j s q=>?_,R.pin,fun j e2 b q q2=>?_,fun j s b q o2 q2=>?_,fun j k s t b q1 o1 q2 o2 z1 z2=>?_,fun p hp=>?_⟩
 ·rcases old j s q with ⟨rfl,rfl⟩ | ⟨hj,q1⟩
  ·exact⟨ha,m,nv,t⟩
  ·exact R.sl j s q1
 ·rcases old j _ q with ⟨_,e1⟩ | ⟨hj,q1⟩
  ·cases e1
  ·exact R.br0 j e2 b q1 q2
 ·rcases old j s q with ⟨rfl,_⟩ | ⟨hj,q1⟩
  ·exact R.new j _ b hi rfl q2
  ·exact R.new j s b q1 o2 q2
 ·rcases old j s q1 with ⟨rfl,rfl⟩ | ⟨hj,p1⟩
  ·rcases old k t q2 with ⟨rfl,_⟩ | ⟨hk,p2⟩
   ·rfl
   ·exact R.two j k _ t b hi rfl p2 o2 z1 z2
  ·rcases old k t q2 with ⟨rfl,rfl⟩ | ⟨hk,p2⟩
   ·exact R.two j k s _ b p1 o1 hi rfl z1 z2
   ·exact R.two j k s t b p1 o1 p2 o2 z1 z2
 ·rcases List.mem_cons.mp hp with rfl | hp
  ·refine⟨ho,m,nv,fun j e2 q z=>?_⟩
   rcases old j _ q with ⟨_,e1⟩ | ⟨hj,q1⟩
   ·cases e1
   ·exact hj (R.two j i _ _ a q1 rfl hi rfl z ha)
  ·obtain⟨h1,h2,h3,h4⟩:=R.kept p hp
   refine⟨h1,h2,h3,fun j e2 q=>?_⟩
   rcases old j _ q with ⟨_,e1⟩ | ⟨hj,q1⟩
   ·cases e1
   ·exact h4 j e2 q1
theorem Rel.unlend{a:Addr}{o:HO}(R:Rel K { C with kp:=(a,o)::C.kp } M H n ρ σ){i:Nat}(hi:ρ[i]?=some (.lt a d))(hk:∀p∈C.kp,p.1≠a):Rel K C M H n (ρ.set i (.ow d)) σ:=by
 obtain⟨ha,m,nv,t⟩:=R.sl i _ hi
 have old:∀(j:Nat) (s:Slot),(ρ.set i (.ow d))[j]?=some s->(j=i/\s=.ow d)\/(j≠i/\ρ[j]?=some s):=fun j s q=>by
  rcases C7 q with ⟨rfl,hl,rfl⟩ | ⟨hj,q⟩
  ·exact .inl ⟨rfl,rfl⟩
  ·exact .inr ⟨hj,q⟩
 refine⟨by rw [List.length_set]; exact R.len,R.sub,R.dom,R.ext,R.fU,R.uV,R.vM,R.feed,fun j s q=>?_,R.pin,fun j e2 b q q2=>?_,fun j s b q o2 q2=>?_,fun j k s t b q1 o1 q2 o2 z1 z2=>?_,fun p hp=>?_⟩
 ·rcases old j s q with ⟨rfl,rfl⟩ | ⟨hj,q1⟩
  ·exact⟨a,ha,m,nv,t⟩
  ·exact R.sl j s q1
 ·rcases old j _ q with ⟨_,e1⟩ | ⟨hj,q1⟩
  ·cases e1
  ·exact R.br0 j e2 b q1 q2
 ·rcases old j s q with ⟨rfl,_⟩ | ⟨hj,q1⟩
  ·exact R.new j _ b hi rfl q2
  ·exact R.new j s b q1 o2 q2
 ·rcases old j s q1 with ⟨rfl,rfl⟩ | ⟨hj,p1⟩
  ·rcases old k t q2 with ⟨rfl,_⟩ | ⟨hk,p2⟩
   ·rfl
   ·exact R.two j k _ t b hi rfl p2 o2 z1 z2
  ·rcases old k t q2 with ⟨rfl,rfl⟩ | ⟨hk,p2⟩
   ·exact R.two j k s _ b p1 o1 hi rfl z1 z2
   ·exact R.two j k s t b p1 o1 p2 o2 z1 z2
 ·obtain⟨h1,h2,h3,h4⟩:=R.kept p (List.mem_cons_of_mem _ hp)
  refine⟨h1,h2,h3,fun j e2 q=>?_⟩
  rcases old j _ q with ⟨rfl,_⟩ | ⟨hj,q1⟩
  ·rw [ha]
   intro z
   cases z
   exact hk p hp rfl
  ·exact h4 j e2 q1
end
noncomputable abbrev DW:=Nat->List Slot->(D->Nat->Prop)->Prop
noncomputable abbrev FN:=Nat->List Slot->(Bool->Nat->Prop)->Prop
noncomputable abbrev Dw:=Nat->List Slot->(List D->Nat->Prop)->Prop
noncomputable abbrev Qa:=Nat->List Slot->(List Slot->Nat->Prop)->Prop
section
variable (X:Cx)
noncomputable def DE(e:Expr)(κ:Kd)(w:DW):Prop:=∃t,PE X e t/\∀(C:Fm) (M:Addr->Prop) (H:Hp) (n:Nat) (ρ:List Slot) (σ:L2.St) (P:D->Nat->Prop) (Q:VK),Rel X.K C M H n ρ σ->w n ρ P ->
 (∀v H' d n',Ext C.U H H'->FeedC X.K C.F M H' n'->VR X.K C.V M H H' κ v d->P d n'->Q v H')->t σ H Q
noncomputable def DT(e:Expr)(w:FN):Prop:=∃t,PT X e t/\∀(C:Fm) (M:Addr->Prop) (H:Hp) (n:Nat) (ρ:List Slot) (σ:L2.St) (P:Bool->Nat->Prop) (Q:Bool->Hp->Prop),Rel X.K C M H n ρ σ->w n ρ P ->
 (∀b H' n',Ext C.U H H'->FeedC X.K C.F M H' n'->P b n'->Q b H')->t σ H Q
noncomputable def DTW(e:Expr)(w:FN):Prop:=∃t,PW X e t/\∀(C:Fm) (M:Addr->Prop) (H:Hp) (n:Nat) (ρ:List Slot) (σ:L2.St) (P:Bool->Nat->Prop) (Q:Bool->Hp->Prop),Rel X.K C M H n ρ σ->w n ρ P ->
 (∀b H' n',Ext C.U H H'->FeedC X.K C.F M H' n'->P b n'->Q b H')->t σ H Q
noncomputable def Qb(es:List Expr)(w:Dw):Prop:=∃t,PA X es t/\∀(C:Fm) (M:Addr->Prop) (H:Hp) (n:Nat) (ρ:List Slot) (σ:L2.St) (P:List D->Nat->Prop) (Q:List V->Hp->Prop),Rel X.K C M H n ρ σ->w n ρ P ->
 (∀vs H' ds n',Ext C.U H H'->FeedC X.K C.F M H' n'->Paired (fun v d=>AtT X.K C.V M H' d v) vs ds->P ds n'->Q vs H')->t σ H Q
noncomputable def Qk(es:List Expr)(w:Dw):Prop:=∃t,PA X es t/\∀(C:Fm) (M:Addr->Prop) (H:Hp) (n:Nat) (ρ:List Slot) (σ:L2.St) (P:List D->Nat->Prop) (Q:List V->Hp->Prop),Rel X.K C M H n ρ σ->w n ρ P ->
 (∀vs H' ds n',Ext C.U H H'->FeedC X.K C.F M H' n'->Ats X.K M H' ds vs->P ds n'->Q vs H')->t σ H Q
noncomputable def GT(K:Frag)(F:Option (Addr×Addr))(V' M:Addr->Prop)(H:Hp)(v:V)(s:Slot):Prop:=SlotOk K F V' M H s (some v)/\s.owns=false
noncomputable def SG(e:Expr)(w:Nat->List Slot->(Slot->Nat->Prop)->Prop):Prop:=∃t,PE X e t/\∀(C:Fm) (M:Addr->Prop) (H:Hp) (n:Nat) (ρ:List Slot) (σ:L2.St) (P:Slot->Nat->Prop) (Q:VK),Rel X.K C M H n ρ σ->w n ρ P ->
 (∀v H' s n',Ext C.U H H'->FeedC X.K C.F M H' n'->GT X.K C.F C.V M H' v s->P s n'->Q v H')->t σ H Q
noncomputable def Ru(es:List Expr)(w:Qa):Prop:=∃t,PA X es t/\∀(C:Fm) (M:Addr->Prop) (H:Hp) (n:Nat) (ρ:List Slot) (σ:L2.St) (P:List Slot->Nat->Prop) (Q:List V->Hp->Prop),Rel X.K C M H n ρ σ->w n ρ P ->
 (∀vs H' ss n',Ext C.U H H'->FeedC X.K C.F M H' n'->Paired (GT X.K C.F C.V M H') vs ss->P ss n'->Q vs H')->t σ H Q
end
noncomputable def AK(i:Nat):DW:=fun n ρ P=>match ρ[i]? with
 | some (.sh d)=>P d n
 | _=>False
noncomputable def Aq(i:Nat):DW:=fun n ρ P=>match ρ[i]? with
 | some (.sh d)=>P d n
 | some (.br d)=>P d n
 | some (.ow d)=>P d n
 | some (.lt _ d)=>P d n
 | _=>False
noncomputable def wC(d:D):DW:=fun n _ P=>P d n
section
variable {X:Cx}{a b c e:Expr}{κ κa κb:Kd}{wa wb wc:DW}{pos:Pos}
theorem getD_some{σ:L2.St}{i:Nat}{v:V}(h:(σ[i]?).getD none=some v):σ[i]?=some (some v):=by
 cases q:σ[i]? with
 | none=>rw [q] at h; cases h
 | some o=>rw [q] at h; exact congrArg some h
theorem OO{i:Nat}(h:PE X e (BG i)):DE X e .sh (AK i):=by
 refine⟨_,h,fun C M H n ρ σ P Q R w q=>?_⟩
 unfold AK at w
 split at w
 ·rename_i d hd
  obtain⟨v,e1,h1⟩:=R.sl i _ hd
  exact⟨v,getD_some e1,q v H d n (Ext.refl _ _) R.feed h1 w⟩
 ·exact w.elim
theorem Mt{i:Nat}(h:PE X e (BG i)):DE X e .tp (Aq i):=by
 refine⟨_,h,fun C M H n ρ σ P Q R w q=>?_⟩
 unfold Aq at w
 split at w
 ·rename_i d hd
  obtain⟨v,e1,h1⟩:=R.sl i _ hd
  exact⟨v,getD_some e1,q v H d n (Ext.refl _ _) R.feed (At.tp R.vM h1) w⟩
 ·rename_i d hd
  obtain⟨v,e1,h1⟩:=R.sl i _ hd
  exact⟨v,getD_some e1,q v H d n (Ext.refl _ _) R.feed h1 w⟩
 ·rename_i d hd
  obtain⟨a,e1,_,h2,h3⟩:=R.sl i _ hd
  exact⟨.ref a,getD_some e1,q _ H d n (Ext.refl _ _) R.feed (h3.att h2) w⟩
 ·rename_i a d hd
  obtain⟨e1,_,h2,h3⟩:=R.sl i _ hd
  exact⟨.ref a,getD_some e1,q _ H d n (Ext.refl _ _) R.feed (h3.att h2) w⟩
 ·exact w.elim
theorem dv(i:Nat){x:Str}{pos:Pos}(hN:autoParam (X.N[i]?=some x) zau3._auto_1)(hv:autoParam (Qh X.env.scope x) zau5._auto_1)(hd:autoParam ((x==("__debug__" : Str))=false) zau1._auto_1)
  (hcd:autoParam ((x==("__classdict__" : Str))=false) zau1._auto_1):DE X (.Name x pos) .sh (AK i):=OO (Gm hN hv hd hcd)
theorem EN(i:Nat){x:Str}{pos:Pos}(hN:autoParam (X.N[i]?=some x) zau3._auto_1)(hv:autoParam (Qh X.env.scope x) zau5._auto_1)(hd:autoParam ((x==("__debug__" : Str))=false) zau1._auto_1)
  (hcd:autoParam ((x==("__classdict__" : Str))=false) zau1._auto_1):DE X (.Name x pos) .tp (Aq i):=Mt (Gm hN hv hd hcd)
theorem Cd{d:D}{v:V}(h:PE X e (tC v))(hd:∀M H,At X.K M H d v):DE X e .sh (wC d) :=
 ⟨_,h,fun C M H n ρ σ P Q R w q=>q v H d n (Ext.refl _ _) R.feed (hd M H) w⟩
theorem AE{i:Int}{j pos}:DE X (.Constant (.int i) j pos) .sh (wC (.int i)):=Cd Aa fun _ _=>rfl
theorem FE{b:Bool}{j pos}:DE X (.Constant (.bool b) j pos) .sh (wC (.bl b)):=Cd RF fun _ _=>rfl
theorem JR{j pos}:DE X (.Constant .none j pos) .sh (wC .non):=Cd Pq fun _ _=>rfl
theorem AQ{x:Str}{j pos}(hx:autoParam (decide (x.length<=1000)=true) zau3._auto_1):DE X (.Constant (.str x) j pos) .sh (wC (.str x)) :=
 Cd Pn fun _ _=>⟨rfl,Nat.le_trans (of_decide_eq_true hx) (by rw [sizeLine_eq]; decide)⟩
theorem Dl{x:Str}{i:Int}{t:Tok}{pos:Pos}(hg:Gl X x)(hm:X.mg x=some (.int i t))(hd:autoParam ((x==("__debug__" : Str))=false) zau1._auto_1):DE X (.Name x pos) .sh (wC (.int i)) :=
 Cd (Nm hg hm (v:=.int i) ⟨t,rfl⟩ hd) fun _ _=>rfl
noncomputable def Co(K:Frag)(κ:Kd)(r:R2)(f:D->D->(D->Prop)->Prop):Prop:=∀(U:Addr->Prop) (M:Addr->Prop) (H:Hp) (d e:D) (x y:V) (P:D->Prop) (Q:VK),(∀a,M a->∃o,H a=some o)->(∀a,U a->M a) ->
 AtT K U M H d x->AtT K U M H e y->f d e P->(∀v H' z,Grow H H'->VR K U M H H' κ v z->P z->Q v H')->r x y H Q
noncomputable def Av(f:D->D->(D->Prop)->Prop)(wa wb:DW):DW:=fun n ρ P=>wa n ρ fun x n1=>wb n1 ρ fun y n2=>f x y fun z=>P z n2
theorem Cf{r:R2}{f:D->D->(D->Prop)->Prop}(hA:Co X.K κ r f){ta tb:TE}(ha:∀(C:Fm) (M:Addr->Prop) (H:Hp) (n:Nat) (ρ:List Slot) (σ:L2.St) (P:D->Nat->Prop) (Q:VK),Rel X.K C M H n ρ σ->wa n ρ P ->
   (∀v H' d n',Ext C.U H H'->FeedC X.K C.F M H' n'->VR X.K C.V M H H' κa v d->P d n'->Q v H')->ta σ H Q)
  (hb:∀(C:Fm) (M:Addr->Prop) (H:Hp) (n:Nat) (ρ:List Slot) (σ:L2.St) (P:D->Nat->Prop) (Q:VK),Rel X.K C M H n ρ σ->wb n ρ P ->
   (∀v H' d n',Ext C.U H H'->FeedC X.K C.F M H' n'->VR X.K C.V M H H' κb v d->P d n'->Q v H')->tb σ H Q)
  (C:Fm) (M:Addr->Prop) (H:Hp) (n:Nat) (ρ:List Slot) (σ:L2.St) (P:D->Nat->Prop) (Q:VK) (R:Rel X.K C M H n ρ σ) (w:Av f wa wb n ρ P)
  (q:∀v H' d n',Ext C.U H H'->FeedC X.K C.F M H' n'->VR X.K C.V M H H' κ v d->P d n'->Q v H'):CI r ta tb σ H Q:=by
 refine ha C M H n ρ σ _ _ R w fun x H1 d n1 e1 f1 r1 w1=>?_
 have R1:=R.step e1 f1
 refine hb C M H1 n1 ρ σ _ _ R1 w1 fun y H2 e n2 e2 f2 r2 w2=>?_
 have R2':=R1.step e2 f2
 refine hA C.V M H2 d e x y _ _ R2'.dom R2'.vM ((r1.tpOf R.dom R.vM).pres (R1.pres e2) e2 R.uV) (r2.tpOf R1.dom R1.vM) w2 fun v H3 z g vr p=>?_
 exact q v H3 z n2 ((e1.trans e2).trans g.ext) (f2.grow g) (VR.back (e1.trans e2) vr) p
theorem A4{op:Operator}{r:R2}{f:D->D->(D->Prop)->Prop}(ho:OpR X (binaryOp op) r)(hA:Co X.K κ r f)(ha:DE X a κa wa)(hb:DE X b κb wb):DE X (.BinOp a op b pos) κ (Av f wa wb):=by
 obtain⟨ta,ha1,ha2⟩:=ha
 obtain⟨tb,hb1,hb2⟩:=hb
 exact⟨_,BD ho ha1 hb1,fun C M H n ρ σ P Q R w q=>Cf hA ha2 hb2 C M H n ρ σ P Q R w q⟩
theorem A3{r:R2}{f:D->D->(D->Prop)->Prop}(ho:IxR X r)(hA:Co X.K κ r f)(ha:DE X a κa wa)(hb:DE X b κb wb)(hs:autoParam (KR b) zau6._auto_1):DE X (.Subscript a b pos) κ (Av f wa wb):=by
 obtain⟨ta,ha1,ha2⟩:=ha
 obtain⟨tb,hb1,hb2⟩:=hb
 exact⟨_,Cy ho ha1 hb1 hs,fun C M H n ρ σ P Q R w q=>Cf hA ha2 hb2 C M H n ρ σ P Q R w q⟩
theorem Mw{op:CmpOp}{r:R2}{f:D->D->(D->Prop)->Prop}(ho:OpR X (compareOp op) r)(hA:Co X.K .sh r f)(ha:DE X a κa wa)(hb:DE X b κb wb)(hm:behindInMarks op b=false):DE X (.Compare a [op] [b] pos) .sh (Av f wa wb):=by
 obtain⟨ta,ha1,ha2⟩:=ha
 obtain⟨tb,hb1,hb2⟩:=hb
 exact⟨_,Nq ho ha1 hb1 hm,fun C M H n ρ σ P Q R w q=>Cf hA ha2 hb2 C M H n ρ σ P Q R w q⟩
noncomputable def Af(w:DW):FN:=fun n ρ P=>w n ρ fun d n1=>match d with
 | .bl b=>P b n1
 | _=>False
theorem DN{U:Addr->Prop}{K:Frag}{M:Addr->Prop}{H H':Hp}{v:V}{b:Bool}(h:VR K U M H H' κ v (.bl b)):v=.bl b:=by
 cases κ with
 | sh=>exact h
 | tp=>exact h
 | fr=>obtain⟨a,_,_,t⟩:=h; exact(show False from t).elim
theorem Ae{op:CmpOp}{r:R2}{f:D->D->(D->Prop)->Prop}(ho:OpR X (compareOp op) r)(hA:Co X.K .sh r f)(ha:DE X a κa wa)(hb:DE X b κb wb)(hm:behindInMarks op b=false):DT X (.Compare a [op] [b] pos) (Af (Av f wa wb)):=by
 obtain⟨ta,ha1,ha2⟩:=ha
 obtain⟨tb,hb1,hb2⟩:=hb
 refine⟨_,DQ ho ha1 hb1 hm,fun C M H n ρ σ P Q R w q=>?_⟩
 refine Cf hA ha2 hb2 C M H n ρ σ _ _ R w fun v H' d n' e f r p=>?_
 cases d with
 | bl b=>exact⟨b,DN r,q b H' n' e f p⟩
 | _=>exact p.elim
theorem G6(h:DE X e κ wa)(he:autoParam (∀whole,isTrue e X.env whole=(do let v ← whole; standAt e.pos; holding [v] (truthy v))) zau2._auto_1):DT X e (Af wa):=by
 obtain⟨t,h1,h2⟩:=h
 refine⟨_,Pi h1 he,fun C M H n ρ σ P Q R w q=>?_⟩
 refine h2 C M H n ρ σ _ _ R w fun v H' d n' e f r p=>?_
 cases d with
 | bl b=>exact⟨b,DN r,q b H' n' e f p⟩
 | _=>exact p.elim
noncomputable def Dy(f g:D->D->(D->Prop)->Prop)(wa wb wc:DW):DW:=fun n ρ P=>wa n ρ fun x n1=>wb n1 ρ fun y n2=>f x y fun z=>match z with
 | .bl true=>wc n2 ρ fun u n3=>g y u fun r=>P r n3
 | .bl false=>P (.bl false) n2
 | _=>False
theorem IQ{r r':R2}{f g:D->D->(D->Prop)->Prop}(hA:Co X.K .sh r f)(hB:Co X.K .sh r' g){ta tb tc:TE}{κc:Kd}(ha:∀(C:Fm) (M:Addr->Prop) (H:Hp) (n:Nat) (ρ:List Slot) (σ:L2.St) (P:D->Nat->Prop) (Q:VK),Rel X.K C M H n ρ σ->wa n ρ P ->
   (∀v H' d n',Ext C.U H H'->FeedC X.K C.F M H' n'->VR X.K C.V M H H' κa v d->P d n'->Q v H')->ta σ H Q)
  (hb:∀(C:Fm) (M:Addr->Prop) (H:Hp) (n:Nat) (ρ:List Slot) (σ:L2.St) (P:D->Nat->Prop) (Q:VK),Rel X.K C M H n ρ σ->wb n ρ P ->
   (∀v H' d n',Ext C.U H H'->FeedC X.K C.F M H' n'->VR X.K C.V M H H' κb v d->P d n'->Q v H')->tb σ H Q)
  (hc:∀(C:Fm) (M:Addr->Prop) (H:Hp) (n:Nat) (ρ:List Slot) (σ:L2.St) (P:D->Nat->Prop) (Q:VK),Rel X.K C M H n ρ σ->wc n ρ P ->
   (∀v H' d n',Ext C.U H H'->FeedC X.K C.F M H' n'->VR X.K C.V M H H' κc v d->P d n'->Q v H')->tc σ H Q)
  (C:Fm) (M:Addr->Prop) (H:Hp) (n:Nat) (ρ:List Slot) (σ:L2.St) (P:D->Nat->Prop) (Q:VK) (R:Rel X.K C M H n ρ σ) (w:Dy f g wa wb wc n ρ P)
  (q:∀v H' d n',Ext C.U H H'->FeedC X.K C.F M H' n'->VR X.K C.V M H H' .sh v d->P d n'->Q v H'):Ij r r' ta tb tc σ H Q:=by
 refine ha C M H n ρ σ _ _ R w fun x H1 d n1 e1 f1 r1 w1=>?_
 have R1:=R.step e1 f1
 refine hb C M H1 n1 ρ σ _ _ R1 w1 fun y H2 e n2 e2 f2 r2 w2=>?_
 have R2':=R1.step e2 f2
 have ty:AtT X.K C.V M H2 e y:=r2.tpOf R1.dom R1.vM
 refine hA C.V M H2 d e x y _ _ R2'.dom R2'.vM ((r1.tpOf R.dom R.vM).pres (R1.pres e2) e2 R.uV) ty w2 fun v H3 z gr vr p=>?_
 have R3:=R2'.step gr.ext (f2.grow gr)
 cases z with
 | bl k =>
  refine⟨k,vr,?_⟩
  cases k with
  | false=>exact q _ H3 (.bl false) n2 ((e1.trans e2).trans gr.ext) (f2.grow gr) (show VR X.K C.V M H H3 .sh (.bl false) (.bl false) from rfl) p
  | true =>
   show tc σ H3 _
   refine hc C M H3 n2 ρ σ _ _ R3 p fun u H4 d4 n4 e4 f4 r4 w4=>?_
   have R4:=R3.step e4 f4
   refine hB C.V M H4 e d4 y u _ _ R4.dom R4.vM ((ty.pres gr.pres (gr.ext (U:=C.U)) R.uV).pres (R3.pres e4) e4 R.uV) (r4.tpOf R3.dom R3.vM) w4 fun v5 H5 z5 g5 vr5 p5=>?_
   exact q v5 H5 z5 n4 ((((e1.trans e2).trans gr.ext).trans e4).trans g5.ext) (f4.grow g5) vr5 p5
 | _=>exact p.elim
theorem IP{op op':CmpOp}{r r':R2}{f g:D->D->(D->Prop)->Prop}{κc:Kd}(ho:OpR X (compareOp op) r)(hA:Co X.K .sh r f)(ho':OpR X (compareOp op') r')(hB:Co X.K .sh r' g)(ha:DE X a κa wa)(hb:DE X b κb wb)(hc:DE X c κc wc)
  (hm:autoParam (lastMarks [op,op'] [b,c]=false) zau4._auto_1):DE X (.Compare a [op,op'] [b,c] pos) .sh (Dy f g wa wb wc):=by
 obtain⟨ta,ha1,ha2⟩:=ha
 obtain⟨tb,hb1,hb2⟩:=hb
 obtain⟨tc,hc1,hc2⟩:=hc
 exact⟨_,Lu ho ho' ha1 hb1 hc1 hm,fun C M H n ρ σ P Q R w q=>IQ hA hB ha2 hb2 hc2 C M H n ρ σ P Q R w q⟩
theorem Mi{op op':CmpOp}{r r':R2}{f g:D->D->(D->Prop)->Prop}{κc:Kd}(ho:OpR X (compareOp op) r)(hA:Co X.K .sh r f)(ho':OpR X (compareOp op') r')(hB:Co X.K .sh r' g)(ha:DE X a κa wa)(hb:DE X b κb wb)(hc:DE X c κc wc)
  (hm:autoParam (lastMarks [op,op'] [b,c]=false) zau4._auto_1):DT X (.Compare a [op,op'] [b,c] pos) (Af (Dy f g wa wb wc)):=by
 obtain⟨ta,ha1,ha2⟩:=ha
 obtain⟨tb,hb1,hb2⟩:=hb
 obtain⟨tc,hc1,hc2⟩:=hc
 refine⟨_,Lm ho ho' ha1 hb1 hc1 hm,fun C M H n ρ σ P Q R w q=>?_⟩
 refine IQ hA hB ha2 hb2 hc2 C M H n ρ σ _ _ R w fun v H' d n' e f r p=>?_
 cases d with
 | bl b=>exact⟨b,r,q b H' n' e f p⟩
 | _=>exact p.elim
noncomputable def Oi(u v:FN):FN:=fun n ρ P=>u n ρ fun c n1=>if c=true then v n1 ρ P else P false n1
noncomputable def EU(u v:FN):FN:=fun n ρ P=>u n ρ fun c n1=>if c=true then P true n1 else v n1 ρ P
noncomputable def Ff(u:FN):FN:=fun n ρ P=>u n ρ fun c n1=>P (!c) n1
variable {wA wB:FN}{rest:List Expr}
theorem OE(h:DT X a wA):DTW X (.BoolOp .And [a] pos) wA:=by
 obtain⟨t,h1,h2⟩:=h
 exact⟨t,Jl h1,h2⟩
theorem CD(h:DT X a wA):DTW X (.BoolOp .Or [a] pos) wA:=by
 obtain⟨t,h1,h2⟩:=h
 exact⟨t,Ph h1,h2⟩
theorem QF(ha:DT X a wA)(hb:DTW X (.BoolOp .And (b::rest) pos) wB):DTW X (.BoolOp .And (a::b::rest) pos) (Oi wA wB):=by
 obtain⟨t,h1,h2⟩:=ha
 obtain⟨u,g1,g2⟩:=hb
 refine⟨_,Lj h1 g1,fun C M H n ρ σ P Q R w q=>?_⟩
 refine h2 C M H n ρ σ _ _ R w fun c H1 n1 e1 f1 p=>?_
 cases c with
 | false=>exact q false H1 n1 e1 f1 p
 | true=>exact g2 C M H1 n1 ρ σ P Q (R.step e1 f1) p fun b H2 n2 e2 f2 p2=>q b H2 n2 (e1.trans e2) f2 p2
theorem Cb(ha:DT X a wA)(hb:DTW X (.BoolOp .Or (b::rest) pos) wB):DTW X (.BoolOp .Or (a::b::rest) pos) (EU wA wB):=by
 obtain⟨t,h1,h2⟩:=ha
 obtain⟨u,g1,g2⟩:=hb
 refine⟨_,RC h1 g1,fun C M H n ρ σ P Q R w q=>?_⟩
 refine h2 C M H n ρ σ _ _ R w fun c H1 n1 e1 f1 p=>?_
 cases c with
 | true=>exact q true H1 n1 e1 f1 p
 | false=>exact g2 C M H1 n1 ρ σ P Q (R.step e1 f1) p fun b H2 n2 e2 f2 p2=>q b H2 n2 (e1.trans e2) f2 p2
theorem DTW.dt(h:DTW X e wA):DT X e wA:=by
 obtain⟨t,h1,h2⟩:=h
 exact⟨t,h1.pt,h2⟩
theorem FD(ha:DT X a wA):DT X (.UnaryOp .Not a pos) (Ff wA):=by
 obtain⟨t,h1,h2⟩:=ha
 refine⟨_,Pj h1,fun C M H n ρ σ P Q R w q=>?_⟩
 exact h2 C M H n ρ σ _ _ R w fun c H1 n1 e1 f1 p=>q (!c) H1 n1 e1 f1 p
noncomputable def NN(u v:DW):DW:=fun n ρ P=>u n ρ fun c n1=>match c with
 | .bl true=>v n1 ρ P
 | .bl false=>P (.bl false) n1
 | _=>False
noncomputable def Sl(u v:DW):DW:=fun n ρ P=>u n ρ fun c n1=>match c with
 | .bl true=>P (.bl true) n1
 | .bl false=>v n1 ρ P
 | _=>False
noncomputable def Ql(u:DW):DW:=fun n ρ P=>u n ρ fun c n1=>match c with
 | .bl b=>P (.bl (!b)) n1
 | _=>False
theorem G9{op}(h:DE X a κ wa):DE X (.BoolOp op [a] pos) κ wa:=by
 obtain⟨t,h1,h2⟩:=h
 exact⟨t,Po h1,h2⟩
theorem JQ(ha:DE X a κa wa)(hb:DE X (.BoolOp .And (b::rest) pos) .sh wb):DE X (.BoolOp .And (a::b::rest) pos) .sh (NN wa wb):=by
 obtain⟨t,h1,h2⟩:=ha
 obtain⟨u,g1,g2⟩:=hb
 refine⟨_,Pt h1 g1,fun C M H n ρ σ P Q R w q=>?_⟩
 refine h2 C M H n ρ σ _ _ R w fun c H1 d n1 e1 f1 r1 p=>?_
 cases d with
 | bl k =>
  refine⟨k,DN r1,?_⟩
  cases k with
  | false=>exact q _ H1 _ n1 e1 f1 (show VR X.K C.V M H H1 .sh (.bl false) (.bl false) from rfl) p
  | true =>
   show u σ H1 Q
   exact g2 C M H1 n1 ρ σ P Q (R.step e1 f1) p fun v H2 d n2 e2 f2 r2 p2=>q v H2 d n2 (e1.trans e2) f2 r2 p2
 | _=>exact p.elim
theorem Rc(ha:DE X a κa wa)(hb:DE X (.BoolOp .Or (b::rest) pos) .sh wb):DE X (.BoolOp .Or (a::b::rest) pos) .sh (Sl wa wb):=by
 obtain⟨t,h1,h2⟩:=ha
 obtain⟨u,g1,g2⟩:=hb
 refine⟨_,RE h1 g1,fun C M H n ρ σ P Q R w q=>?_⟩
 refine h2 C M H n ρ σ _ _ R w fun c H1 d n1 e1 f1 r1 p=>?_
 cases d with
 | bl k =>
  refine⟨k,DN r1,?_⟩
  cases k with
  | true=>exact q _ H1 _ n1 e1 f1 (show VR X.K C.V M H H1 .sh (.bl true) (.bl true) from rfl) p
  | false =>
   show u σ H1 Q
   exact g2 C M H1 n1 ρ σ P Q (R.step e1 f1) p fun v H2 d n2 e2 f2 r2 p2=>q v H2 d n2 (e1.trans e2) f2 r2 p2
 | _=>exact p.elim
theorem QI(ha:DE X a κa wa):DE X (.UnaryOp .Not a pos) .sh (Ql wa):=by
 obtain⟨t,h1,h2⟩:=ha
 refine⟨_,Pp h1,fun C M H n ρ σ P Q R w q=>?_⟩
 refine h2 C M H n ρ σ _ _ R w fun c H1 d n1 e1 f1 r1 p=>?_
 cases d with
 | bl k=>exact⟨k,DN r1,q _ H1 _ n1 e1 f1 (show VR X.K C.V M H H1 .sh (.bl (!k)) (.bl (!k)) from rfl) p⟩
 | _=>exact p.elim
noncomputable def Qm(t:FN)(u v:DW):DW:=fun n ρ P=>t n ρ fun c n1=>if c=true then u n1 ρ P else v n1 ρ P
theorem Mu(hc:DT X c wA)(ha:DE X a κ wa)(hb:DE X b κ wb):DE X (.IfExp c a b pos) κ (Qm wA wa wb):=by
 obtain⟨t,h1,h2⟩:=hc
 obtain⟨u,g1,g2⟩:=ha
 obtain⟨u',k1,k2⟩:=hb
 refine⟨_,Hj h1 g1 k1,fun C M H n ρ σ P Q R w q=>?_⟩
 refine h2 C M H n ρ σ _ _ R w fun c H1 n1 e1 f1 p=>?_
 cases c with
 | true=>exact g2 C M H1 n1 ρ σ P Q (R.step e1 f1) p fun v H2 d n2 e2 f2 r2 p2=>q v H2 d n2 (e1.trans e2) f2 (VR.back e1 r2) p2
 | false=>exact k2 C M H1 n1 ρ σ P Q (R.step e1 f1) p fun v H2 d n2 e2 f2 r2 p2=>q v H2 d n2 (e1.trans e2) f2 (VR.back e1 r2) p2
noncomputable def AU:Dw:=fun n _ P=>P [] n
noncomputable def AD(w:DW)(ws:Dw):Dw:=fun n ρ P=>w n ρ fun d n1=>ws n1 ρ fun ds n2=>P (d::ds) n2
variable {es:List Expr}{ws:Dw}
theorem AJ:Qb X [] AU:=⟨_,CA,fun C M H n ρ σ P Q R w q=>q [] H [] n (Ext.refl _ _) R.feed .nil w⟩
theorem Ac:Qk X [] AU:=⟨_,CA,fun C M H n ρ σ P Q R w q=>q [] H [] n (Ext.refl _ _) R.feed rfl w⟩
theorem AF(ha:DE X e κ wa)(hr:Qb X es ws)(hs:autoParam (starEach (e::es) X.env=(false,eval e X.env)::starEach es X.env) zau3._auto_1):Qb X (e::es) (AD wa ws):=by
 obtain⟨t,h1,h2⟩:=ha
 obtain⟨u,g1,g2⟩:=hr
 refine⟨_,BM h1 g1 hs,fun C M H n ρ σ P Q R w q=>?_⟩
 refine h2 C M H n ρ σ _ _ R w fun v H1 d n1 e1 f1 r1 p=>?_
 have R1:=R.step e1 f1
 refine g2 C M H1 n1 ρ σ _ _ R1 p fun vs H2 ds n2 e2 f2 r2 p2=>?_
 exact q (v::vs) H2 (d::ds) n2 (e1.trans e2) f2 (.cons ((r1.tpOf R.dom R.vM).pres (R1.pres e2) e2 R.uV) r2) p2
theorem AB(ha:DE X e κ wa)(hr:Qk X es ws)(hk:autoParam (κ≠.tp) zau7._auto_1)(hs:autoParam (starEach (e::es) X.env=(false,eval e X.env)::starEach es X.env) zau3._auto_1):Qk X (e::es) (AD wa ws):=by
 obtain⟨t,h1,h2⟩:=ha
 obtain⟨u,g1,g2⟩:=hr
 refine⟨_,BM h1 g1 hs,fun C M H n ρ σ P Q R w q=>?_⟩
 refine h2 C M H n ρ σ _ _ R w fun v H1 d n1 e1 f1 r1 p=>?_
 have R1:=R.step e1 f1
 refine g2 C M H1 n1 ρ σ _ _ R1 p fun vs H2 ds n2 e2 f2 r2 p2=>?_
 exact q (v::vs) H2 (d::ds) n2 (e1.trans e2) f2 ⟨v,vs,rfl,(r1.shOf R.dom hk).pres (R1.pres e2),r2⟩ p2
noncomputable def Eg(ws:Dw):DW:=fun n ρ P=>ws n ρ fun ds n1=>ds.length<=sizeLine/\P (.tup ds) n1
noncomputable def GV(ws:Dw):DW:=fun n ρ P=>ws n ρ fun ds n1=>ds.length<=sizeLine/\P (.lst ds) n1
theorem E_{M:Addr->Prop}{H:Hp}{p:Addr}{o:HO}(h:H p=none):Pres M H (fun b=>M b\/b=p) (Aw H p o):=⟨fun b u e _=>by rw [AL (Ax e h)]; exact e,fun b z=>z.elim .inl fun z=>.inr (by rw [z]; exact h),fun b vs e=>by rw [AL (Ax e h)]; exact e⟩
theorem Ag{H:Hp}{p:Addr}{o:HO}(h:H p=none):Grow H (Aw H p o):=.inr ⟨p,o,h,rfl⟩
theorem CF{x1}(h:Qk X es ws):DE X (.Tuple es x1 pos) .sh (Eg ws):=by
 obtain⟨t,h1,h2⟩:=h
 refine⟨_,Pm h1,fun C M H n ρ σ P Q R w q=>?_⟩
 refine h2 C M H n ρ σ _ _ R w fun vs H1 ds n1 e1 f1 r1 p=>?_
 refine⟨by rw [r1.length]; exact p.1,fun a ha=>?_⟩
 have g:Grow H1 (Aw H1 a (.tup vs)):=Ag ha
 refine q _ _ (.tup ds) n1 (e1.trans g.ext) (f1.grow g) ⟨a,vs,rfl,AM,r1.pres g.pres⟩ p.2
theorem Cc(h:Qk X es ws):DE X (.List es pos) .fr (GV ws):=by
 obtain⟨t,h1,h2⟩:=h
 refine⟨_,Iz h1,fun C M H n ρ σ P Q R w q=>?_⟩
 refine h2 C M H n ρ σ _ _ R w fun vs H1 ds n1 e1 f1 r1 p=>?_
 refine⟨by rw [r1.length]; exact p.1,fun a ha=>?_⟩
 have g:Grow H1 (Aw H1 a (.lst vs)):=Ag ha
 exact q _ _ (.lst ds) n1 (e1.trans g.ext) (f1.grow g) (VR.back e1 ⟨a,rfl,ha,vs,AM,r1.pres (E_ ha)⟩) p.2
noncomputable def B_(K:Frag)(κ:Kd)(r:List V->Hp->VK->Prop)(f:List D->(D->Prop)->Prop):Prop:=∀(U:Addr->Prop) (M:Addr->Prop) (H:Hp) (ds:List D) (vs:List V) (P:D->Prop) (Q:VK),(∀a,M a->∃o,H a=some o)->(∀a,U a->M a) ->
 Paired (fun v d=>AtT K U M H d v) vs ds->f ds P->(∀v H' z,Grow H H'->VR K U M H H' κ v z->P z->Q v H')->r vs H Q
noncomputable def CH(f:List D->(D->Prop)->Prop)(ws:Dw):DW:=fun n ρ P=>ws n ρ fun ds n1=>f ds fun z=>P z n1
theorem PB{r:List V->Hp->VK->Prop}{f:List D->(D->Prop)->Prop}{t:TA}(hA:B_ X.K κ r f)(h2:∀(C:Fm) (M:Addr->Prop) (H:Hp) (n:Nat) (ρ:List Slot) (σ:L2.St) (P:List D->Nat->Prop) (Q:List V->Hp->Prop),Rel X.K C M H n ρ σ->ws n ρ P ->
   (∀vs H' ds n',Ext C.U H H'->FeedC X.K C.F M H' n'->Paired (fun v d=>AtT X.K C.V M H' d v) vs ds->P ds n'->Q vs H')->t σ H Q)
  (C:Fm) (M:Addr->Prop) (H:Hp) (n:Nat) (ρ:List Slot) (σ:L2.St) (P:D->Nat->Prop) (Q:VK) (R:Rel X.K C M H n ρ σ) (w:CH f ws n ρ P)
  (q:∀v H' d n',Ext C.U H H'->FeedC X.K C.F M H' n'->VR X.K C.V M H H' κ v d->P d n'->Q v H'):Ry r t σ H Q:=by
 refine h2 C M H n ρ σ _ _ R w fun vs H1 ds n1 e1 f1 r1 p=>?_
 have R1:=R.step e1 f1
 refine hA C.V M H1 ds vs _ _ R1.dom R1.vM r1 p fun v H2 z g vr pz=>?_
 exact q v H2 z n1 (e1.trans g.ext) (f1.grow g) (VR.back e1 vr) pz
theorem AO{x:Str}{id:String}{p:Pos}{r:List V->Hp->VK->Prop}{f:List D->(D->Prop)->Prop}(hc:Bu X (.builtin id) r)(hA:B_ X.K κ r f)(hg:Gl X x)(hm:X.mg x=none)(hv:bootBuiltins x=some (.builtin id))(ha:Qb X (e::es) ws)
  (hn:autoParam (x ≠ "__name__") zau1._auto_1) (hdb:autoParam ((x==("__debug__" : Str))=false) zau1._auto_1)
  (he:autoParam (starEach (e::es) X.env=(false,eval e X.env)::starEach es X.env) zau3._auto_1) (hpl:autoParam ((backTo pos (starEach es X.env)).any (·.1)=false) zau3._auto_1):DE X (.Call (.Name x p) (e::es) [] pos) κ (CH f ws):=by
 obtain⟨t,h1,h2⟩:=ha
 exact⟨_,DU hc hg hm hv h1 hn hdb he hpl,fun C M H n ρ σ P Q R w q=>PB hA h2 C M H n ρ σ P Q R w q⟩
theorem BK{x:Str}{T:String}{p:Pos}{r:List V->Hp->VK->Prop}{f:List D->(D->Prop)->Prop}(hc:Bu X (.type T) r)(hA:B_ X.K κ r f)(hg:Gl X x)(hm:X.mg x=none)(hv:bootBuiltins x=some (.type T))(ha:Qb X (e::es) ws)
  (hn:autoParam (x ≠ "__name__") zau1._auto_1) (hdb:autoParam ((x==("__debug__" : Str))=false) zau1._auto_1)
  (he:autoParam (starEach (e::es) X.env=(false,eval e X.env)::starEach es X.env) zau3._auto_1) (hpl:autoParam ((backTo pos (starEach es X.env)).any (·.1)=false) zau3._auto_1):DE X (.Call (.Name x p) (e::es) [] pos) κ (CH f ws):=by
 obtain⟨t,h1,h2⟩:=ha
 exact⟨_,Fq hc hg hm hv h1 hn hdb he hpl,fun C M H n ρ σ P Q R w q=>PB hA h2 C M H n ρ σ P Q R w q⟩
end
end Dp
namespace L2
open PySem PySem.Spec PyProof.Rows
noncomputable def Sj(z:Str):It:=⟨fun i _=>i<z.cps.size,fun i H x H'=>H'=H/\∃c,z.cps[i]?=some c/\x=.str ⟨#[c]⟩,fun i _=>z.cps.size<=i⟩
theorem HN{P:Program}{w:World}{K:Frag}{tg:Expr}(it:Addr)(z:Str)(t:Tok)(ty:String)(hty:ty = "str_ascii_iterator"\/ty = "str_iterator")
  (W:∀A':Around,A'.handled=none->Walks P w A' it [it] [it] z.cps.size (SignAt z) (fun i h=>h.IsStrIter it ty z t i)):Turn P w K tg (Sj z) [it] it (fun i h=>h.IsStrIter it ty z t i) where
 mem:=by simp
 obj:=fun i h st b hb=>by
  have e:b=it:=by simpa using hb
  subst e
  obtain⟨o,e,c,d⟩:=st
  exact⟨o,e,fun v z=>by rw [d] at z; cases z⟩
 keep:=fun i h h' st k=>let ⟨o,ho,r⟩:=st; ⟨o,k it (by simp) o ho,r⟩
 item:=by
  intro X hP hw hK hc i pins s σ H E I hf st hg
  subst hP hw hK
  obtain⟨f0,f1,f2,f3,f4,f5⟩:=hf it (by simp)
  refine(W X.A (I.ok.hd hc)).item i s _ _ hg st fun v h' tk hv st' kk=>?_
  obtain⟨c,u,hcu,rfl⟩:=hv
  have I1:Inv X pins σ H { s with heap:=h',toks:=tk }:=I.turned (fun b o hb e=>kk b o (by simpa using hb) e) f0 f1 f3 f4 f5
  obtain⟨o,e,cc,d⟩:=id st'
  exact⟨_,rfl,Jz (s:={ s with heap:=h',toks:=tk }) e cc d (by rcases hty with rfl | rfl <;> decide) ⟨.str ⟨#[c]⟩,H,I1,⟨_,rfl⟩,⟨rfl,c,hcu,rfl⟩,st',fun b hb=>(hf b hb).1⟩⟩
 done:=by
  intro X hP hw hK hc i pins s σ H E I hf st hg
  subst hP hw hK
  obtain⟨f0,f1,f2,f3,f4,f5⟩:=hf it (by simp)
  have hx:z.cps[i]?=none:=by
   have:z.cps.size<=i:=hg
   simp [this]
  rcases hty with rfl | rfl
  ·exact wpAny_pyNext_ascii_end (I.ok.hd hc) st hx fun h' eb=>⟨rfl,I.turned (t':=s.toks) (fun b o hb e=>eb b o hb e) f0 f1 f3 f4 f5⟩
  ·exact wpAny_pyNext_wide_end (I.ok.hd hc) st hx fun h' eb=>⟨rfl,I.turned (t':=s.toks) (fun b o hb e=>eb b o hb e) f0 f1 f3 f4 f5⟩
 self:=fun A i s Q E st h=>by
  rcases hty with rfl | rfl
  ·exact wpAny_pyIter_striter_ascii st h
  ·exact wpAny_pyIter_striter_wide st h
section
variable {X:Cx}{tg:Expr}
noncomputable def SX(K:Frag)(tl:TE):TI:=fun σ H R=>tl σ H fun x H1 =>
 (∃a,x=.ref a/\(∃xs,SqL K H1 a xs)/\R (S0 K a) H1)\/(∃a,x=.ref a/\(∃xs,SqT K H1 a xs)/\R (Si K a) H1)\/∃z,x=.str z/\R (Sj z) H1
theorem Lq{l:Expr}{tl:TE}(hl:PE X l tl):PI X tg l (SX X.K tl):=by
 intro pins s σ H R I h
 refine A2 (hl pins s σ H _ I h) fun v s1 ⟨x,H1,I1,r1,q1⟩=>?_
 have hne:∀b,b∈[s1.heap.objs.size]->EC X pins H1 b:=fun b hb=>by
  have e:b=s1.heap.objs.size:=by simpa using hb
  subst e
  exact I1.fpOk (Nat.le_refl _) (I1.hok.fresh (Nat.le_refl _))
 rcases q1 with ⟨a,e,⟨xs,hq⟩,q⟩ | ⟨a,e,⟨xs,hq⟩,q⟩ | ⟨z,e,q⟩
 ·subst e
  cases r1
  obtain⟨its,rv,p,hz⟩:=I1.list hq
  refine wpAny_pyIter_list p.isList ?_
  exact⟨s1.heap.objs.size,[s1.heap.objs.size],_,_,H1,rfl,I1.kept (t':=s1.toks) fun b o e=>Heap.get?_push_of_some _ e,KW a _,⟨_,Heap.get?_push_size _ rfl,rfl,rfl⟩,hne,q⟩
 ·subst e
  cases r1
  obtain⟨its,rv,p,hz⟩:=I1.tuple hq
  refine wpAny_pyIter_tuple (show s1.heap.IsTuple a its.toArray from p) ?_
  exact⟨s1.heap.objs.size,[s1.heap.objs.size],_,_,H1,rfl,I1.kept (t':=s1.toks) fun b o e=>Heap.get?_push_of_some _ e,Ih a _,⟨_,Heap.get?_push_size _ rfl,rfl,rfl⟩,hne,q⟩
 ·subst e
  obtain⟨t,rfl⟩:=r1
  cases ha:z.cps.all (·<128)
  ·refine wpAny_pyIter_wide ha ?_
   exact⟨s1.heap.objs.size,[s1.heap.objs.size],_,_,H1,rfl,I1.kept (t':=s1.toks) fun b o e=>Heap.get?_push_of_some _ e,HN _ z t "str_iterator" (.inr rfl) (fun A' hA=>Walks.strWide hA _ z t),⟨_,Heap.get?_push_size _ rfl,rfl,rfl⟩,hne,q⟩
  ·refine wpAny_pyIter_ascii ha ?_
   exact⟨s1.heap.objs.size,[s1.heap.objs.size],_,_,H1,rfl,I1.kept (t':=s1.toks) fun b o e=>Heap.get?_push_of_some _ e,HN _ z t "str_ascii_iterator" (.inl rfl) (fun A' hA=>Walks.strAscii hA _ z t),⟨_,Heap.get?_push_size _ rfl,rfl,rfl⟩,hne,q⟩
end
section
variable {X:Cx}
theorem FV(bs:List Bool):((List.range bs.length).all fun i=>(bs[i]?).getD true)=bs.all id:=by
 induction bs with
 | nil=>rfl
 | cons b r ih =>
  rw [List.length_cons,List.range_succ_eq_map,List.all_cons,List.all_map,List.all_cons]
  simp only [List.getElem?_cons_zero,Option.getD_some,id_eq]
  congr 1
theorem IT(hc:X.calm=true):Bu X (.builtin "all") (fun xs H Q=>∃(p:Addr) (bs:List Bool),xs=[.ref p]/\SqL X.K H p (bs.map V.bl)/\Q (.bl (bs.all id)) H):=by
 intro pins s σ H xs us Q I r h
 obtain⟨p,bs,rfl,hq,q⟩:=h
 obtain⟨u,rfl,rx⟩:=vals1 r
 cases rx
 obtain⟨its,r',pl,hz⟩:=I.list hq
 have hlen:=r'.length
 have hl:s.heap.IsList p its.toArray:=pl.isList
 have hlt:p<s.heap.objs.size:=by obtain⟨_,e,_⟩:=id hl; exact Heap.lt_size e
 refine call_all_walk (wpAny_pyIter_list hl ?_)
 refine⟨s.heap.objs.size,[s.heap.objs.size,p],[s.heap.objs.size],its.toArray.size,_,_,fun i=>(bs[i]?).getD true,rfl,Walks.list (A:=X.A.in1) (I.ok.hd hc) _ p (Nat.ne_of_lt hlt) its.toArray,
  ⟨⟨_,Heap.get?_push_size _ rfl,rfl,rfl⟩,hl.push _⟩,fun i v s' Q' E' hP hQ=>?_,fun h' tk hk=>?_⟩
 ·have hv:its[i]?=some v:=by simpa using hP
  have hb:∃b,bs[i]?=some b:=by
   have hi:i<its.length:=(List.getElem?_eq_some_iff.mp hv).1
   rw [List.length_map] at hlen
   exact⟨bs[i]'(by omega),List.getElem?_eq_getElem (by omega)⟩
  obtain⟨b,eb⟩:=hb
  obtain⟨u,eu,ru⟩:=r'.get (i:=i) (x:=.bl b) (by rw [List.getElem?_map,eb]; rfl)
  rw [hv] at eu
  cases eu
  cases ru
  simp only [eb,Option.getD_some] at hQ
  exact wpAny_truthy_bool hQ
 ·have e:((List.range its.toArray.size).all fun i=>(bs[i]?).getD true)=bs.all id:=by
   rw [List.size_toArray,← hlen,List.length_map]; exact FV bs
  rw [e]
  exact⟨.bl _,H,I.kept (t':=tk) fun b x e=>hk b x (fun hm=>by rw [List.mem_singleton.mp hm] at e; exact Nat.lt_irrefl _ (Heap.lt_size e)) (Heap.get?_push_of_some _ e),rfl,q⟩
theorem IS:Bu X (.builtin "isinstance") (fun xs H Q=>∃x T t b,xs=[x,.ty T]/\DD X.K H x t/\PySem.W.kitOne X.K t (.type T)=some b/\Q (.bl b) H):=by
 intro pins s σ H xs us Q I r h
 obtain⟨x,T,t,b,rfl,ty,e,q⟩:=h
 obtain⟨u,w',rfl,rx,rt⟩:=vals2 r
 cases rt
 exact K1 I rx ty e fun tk=>⟨.bl b,H,I.tok _,rfl,q⟩
theorem Kp:OpR X (compareOp .LtE) (fun x y H Q=>∃i j,x=.str i/\y=.str j/\Q (.bl (!(j.cps.toList<i.cps.toList))) H):=by
 intro pins s σ H x y v u Q I rx ry h
 obtain⟨i,j,rfl,rfl,q⟩:=h
 obtain⟨t,rfl⟩:=rx
 obtain⟨t',rfl⟩:=ry
 exact PySem.P.le_str ⟨.bl _,H,I,rfl,q⟩
theorem Ik{ys:List Str}:∀{us:List Value},Vals (ys.map V.str) us->StrsAre us ys:=by
 induction ys with
 | nil=>intro us r; rw [List.map_nil] at r; cases r; exact .nil
 | cons n ns ih =>
  intro us r
  rw [List.map_cons] at r
  cases r with
  | cons r1 r2 =>
   obtain⟨t,e⟩:=r1
   subst e
   exact .cons n t (ih r2)
theorem Pa:SlR X (fun x lo hi H Q=>∃z,x=.str z/\z.length<=sizeLine/\Q (.str (Txt.slice z lo hi)) H):=by
 intro pins s σ H x v vl vu lo hi sl Q I rx hs pl pu h
 obtain⟨z,rfl,hz,q⟩:=h
 obtain⟨t,rfl⟩:=rx
 refine⟨"str",_,F.slot_str_getitem.lookup,typeIs_str _ _ _,?_⟩
 have fin:∀t' k,EP X pins σ Q (.str (Txt.slice z lo hi) t') { s with toks:=k }:=fun t' k=>⟨.str _,H,I.tok _,⟨_,rfl⟩,q⟩
 cases pl with
 | none =>
  cases pu with
  | none=>exact wpAny_getItem_str_slice (l:=none) (u:=none) (st:=none) hs rfl (post_val_or_str ⟨Nat.le_trans (Txt.slice_le z _ _) hz,fun t' k=>fin t' k⟩)
  | int j tj=>exact wpAny_getItem_str_slice (l:=none) (u:=some (j,tj)) (st:=none) hs rfl (post_val_or_str ⟨Nat.le_trans (Txt.slice_le z _ _) hz,fun t' k=>fin t' k⟩)
 | int i ti =>
  cases pu with
  | none=>exact wpAny_getItem_str_slice (l:=some (i,ti)) (u:=none) (st:=none) hs rfl (post_val_or_str ⟨Nat.le_trans (Txt.slice_le z _ _) hz,fun t' k=>fin t' k⟩)
  | int j tj=>exact wpAny_getItem_str_slice (l:=some (i,ti)) (u:=some (j,tj)) (st:=none) hs rfl (post_val_or_str ⟨Nat.le_trans (Txt.slice_le z _ _) hz,fun t' k=>fin t' k⟩)
theorem Km(hu:X.A.units<cLine):OpR X (compareOp .NotEq) (fun x y H Q=>∃a b xs,x=.ref a/\y=.ref b/\SqL X.K H a xs/\SqL X.K H b []/\Q (.bl (!xs.isEmpty)) H):=by
 intro pins s σ H x y v u Q I rx ry h
 obtain⟨a,b,xs,rfl,rfl,ha,hb,q⟩:=h
 cases rx
 cases ry
 obtain⟨its,r1,p1,_⟩:=I.list ha
 obtain⟨its2,r2,p2,_⟩:=I.list hb
 cases r2
 cases r1 with
 | nil=>exact SeqAt.RcNeAt.lists (e:=fun _=>true) p1.isList p2.isList rfl hu (fun j h1 h2=>absurd h1 (by simp)) X.prog X.w X.xe _ ⟨.bl _,H,I,rfl,q⟩
 | cons r1 r2=>exact SeqAt.RcNeAt.lists_lengths p1.isList p2.isList (by simp) hu X.prog X.w X.xe _ ⟨.bl _,H,I,rfl,q⟩
end
end L2
namespace Dp
open PySem PySem.Spec PyProof.Rows L2
noncomputable def Rm(K:Frag)(F:Option (Addr×Addr))(U V' M:Addr->Prop)(H:Hp)(n:Nat)(ss:List Slot)(vs:List V):Prop :=
 (∀a,M a->∃o,H a=some o)/\(∀f,F=some f->U f.1)/\(∀a,U a->V' a)/\(∀a,V' a->M a)/\FeedC K F M H n/\Paired (GT K F V' M H) vs ss
noncomputable abbrev W2:=List Slot->Nat->(D->Nat->Prop)->Prop
noncomputable def EY(K:Frag)(κ:Kd)(W:W2)(np:Nat):Sp:=fun vs H Q _=>vs.length=np/\∃(F:Option (Addr×Addr)) (U V' M:Addr->Prop) (n:Nat) (ss:List Slot) (P:D->Nat->Prop),Rm K F U V' M H n ss vs/\W ss n P /\
 ∀v H' d n',Ext U H H'->FeedC K F M H' n'->VR K V' M H H' κ v d->P d n'->Q v H'
noncomputable def Aj(w:DW):Nat->List Slot->(Slot->Nat->Prop)->Prop:=fun n ρ P=>w n ρ fun d n1=>P (.sh d) n1
noncomputable def B1(w:DW):Nat->List Slot->(Slot->Nat->Prop)->Prop:=fun n ρ P=>w n ρ fun d n1=>P (.br d) n1
noncomputable def BX(i:Nat):Nat->List Slot->(Slot->Nat->Prop)->Prop:=fun n ρ P=>match ρ[i]? with
 | some .fd=>P .fd n
 | _=>False
noncomputable def Al:Qa:=fun n _ P=>P [] n
noncomputable def AH(w:Nat->List Slot->(Slot->Nat->Prop)->Prop)(ws:Qa):Qa:=fun n ρ P=>w n ρ fun s n1=>ws n1 ρ fun ss n2=>P (s::ss) n2
noncomputable def Ak(W:W2)(was:Qa):DW:=fun n ρ P=>was n ρ fun ss n1=>W ss n1 P
section
variable {X:Cx}{a b c e:Expr}{es:List Expr}{κ κa κb:Kd}{wa wb wc:DW}{pos:Pos}{w1:Nat->List Slot->(Slot->Nat->Prop)->Prop}{was:Qa}{ws:Dw}
theorem Am(h:DE X e κ wa)(hk:autoParam (κ≠.tp) zau7._auto_1):SG X e (Aj wa):=by
 obtain⟨t,h1,h2⟩:=h
 refine⟨t,h1,fun C M H n ρ σ P Q R w q=>h2 C M H n ρ σ _ _ R w fun v H' d n' e f r p=>?_⟩
 exact q v H' (.sh d) n' e f ⟨⟨v,rfl,r.shOf R.dom hk⟩,rfl⟩ p
theorem C0(h:DE X e κ wa):SG X e (B1 wa):=by
 obtain⟨t,h1,h2⟩:=h
 refine⟨t,h1,fun C M H n ρ σ P Q R w q=>h2 C M H n ρ σ _ _ R w fun v H' d n' e f r p=>?_⟩
 exact q v H' (.br d) n' e f ⟨⟨v,rfl,r.tpOf R.dom R.vM⟩,rfl⟩ p
theorem Br(i:Nat){x:Str}{pos:Pos}(hN:autoParam (X.N[i]?=some x) zau3._auto_1)(hv:autoParam (Qh X.env.scope x) zau5._auto_1)(hd:autoParam ((x==("__debug__" : Str))=false) zau1._auto_1)
  (hcd:autoParam ((x==("__classdict__" : Str))=false) zau1._auto_1):SG X (.Name x pos) (BX i):=by
 refine⟨_,Gm hN hv hd hcd,fun C M H n ρ σ P Q R w q=>?_⟩
 unfold BX at w
 split at w
 ·rename_i hd
  obtain⟨f,e1,h1⟩:=R.sl i _ hd
  exact⟨.ref f.1,getD_some e1,q _ H .fd n (Ext.refl _ _) R.feed ⟨⟨f,rfl,h1⟩,rfl⟩ w⟩
 ·exact w.elim
theorem AR:Ru X [] Al:=⟨_,CA,fun C M H n ρ σ P Q R w q=>q [] H [] n (Ext.refl _ _) R.feed .nil w⟩
theorem AA(ha:SG X e w1)(hr:Ru X es was)(hs:autoParam (starEach (e::es) X.env=(false,eval e X.env)::starEach es X.env) zau3._auto_1):Ru X (e::es) (AH w1 was):=by
 obtain⟨t,h1,h2⟩:=ha
 obtain⟨u,g1,g2⟩:=hr
 refine⟨_,BM h1 g1 hs,fun C M H n ρ σ P Q R w q=>?_⟩
 refine h2 C M H n ρ σ _ _ R w fun v H1 d n1 e1 f1 r1 p=>?_
 have R1:=R.step e1 f1
 refine g2 C M H1 n1 ρ σ _ _ R1 p fun vs H2 ds n2 e2 f2 r2 p2=>?_
 exact q (v::vs) H2 (d::ds) n2 (e1.trans e2) f2 (.cons ⟨r1.1.pres (R1.pres e2) (fun _ z=>z) e2 R.uV,r1.2⟩ r2) p2
theorem OQ{k:Nat}{f:Addr}{fd:FuncData}{ps:List Str}{W:W2}{x:Str}{p:Pos}(G:BE X.prog X.w X.K X.mg X.base Cq k f fd ps (EY X.K κ W ps.length))(hW:∀ss n P,W ss n P->ss.length=ps.length)
  (hr:Room k X.A) (hg:Gl X x) (hm:X.mg x=some (.ref f)) (hk:keepIn X.K (.ref f)=true) (hb:Binds X.K fd ps []) (ha:Ru X (e::es) was)
  (hdb:autoParam ((x==("__debug__" : Str))=false) zau1._auto_1) (he:autoParam (starEach (e::es) X.env=(false,eval e X.env)::starEach es X.env) zau3._auto_1) (hpl:autoParam ((backTo pos (starEach es X.env)).any (·.1)=false) zau3._auto_1) :
  DE X (.Call (.Name x p) (e::es) [] pos) κ (Ak W was):=by
 obtain⟨t,h1,h2⟩:=ha
 refine⟨_,Jp G hr hg hm hk hb .nil Lw h1 hdb he hpl,fun C M H n ρ σ P Q R w q=>?_⟩
 refine h2 C M H n ρ σ _ _ R w fun vs H1 ss n1 e1 f1 r1 p=>?_
 have R1:=R.step e1 f1
 show EY X.K κ W ps.length (vs++[]) H1 Q E0
 rw [List.append_nil]
 refine⟨(Paired.length r1).trans (hW _ _ _ p),C.F,C.U,C.V,M,n1,ss,P,⟨R1.dom,R1.fU,R1.uV,R1.vM,f1,r1⟩,p,fun v H2 d n2 e2 f2 r2 p2=>?_⟩
 exact q v H2 d n2 (e1.trans e2) f2 (VR.back e1 r2) p2
noncomputable def Sy(K:Frag)(κ:Kd)(T:String)(r:V->List V->Hp->VK->Prop)(f:D->List D->(D->Prop)->Prop):Prop:=∀(U:Addr->Prop) (M:Addr->Prop) (H:Hp) (d:D) (ds:List D) (x:V) (vs:List V) (P:D->Prop) (Q:VK),(∀a,M a->∃o,H a=some o)->(∀a,U a->M a) ->
 AtT K U M H d x->Paired (fun v d=>AtT K U M H d v) vs ds->f d ds P->(∀v H' z,Grow H H'->VR K U M H H' κ v z->P z->Q v H')->r x vs H Q
noncomputable def R6(T:String)(d:D):Prop:=match d with
 | .str _=>T = "str"
 | .int _=>T = "int"
 | .lst _=>T = "list"
 | _=>False
noncomputable def Sm(T:String)(f:D->List D->(D->Prop)->Prop)(wo:DW)(ws:Dw):DW:=fun n ρ P=>wo n ρ fun d n1=>R6 T d/\ws n1 ρ fun ds n2=>f d ds fun z=>P z n2
theorem JI{T:String}{K:Frag}{U:Addr->Prop}{M:Addr->Prop}{H:Hp}{d:D}{x:V}(h:R6 T d)(hx:AtT K U M H d x):Rv K T x H:=by
 cases d with
 | str z=>obtain⟨e,_⟩:=hx; subst e; exact h
 | int i=>cases (show x=.int i from hx); exact h
 | lst ds=>obtain⟨a,vs,e,_,hq,_⟩:=hx; subst e; exact .inl ⟨h,vs,.inl hq⟩
 | _=>exact(show False from h).elim
theorem Rf{name:Str}{apos cpos:Pos}{T id:String}{r:V->List V->Hp->VK->Prop}{f:D->List D->(D->Prop)->Prop}(pa:PlainAttrs T)(slot:PySem.Slot T name id)(hty:typeOf (.builtin id)=pure (.type "method_descriptor"))(hm:Qi X id r)
  (hA:Sy X.K κ T r f) (ho:DE X a κa wa) (ha:Qb X (e::es) ws)
  (hbase:autoParam (attributeBase a name X.env (eval a X.env)=eval a X.env) zau3._auto_1)
  (hfew:autoParam (((backTo cpos (starEach (e::es) X.env)).all (fun x=>!x.1)&&(backToKw cpos (keywordEach [] X.env)).all (fun x=>x.1.isSome)
   && decide ((e::es).length+([]:List Keyword).length+(if ([]:List Keyword).isEmpty then 0 else 1)<30))=true) zau3._auto_1)
  (hline:autoParam ((apos.endLine==cpos.line)=true) zau3._auto_1) (hs:autoParam (starEach (e::es) X.env=(false,eval e X.env)::starEach es X.env) zau3._auto_1) (hplain:autoParam ((backTo cpos (starEach es X.env)).any (·.1)=false) zau3._auto_1) :
  DE X (.Call (.Attribute a name apos) (e::es) [] cpos) κ (Sm T f wa ws):=by
 obtain⟨t,h1,h2⟩:=ho
 obtain⟨u,g1,g2⟩:=ha
 refine⟨_,O2 pa slot hty hm h1 g1 hbase hfew hline hs hplain,fun C M H n ρ σ P Q R w q=>?_⟩
 refine h2 C M H n ρ σ _ _ R w fun x H1 d n1 e1 f1 r1 p=>?_
 have R1:=R.step e1 f1
 have tx:=r1.tpOf R.dom R.vM
 refine⟨JI p.1 tx,?_⟩
 refine g2 C M H1 n1 ρ σ _ _ R1 p.2 fun vs H2 ds n2 e2 f2 r2 p2=>?_
 have R2':=R1.step e2 f2
 refine hA C.V M H2 d ds x vs _ _ R2'.dom R2'.vM (tx.pres (R1.pres e2) e2 R.uV) r2 p2 fun v H3 z g vr pz=>?_
 exact q v H3 z n2 ((e1.trans e2).trans g.ext) (f2.grow g) (VR.back (e1.trans e2) vr) pz
noncomputable def DO(X:Cx)(e:Option Expr)(w:Nat->List Slot->(Option Int->Nat->Prop)->Prop):Prop:=∃t,PO X e t/\∀(C:Fm) (M:Addr->Prop) (H:Hp) (n:Nat) (ρ:List Slot) (σ:L2.St) (P:Option Int->Nat->Prop) (Q:Option Int->Hp->Prop),Rel X.K C M H n ρ σ->w n ρ P ->
 (∀o H' n',Ext C.U H H'->FeedC X.K C.F M H' n'->P o n'->Q o H')->t σ H Q
noncomputable def Jc:Nat->List Slot->(Option Int->Nat->Prop)->Prop:=fun n _ P=>P none n
noncomputable def Od(w:DW):Nat->List Slot->(Option Int->Nat->Prop)->Prop:=fun n ρ P=>w n ρ fun d n1=>match d with
 | .int i=>P (some i) n1
 | _=>False
theorem OK:DO X none Jc:=⟨_,Jo,fun C M H n ρ σ P Q R w q=>q none H n (Ext.refl _ _) R.feed w⟩
theorem MQ{U:Addr->Prop}{K:Frag}{M:Addr->Prop}{H H':Hp}{v:V}{i:Int}(h:VR K U M H H' κ v (.int i)):v=.int i:=by
 cases κ with
 | sh=>exact h
 | tp=>exact h
 | fr=>obtain⟨a,_,_,t⟩:=h; exact(show False from t).elim
theorem OJ(h:DE X e κ wa):DO X (some e) (Od wa):=by
 obtain⟨t,h1,h2⟩:=h
 refine⟨_,Jn h1,fun C M H n ρ σ P Q R w q=>?_⟩
 refine h2 C M H n ρ σ _ _ R w fun v H1 d n1 e1 f1 r1 p=>?_
 cases d with
 | int i=>exact⟨i,MQ r1,q _ H1 n1 e1 f1 p⟩
 | _=>exact p.elim
noncomputable def Sw(K:Frag)(κ:Kd)(r:V->Option Int->Option Int->Hp->VK->Prop)(f:D->Option Int->Option Int->(D->Prop)->Prop):Prop:=∀(U:Addr->Prop) (M:Addr->Prop) (H:Hp) (d:D) (x:V) (lo hi:Option Int) (P:D->Prop) (Q:VK),(∀a,M a->∃o,H a=some o)->(∀a,U a->M a) ->
 AtT K U M H d x->f d lo hi P->(∀v H' z,Grow H H'->VR K U M H H' κ v z->P z->Q v H')->r x lo hi H Q
noncomputable def Sk(f:D->Option Int->Option Int->(D->Prop)->Prop)(w:DW)(wl wh:Nat->List Slot->(Option Int->Nat->Prop)->Prop):DW:=fun n ρ P=>w n ρ fun d n1=>wl n1 ρ fun lo n2=>wh n2 ρ fun hi n3=>f d lo hi fun z=>P z n3
theorem Rb{lo hi:Option Expr}{p2:Pos}{r:V->Option Int->Option Int->Hp->VK->Prop}{f:D->Option Int->Option Int->(D->Prop)->Prop}{wl wh:Nat->List Slot->(Option Int->Nat->Prop)->Prop}(hr:SlR X r)(hA:Sw X.K κ r f)(he:DE X e κa wa)(hl:DO X lo wl)(hh:DO X hi wh) :
  DE X (.Subscript e (.Slice lo hi none p2) pos) κ (Sk f wa wl wh):=by
 obtain⟨t,h1,h2⟩:=he
 obtain⟨u,g1,g2⟩:=hl
 obtain⟨u',k1,k2⟩:=hh
 refine⟨_,Hi hr h1 g1 k1,fun C M H n ρ σ P Q R w q=>?_⟩
 refine h2 C M H n ρ σ _ _ R w fun v H1 d n1 e1 f1 r1 p=>?_
 have R1:=R.step e1 f1
 have tv:=r1.tpOf R.dom R.vM
 refine g2 C M H1 n1 ρ σ _ _ R1 p fun lo H2 n2 e2 f2 p2=>?_
 have R2':=R1.step e2 f2
 refine k2 C M H2 n2 ρ σ _ _ R2' p2 fun hi H3 n3 e3 f3 p3=>?_
 have R3:=R2'.step e3 f3
 refine hA C.V M H3 d v lo hi _ _ R3.dom R3.vM ((tv.pres (R1.pres e2) e2 R.uV).pres (R2'.pres e3) e3 R.uV) p3 fun v H4 z g vr pz=>?_
 exact q v H4 z n3 (((e1.trans e2).trans e3).trans g.ext) (f3.grow g) (VR.back ((e1.trans e2).trans e3) vr) pz
end
structure E2 where
 nx:Nat->List Slot->Prop
 rt:D->Nat->Prop
 bk:Nat->List Slot->Prop:=fun _ _=>False
 ct:Nat->List Slot->Prop:=fun _ _=>False
noncomputable abbrev AS:=E2->Nat->List Slot->Prop
structure ND (K:Frag) (C:Fm) (κ:Kd) (D2:E2) (E:Ends):Prop where
 nx:∀M H n ρ σ,Rel K C M H n ρ σ->D2.nx n ρ->E.nx σ H
 rt:∀v H d n,Ext C.U C.H0 H->FeedC K C.F C.M0 H n->VR K C.V C.M0 C.H0 H κ v d->D2.rt d n->E.rt v H
 bk:∀M H n ρ σ,Rel K C M H n ρ σ->D2.bk n ρ->E.bk σ H
 ct:∀M H n ρ σ,Rel K C M H n ρ σ->D2.ct n ρ->E.ct σ H
noncomputable def DS(X:Cx)(κ:Kd)(st:Stmt)(w:AS):Prop:=∃t,PS X st t/\∀(C:Fm) (M:Addr->Prop) (H:Hp) (n:Nat) (ρ:List Slot) (σ:L2.St) (D2:E2) (E:Ends),Rel X.K C M H n ρ σ->ND X.K C κ D2 E->w D2 n ρ->t E σ H
noncomputable def NF(X:Cx)(κ:Kd)(st:List Stmt)(w:AS):Prop:=∃t,PSs X st t/\∀(C:Fm) (M:Addr->Prop) (H:Hp) (n:Nat) (ρ:List Slot) (σ:L2.St) (D2:E2) (E:Ends),Rel X.K C M H n ρ σ->ND X.K C κ D2 E->w D2 n ρ->t E σ H
noncomputable def BV:AS:=fun D2 n ρ=>D2.nx n ρ
noncomputable def Ar(u v:AS):AS:=fun D2 n ρ=>u { D2 with nx:=v D2 } n ρ
noncomputable def BF(w:DW):AS:=fun D2 n ρ=>w n ρ fun d n1=>D2.rt d n1
noncomputable def CJ(t:FN)(u v:AS):AS:=fun D2 n ρ=>t n ρ fun c n1=>if c=true then u D2 n1 ρ else v D2 n1 ρ
noncomputable def DH(i:Nat)(w:DW):AS:=fun D2 n ρ=>w n ρ fun d n1=>D2.nx n1 (ρ.set i (.sh d))
section
variable {X:Cx}{κ κe:Kd}{st:Stmt}{rest:List Stmt}{u v:AS}{wa:DW}{wA:FN}{e c:Expr}{pos:Pos}
theorem An:NF X κ [] BV:=⟨_,Gk,fun C M H n ρ σ D2 E R L w=>L.nx M H n ρ σ R w⟩
theorem AG(h1:DS X κ st u)(h2:NF X κ rest v):NF X κ (st::rest) (Ar u v):=by
 obtain⟨t,a1,a2⟩:=h1
 obtain⟨t',b1,b2⟩:=h2
 refine⟨_,BC a1 b1,fun C M H n ρ σ D2 E R L w=>?_⟩
 exact a2 C M H n ρ σ { D2 with nx:=v D2 } { E with nx:=t' E } R ⟨fun M H n ρ σ R w=>b2 C M H n ρ σ D2 E R L w,L.rt,L.bk,L.ct⟩ w
theorem AI(h1:DS X κ st u):NF X κ [st] u:=by
 obtain⟨t,a1,a2⟩:=h1
 exact⟨t,DR a1,a2⟩
theorem Pc{K:Frag}{C:Fm}{M:Addr->Prop}{H H':Hp}{n n':Nat}{ρ:List Slot}{σ:L2.St}{D2:E2}{E:Ends}{d:D}{v:V}(R:Rel K C M H n ρ σ)(L:ND K C κ D2 E)(e:Ext C.U H H')(f:FeedC K C.F M H' n')(r:VR K C.V M H H' κ v d)(hk:κ≠.tp)(p:D2.rt d n'):E.rt v H':=by
 have less:Pres M H' C.M0 H':=Pres.less R.sub
 refine L.rt v H' d n' (R.ext.trans e) (f.pres less fun _ _ _ z=>z) ?_ p
 cases κ with
 | sh=>exact At.pres less r
 | tp=>exact absurd rfl hk
 | fr =>
  have r':=VR.back (κ:=.fr) R.ext r
  obtain⟨a,e1,h1,h2⟩:=r'
  exact⟨a,e1,h1,h2.pres (Pres.less fun b z=>z.imp (R.sub b) id) fun _ z=>z⟩
theorem AW(h:DE X e κ wa)(hk:autoParam (κ≠.tp) zau7._auto_1):DS X κ (.Return (some e) pos) (BF wa):=by
 obtain⟨t,a1,a2⟩:=h
 refine⟨_,D4 a1,fun C M H n ρ σ D2 E R L w=>?_⟩
 exact a2 C M H n ρ σ _ _ R w fun v H' d n' e1 f1 r1 p=>Pc R L e1 f1 r1 hk p
theorem Bg{a b:List Stmt}(hc:DT X c wA)(ha:NF X κ a u)(hb:NF X κ b v):DS X κ (.If c a b pos) (CJ wA u v):=by
 obtain⟨t,a1,a2⟩:=hc
 obtain⟨t',b1,b2⟩:=ha
 obtain⟨t'',c1,c2⟩:=hb
 refine⟨_,Ln a1 b1 c1,fun C M H n ρ σ D2 E R L w=>?_⟩
 refine a2 C M H n ρ σ _ _ R w fun b H1 n1 e1 f1 p=>?_
 cases b with
 | true=>exact b2 C M H1 n1 ρ σ D2 E (R.step e1 f1) L p
 | false=>exact c2 C M H1 n1 ρ σ D2 E (R.step e1 f1) L p
theorem Bo{i:Nat}{x:Str}{pos':Pos}(hN:X.N.Nodup)(hi:X.N[i]?=some x)(hx:Loc X.env.scope x)(he:DE X e κe wa)(hk:autoParam (κe≠.tp) zau7._auto_1)(hs:autoParam (swapsWith e (some (.Name x pos')) pos.line X.env=pure false) zau3._auto_1)
  (hf:autoParam (X.fn x=true\/X.env.scope.names.lookup x=some .local) zau0._auto_1):DS X κ (.Assign [.Name x pos'] e pos) (DH i wa):=by
 obtain⟨t,a1,a2⟩:=he
 refine⟨_,C_ hN hi hx a1 hs hf,fun C M H n ρ σ D2 E R L w=>?_⟩
 refine a2 C M H n ρ σ _ _ R w fun v H' d n' e1 f1 r1 p=>?_
 exact L.nx M H' n' _ _ ((R.step e1 f1).set (r1.shOf R.dom hk)) p
end
section
variable {X:Cx}{κ κe:Kd}{e:Expr}{wa:DW}{pos:Pos}
noncomputable def DF(i:Nat)(w:DW):AS:=fun D2 n ρ=>w n ρ fun d n1=>D2.nx n1 (ρ.set i (.ow d))
theorem Cv{i:Nat}{x:Str}{pos':Pos}(hN:X.N.Nodup)(hi:X.N[i]?=some x)(hx:Loc X.env.scope x)(he:DE X e .fr wa)(hs:autoParam (swapsWith e (some (.Name x pos')) pos.line X.env=pure false) zau3._auto_1)
  (hf:autoParam (X.fn x=true\/X.env.scope.names.lookup x=some .local) zau0._auto_1):DS X κ (.Assign [.Name x pos'] e pos) (DF i wa):=by
 obtain⟨t,a1,a2⟩:=he
 refine⟨_,C_ hN hi hx a1 hs hf,fun C M H n ρ σ D2 E R L w=>?_⟩
 refine a2 C M H n ρ σ _ _ R w fun v H' d n' e1 f1 r1 p=>?_
 obtain⟨a,rfl,h1,h2⟩:=r1
 exact L.nx _ H' n' _ _ (R.setOw e1 f1 h1 h2) p
noncomputable def Oc(i:Nat):AS:=fun D2 n ρ=>∃d,ρ[i]?=some (.ow d)/\D2.rt d n
theorem OH{x:Str}{p:Pos}(i:Nat)(h:PE X (.Name x p) (BG i)):DS X .fr (.Return (some (.Name x p)) pos) (Oc i):=by
 refine⟨_,D4 h,fun C M H n ρ σ D2 E R L ⟨d,hd,hw⟩=>?_⟩
 obtain⟨a,e1,m,nv,t⟩:=R.sl i _ hd
 refine⟨.ref a,getD_some e1,L.rt _ H d n R.ext (R.feed.pres (Pres.less R.sub) fun _ _ _ z=>z) ⟨a,rfl,(R.new i _ a hd rfl e1).2,?_⟩ hw⟩
 exact t.pres (Pres.less fun b z=>z.elim (R.sub b) fun z=>by rw [z]; exact m) fun _ z=>z
noncomputable def LG(K:Frag)(r:V->List V->Hp->VK->Prop)(f:D->List D->(D->D->Prop)->Prop):Prop:=∀(M:Addr->Prop) (H:Hp) (a:Addr) (d:D) (ds:List D) (vs:List V) (P:D->D->Prop) (Q:VK),M a->Tops K M H a d->Ats K M H ds vs->f d ds P ->
 (∀o e z v,Tops K M (Aw H a o) a e->At K M (Aw H a o) z v->P e z->Q v (Aw H a o))->r (.ref a) vs H Q
noncomputable def Qc(i:Nat)(T:String)(f:D->List D->(D->D->Prop)->Prop)(ws:Dw):AS:=fun D2 n ρ=>∃d,ρ[i]?=some (.ow d)/\R6 T d/\ws n ρ fun ds n1=>f d ds fun e _=>D2.nx n1 (ρ.set i (.ow e))
theorem Cs{M:Addr->Prop}{H:Hp}{a:Addr}{o u:HO}(m:M a)(e:H a=some u)(t:autoParam (∀vs,u≠.tup vs) zau8._auto_1):Pres M H M (Aw H a o):=⟨fun b o' q nb=>by rw [AL (fun z=>nb (by rw [z]; exact m))]; exact q,fun _ z=>.inl z,fun b vs q=>by rw [AL (fun z=>by rw [z,e] at q; exact t vs (Option.some.inj q))]; exact q⟩
theorem IM{x name:Str}{p apos cpos:Pos}{T id:String}{r:V->List V->Hp->VK->Prop}{f:D->List D->(D->D->Prop)->Prop}{es:List Expr}{ws:Dw}(i:Nat)(pa:PlainAttrs T)(slot:PySem.Slot T name id)(hty:typeOf (.builtin id)=pure (.type "method_descriptor"))
  (hm:Qi X id r) (hA:LG X.K r f) (h:PE X (.Name x p) (BG i)) (ha:Qk X (e::es) ws)
  (hbase:autoParam (attributeBase (.Name x p) name X.env (eval (.Name x p) X.env)=eval (.Name x p) X.env) zau3._auto_1)
  (hfew:autoParam (((backTo cpos (starEach (e::es) X.env)).all (fun x=>!x.1)&&(backToKw cpos (keywordEach [] X.env)).all (fun x=>x.1.isSome)
   && decide ((e::es).length+([]:List Keyword).length+(if ([]:List Keyword).isEmpty then 0 else 1)<30))=true) zau3._auto_1)
  (hline:autoParam ((apos.endLine==cpos.line)=true) zau3._auto_1) (hs:autoParam (starEach (e::es) X.env=(false,eval e X.env)::starEach es X.env) zau3._auto_1) (hplain:autoParam ((backTo cpos (starEach es X.env)).any (·.1)=false) zau3._auto_1)
  (hsw:autoParam (swapsWith (.Call (.Attribute (.Name x p) name apos) (e::es) [] cpos) none pos.line X.env=pure false) zau3._auto_1) :
  DS X κ (.Expr (.Call (.Attribute (.Name x p) name apos) (e::es) [] cpos) pos) (Qc i T f ws):=by
 obtain⟨t,a1,a2⟩:=ha
 refine⟨_,Jm (O2 pa slot hty hm h a1 hbase hfew hline hs hplain) hsw,fun C M H n ρ σ D2 E R L ⟨d,hd,hT,hw⟩=>?_⟩
 obtain⟨a,e1,m,nv,tt⟩:=R.sl i _ hd
 refine⟨.ref a,getD_some e1,JI hT (tt.att nv),?_⟩
 refine a2 C M H n ρ σ _ _ R hw fun vs H1 ds n1 ee f1 r1 p=>?_
 have R1:=R.step ee f1
 obtain⟨a',e1',m',nv',tt'⟩:=R1.sl i _ hd
 rw [e1] at e1'
 cases e1'
 exact hA M H1 a d ds vs _ _ m' tt' r1 p fun o d' z v t2 hz pp=>L.nx M _ n1 _ σ (R1.mut hd e1 t2) pp
noncomputable def Mb(d:D)(ds:List D)(P:D->D->Prop):Prop:=∃xs y,d=.lst xs/\ds=[y]/\xs.length<sizeLine/\P (.lst (xs++[y])) .non
theorem KO{K:Frag}:LG K Jj Mb:=by
 intro M H a d ds vs P Q m t hv w q
 obtain⟨xs,y,rfl,rfl,hl,w⟩:=w
 obtain⟨us,h1,h2⟩:=t
 obtain⟨u,r,rfl,hu,hr⟩:=hv
 cases (show r=[] from hr)
 refine⟨a,us,u,rfl,rfl,h1,by rw [h2.length]; exact hl,q _ (.lst (xs++[y])) .non _ ⟨us++[u],AM,?_⟩ rfl w⟩
 exact(h2.append (Ats.one hu)).pres (Cs m h1)
noncomputable def RU(d:D)(ds:List D)(P:D->D->Prop):Prop:=∃xs ys,d=.lst xs/\ds=[.lst ys]/\xs.length+ys.length<=sizeLine/\P (.lst (xs++ys)) .non
theorem Rl{K:Frag}:LG K Ji RU:=by
 intro M H a d ds vs P Q m t hv w q
 obtain⟨xs,ys,rfl,rfl,hl,w⟩:=w
 obtain⟨us,h1,h2⟩:=t
 obtain⟨u,r,rfl,hu,hr⟩:=hv
 cases (show r=[] from hr)
 obtain⟨b,zs,rfl,hb,hz⟩:=hu
 refine⟨a,b,us,zs,rfl,rfl,h1,hb.2,by rw [h2.length,hz.length]; exact hl,q _ (.lst (xs++ys)) .non _ ⟨us++zs,AM,?_⟩ rfl w⟩
 exact(h2.append hz).pres (Cs m h1)
end
noncomputable def Yields(K:Frag)(M:Addr->Prop)(H:Hp)(J:It)(ds:List D):Prop:=∀(i:Nat) (M':Addr->Prop) (H':Hp),Pres M H M' H'->(∀a,M' a->∃o,H' a=some o) ->
 (∀d,ds[i]?=some d->J.go i H'/\∀x H2,J.yld i H' x H2->Grow H' H2/\At K M' H2 d x)/\(ds.length<=i->J.stop i H')
noncomputable def KP(K:Frag)(U M:Addr->Prop)(H:Hp)(J:It)(ds:List D):Prop:=∀(i:Nat) (M':Addr->Prop) (H':Hp),Pres M H M' H'->Ext U H H'->(∀a,M' a->∃o,H' a=some o) ->
 (∀d,ds[i]?=some d->J.go i H'/\∀x H2,J.yld i H' x H2->Grow H' H2/\At K M' H2 d x)/\(ds.length<=i->J.stop i H')
theorem Yields.e{K:Frag}{U M:Addr->Prop}{H:Hp}{J:It}{ds:List D}(h:Yields K M H J ds):KP K U M H J ds:=fun i M' H' p _ d=>h i M' H' p d
noncomputable def Rt(X:Cx)(tg iter:Expr)(w:Dw):Prop:=∃wi,PI X tg iter wi/\∀(C:Fm) (M:Addr->Prop) (H:Hp) (n:Nat) (ρ:List Slot) (σ:L2.St) (P:List D->Nat->Prop) (R:It->Hp->Prop),Rel X.K C M H n ρ σ->w n ρ P ->
 (∀J H' ds n',Ext C.U H H'->FeedC X.K C.F M H' n'->KP X.K C.U M H' J ds->P ds n'->R J H')->wi σ H R
noncomputable def DI(X:Cx)(tg iter:Expr)(w:Dw):Prop:=∃wi,PI X tg iter wi/\∀(C:Fm) (M:Addr->Prop) (H:Hp) (n:Nat) (ρ:List Slot) (σ:L2.St) (P:List D->Nat->Prop) (R:It->Hp->Prop),Rel X.K C M H n ρ σ->w n ρ P ->
 (∀J H' ds n',Ext C.U H H'->FeedC X.K C.F M H' n'->Yields X.K M H' J ds->P ds n'->R J H')->wi σ H R
noncomputable def signs(x:Str):List D:=x.cps.toList.map fun c=>.str ⟨#[c]⟩
noncomputable def CO(w:DW):Dw:=fun n ρ P=>w n ρ fun d n1=>match d with
 | .lst ds=>P ds n1
 | .tup ds=>P ds n1
 | .str x=>P (signs x) n1
 | _=>False
theorem Ie{K:Frag}{M:Addr->Prop}{H:Hp}{a:Addr}{vs:List V}{ds:List D}(h:NdT M H a vs)(hs:Ats K M H ds vs):Yields K M H (Si K a) ds:=by
 intro i M' H' p _
 have hq:SqT K H' a vs:=(h.pres p).sq
 refine⟨fun d hd=>?_,fun hl=>⟨vs,hq,by rw [hs.length]; exact hl⟩⟩
 obtain⟨v,e,hv⟩:=(hs.pres p).get hd
 refine⟨⟨vs,v,hq,e⟩,fun x H2 y=>?_⟩
 obtain⟨e2,y⟩:=y
 subst e2
 have:some v=some x:=e.symm.trans (y vs hq)
 cases this
 exact⟨.refl,hv⟩
theorem yields_str{K:Frag}{M:Addr->Prop}{H:Hp}{z:Str}:Yields K M H (Sj z) (signs z):=by
 intro i M' H' p _
 refine⟨fun d hd=>?_,fun hl=>?_⟩
 ·unfold signs at hd
  rw [List.getElem?_map] at hd
  have hi:i<z.cps.size:=by
   cases q:z.cps.toList[i]? with
   | none=>rw [q] at hd; cases hd
   | some c=>simpa using (List.getElem?_eq_some_iff.mp q).1
  refine⟨hi,fun x H2 y=>?_⟩
  obtain⟨e2,c,hc,rfl⟩:=y
  subst e2
  have:z.cps.toList[i]?=some c:=by simpa using hc
  rw [this] at hd
  have hd':D.str ⟨#[c]⟩=d:=Option.some.inj hd
  subst hd'
  exact⟨.refl,rfl,by rw [sizeLine_eq]; show 1<=16777216; decide⟩
 ·show z.cps.size<=i
  unfold signs at hl
  simpa using hl
noncomputable def C8(lo:Int)(n:Nat):List D:=(List.range n).map fun(i:Nat)=>.int (lo+(i:Int))
theorem GU{K:Frag}{M:Addr->Prop}{H:Hp}{lo:Int}{m:Nat}:Yields K M H (SA lo m) (C8 lo m):=by
 intro i M' H' p _
 refine⟨fun d hd=>?_,fun hl=>?_⟩
 ·unfold C8 at hd
  rw [List.getElem?_map] at hd
  have hi:i<m:=by
   cases q:(List.range m)[i]? with
   | none=>rw [q] at hd; cases hd
   | some c=>simpa using (List.getElem?_eq_some_iff.mp q).1
  rw [List.getElem?_range hi] at hd
  have hd':D.int (lo+i)=d:=Option.some.inj hd
  subst hd'
  refine⟨hi,fun x H2 y=>?_⟩
  obtain⟨e2,e3⟩:=y
  subst e2
  exact⟨.refl,e3⟩
 ·show m<=i
  unfold C8 at hl
  simpa using hl
section
variable {X:Cx}{tg e e2:Expr}{es:List Expr}{κ:Kd}{wa:DW}{ws:Dw}{p pos:Pos}
noncomputable def Jb(ws:Dw):Dw:=fun n ρ P=>ws n ρ fun ds n1=>∃j:Int,ds=[.int j]/\(-(2 ^ 62)<=j/\j<2 ^ 62)/\P (C8 0 j.toNat) n1
theorem D_(hg:Gl X "range")(hm:X.mg "range"=none)(ha:Qb X [e] ws)(hs:autoParam (starEach [e] X.env=[(false,eval e X.env)]) zau3._auto_1):DI X tg (.Call (.Name "range" p) [e] [] pos) (Jb ws):=by
 obtain⟨t,a1,a2⟩:=ha
 refine⟨_,Kk hg hm a1 hs,fun C M H n ρ σ P Rr R w q=>?_⟩
 refine a2 C M H n ρ σ _ _ R w fun vs H1 ds n1 e1 f1 r1 p=>?_
 obtain⟨j,rfl,hj,p⟩:=p
 cases r1 with
 | cons r rr =>
  cases rr
  have hv:_=V.int j:=r
  exact⟨j,by rw [hv],hj.1,hj.2,q _ H1 _ n1 e1 f1 GU p⟩
theorem DI.c(h:DI X tg e ws):Rt X tg e ws:=by
 obtain⟨wi,a1,a2⟩:=h
 exact⟨wi,a1,fun C M H n ρ σ P Rr R w q=>a2 C M H n ρ σ P Rr R w fun J H' ds n' e1 f1 y p=>q J H' ds n' e1 f1 y.e p⟩
theorem B7(h:DE X e κ wa):Rt X tg e (CO wa):=by
 obtain⟨t,a1,a2⟩:=h
 refine⟨_,Lq a1,fun C M H n ρ σ P Rr R w q=>?_⟩
 refine a2 C M H n ρ σ _ _ R w fun v H1 d n1 e1 f1 r1 p=>?_
 have hv:AtT X.K C.V M H1 d v:=r1.tpOf R.dom R.vM
 cases d with
 | lst ds =>
  obtain⟨a,vs,e,nv,hr,hs⟩:=hv
  refine .inl ⟨a,e,⟨vs,.inl hr⟩,q _ H1 ds n1 e1 f1 (fun i M' H' pr ex _=>?_) p⟩
  have hq:SqL X.K H' a vs:=by
   rcases hr with hr | ⟨o,hr⟩
   ·exact .inl (.inl (ex.keep hr fun z=>nv (R.uV a z)))
   ·exact .inl (.inr ⟨o,ex.keep hr fun z=>nv (R.uV a z)⟩)
  refine⟨fun d hd=>?_,fun hl=>⟨vs,hq,by rw [hs.length]; exact hl⟩⟩
  obtain⟨v,e,hv⟩:=(hs.pres pr).get hd
  refine⟨⟨vs,v,hq,e⟩,fun x H2 y=>?_⟩
  obtain⟨e2,y⟩:=y
  subst e2
  have:some v=some x:=e.symm.trans (y vs hq)
  cases this
  exact⟨.refl,hv⟩
 | tup ds =>
  obtain⟨a,vs,e,hn,hs⟩:=hv
  exact .inr (.inl ⟨a,e,⟨vs,hn.sq⟩,q _ H1 ds n1 e1 f1 (Ie hn hs).e p⟩)
 | str z=>exact .inr (.inr ⟨z,hv.1,q _ H1 _ n1 e1 f1 yields_str.e p⟩)
 | _=>exact p.elim
end
noncomputable abbrev BW:=D->List Slot->(List Slot->Prop)->Prop
noncomputable def DG(X:Cx)(tg:Expr)(b:BW):Prop:=∃g,PG X tg g/\∀(C:Fm) (M:Addr->Prop) (H:Hp) (n:Nat) (ρ:List Slot) (σ:L2.St) (d:D) (v:V) (P:List Slot->Prop) (Q:L2.St->Hp->Prop),Rel X.K C M H n ρ σ->At X.K M H d v->b d ρ P ->
 (∀ρ' σ',Rel X.K C M H n ρ' σ'->P ρ'->Q σ' H)->g v σ H Q
noncomputable def Bi(i:Nat):BW:=fun d ρ P=>P (ρ.set i (.sh d))
theorem Ao{X:Cx}{i:Nat}{x:Str}{pos:Pos}(hN:X.N.Nodup)(hi:X.N[i]?=some x)(hx:Loc X.env.scope x)(hf:autoParam (X.fn x=true\/X.env.scope.names.lookup x=some .local) zau0._auto_1):DG X (.Name x pos) (Bi i) :=
 ⟨_,Nj hN hi hx hf,fun C M H n ρ σ d v P Q R h w q=>q _ _ (R.set h) w⟩
noncomputable def Bc(b:BW)(body:AS)(D2:E2):List D->Nat->List Slot->Prop
 | [],n,ρ=>D2.nx n ρ
 | d::ds,n,ρ=>b d ρ fun ρ1=>body { D2 with nx:=Bc b body D2 ds,ct:=Bc b body D2 ds,bk:=D2.nx } n ρ1
noncomputable def PQ(src:Dw)(b:BW)(body:AS):AS:=fun D2 n ρ=>src n ρ fun ds n1=>Bc b body D2 ds n1 ρ
theorem Rel.unpin{K:Frag}{C:Fm}{p:(Addr->Prop)×Hp}{M:Addr->Prop}{H:Hp}{n:Nat}{ρ:List Slot}{σ:L2.St}(R:Rel K { C with pins:=p::C.pins } M H n ρ σ):Rel K C M H n ρ σ :=
 ⟨R.len,R.sub,R.dom,R.ext,R.fU,R.uV,R.vM,R.feed,R.sl,fun q hq=>R.pin q (List.mem_cons_of_mem _ hq),R.br0,R.new,R.two,R.kept⟩
theorem Rel.pinned{K:Frag}{C:Fm}{M:Addr->Prop}{H:Hp}{n:Nat}{ρ:List Slot}{σ:L2.St}(R:Rel K C M H n ρ σ):Rel K { C with pins:=(M,H)::C.pins } M H n ρ σ :=
 ⟨R.len,R.sub,R.dom,R.ext,R.fU,R.uV,R.vM,R.feed,R.sl,fun q hq=>(List.mem_cons.mp hq).elim (fun e=>e▸Pres.refl M H) (R.pin q),R.br0,R.new,R.two,R.kept⟩
section
variable {X:Cx}{κ:Kd}{tg iter:Expr}{body:List Stmt}{src:Dw}{b:BW}{wb:AS}{pos:Pos}
theorem Mo(hp:PassesOwn (model X.prog X.w) X.A X.env X.xe)(hc:X.calm=true)(hi:DI X tg iter src)(hg:DG X tg b)(hb:NF X κ body wb)
  (hs:autoParam (∀x,foldedSetIterable iter X.env x=pure x) zau2._auto_1):DS X κ (.For tg iter body [] pos) (PQ src b wb):=by
 obtain⟨wi,a1,a2⟩:=hi
 obtain⟨g,g1,g2⟩:=hg
 obtain⟨tb,b1,b2⟩:=hb
 refine⟨_,Ir hp hc a1 g1 b1 hs,fun C M H n ρ σ D2 E R L w=>?_⟩
 refine a2 C M H n ρ σ _ _ R w fun J H1 ds n1 e1 f1 y w1=>?_
 have R1:=R.step e1 f1
 refine⟨fun i m σ' H'=>m=ds.length - i/\i<=ds.length/\∃M' n' ρ',Rel X.K { C with pins:=(M,H1)::C.pins } M' H' n' ρ' σ'/\Bc b wb D2 (ds.drop i) n' ρ',⟨ds.length,by simp,Nat.zero_le _,M,n1,ρ,R1.pinned,w1⟩,?_⟩
 rintro i m σ' H' ⟨rfl,hi,M',n',ρ',R',w'⟩
 have pr:Pres M H1 M' H':=R'.pin (M,H1) List.mem_cons_self
 by_cases hlt:i<ds.length
 ·have ed:ds.drop i=ds[i]::ds.drop (i+1):=List.drop_eq_getElem_cons hlt
  rw [ed] at w'
  obtain⟨go,yl⟩:=(y i M' H' pr R'.dom).1 ds[i] (List.getElem?_eq_getElem hlt)
  refine .inr ⟨go,fun σ2 H2=>∃M2 n2 ρ2,Rel X.K { C with pins:=(M,H1)::C.pins } M2 H2 n2 ρ2 σ2/\Bc b wb D2 (ds.drop (i+1)) n2 ρ2,fun σ2 H2 ⟨M2,n2,ρ2,R2',w2⟩=>⟨ds.length - (i+1),by omega,rfl,hlt,M2,n2,ρ2,R2',w2⟩,fun x H2 hy=>?_⟩
  obtain⟨gr,hx⟩:=yl x H2 hy
  have R2':=R'.step gr.ext (R'.feed.grow gr)
  refine g2 _ M' H2 n' ρ' σ' ds[i] x _ _ R2' hx w' fun ρ3 σ3 R3 w3=>?_
  refine b2 _ M' H2 n' ρ3 σ3 { D2 with nx:=Bc b wb D2 (ds.drop (i+1)),ct:=Bc b wb D2 (ds.drop (i+1)),bk:=D2.nx } _ R3 ⟨fun M4 H4 n4 ρ4 σ4 R4 w4=>⟨M4,n4,ρ4,R4,w4⟩,L.rt,fun M4 H4 n4 ρ4 σ4 R4 w4=>L.nx M4 H4 n4 ρ4 σ4 R4.unpin w4,fun M4 H4 n4 ρ4 σ4 R4 w4=>⟨M4,n4,ρ4,R4,w4⟩⟩ w3
 ·have e:i=ds.length:=by omega
  subst e
  rw [List.drop_length] at w'
  exact .inl ⟨(y _ M' H' pr R'.dom).2 (Nat.le_refl _),L.nx M' H' n' ρ' σ' R'.unpin w'⟩
end
noncomputable def E3(b:BW)(tt:FN)(te:DW)(P:List D->Nat->Prop):List D->List D->Nat->List Slot->Prop
 | [],acc,n,_=>P acc n
 | d::ds,acc,n,ρ=>b d ρ fun ρ1=>tt n ρ1 fun c n1=>if c=true then te n1 ρ1 fun y n2=>E3 b tt te P ds (acc++[y]) n2 ρ1 else E3 b tt te P ds acc n1 ρ1
noncomputable def Kv:Slot->Slot
 | .ow d=>.br d
 | .lt _ d=>.br d
 | s=>s
theorem Ku(s:Slot):(Kv s).owns=false:=by cases s <;> rfl
theorem CQ{js:List (Option Nat)}{ρ:List Slot}{i:Nat}{s:Slot}(h:(js.map fun o=>match o with | some i=>Kv ((ρ[i]?).getD .no) | none=>Slot.no)[i]?=some s):s.owns=false:=by
 rw [List.getElem?_map] at h
 cases q:js[i]? with
 | none=>rw [q] at h; cases h
 | some o =>
  rw [q] at h
  cases o with
  | none =>
   have e:Slot.no=s:=Option.some.inj h
   rw [← e]; rfl
  | some j =>
   have e:Kv ((ρ[j]?).getD .no)=s:=Option.some.inj h
   rw [← e]; exact Ku _
noncomputable def Dc(js:List (Option Nat))(ρ:List Slot):List Slot:=js.map fun o=>match o with
 | some i=>Kv ((ρ[i]?).getD .no)
 | none=>.no
noncomputable def CT(js:List (Option Nat))(src:Dw)(b:BW)(tt:FN)(te:DW):DW:=fun n ρ P=>src n ρ fun ds n1=>ds.length<=10000000/\E3 b tt te (fun acc n2=>P (.lst acc) n2) ds [] n1 (Dc js ρ)
noncomputable def SE(X:Cx)(ifs:List Expr)(w:FN):Prop:=∃t,R9 X ifs t/\∀(C:Fm) (M:Addr->Prop) (H:Hp) (n:Nat) (ρ:List Slot) (σ:L2.St) (P:Bool->Nat->Prop) (Q:Bool->Hp->Prop),Rel X.K C M H n ρ σ->w n ρ P ->
 (∀b H' n',Ext C.U H H'->FeedC X.K C.F M H' n'->P b n'->Q b H')->t σ H Q
noncomputable def ET:FN:=fun n _ P=>P true n
theorem Bx{X:Cx}:SE X [] ET:=⟨_,Ng,fun C M H n ρ σ P Q R w q=>q true H n (Ext.refl _ _) R.feed w⟩
theorem Fw{js:List (Option Nat)}{ρ:List Slot}{σ:L2.St}{i:Nat}{s:Slot}(hs:(Dc js ρ)[i]?=some s):s=.no\/∃(j:Nat) (s':Slot),ρ[j]?=some s'/\s=Kv s'/\((Bn js σ)[i]?).getD none=(σ[j]?).getD none:=by
 unfold Dc at hs
 unfold Bn
 rw [List.getElem?_map] at hs ⊢
 cases q:js[i]? with
 | none=>rw [q] at hs; cases hs
 | some o =>
  rw [q] at hs
  cases o with
  | none=>exact .inl (Option.some.inj hs).symm
  | some j =>
   have e:Kv ((ρ[j]?).getD .no)=s:=Option.some.inj hs
   cases q2:ρ[j]? with
   | none=>rw [q2] at e; exact .inl e.symm
   | some s' =>
    rw [q2] at e
    exact .inr ⟨j,s',q2,e.symm,rfl⟩
theorem Hv{K:Frag}{F:Option (Addr×Addr)}{U U' M M':Addr->Prop}{H H':Hp}{js:List (Option Nat)}{ρ:List Slot}{σ:L2.St}(hsl:∀(i:Nat) (s:Slot),ρ[i]?=some s->SlotOk K F U M H s ((σ[i]?).getD none))
  (pr:Pres M H M' H') (br:∀d v,AtT K U M H d v->AtT K U' M' H' d v):∀(i:Nat) (s:Slot),(Dc js ρ)[i]?=some s->SlotOk K F U' M' H' s (((Bn js σ)[i]?).getD none):=by
 intro i s hs
 rcases Fw (σ:=σ) hs with rfl | ⟨j,s',q,rfl,e⟩
 ·trivial
 ·rw [e]
  have h1:=hsl j s' q
  cases s' with
  | no=>trivial
  | sh d=>obtain⟨v,e1,h2⟩:=h1; exact⟨v,e1,h2.pres pr⟩
  | br d=>obtain⟨v,e1,h2⟩:=h1; exact⟨v,e1,br d v h2⟩
  | fd=>exact h1
  | ow d=>obtain⟨a,e1,_,nv,t⟩:=h1; exact⟨.ref a,e1,br d _ (t.att nv)⟩
  | lt a d=>obtain⟨e1,_,nv,t⟩:=h1; exact⟨.ref a,e1,br d _ (t.att nv)⟩
theorem Jt{K:Frag}{F:Option (Addr×Addr)}{U M:Addr->Prop}{H:Hp}{js:List (Option Nat)}{ρ:List Slot}{σ:L2.St}(hsl:∀(i:Nat) (s:Slot),ρ[i]?=some s->SlotOk K F U M H s ((σ[i]?).getD none)){i:Nat}{d:D}{a:Addr}
  (hs:(Dc js ρ)[i]?=some (.br d)) (ha:((Bn js σ)[i]?).getD none=some (.ref a)):∃o,H a=some o:=by
 rcases Fw (σ:=σ) hs with z | ⟨j,s',q,z,e⟩
 ·cases z
 ·rw [e] at ha
  have h1:=hsl j s' q
  rw [ha] at h1
  cases s' with
  | br d=>obtain⟨v,e1,h2⟩:=h1; cases e1; exact h2.lies
  | ow d=>obtain⟨b,e1,_,nv,t⟩:=h1; cases e1; exact(t.att nv).lies
  | lt b d=>obtain⟨e1,_,nv,t⟩:=h1; cases e1; exact(t.att nv).lies
  | no=>cases z
  | sh d=>cases z
  | fd=>cases z
section
variable {X:Cx}{κe:Kd}{tg elt iter:Expr}{ifs:List Expr}{sc:Scope}{pos:Pos}{src:Dw}{b:BW}{tt:FN}{te:DW}
theorem B8(hc:X.calm=true)(N':List Str)(js:List (Option Nat))(hi:Rt X tg iter src)(hg:∀cl C s H fp,DG (Ad X sc N' cl C s H fp) tg b)(ht:∀cl C s H fp,SE (Ad X sc N' cl C s H fp) ifs tt)(he:∀cl C s H fp,DE (Ad X sc N' cl C s H fp) elt κe te)
  (hB:FG sc X.env.scope X.N N' js=true) (hk:autoParam (κe≠.tp) zau7._auto_1)
  (hs:autoParam (∀x,foldedSetIterable iter X.env x=pure x) zau2._auto_1):DE X (.ListComp elt [⟨tg,iter,ifs,0⟩] sc pos) .fr (CT js src b tt te):=by
 obtain⟨wi,a1,a2⟩:=hi
 refine⟨_,Np hc N' js a1 hB hs,fun C M H n ρ σ P Q R w q=>?_⟩
 refine a2 C M H n ρ σ _ _ R w fun J H1 ds n1 e1 f1 y w1=>?_
 obtain⟨hlen,w1⟩:=w1
 have R1:=R.step e1 f1
 intro l hl hkl cl Ca s0 H0 fp
 obtain⟨g,g1,g2⟩:=hg cl Ca s0 H0 fp
 obtain⟨tc,c1,c2⟩:=ht cl Ca s0 H0 fp
 obtain⟨tx,x1,x2⟩:=he cl Ca s0 H0 fp
 have noU:¬C.U l:=fun z=>by
  obtain⟨o,z⟩:=R1.udom l z
  rw [hl] at z; cases z
 generalize hM':(fun b=>M b\/b=l)=M'
 have M'l:M' l:=by rw [← hM']; exact .inr rfl
 have M'of:∀b,M b->M' b:=fun b z=>by rw [← hM']; exact .inl z
 have ofM':∀b,M' b->M b\/b=l:=fun b z=>by rw [← hM'] at z; exact z
 have inV:∀b,C.V b\/b=l->M' b:=fun b z=>z.elim (fun z=>M'of b (R1.vM b z)) fun z=>by rw [z]; exact M'l
 have lenj:js.length=N'.length:=Ce (CompOk.of hB).cap
 refine⟨g,tc,tx,fun i m σ' H'=>m=ds.length - i/\i<=ds.length/\∃n' ρ' acc vs,Rel X.K ⟨M',C.F,C.U,fun b=>C.V b\/b=l,H1,[],[]⟩ M' H' n' ρ' σ'/\H' l=some (.lst vs)/\Ats X.K M' H' acc vs/\acc.length<=i/\Pres M H1 M' H' /\
   E3 b tt te (fun acc n2=>P (.lst acc) n2) (ds.drop i) acc n' ρ',g1,c1,x1,⟨ds.length,by simp,Nat.zero_le _,n1,Dc js ρ,[],[],?_⟩,?_⟩
 ·have gr:Grow H1 (Aw H1 l (.lst [])):=Ag hl
  have pr:Pres M H1 M' (Aw H1 l (.lst [])):=⟨fun b o e _=>gr.all b o e,fun b z=>(ofM' b z).elim .inl fun z=>.inr (by rw [z]; exact hl),fun b vs e=>gr.all b _ e⟩
  refine⟨⟨?_,fun a z=>z,fun a z=>?_,gr.ext,R1.fU,fun a z=>.inl (R1.uV a z),inV,f1.pres pr fun f o _ e=>gr.all f.1 o e,?_,fun p hp=>absurd hp (by simp),fun i d a q z=>Jt R1.sl q z,fun i s a q o _=>absurd o (by rw [CQ q]; decide),fun i j s t a q o _ _ _ _=>absurd o (by rw [CQ q]; decide),fun p hp=>absurd hp (by simp)⟩,AM,rfl,Nat.zero_le _,pr,w1⟩
  ·unfold Dc Bn
   rw [List.length_map,List.length_map]
  ·rcases ofM' a z with z | z
   ·obtain⟨o,z⟩:=R1.dom a z
    exact⟨o,gr.all a o z⟩
   ·subst z
    exact⟨_,AM⟩
  ·refine Hv R1.sl pr fun d v h=>h.same pr (fun a o _ e=>gr.all a o e) fun a e n1 z=>z.elim n1 fun z=>?_
   subst e
   obtain⟨o,w⟩:=h.lies
   rw [z,hl] at w
   cases w
 ·rintro i m σ' H' ⟨rfl,hi,n',ρ',acc,vs,R',hlv,hac,hal,pr,w'⟩
  by_cases hlt:i<ds.length
  ·have ed:ds.drop i=ds[i]::ds.drop (i+1):=List.drop_eq_getElem_cons hlt
   rw [ed] at w'
   obtain⟨go,yl⟩:=(y i M' H' pr R'.ext R'.dom).1 ds[i] (List.getElem?_eq_getElem hlt)
   refine .inr ⟨go,fun x H2 hy=>?_⟩
   obtain⟨gr,hx⟩:=yl x H2 hy
   have R2':=R'.step gr.ext (R'.feed.grow gr)
   refine g2 _ M' H2 n' ρ' σ' ds[i] x _ _ R2' hx w' fun ρ3 σ3 R3 w3=>?_
   refine c2 _ M' H2 n' ρ3 σ3 _ _ R3 w3 fun c H4 n4 e4 f4 w4=>?_
   have R4:=R3.step e4 f4
   have p4:Pres M' H' M' H4:=gr.pres.trans (R3.pres e4)
   have l4:H4 l=some (.lst vs):=e4.keep (gr.all _ _ hlv) noU
   cases c with
   | false=>exact⟨ds.length - (i+1),by omega,rfl,hlt,n4,ρ3,acc,vs,R4,l4,hac.pres p4,by omega,pr.trans p4,w4⟩
   | true =>
    refine x2 _ M' H4 n4 ρ3 σ3 _ _ R4 w4 fun yv H5 d5 n5 e5 f5 r5 w5=>?_
    have R5:=R4.step e5 f5
    have p5:Pres M' H4 M' H5:=R4.pres e5
    have l5:H5 l=some (.lst vs):=e5.keep l4 noU
    have hy5:=r5.shOf R4.dom hk
    have a5:=(hac.pres p4).pres p5
    have pu:Pres M' H5 M' (Aw H5 l (.lst (vs++[yv]))):=Cs M'l l5
    have hvl:vs.length=acc.length:=hac.length
    refine⟨vs,l5,by rw [sizeLine_eq]; omega,ds.length - (i+1),by omega,rfl,hlt,n5,ρ3,acc++[d5],vs++[yv],?_,AM,(a5.append (Ats.one hy5)).pres pu,by rw [List.length_append,List.length_singleton]; omega,(pr.trans p4).trans (p5.trans pu),w5⟩
    refine⟨R5.len,R5.sub,fun a z=>?_,fun b o e=>?_,R5.fU,R5.uV,R5.vM,?_,fun j s hs=>?_,fun p hp=>absurd hp (by simp),R5.br0,R5.new,R5.two,fun p hp=>absurd hp (by simp)⟩
    ·by_cases ha:a=l
     ·subst ha; exact⟨_,AM⟩
     ·rw [AL ha]; exact R5.dom a z
    ·obtain⟨o',q1,q2⟩:=R5.ext b o e
     by_cases hb:b=l
     ·subst hb
      have e':H1 b=some o:=e
      rw [hl] at e'; cases e'
     ·exact⟨o',by rw [AL hb]; exact q1,q2⟩
    ·refine f5.pres pu fun f o hf e=>?_
     rw [AL (fun z=>noU (by rw [← z]; exact R1.fU f hf))]
     exact e
    ·have hs5:=R5.sl j s hs
     cases s with
     | no=>trivial
     | sh d=>obtain⟨v,e1,h2⟩:=hs5; exact⟨v,e1,h2.pres pu⟩
     | br d =>
      obtain⟨v,e1,h2⟩:=hs5
      refine⟨v,e1,h2.same pu (fun a o z e=>?_) fun _ _ z=>z⟩
      subst z
      obtain⟨o3,w⟩:=R5.br0 j d a hs e1
      have hal:a≠l:=fun z=>by
       have w':H1 a=some o3:=w
       rw [z,hl] at w'; cases w'
      rw [AL hal]; exact e
     | ow d =>
      obtain⟨a,e1,h2,_⟩:=hs5
      exact absurd h2 (R5.new j _ a hs rfl e1).1
     | lt a d =>
      obtain⟨e1,h2,_⟩:=hs5
      exact absurd h2 (R5.new j _ a hs rfl e1).1
     | fd=>exact hs5
  ·have e:i=ds.length:=by omega
   subst e
   rw [List.drop_length] at w'
   refine .inl ⟨(y _ M' H' pr R'.ext R'.dom).2 (Nat.le_refl _),?_⟩
   have eb:Ext C.U H1 H':=R'.ext
   have less:Pres M' H' M H':=Pres.less M'of
   refine q _ H' (.lst acc) n' (e1.trans eb) (R'.feed.pres less fun _ _ _ z=>z) (VR.back e1 ?_) w'
   exact⟨l,rfl,hl,vs,hlv,by rw [hM']; exact hac⟩
end
theorem Kf{K:Frag}{F:Option (Addr×Addr)}{U V' M:Addr->Prop}{H:Hp}{n:Nat}{ss:List Slot}{vs:List V}{N:List Str}(h:Rm K F U V' M H n ss vs)(hl:vs.length<=N.length) :
  Rel K ⟨M,F,U,V',H,[],[]⟩ M H n (ss++List.replicate (N.length - ss.length) .no) (L2.start N vs):=by
 obtain⟨dom,fU,uV,vM,fd,pa⟩:=h
 have el:vs.length=ss.length:=Paired.length pa
 have go:∀{vs:List V} {ss:List Slot} {i:Nat} {s:Slot},Paired (GT K F V' M H) vs ss->ss[i]?=some s->∃v,vs[i]?=some v/\GT K F V' M H v s:=by
  intro vs ss i s pa
  induction pa generalizing i with
  | nil=>intro e; simp at e
  | cons r t ih =>
   intro e
   cases i with
   | zero=>simp at e; subst e; exact⟨_,rfl,r⟩
   | succ i =>
    obtain⟨v,e1,h1⟩:=ih (i:=i) (by simpa using e)
    exact⟨v,by simpa using e1,h1⟩
 have at_:∀(i:Nat) (s:Slot),(ss++List.replicate (N.length - ss.length) Slot.no)[i]?=some s->s=.no\/∃v,((L2.start N vs)[i]?).getD none=some v/\GT K F V' M H v s:=by
  intro i s hs
  by_cases hi:i<ss.length
  ·rw [List.getElem?_append_left hi] at hs
   obtain⟨v,e1,h1⟩:=go pa hs
   refine .inr ⟨v,?_,h1⟩
   unfold L2.start
   rw [List.getElem?_append_left (by rw [List.length_map,el]; exact hi),List.getElem?_map,e1]
   rfl
  ·rw [List.getElem?_append_right (by omega),List.getElem?_replicate] at hs
   split at hs
   ·exact .inl (Option.some.inj hs).symm
   ·cases hs
 refine⟨?_,fun a z=>z,dom,Ext.refl _ _,fU,uV,vM,fd,fun i s hs=>?_,fun p hp=>absurd hp (by simp),fun i d a hs ha=>?_,fun i s a hs o _=>?_,fun i j s t a hs o _ _ _ _=>?_,fun p hp=>absurd hp (by simp)⟩
 ·unfold L2.start
  simp only [List.length_append,List.length_map,List.length_replicate]
  omega
 ·rcases at_ i s hs with rfl | ⟨v,e,h⟩
  ·trivial
  ·rw [e]; exact h.1
 ·rcases at_ i _ hs with z | ⟨v,e,h⟩
  ·cases z
  ·rw [e] at ha
   cases ha
   obtain⟨v,e1,h1⟩:=h.1
   cases e1
   exact h1.lies
 ·rcases at_ i s hs with rfl | ⟨v,e,h⟩
  ·cases o
  ·rw [h.2] at o; cases o
 ·rcases at_ i s hs with rfl | ⟨v,e,h⟩
  ·cases o
  ·rw [h.2] at o; cases o
theorem IG{P:Program}{w:World}{K:Frag}{mg:Str->Option Value}{base:Heap}{x qual:Str}{st:Stmt}{f:Addr}{fd:FuncData}{N ps:List Str}{k:Nat}{κ:Kd}{W:W2}{wb:AS}(F:Fun K x qual st f fd)(S:AY N ps (AC st))(hNp:ps.length<=N.length)
  (hb:∀(cdv:Value) (A:Around) (outer:List Env) (s:Shared) (H:Hp) (E:XK),Room k (A.deeper (envOfC qual (AC st) s.heap.objs.size f cdv))->NF (G_ Cq P w K mg base N qual (AC st) f cdv A outer s H E).nox κ (AT st) wb)
  (hW:∀ss n Pd,ss.length=ps.length->W ss n Pd->wb { nx:=fun n _=>κ=.sh/\Pd .non n,rt:=Pd } n (ss++List.replicate (N.length - ps.length) .no)) :
  BE P w K mg base Cq (k+1) f fd ps (EY K κ W ps.length):=by
 refine F.ok S (fun vs H Q E h=>h.1) (fun cdv A outer s H vs Q E hr h=>?_)
 obtain⟨hl,F0,U,V',M,n,ss,Pd,ra,hw,q⟩:=h
 obtain⟨t,t1,t2⟩:=hb cdv A outer s H E hr
 refine⟨t,t1,?_⟩
 have el:vs.length=ss.length:=Paired.length ra.2.2.2.2.2
 have R:=Kf (N:=N) ra (by omega)
 refine t2 ⟨M,F0,U,V',H,[],[]⟩ M H n _ _ { nx:=fun n _=>κ=.sh/\Pd .non n,rt:=Pd } _ R ⟨fun M1 H1 n1 ρ1 σ1 R1 p=>?_,fun v H1 d n1 e1 f1 r1 p=>q v H1 d n1 e1 f1 r1 p,fun _ _ _ _ _ _ z=>z.elim,fun _ _ _ _ _ _ z=>z.elim⟩ ?_
 ·obtain⟨hk,p⟩:=p
  subst hk
  exact q .non H1 .non n1 R1.ext (R1.feed.pres (Pres.less R1.sub) fun _ _ _ z=>z) rfl p
 ·have e:ss.length=ps.length:=by omega
  have h1:=hW ss n Pd e hw
  rw [← e] at h1
  exact h1
end Dp
namespace L2
open PySem PySem.Spec PyProof.Rows
section
variable {X:Cx}
theorem Inv.rdl{pins:List (Addr×Obj)}{σ:L2.St}{H:Hp}{s:Shared}{l:Addr}{xs:List V}(I:Inv X pins σ H s)(h:Rd H l (.lst xs)):xs.length<=sizeLine/\∃(its:List Value) (n:Nat),Vals xs its/\xs.length=its.length/\s.heap.get? l=some { cls:=.type "list",data:=.seq its.toArray n }:=by
 obtain⟨z,its,n,r,e⟩:=h.ok I.hok
 exact⟨z,its,n,r,r.length,e⟩
theorem Js:OpR X (binaryOp .Add) (fun x y H Q=>∃l b xs zs,x=.ref l/\y=.ref b/\Rd H l (.lst xs)/\Rd H b (.lst zs)/\xs.length+zs.length<=sizeLine/\∀p,H p=none->Q (.ref p) (Aw H p (.lst (xs++zs)))):=by
 intro pins s σ H x y v u Q I rx ry h
 obtain⟨l,b,xs,zs,rfl,rfl,hH,hB,hz,q⟩:=h
 cases rx
 cases ry
 obtain⟨z,its,n,r,hl,e⟩:=I.rdl hH
 obtain⟨z2,its2,n2,r2,hl2,e2⟩:=I.rdl hB
 refine PySem.P.add_list e e2 ?_ (by rw [List.size_toArray,List.size_toArray]; omega)
 have ea:its.toArray++its2.toArray=(its++its2).toArray:=by simp
 rw [ea]
 exact⟨.ref _,_,I.lnew (t':=s.toks) (r.append r2) (by rw [List.length_append]; omega),rfl,q _ I.fresh⟩
end
end L2
namespace Dp
open PySem PySem.Spec PyProof.Rows L2
section
variable {K:Frag}
theorem AtT.int{U M:Addr->Prop}{H:Hp}{i:Int}{v:V}(h:AtT K U M H (.int i) v):v=.int i:=h
theorem AtT.bl{U M:Addr->Prop}{H:Hp}{i:Bool}{v:V}(h:AtT K U M H (.bl i) v):v=.bl i:=h
theorem AtT.str{U M:Addr->Prop}{H:Hp}{x:Str}{v:V}(h:AtT K U M H (.str x) v):v=.str x/\x.length<=sizeLine:=h
theorem AtT.tup{U M:Addr->Prop}{H:Hp}{ds:List D}{v:V}(h:AtT K U M H (.tup ds) v):∃a vs,v=.ref a/\NdT M H a vs/\Ats K M H ds vs:=h
noncomputable def R8(g:Int->Int->(D->Prop)->Prop)(d e:D)(P:D->Prop):Prop:=match d,e with
 | .int i,.int j=>g i j P
 | _,_=>False
theorem G4{g:Int->Int->(D->Prop)->Prop}{d e:D}{P:D->Prop}(w:R8 g d e P):∃i j,d=.int i/\e=.int j/\g i j P:=by
 unfold R8 at w
 split at w
 ·exact⟨_,_,rfl,rfl,w⟩
 ·exact w.elim
noncomputable def f2(g:Int->Int->D):D->D->(D->Prop)->Prop:=R8 fun i j P=>P (g i j)
noncomputable def Qg(C:Int->Int->Prop)(g:Int->Int->D):D->D->(D->Prop)->Prop:=R8 fun i j P=>C i j/\P (g i j)
theorem NB{g:Int->Int->Int}:Co K .sh (EW fun i j=>.int (g i j)) (f2 fun i j=>.int (g i j)):=by
 intro U M H d e x y P Q dom vM hx hy w q
 obtain⟨i,j,rfl,rfl,w⟩:=G4 w
 exact⟨i,j,hx,hy,q _ H (.int (g i j)) .refl rfl w⟩
theorem JZ{g:Int->Int->Bool}:Co K .sh (EW fun i j=>.bl (g i j)) (f2 fun i j=>.bl (g i j)):=by
 intro U M H d e x y P Q dom vM hx hy w q
 obtain⟨i,j,rfl,rfl,w⟩:=G4 w
 exact⟨i,j,hx,hy,q _ H (.bl (g i j)) .refl rfl w⟩
theorem EA{C:Int->Int->Prop}{g:Int->Int->Int}:Co K .sh (rI C fun i j=>.int (g i j)) (Qg C fun i j=>.int (g i j)):=by
 intro U M H d e x y P Q dom vM hx hy w q
 obtain⟨i,j,rfl,rfl,w⟩:=G4 w
 exact⟨i,j,hx,hy,w.1,q _ H (.int (g i j)) .refl rfl w.2⟩
noncomputable def Qf(g:Str->Str->(D->Prop)->Prop)(d e:D)(P:D->Prop):Prop:=match d,e with
 | .str i,.str j=>g i j P
 | _,_=>False
theorem J2{g:Str->Str->(D->Prop)->Prop}{d e:D}{P:D->Prop}(w:Qf g d e P):∃i j,d=.str i/\e=.str j/\g i j P:=by
 unfold Qf at w
 split at w
 ·exact⟨_,_,rfl,rfl,w⟩
 ·exact w.elim
theorem JY{g:Str->Str->Bool}:Co K .sh (fun x y H Q=>∃i j,x=.str i/\y=.str j/\Q (.bl (g i j)) H) (Qf fun i j P=>P (.bl (g i j))):=by
 intro U M H d e x y P Q dom vM hx hy w q
 obtain⟨i,j,rfl,rfl,w⟩:=J2 w
 exact⟨i,j,hx.1,hy.1,q _ H (.bl (g i j)) .refl rfl w⟩
theorem LF:Co K .sh (fun x y H Q=>∃i j,x=.str i/\y=.str j/\i.length+j.length<=sizeLine/\Q (.str (i++j)) H) (Qf fun i j P=>i.length+j.length<=sizeLine/\P (.str (i++j))):=by
 intro U M H d e x y P Q dom vM hx hy w q
 obtain⟨i,j,rfl,rfl,w⟩:=J2 w
 exact⟨i,j,hx.1,hy.1,w.1,q _ H (.str (i++j)) .refl ⟨rfl,by rw [show (i++j).length=i.length+j.length from Str.length_append i j]; exact w.1⟩ w.2⟩
noncomputable def Sa(g:List D->List D->(D->Prop)->Prop)(d e:D)(P:D->Prop):Prop:=match d,e with
 | .tup i,.tup j=>g i j P
 | _,_=>False
noncomputable def R7(g:List D->List D->(D->Prop)->Prop)(d e:D)(P:D->Prop):Prop:=match d,e with
 | .lst i,.lst j=>g i j P
 | _,_=>False
theorem OB{g:List D->List D->(D->Prop)->Prop}{d e:D}{P:D->Prop}(w:Sa g d e P):∃i j,d=.tup i/\e=.tup j/\g i j P:=by
 unfold Sa at w
 split at w
 ·exact⟨_,_,rfl,rfl,w⟩
 ·exact w.elim
theorem OC{g:List D->List D->(D->Prop)->Prop}{d e:D}{P:D->Prop}(w:R7 g d e P):∃i j,d=.lst i/\e=.lst j/\g i j P:=by
 unfold R7 at w
 split at w
 ·exact⟨_,_,rfl,rfl,w⟩
 ·exact w.elim
theorem Df{M:Addr->Prop}{H:Hp}{p:Addr}{vs:List V}{ds:List D}(dom:∀a,M a->∃o,H a=some o)(hp:H p=none)(h:Ats K M H ds vs):At K M (Aw H p (.tup vs)) (.tup ds) (.ref p):=by
 exact⟨p,vs,rfl,AM,h.pres (Ag hp).pres⟩
theorem B3{U M:Addr->Prop}{H:Hp}{p:Addr}{vs:List V}{ds:List D}(hp:H p=none)(h:Ats K M H ds vs):VR K U M H (Aw H p (.lst vs)) .fr (.ref p) (.lst ds) :=
 ⟨p,rfl,hp,vs,AM,h.pres (E_ hp)⟩
theorem LE:Co K .sh (Lh K) (Sa fun i j P=>i≠[]/\i.length+j.length<=sizeLine/\P (.tup (i++j))):=by
 intro U M H d e x y P Q dom vM hx hy w q
 obtain⟨i,j,rfl,rfl,w⟩:=OB w
 obtain⟨a,vs,rfl,ha,hs⟩:=hx.tup
 obtain⟨b,us,rfl,hb,ht⟩:=hy.tup
 have l1:=hs.length
 have l2:=ht.length
 refine⟨a,b,vs,us,rfl,rfl,ha.sq,hb.sq,fun z=>w.1 ?_,by rw [l1,l2]; exact w.2.1,fun z=>?_,fun z p hp=>?_⟩
 ·rw [z] at l1; exact List.length_eq_zero_iff.mp l1.symm
 ·rw [z] at l2
  have:j=[]:=List.length_eq_zero_iff.mp l2.symm
  subst this
  exact q _ H (.tup i) .refl ⟨a,vs,rfl,ha,hs⟩ (by have:=w.2.2; rw [List.append_nil] at this; exact this)
 ·exact q _ _ (.tup (i++j)) (Ag hp) (Df dom hp (hs.append ht)) w.2.2
theorem GN:Co K .fr (fun x y H Q=>∃l b xs zs,x=.ref l/\y=.ref b/\Rd H l (.lst xs)/\Rd H b (.lst zs)/\xs.length+zs.length<=sizeLine/\∀p,H p=none->Q (.ref p) (Aw H p (.lst (xs++zs)))) (R7 fun i j P=>i.length+j.length<=sizeLine/\P (.lst (i++j))):=by
 intro U M H d e x y P Q dom vM hx hy w q
 obtain⟨i,j,rfl,rfl,w⟩:=OC w
 obtain⟨a,vs,rfl,_,ha,hs⟩:=hx
 obtain⟨b,us,rfl,_,hb,ht⟩:=hy
 exact⟨a,b,vs,us,rfl,rfl,ha,hb,by rw [hs.length,ht.length]; exact w.1,fun p hp=>q _ _ (.lst (i++j)) (Ag hp) (B3 hp (hs.append ht)) w.2⟩
noncomputable def II(neg:Bool)(d e:D)(P:D->Prop):Prop:=match d,e with
 | .bl i,.bl j=>P (.bl (if neg then !(i==j) else i==j))
 | .int i,.int j=>P (.bl (if neg then !(i==j) else i==j))
 | .str i,.str j=>P (.bl (if neg then !(i==j) else i==j))
 | _,_=>False
theorem J3{neg:Bool}{d e:D}{P:D->Prop}(w:II neg d e P):(∃i j,d=.bl i/\e=.bl j/\P (.bl (if neg then !(i==j) else i==j)))\/(∃i j,d=.int i/\e=.int j/\P (.bl (if neg then !(i==j) else i==j)))\/∃i j,d=.str i/\e=.str j/\P (.bl (if neg then !(i==j) else i==j)):=by
 unfold II at w
 split at w
 ·exact .inl ⟨_,_,rfl,rfl,w⟩
 ·exact .inr (.inl ⟨_,_,rfl,rfl,w⟩)
 ·exact .inr (.inr ⟨_,_,rfl,rfl,w⟩)
 ·exact w.elim
theorem HE:Co K .sh Su (II false):=by
 intro U M H d e x y P Q dom vM hx hy w q
 rcases J3 w with ⟨i,j,rfl,rfl,w⟩ | ⟨i,j,rfl,rfl,w⟩ | ⟨i,j,rfl,rfl,w⟩
 ·rw [hx.bl,hy.bl]; exact⟨rfl,q _ H _ .refl (by rw [G8]; rfl) w⟩
 ·rw [hx.int,hy.int]; exact⟨rfl,q _ H _ .refl (by rw [Ee]; rfl) w⟩
 ·rw [hx.str.1,hy.str.1]; exact⟨rfl,q _ H _ .refl (by rw [Ec]; rfl) w⟩
theorem OV:Co K .sh Sq (II true):=by
 intro U M H d e x y P Q dom vM hx hy w q
 rcases J3 w with ⟨i,j,rfl,rfl,w⟩ | ⟨i,j,rfl,rfl,w⟩ | ⟨i,j,rfl,rfl,w⟩
 ·rw [hx.bl,hy.bl]; exact⟨rfl,q _ H _ .refl (by rw [G8]; rfl) w⟩
 ·rw [hx.int,hy.int]; exact⟨rfl,q _ H _ .refl (by rw [Ee]; rfl) w⟩
 ·rw [hx.str.1,hy.str.1]; exact⟨rfl,q _ H _ .refl (by rw [Ec]; rfl) w⟩
noncomputable def Jx:D->Bool
 | .non=>true
 | _=>false
theorem ML{U M:Addr->Prop}{H:Hp}{d:D}{x:V}(h:AtT K U M H d x):decide (x=.non)=Jx d:=by
 cases d with
 | non=>rw [show x=.non from h]; rfl
 | bl b=>rw [h.bl]; rfl
 | int i=>rw [h.int]; rfl
 | str z=>rw [h.str.1]; rfl
 | tup ds=>obtain⟨a,vs,rfl,_⟩:=h.tup; rfl
 | lst ds=>obtain⟨a,vs,rfl,_⟩:=h; rfl
 | dic ks ds=>obtain⟨a,vs,rfl,_⟩:=h; rfl
 | fdi ks ds=>obtain⟨a,vs,rfl,_⟩:=h; rfl
 | dit ks ds=>obtain⟨a,vs,rfl,_⟩:=h; rfl
noncomputable def Di(d e:D)(P:D->Prop):Prop:=match d,e with
 | .lst ds,.int i=>∃z,atI ds i=some z/\P z
 | .tup ds,.int i=>∃z,atI ds i=some z/\P z
 | .str x,.int i=>∃c,atI x.cps.toList i=some c/\P (.str ⟨#[c]⟩)
 | _,_=>False
theorem OD{d e:D}{P:D->Prop}(w:Di d e P):(∃ds i z,d=.lst ds/\e=.int i/\atI ds i=some z/\P z)\/(∃ds i z,d=.tup ds/\e=.int i/\atI ds i=some z/\P z)\/∃x i c,d=.str x/\e=.int i/\atI x.cps.toList i=some c/\P (.str ⟨#[c]⟩):=by
 unfold Di at w
 split at w
 ·obtain⟨z,h1,h2⟩:=w; exact .inl ⟨_,_,z,rfl,rfl,h1,h2⟩
 ·obtain⟨z,h1,h2⟩:=w; exact .inr (.inl ⟨_,_,z,rfl,rfl,h1,h2⟩)
 ·obtain⟨z,h1,h2⟩:=w; exact .inr (.inr ⟨_,_,z,rfl,rfl,h1,h2⟩)
 ·exact w.elim
theorem Ats.atI{M:Addr->Prop}{H:Hp}{ds:List D}{vs:List V}{i:Int}{z:D}(h:Ats K M H ds vs)(e:atI ds i=some z):∃v,L2.atI vs i=some v/\At K M H z v:=by
 unfold L2.atI at e ⊢
 rw [h.length]
 cases q:NJ ds.length i with
 | none=>rw [q] at e; cases e
 | some j =>
  rw [q] at e
  exact h.get e
theorem Bs:Co K .sh (Sr K) Di:=by
 intro U M H d e x y P Q dom vM hx hy w q
 rcases OD w with ⟨ds,i,z,rfl,rfl,hz,w⟩ | ⟨ds,i,z,rfl,rfl,hz,w⟩ | ⟨x,i,c,rfl,rfl,hc,w⟩
 ·obtain⟨a,vs,rfl,_,ha,hs⟩:=hx
  obtain⟨v,hv,hAt⟩:=hs.atI hz
  exact .inl ⟨a,vs,i,v,rfl,hy,.inl ha,hv,q v H z .refl hAt w⟩
 ·obtain⟨a,vs,rfl,ha,hs⟩:=hx.tup
  obtain⟨v,hv,hAt⟩:=hs.atI hz
  exact .inr (.inl ⟨a,vs,i,v,rfl,hy,ha.sq,hv,q v H z .refl hAt w⟩)
 ·exact .inr (.inr ⟨x,i,c,hx.str.1,hy,hx.str.2,hc,q _ H (.str ⟨#[c]⟩) .refl ⟨rfl,by rw [sizeLine_eq]; show 1<=16777216; decide⟩ w⟩)
noncomputable def cutD{α:Type}(xs:List α)(lo hi:Option Int):List α:=(xs.drop (HT.sIx xs.length 0 lo)).take (HT.sIx xs.length xs.length hi - HT.sIx xs.length 0 lo)
theorem CK{R:V->D->Prop}{vs:List V}{d:D}(h:Paired R vs [d]):∃v,vs=[v]/\R v d:=by
 cases h with
 | cons r t=>cases t; exact⟨_,rfl,r⟩
noncomputable def SU:D->Option Nat
 | .str x=>some x.length
 | .tup xs=>some xs.length
 | .lst xs=>some xs.length
 | _=>none
noncomputable def CZ(ds:List D)(P:D->Prop):Prop:=∃d n,ds=[d]/\SU d=some n/\P (.int (n:Int))
theorem B4:B_ K .sh (fun xs H Q=>∃x n,xs=[x]/\QY K x H n/\Q (.int n) H) CZ:=by
 intro U M H ds vs P Q dom vM hp w q
 obtain⟨d,n,rfl,hn,w⟩:=w
 obtain⟨v,rfl,hx⟩:=CK hp
 refine⟨v,n,rfl,?_,q _ H (.int (n:Int)) .refl rfl w⟩
 cases d with
 | str z=>cases hn; rw [hx.str.1]; exact⟨hx.str.2,rfl⟩
 | tup xs =>
  cases hn
  obtain⟨a,us,rfl,ha,hs⟩:=hx.tup
  exact .inr ⟨us,ha.sq,hs.length.symm⟩
 | lst xs =>
  cases hn
  obtain⟨a,us,rfl,_,ha,hs⟩:=hx
  exact .inl ⟨us,.inl ha,hs.length.symm⟩
 | _=>cases hn
noncomputable def allB:List D->Option (List Bool)
 | []=>some []
 | .bl b::r=>(allB r).map (b::·)
 | _::_=>none
theorem KI{M:Addr->Prop}{H:Hp}:∀{ds:List D} {vs:List V} {bs:List Bool},allB ds=some bs->Ats K M H ds vs->vs=bs.map V.bl
 | [],vs,bs,e,h=>by cases e; exact h
 | .bl b::r,vs,bs,e,h=>by
  obtain⟨v,r',e1,h1,h2⟩:=h
  unfold allB at e
  obtain⟨bs',e2,rfl⟩:=Option.map_eq_some_iff.mp e
  rw [e1,KI e2 h2,show v=.bl b from h1]
  rfl
 | .non::r,vs,bs,e,h=>by unfold allB at e; cases e
 | .int _::r,vs,bs,e,h=>by unfold allB at e; cases e
 | .str _::r,vs,bs,e,h=>by unfold allB at e; cases e
 | .tup _::r,vs,bs,e,h=>by unfold allB at e; cases e
 | .lst _::r,vs,bs,e,h=>by unfold allB at e; cases e
 | .dic _ _::r,vs,bs,e,h=>by unfold allB at e; cases e
 | .fdi _ _::r,vs,bs,e,h=>by unfold allB at e; cases e
 | .dit _ _::r,vs,bs,e,h=>by unfold allB at e; cases e
noncomputable def Md(ds:List D)(P:D->Prop):Prop:=∃xs bs,ds=[.lst xs]/\allB xs=some bs/\P (.bl (bs.all id))
theorem PF:B_ K .sh (fun xs H Q=>∃(p:Addr) (bs:List Bool),xs=[.ref p]/\SqL K H p (bs.map V.bl)/\Q (.bl (bs.all id)) H) Md:=by
 intro U M H ds vs P Q dom vM hp w q
 obtain⟨xs,bs,rfl,e,w⟩:=w
 obtain⟨v,rfl,hx⟩:=CK hp
 obtain⟨a,us,rfl,_,ha,hs⟩:=hx
 have:=KI e hs
 subst this
 exact⟨a,bs,rfl,.inl ha,q _ H (.bl (bs.all id)) .refl rfl w⟩
noncomputable def By:List D->Option (List Str)
 | []=>some []
 | .str b::r=>(By r).map (b::·)
 | _::_=>none
theorem KG{M:Addr->Prop}{H:Hp}:∀{ds:List D} {vs:List V} {bs:List Str},By ds=some bs->Ats K M H ds vs->vs=bs.map V.str
 | [],vs,bs,e,h=>by cases e; exact h
 | .str b::r,vs,bs,e,h=>by
  obtain⟨v,r',e1,h1,h2⟩:=h
  unfold By at e
  obtain⟨bs',e2,rfl⟩:=Option.map_eq_some_iff.mp e
  rw [e1,KG e2 h2,h1.1]
  rfl
 | .non::r,vs,bs,e,h=>by unfold By at e; cases e
 | .int _::r,vs,bs,e,h=>by unfold By at e; cases e
 | .bl _::r,vs,bs,e,h=>by unfold By at e; cases e
 | .tup _::r,vs,bs,e,h=>by unfold By at e; cases e
 | .lst _::r,vs,bs,e,h=>by unfold By at e; cases e
 | .dic _ _::r,vs,bs,e,h=>by unfold By at e; cases e
 | .fdi _ _::r,vs,bs,e,h=>by unfold By at e; cases e
 | .dit _ _::r,vs,bs,e,h=>by unfold By at e; cases e
noncomputable def JK(ds:List D)(P:D->Prop):Prop:=match ds with
 | [.lst xs]=>P (.lst xs)
 | [.tup xs]=>P (.lst xs)
 | _=>False
theorem OW:B_ K .fr (fun xs H Q=>∃p ys,xs=[.ref p]/\(SqL K H p ys\/SqT K H p ys)/\∀l,H l=none->Q (.ref l) (Aw H l (.lst ys))) JK:=by
 intro U M H ds vs P Q dom vM hp w q
 unfold JK at w
 split at w
 ·obtain⟨v,rfl,hx⟩:=CK hp
  obtain⟨a,us,rfl,_,ha,hs⟩:=hx
  exact⟨a,us,rfl,.inl (.inl ha),fun l hl=>q _ _ _ (Ag hl) (B3 hl hs) w⟩
 ·obtain⟨v,rfl,hx⟩:=CK hp
  obtain⟨a,us,rfl,ha,hs⟩:=hx.tup
  exact⟨a,us,rfl,.inr ha.sq,fun l hl=>q _ _ _ (Ag hl) (B3 hl hs) w⟩
 ·exact w.elim
end
noncomputable def Qo:D->String
 | .non => "NoneType"
 | .bl _ => "bool"
 | .int _ => "int"
 | .str _ => "str"
 | .tup _ => "tuple"
 | .lst _ => "list"
 | .dic _ _ => "dict"
 | .fdi _ _ => "dict"
 | .dit _ _ => "dict"
noncomputable def QA(t T:String):Bool:=t==T||(t == "bool"&&T == "int")
noncomputable def NL(T:String)(wa:DW):DW:=fun n ρ P=>wa n ρ fun d n1=>P (.bl (QA (Qo d) T)) n1
structure OY (K:Frag) (T:String):Prop where
 ans:∀t∈["NoneType","bool","int","str","tuple","list","dict"],PySem.W.kitOne K (.type t) (.type T)=some (QA t T)
theorem NO{K:Frag}{M U:Addr->Prop}{H:Hp}{d:D}{x:V}(h:AtT K U M H d x):DD K H x (.type (Qo d)):=by
 cases d with
 | non=>cases (show x=.non from h); exact .non
 | bl b=>cases h.bl; exact .bl b
 | int i=>cases h.int; exact .int i
 | str z=>cases h.str.1; exact .str z
 | tup ds =>
  obtain⟨a,vs,rfl,ha,hs⟩:=h.tup
  exact .tup ha
 | lst ds =>
  obtain⟨a,vs,rfl,_,ha,hs⟩:=h
  rcases ha with ha | ⟨o,ha⟩
  ·exact .lst ha
  ·exact .frz ha
 | dic ks ds =>
  obtain⟨a,vs,rfl,_,ha,_⟩:=h
  exact .dK ha
 | fdi ks ds =>
  obtain⟨a,vs,rfl,⟨o,_,ha⟩,_⟩:=h
  exact .dF ha
 | dit ks ds =>
  obtain⟨a,vs,rfl,_,ha,_⟩:=h
  exact .dT ha
theorem NP(d:D):Qo d∈["NoneType","bool","int","str","tuple","list","dict"]:=by cases d <;> simp [Qo]
theorem JO{X:Cx}{a:Expr}{κ:Kd}{wa:DW}{T:String}{Tn:Str}{p p2 pos:Pos}(kt:OY X.K T)(ha:DE X a κ wa)(hg:Gl X "isinstance")(hm:X.mg "isinstance"=none)(hgT:Gl X Tn)(hmT:X.mg Tn=none)(hvT:bootBuiltins Tn=some (.type T))
  (hnT:autoParam (Tn ≠ "__name__") zau1._auto_1) (hdT:autoParam ((Tn==("__debug__" : Str))=false) zau1._auto_1)
  (he:autoParam (starEach [a,.Name Tn p2] X.env=(false,eval a X.env)::starEach [.Name Tn p2] X.env) zau3._auto_1) (he2:autoParam (starEach [.Name Tn p2] X.env=[(false,eval (.Name Tn p2) X.env)]) zau3._auto_1)
  (hpl:autoParam ((backTo pos (starEach [.Name Tn p2] X.env)).any (·.1)=false) zau3._auto_1):DE X (.Call (.Name "isinstance" p) [a,.Name Tn p2] [] pos) .sh (NL T wa):=by
 obtain⟨t,h1,h2⟩:=ha
 have pT:PE X (.Name Tn p2) (tC (.ty T)):=Nu hgT hmT hvT (v:=.ty T) rfl hnT hdT
 refine⟨_,DU IS hg hm (by decide +kernel) (BM h1 (BM pT CA he2) he) (by decide) (by decide) he hpl,fun C M H n ρ σ P Q R w q=>?_⟩
 refine h2 C M H n ρ σ _ _ R w fun v H1 d n1 e1 f1 r1 p=>?_
 exact⟨v,T,_,_,rfl,NO (r1.tpOf R.dom R.vM),kt.ans _ (NP d),q _ H1 (.bl (QA (Qo d) T)) n1 e1 f1 rfl p⟩
section
variable {K:Frag}{X:Cx}
noncomputable def O9(d e:D)(P:D->Prop):Prop:=match d,e with
 | .int i,.int j=>P (.int (i+j))
 | .str i,.str j=>i.length+j.length<=sizeLine/\P (.str (i++j))
 | .tup i,.tup j=>i≠[]/\i.length+j.length<=sizeLine/\P (.tup (i++j))
 | .lst i,.lst j=>i.length+j.length<=sizeLine/\P (.lst (i++j))
 | _,_=>False
noncomputable def Oz:R2:=fun x y H Q=>∃l b xs zs,x=.ref l/\y=.ref b/\Rd H l (.lst xs)/\Rd H b (.lst zs)/\xs.length+zs.length<=sizeLine/\∀p,H p=none->Q (.ref p) (Aw H p (.lst (xs++zs)))
noncomputable def Oy:R2:=fun x y H Q=>∃i j,x=.str i/\y=.str j/\i.length+j.length<=sizeLine/\Q (.str (i++j)) H
noncomputable def Lb(g:Str->Str->Bool):R2:=fun x y H Q=>∃i j,x=.str i/\y=.str j/\Q (.bl (g i j)) H
noncomputable def Li(K:Frag):R2:=fun x y H Q=>(EW fun i j=>.int (i+j)) x y H Q\/Oy x y H Q\/Lh K x y H Q\/Oz x y H Q
theorem op_addU:OpR X (binaryOp .Add) (Li X.K):=op_add.or ((show OpR X (binaryOp .Add) Oy from I0).or (op_catT.or (show OpR X (binaryOp .Add) Oz from Js)))
theorem HF:Co X.K .sh (Li X.K) O9:=fun U M H d e x y P Q dom vM hx hy w q=>by
 unfold O9 at w
 split at w
 ·exact .inl (NB (K:=X.K) (g:=fun i j=>i+j) U M H (.int _) (.int _) x y P Q dom vM hx hy w q)
 ·exact .inr (.inl (LF (K:=X.K) U M H (.str _) (.str _) x y P Q dom vM hx hy w q))
 ·exact .inr (.inr (.inl (LE (K:=X.K) U M H (.tup _) (.tup _) x y P Q dom vM hx hy w q)))
 ·exact .inr (.inr (.inr (GN (K:=X.K) U M H (.lst _) (.lst _) x y P Q dom vM hx hy w fun v H' z g r p=>q v H' z g (r.shOf dom (by intro z; cases z)) p)))
 ·exact w.elim
noncomputable def RS(d e:D)(P:D->Prop):Prop:=match d,e with
 | .int i,.int j=>P (.bl (decide (i<j)))
 | .str i,.str j=>P (.bl (decide (i.cps.toList<j.cps.toList)))
 | _,_=>False
noncomputable def Pe:R2:=fun x y H Q=>(EW fun i j=>.bl (decide (i<j))) x y H Q\/Lb (fun i j=>decide (i.cps.toList<j.cps.toList)) x y H Q
theorem op_ltU:OpR X (compareOp .Lt) Pe:=op_lt.or Ko
theorem PC:Co X.K .sh Pe RS:=fun U M H d e x y P Q dom vM hx hy w q=>by
 unfold RS at w
 split at w
 ·exact .inl (JZ (K:=X.K) (g:=fun i j=>decide (i<j)) U M H (.int _) (.int _) x y P Q dom vM hx hy w q)
 ·exact .inr (JY (K:=X.K) (g:=fun i j=>decide (i.cps.toList<j.cps.toList)) U M H (.str _) (.str _) x y P Q dom vM hx hy w q)
 ·exact w.elim
noncomputable def Fb(d e:D)(P:D->Prop):Prop:=match d,e with
 | .int i,.int j=>P (.bl (decide (i<=j)))
 | .str i,.str j=>P (.bl (!(decide (j.cps.toList<i.cps.toList))))
 | _,_=>False
noncomputable def Q7:R2:=fun x y H Q=>(EW fun i j=>.bl (decide (i<=j))) x y H Q\/Lb (fun i j=>!(decide (j.cps.toList<i.cps.toList))) x y H Q
theorem CW:OpR X (compareOp .LtE) Q7:=op_le.or Kp
theorem ES:Co X.K .sh Q7 Fb:=fun U M H d e x y P Q dom vM hx hy w q=>by
 unfold Fb at w
 split at w
 ·exact .inl (JZ (K:=X.K) (g:=fun i j=>decide (i<=j)) U M H (.int _) (.int _) x y P Q dom vM hx hy w q)
 ·exact .inr (JY (K:=X.K) (g:=fun i j=>!(decide (j.cps.toList<i.cps.toList))) U M H (.str _) (.str _) x y P Q dom vM hx hy w q)
 ·exact w.elim
noncomputable def RB:R2:=EW fun i j=>.bl (decide (j<i))
theorem Gp:OpR X (compareOp .Gt) RB:=O3
theorem KL:Co X.K .sh RB (f2 fun i j=>.bl (decide (j<i))):=JZ
noncomputable def Q_:R2:=Lb fun i j=>!(Builtin.Str.occurrences j i 0 j.length 1).isEmpty
theorem Py:OpR X (compareOp .In) Q_:=Kq
theorem Rj:Co X.K .sh Q_ (Qf fun i j P=>P (.bl (!(Builtin.Str.occurrences j i 0 j.length 1).isEmpty))):=JY
noncomputable def Q0:V->Option Int->Option Int->Hp->VK->Prop:=fun x lo hi H Q=>∃z,x=.str z/\z.length<=sizeLine/\Q (.str (Txt.slice z lo hi)) H
theorem sl_U:SlR X Q0:=Pa
noncomputable def PP(w:DW):DW:=fun n ρ P=>w n ρ fun d n1=>∃i,d=.int i/\P (.int (-i)) n1
theorem Ms{a:Expr}{κ:Kd}{wa:DW}{pos:Pos}(h:DE X a κ wa):DE X (.UnaryOp .USub a pos) .sh (PP wa):=by
 obtain⟨t,h1,h2⟩:=h
 refine⟨_,RD PR h1,fun C M H n ρ σ P Q R w q=>?_⟩
 refine h2 C M H n ρ σ _ _ R w fun v H1 d n1 e1 f1 r1 p=>?_
 obtain⟨i,rfl,p⟩:=p
 exact⟨i,MQ r1,q _ H1 (.int (-i)) n1 e1 f1 rfl p⟩
noncomputable def Got(P:Program)(w:World)(K:Frag)(mg:Str->Option Value)(base:Heap)(x:Str)(k:Nat)(ps:List Str)(κ:Kd)(W:W2):Prop :=
 ∃f fd,BE P w K mg base Cq k f fd ps (EY K κ W ps.length)/\mg x=some (.ref f)/\keepIn K (.ref f)=true/\Binds K fd ps []/\∀ss n P,W ss n P->ss.length=ps.length
theorem AN{e:Expr}{es:List Expr}{k:Nat}{ps:List Str}{κ:Kd}{W:W2}{x:Str}{p pos:Pos}{was:Qa}(G:Got X.prog X.w X.K X.mg X.base x k ps κ W)
  (hr:Room k X.A) (hg:Gl X x) (ha:Ru X (e::es) was)
  (hdb:autoParam ((x==("__debug__" : Str))=false) zau1._auto_1) (he:autoParam (starEach (e::es) X.env=(false,eval e X.env)::starEach es X.env) zau3._auto_1) (hpl:autoParam ((backTo pos (starEach es X.env)).any (·.1)=false) zau3._auto_1) :
  DE X (.Call (.Name x p) (e::es) [] pos) κ (Ak W was):=by
 obtain⟨f,fd,G,hm,hk,hb,hW⟩:=G
 exact OQ G hW hr hg hm hk hb ha hdb he hpl
noncomputable def O1(np:Nat)(g:List D->D):W2:=fun ss n P=>∃ds:List D,ds.length=np/\ss=ds.map .sh/\P (g ds) n
theorem D1{np:Nat}{g:List D->D}{ss:List Slot}{n:Nat}{P:D->Nat->Prop}(h:O1 np g ss n P):ss.length=np:=by
 obtain⟨ds,e,rfl,_⟩:=h
 rw [List.length_map]; exact e
theorem N6:OY K "int":=⟨fun t ht=>by
 simp only [List.mem_cons,List.not_mem_nil,or_false] at ht
 rcases ht with rfl | rfl | rfl | rfl | rfl | rfl | rfl <;> kernel_rfl⟩
theorem MF:OY K "bool":=⟨fun t ht=>by
 simp only [List.mem_cons,List.not_mem_nil,or_false] at ht
 rcases ht with rfl | rfl | rfl | rfl | rfl | rfl | rfl <;> kernel_rfl⟩
theorem N5:OY K "str":=⟨fun t ht=>by
 simp only [List.mem_cons,List.not_mem_nil,or_false] at ht
 rcases ht with rfl | rfl | rfl | rfl | rfl | rfl | rfl <;> kernel_rfl⟩
end
theorem IX{α:Type}(p:α->Bool):∀l:List α,allB (l.map fun c=>.bl (p c))=some (l.map p)
 | []=>rfl
 | a::l=>by
  rw [List.map_cons,List.map_cons]
  unfold allB
  rw [IX p l]
  rfl
theorem M6{b1 b2:Bool}{P:D->Nat->Prop}{n:Nat}{k:(D->Nat->Prop)->Prop}(hk:b1=true->P (.bl b2) n->k P)(h:P (.bl (b1&&b2)) n):(match (.bl b1:D) with | .bl true=>k P | .bl false=>P (.bl false) n | _=>False):=by
 cases b1 with
 | false=>exact h
 | true=>exact hk rfl h
theorem A_{P:Program}{w:World}{K:Frag}{mg:Str->Option Value}{base:Heap}{x:Str}{st:Stmt}{f:Addr}{fd:FuncData}{k:Nat}{ps:List Str}{κ:Kd}{W:W2}(F:Fun K x x st f fd)(m:mg x=some (.ref f))(b:Binds K fd ps [])
  (hW:∀ss n P,W ss n P->ss.length=ps.length) (ok:BE P w K mg base Cq k f fd ps (EY K κ W ps.length)):Got P w K mg base x k ps κ W:=⟨f,fd,ok,m,F.kp,b,hW⟩
noncomputable def HX(K:Frag):Sp:=fun vs H Q _=>∃a ns,vs=[V.ref a]/\(List.length (α:=Int) ns<=63/\SqL K H a (ns.map V.int))/\∀H',Q (.bl true) H'
noncomputable def GX(K:Frag):Sp:=fun vs H Q _=>∃a ns,vs=[V.ref a]/\(List.length (α:=Int) ns<=63/\SqL K H a (ns.map V.int)) /\
 ∀(c f:Addr) (H':Hp),c≠f->H' c=some (.lst (ns.map V.int))->H' f=some (.lst [.ref c,.int 0,.int 0])->Q (.ref f) H'
theorem Rg{ns:List Int}(h:ns.length<=63):Fc (ns.map V.int) none (some 63)=ns.map V.int:=by
 have e:HT.sIx (ns.map V.int).length (ns.map V.int).length (some 63)=ns.length:=by
  rw [show (63:Int)=((63:Nat):Int) from rfl,HT.sIx_nat,List.length_map,Nat.min_eq_right h]
 unfold Fc
 rw [e,HT.sIx_none,List.drop_zero,Nat.sub_zero]
 exact List.take_of_length_le (by rw [List.length_map]; exact Nat.le_refl _)
theorem RQ{P:Program}{w:World}{K:Frag}{mg:Str->Option Value}{base:Heap}{st s1:Stmt}{rest:List Stmt}{f:Addr}{fd:FuncData}{Nr:List Str}{k n0:Nat}{wb:AS}(F:Fun K "law" "law" st f fd)
  (S:AY ("_law_script" :: "_law_feed_here"::Nr) ["_law_script"] (AC st)) (hbd:AT st=s1::rest) (hn0:n0<=2 ^ 60)
  (h1:∀(cdv:Value) (A:Around) (outer:List Env) (s:Shared) (H:Hp) (E:XK),Room k (A.deeper (envOfC "law" (AC st) s.heap.objs.size f cdv)) ->
   PS (G_ Cq P w K mg base ("_law_script" :: "_law_feed_here"::Nr) "law" (AC st) f cdv A outer s H E).nox s1 (HS (Jf (GX K) [] E0 (Je (BG 0) LO)) (EM 1)))
  (h2:∀(cdv:Value) (A:Around) (outer:List Env) (s:Shared) (H:Hp) (E:XK),Room k (A.deeper (envOfC "law" (AC st) s.heap.objs.size f cdv)) ->
   NF (G_ Cq P w K mg base ("_law_script" :: "_law_feed_here"::Nr) "law" (AC st) f cdv A outer s H E).nox .sh rest wb)
  (hW:wb { nx:=fun _ _=>False,rt:=fun d _=>d=.bl true } n0 (.no::.fd::List.replicate Nr.length .no)):BE P w K mg base Cq (k+1) f fd ["_law_script"] (HX K):=by
 refine F.ok S (fun vs H Q E h=>?_) (fun cdv A outer s H vs Q E hr h=>?_)
 ·obtain⟨a,ns,rfl,_⟩:=h
  rfl
 ·obtain⟨a,ns,rfl,⟨hl,hS⟩,q⟩:=h
  obtain⟨t,t1,t2⟩:=h2 cdv A outer s H E hr
  refine⟨Kb (HS (Jf (GX K) [] E0 (Je (BG 0) LO)) (EM 1)) t,by rw [hbd]; exact BC (h1 cdv A outer s H E hr) t1,?_⟩
  refine⟨_,rfl,a,ns,rfl,⟨hl,hS⟩,fun c g H' hcg hc hg=>?_⟩
  have at_:∀(i:Nat) (sl:Slot),(Slot.no::Slot.fd::List.replicate Nr.length Slot.no)[i]?=some sl->Slot.no=sl\/(Slot.fd=sl/\i=1):=by
   intro i sl hs
   match i,hs with
   | 0,hs=>exact .inl (Option.some.inj hs)
   | 1,hs=>exact .inr ⟨Option.some.inj hs,rfl⟩
   | i+2,hs =>
    rw [List.getElem?_cons_succ,List.getElem?_cons_succ,List.getElem?_replicate] at hs
    split at hs
    ·exact .inl (Option.some.inj hs)
    ·cases hs
  have R:Rel K ⟨fun b=>b=g,some (g,c),fun b=>b=g,fun b=>b=g,H',[],[]⟩ (fun b=>b=g) H' n0 (.no::.fd::List.replicate Nr.length .no) ((start ("_law_script" :: "_law_feed_here"::Nr) [V.ref a]).set 1 (some (.ref g))):=by
   refine⟨by simp [L2.start],fun _ z=>z,fun b z=>⟨_,(congrArg H' z).trans hg⟩,Ext.refl _ _,fun b z=>by rw [← Option.some.inj z],fun _ z=>z,fun _ z=>z,fun b z=>?_,fun i sl hs=>?_,fun p hp=>absurd hp (by simp),fun i d b hs _=>?_,fun i sl b hs o _=>?_,fun i j sl t b hs o _ _ _ _=>?_,fun p hp=>absurd hp (by simp)⟩
   ·have e:(g,c)=b:=Option.some.inj z
    subst e
    exact⟨0,0,ns,hg,hcg,⟨hcg,hc⟩,hl,by decide,by omega⟩
   ·rcases at_ i sl hs with e | ⟨e,rfl⟩
    ·rw [← e]; trivial
    ·rw [← e]
     exact⟨(g,c),by simp [L2.start],rfl⟩
   ·rcases at_ i _ hs with e | ⟨e,_⟩ <;> cases e
   ·rcases at_ i sl hs with e | ⟨e,_⟩ <;> (rw [← e] at o; cases o)
   ·rcases at_ i sl hs with e | ⟨e,_⟩ <;> (rw [← e] at o; cases o)
  refine t2 _ _ H' n0 _ _ { nx:=fun _ _=>False,rt:=fun d _=>d=.bl true } _ R ⟨fun _ _ _ _ _ _ z=>z.elim,fun v H2 d n' _ _ r p=>?_,fun _ _ _ _ _ _ z=>z.elim,fun _ _ _ _ _ _ z=>z.elim⟩ hW
  have e:d=.bl true:=p
  subst e
  have e2:v=.bl true:=r
  subst e2
  exact q H2
end Dp
namespace L2
open PySem PySem.Spec PyProof.Rows
section
variable {X:Cx}
theorem DK:∀{us:List Value} {ys:List Str},StrsAre us ys->Vals (ys.map V.str) us
 | _,_,.nil=>.nil
 | _,_,.cons x t r=>.cons ⟨t,rfl⟩ (DK r)
noncomputable def Le(K:Frag):List V->Hp->VK->Prop:=fun xs H Q=>∃(p:Addr) (ss:List Str),xs=[.ref p]/\SqL K H p (ss.map V.str)/\ss.length<64/\∀(ss':List Str) (l:Addr),ss'.Perm ss->sortedS ss'=true->H l=none->Q (.ref l) (Aw H l (.lst (ss'.map V.str)))
theorem JU:Bu X (.builtin "sorted") (Le X.K):=by
 intro pins s σ H xs us Q I r h
 obtain⟨p,ss,rfl,hq,h64,q⟩:=h
 obtain⟨u,rfl,rx⟩:=vals1 r
 cases rx
 obtain⟨its,r',pl,hz⟩:=I.list hq
 have hlen:=r'.length
 rw [List.length_map] at hlen
 refine sorted_strs pl.isList (Ik r') (by omega) fun out ss' a1 a2 a3=>?_
 obtain⟨e,he⟩:=sortedAll_at s.heap its out
 have hl':ss'.length=ss.length:=a2.length_eq
 have hn:H (s.heap.objs.size+1)=none:=I.hok.fresh (Nat.le_succ _)
 refine⟨.ref (s.heap.objs.size+1),_,I.laid (t':=s.toks) (fun b o z=>sortedAll_old z) (Nat.le_succ _) (show ObjOk X.prog X.w _ _ _ (.lst (ss'.map V.str)) from⟨?_,out.toList,e,DK a1,?_⟩),rfl,q ss' _ a2 a3 hn⟩
 ·rw [List.length_map,sizeLine_eq]; omega
 ·exact he
noncomputable def Ou:R2:=fun x y H Q=>∃z k,x=.str z/\y=.int k/\MulOk z k/\Q (.str (Txt.mul z k)) H
theorem Nw:OpR X (binaryOp .Mult) Ou:=by
 intro pins s σ H x y v u Q I rx ry h
 obtain⟨z,k,rfl,rfl,hm,q⟩:=h
 obtain⟨t,rfl⟩:=rx
 obtain⟨t',rfl⟩:=ry
 exact SB.mul hm fun t' k=>⟨.str _,H,I.tok _,⟨_,rfl⟩,q⟩
end
end L2
namespace Dp
open PySem PySem.Spec PyProof.Rows L2
section
variable {K:Frag}
noncomputable def Ct(ds:List D)(P:D->Prop):Prop:=match ds with
 | [.lst xs]=>P (.tup xs)
 | [.tup xs]=>P (.tup xs)
 | _=>False
theorem Dt:B_ K .sh (fun xs H Q=>∃p ys,xs=[.ref p]/\((SqL K H p ys/\∀l,H l=none->Q (.ref l) (Aw H l (.tup ys)))\/(SqT K H p ys/\Q (.ref p) H))) Ct:=by
 intro U M H ds vs P Q dom vM hp w q
 unfold Ct at w
 split at w
 ·obtain⟨v,rfl,hx⟩:=CK hp
  obtain⟨a,us,rfl,_,ha,hs⟩:=hx
  exact⟨a,us,rfl,.inl ⟨.inl ha,fun l hl=>q _ _ (.tup _) (Ag hl) (Df dom hl hs) w⟩⟩
 ·obtain⟨v,rfl,hx⟩:=CK hp
  obtain⟨a,us,rfl,ha,hs⟩:=hx.tup
  exact⟨a,us,rfl,.inr ⟨ha.sq,q _ H (.tup _) .refl ⟨a,us,rfl,ha,hs⟩ w⟩⟩
 ·exact w.elim
theorem Ats.strs{M:Addr->Prop}{H:Hp}:∀{ss:List Str},(∀x∈ss,x.length<=sizeLine)->Ats K M H (ss.map D.str) (ss.map V.str)
 | [],_=>rfl
 | x::r,h=>⟨.str x,r.map V.str,rfl,⟨rfl,h x List.mem_cons_self⟩,Ats.strs fun y hy=>h y (List.mem_cons_of_mem _ hy)⟩
theorem Ats.strs_le{M:Addr->Prop}{H:Hp}:∀{ss:List Str} {vs:List V},Ats K M H (ss.map D.str) vs->∀x∈ss,x.length<=sizeLine
 | [],_,_=>fun x hx=>by cases hx
 | y::r,vs,h=>fun x hx=>by
  obtain⟨v,t,e,h1,h2⟩:=h
  rcases List.mem_cons.mp hx with rfl | hx
  ·exact h1.2
  ·exact Ats.strs_le h2 x hx
noncomputable def MW(ds:List D)(P:D->Prop):Prop:=∃(xs:List D) (ss:List Str),ds=[.lst xs]/\By xs=some ss/\ss.length<64/\∀ss':List Str,ss'.Perm ss->sortedS ss'=true->P (.lst (ss'.map .str))
theorem KH:∀{xs:List D} {ss:List Str},By xs=some ss->xs=ss.map .str
 | [],ss,h=>by cases h; rfl
 | .str b::r,ss,h=>by
  unfold By at h
  obtain⟨t,e,rfl⟩:=Option.map_eq_some_iff.mp h
  rw [List.map_cons,← KH e]
 | .non::r,ss,h=>by unfold By at h; cases h
 | .int _::r,ss,h=>by unfold By at h; cases h
 | .bl _::r,ss,h=>by unfold By at h; cases h
 | .tup _::r,ss,h=>by unfold By at h; cases h
 | .lst _::r,ss,h=>by unfold By at h; cases h
 | .dic _ _::r,ss,h=>by unfold By at h; cases h
 | .fdi _ _::r,ss,h=>by unfold By at h; cases h
 | .dit _ _::r,ss,h=>by unfold By at h; cases h
theorem OU:B_ K .fr (Le K) MW:=by
 intro U M H ds vs P Q dom vM hp w q
 obtain⟨xs,ss,rfl,e,h64,w⟩:=w
 obtain⟨v,rfl,hx⟩:=CK hp
 obtain⟨a,us,rfl,_,ha,hs⟩:=hx
 have:=KG e hs
 subst this
 have e2:=KH e
 subst e2
 refine⟨a,ss,rfl,.inl ha,h64,fun ss' l h1 h2 hl=>?_⟩
 exact q _ _ _ (Ag hl) (B3 hl (Ats.strs fun x hx=>hs.strs_le x (h1.mem_iff.mp hx))) (w ss' h1 h2)
noncomputable def MX(d e:D)(P:D->Prop):Prop:=match d,e with
 | .int i,.int j=>CMul i j/\P (.int (i*j))
 | .str z,.int k=>MulOk z k/\(Txt.mul z k).length<=sizeLine/\P (.str (Txt.mul z k))
 | _,_=>False
noncomputable def Ov:R2:=fun x y H Q=>(rI CMul fun i j=>.int (i*j)) x y H Q\/Ou x y H Q
theorem Ny{X:Cx}:OpR X (binaryOp .Mult) Ov:=op_mul.or Nw
theorem QQ:Co K .sh Ov MX:=fun U M H d e x y P Q dom vM hx hy w q=>by
 unfold MX at w
 split at w
 ·exact .inl (EA (K:=K) (C:=CMul) (g:=fun i j=>i*j) U M H (.int _) (.int _) x y P Q dom vM hx hy w q)
 ·rename_i z k
  exact .inr ⟨z,k,hx.1,hy,w.1,q _ H (.str _) .refl ⟨rfl,w.2.1⟩ w.2.2⟩
 ·exact w.elim
end
section
variable {X:Cx}{tg e e2:Expr}{es:List Expr}{ws:Dw}{p pos:Pos}
noncomputable def SF(X:Cx)(ts:List Expr)(b:List D->List Slot->(List Slot->Prop)->Prop):Prop:=∃g,Ro X ts g/\∀(C:Fm) (M:Addr->Prop) (H:Hp) (n:Nat) (ρ:List Slot) (σ:L2.St) (ds:List D) (vs:List V) (P:List Slot->Prop) (Q:L2.St->Hp->Prop),Rel X.K C M H n ρ σ->Ats X.K M H ds vs->b ds ρ P ->
 (∀ρ' σ',Rel X.K C M H n ρ' σ'->P ρ'->Q σ' H)->g vs σ H Q
noncomputable def KD:List D->List Slot->(List Slot->Prop)->Prop:=fun ds ρ P=>ds=[]/\P ρ
noncomputable def CS(b:BW)(bs:List D->List Slot->(List Slot->Prop)->Prop):List D->List Slot->(List Slot->Prop)->Prop:=fun ds ρ P=>match ds with
 | d::r=>b d ρ fun ρ1=>bs r ρ1 P
 | []=>False
theorem G7:SF X [] KD:=⟨_,Ni,fun C M H n ρ σ ds vs P Q R h w q=>by
 obtain⟨rfl,w⟩:=w
 exact⟨h,q ρ σ R w⟩⟩
theorem Bq{b:BW}{bs:List D->List Slot->(List Slot->Prop)->Prop}(h1:DG X e b)(h2:SF X es bs)(hs:autoParam ((assignEach (e::es) X.env).map (·.2)=assign e X.env::(assignEach es X.env).map (·.2)) zau3._auto_1):SF X (e::es) (CS b bs):=by
 obtain⟨g,a1,a2⟩:=h1
 obtain⟨g',b1,b2⟩:=h2
 refine⟨_,Lr a1 b1 hs,fun C M H n ρ σ ds vs P Q R h w q=>?_⟩
 cases ds with
 | nil=>exact w.elim
 | cons d r =>
  obtain⟨v,vr,e,hv,hr⟩:=h
  exact⟨v,vr,e,a2 C M H n ρ σ d v _ _ R hv w fun ρ' σ' R' w'=>b2 C M H n ρ' σ' r vr _ _ R' hr w' q⟩
noncomputable def OR(k:Nat)(bs:List D->List Slot->(List Slot->Prop)->Prop):BW:=fun d ρ P=>match d with
 | .tup ds=>ds.length=k/\bs ds ρ P
 | _=>False
theorem JN{bs:List D->List Slot->(List Slot->Prop)->Prop}{k:Nat}{j:Nat}(hc:X.calm=true)(h:SF X es bs)(hn:autoParam ((assignEach es X.env).length=k) zau3._auto_1)(hst:autoParam ((assignEach es X.env).findIdx? (·.1)=none) zau3._auto_1):DG X (.Tuple es j pos) (OR k bs):=by
 obtain⟨g,a1,a2⟩:=h
 refine⟨_,Pl hc a1 hn hst,fun C M H n ρ σ d v P Q R h w q=>?_⟩
 cases d with
 | tup ds =>
  obtain⟨a,vs,rfl,hq,hs⟩:=h
  exact⟨a,vs,rfl,hq.sq,by rw [hs.length]; exact w.1,a2 C M H n ρ σ ds vs P Q R hs w.2 q⟩
 | _=>exact w.elim
end
end Dp
namespace L2
open PySem PySem.Spec PyProof.Rows
mutual
noncomputable def RV(H:Hp):PyData->V->Prop
 | .none,v=>v=.non
 | .bool b,v=>v=.bl b
 | .int i,v=>v=.int i
 | .str x,v=>v=.str x
 | .tuple xs,v=>∃a vs,v=.ref a/\H a=some (.tup vs)/\RVs H xs vs
 | .list xs,v=>∃a vs,v=.ref a/\Rd H a (.lst vs)/\RVs H xs vs
 | .dict _,_=>False
noncomputable def RVs(H:Hp):List PyData->List V->Prop
 | [],vs=>vs=[]
 | x::xs,vs=>∃v r,vs=v::r/\RV H x v/\RVs H xs r
end
section
variable {X:Cx}{pins:List (Addr×Obj)}{σ:L2.St}{H:Hp}{s:Shared}
mutual
theorem RV.reads(I:Inv X pins σ H s):∀{d:PyData} {v:V} {u:Value},RV H d v->RelV v u->∃as,Reads s.heap u d as
 | .none,v,u,h,r=>by
  cases (show v=.non from h)
  cases (show u=Value.none from r)
  exact⟨_,.none⟩
 | .bool b,v,u,h,r=>by
  cases (show v=.bl b from h)
  cases (show u=Value.bool b from r)
  exact⟨_,.bool b⟩
 | .int i,v,u,h,r=>by
  cases (show v=.int i from h)
  obtain⟨t,rfl⟩:=r
  exact⟨_,.int i t⟩
 | .str x,v,u,h,r=>by
  cases (show v=.str x from h)
  obtain⟨t,rfl⟩:=r
  exact⟨_,.str x t⟩
 | .tuple xs,v,u,h,r=>by
  obtain⟨a,vs,rfl,hq,hs⟩:=h
  cases r
  obtain⟨its,rv,⟨o,e,c,n,d⟩,_⟩:=I.tuple (X:=X) (xs:=vs) (.inl (.inl hq))
  obtain⟨as,ra⟩:=RVs.reads I hs rv
  exact⟨_,.tuple e c d ra⟩
 | .list xs,v,u,h,r=>by
  obtain⟨a,vs,rfl,hq,hs⟩:=h
  cases r
  obtain⟨its,rv,pl,_⟩:=I.list (X:=X) (xs:=vs) (.inl hq)
  obtain⟨o,e,c,n,d⟩:=pl.isList
  obtain⟨as,ra⟩:=RVs.reads I hs rv
  exact⟨_,.list e c d ra⟩
 | .dict _,v,u,h,r=>h.elim
theorem RVs.reads(I:Inv X pins σ H s):∀{ds:List PyData} {vs:List V} {us:List Value},RVs H ds vs->Vals vs us->∃as,ReadsAll s.heap us ds as
 | [],vs,us,h,r=>by
  cases (show vs=[] from h)
  cases r
  exact⟨_,.nil⟩
 | d::ds,vs,us,h,r=>by
  obtain⟨v,w,rfl,h1,h2⟩:=h
  cases r with
  | cons r1 r2 =>
   obtain⟨as,a1⟩:=RV.reads I h1 r1
   obtain⟨bs,a2⟩:=RVs.reads I h2 r2
   exact⟨_,.cons a1 a2⟩
end
end
theorem RV.noDict{H:Hp}:∀(d:PyData) (v:V),RV H d v->d.hasDict=false
 | d,v,h=>by
  have go:∀(n:Nat),(∀(d:PyData) (v:V),sizeOf d<=n->RV H d v->d.hasDict=false)/\∀(ds:List PyData) (vs:List V),sizeOf ds<=n->RVs H ds vs->PyData.hasDictAll ds=false:=by
   intro n
   induction n with
   | zero =>
    refine⟨fun d v h _=>?_,fun ds vs h _=>?_⟩
    ·cases d <;> simp at h
    ·cases ds <;> simp at h
   | succ n ih =>
    refine⟨fun d v h hr=>?_,fun ds vs h hr=>?_⟩
    ·cases d with
     | tuple xs =>
      obtain⟨a,vs,_,_,hs⟩:=hr
      simp only [PyData.hasDict]
      exact ih.2 xs vs (by simp at h; omega) hs
     | list xs =>
      obtain⟨a,vs,_,_,hs⟩:=hr
      simp only [PyData.hasDict]
      exact ih.2 xs vs (by simp at h; omega) hs
     | dict kvs=>exact(show False from hr).elim
     | none=>simp only [PyData.hasDict]
     | bool b=>simp only [PyData.hasDict]
     | int i=>simp only [PyData.hasDict]
     | str x=>simp only [PyData.hasDict]
    ·cases ds with
     | nil=>simp only [PyData.hasDictAll]
     | cons x xs =>
      obtain⟨v,w,_,h1,h2⟩:=hr
      simp only [PyData.hasDictAll,ih.1 x v (by simp at h; omega) h1,ih.2 xs w (by simp at h; omega) h2,Bool.or_false]
  exact(go (sizeOf d)).1 d v (Nat.le_refl _) h
section
variable {X:Cx}
noncomputable def Ot:List V->Hp->VK->Prop:=fun xs H Q=>∃x d,xs=[x]/\RV H d x/\d.showable=true/\d.depth<=100/\d.shown.length<=sizeLine/\Q (.str d.shown) H
theorem BU{k:Nat}(hr:Room k X.A):Bu X (.builtin "repr") Ot:=by
 intro pins s σ H xs us Q I r h
 obtain⟨x,d,rfl,hx,hs,hd,hz,q⟩:=h
 obtain⟨u,rfl,rx⟩:=vals1 r
 have hu:=hr.un
 cases d with
 | none =>
  cases (show x=.non from hx)
  cases (show u=Value.none from rx)
  exact PySem.P.repr_of_none ⟨.str _,H,I.tok _,⟨_,rfl⟩,q⟩
 | bool b =>
  cases (show x=.bl b from hx)
  cases (show u=Value.bool b from rx)
  refine PySem.P.repr_of_bool ⟨.str _,H,I.tok _,⟨_,rfl⟩,?_⟩
  have e:PyData.shown (.bool b)=if b then ("True" : Str) else "False":=by cases b <;> rfl
  rw [e] at q
  exact q
 | int i =>
  cases (show x=.int i from hx)
  obtain⟨t,rfl⟩:=rx
  refine PySem.P.repr_of_int (by simpa [PyData.showable] using hs) ⟨.str _,H,I.tok _,⟨_,rfl⟩,q⟩
 | str z =>
  cases (show x=.str z from hx)
  obtain⟨t,rfl⟩:=rx
  exact PySem.P.repr_of_str ⟨.str _,H,I.tok _,⟨_,rfl⟩,q⟩ hz
 | tuple ds =>
  obtain⟨as,ra⟩:=RV.reads I hx rx
  obtain⟨a,vs,rfl,_⟩:=id hx
  cases rx
  refine repr_of_reads' ra hs (PyData.noDict_hsm (RV.noDict _ _ hx)) hr.gd (by omega) (fun _ _ e=>e) (fun h' u tk hk=>⟨.str _,H,I.kept (t':=tk) hk,⟨_,rfl⟩,q⟩) hz
 | list ds =>
  obtain⟨as,ra⟩:=RV.reads I hx rx
  obtain⟨a,vs,rfl,_⟩:=id hx
  cases rx
  refine repr_of_reads' ra hs (PyData.noDict_hsm (RV.noDict _ _ hx)) hr.gd (by omega) (fun _ _ e=>e) (fun h' u tk hk=>⟨.str _,H,I.kept (t':=tk) hk,⟨_,rfl⟩,q⟩) hz
 | dict _=>exact(show False from hx).elim
noncomputable def RA(neg:Bool):R2:=fun x y H Q=>∃d es,RV H d x/\(RV H (.list es) y\/RV H (.tuple es) y)/\d.canLay0=true/\PyData.canLayAll0 es=true/\d.depth<=100/\Q (.bl (if neg then !(es.any fun y=>PyData.eqv y d) else es.any fun y=>PyData.eqv y d)) H
theorem Fs{k:Nat}(hr:Room k X.A):OpR X (compareOp .NotIn) (RA true):=by
 intro pins s σ H x y v u Q I rx ry h
 obtain⟨d,es,hx,hy,h1,h2,hd,q⟩:=h
 obtain⟨as,ra⟩:=RV.reads I hx rx
 have hu:=hr.un
 have hm:min (PyData.depthAll es) d.depth<=d.depth:=Nat.min_le_right _ _
 rcases hy with hy | hy
 ·obtain⟨bs,rb⟩:=RV.reads I hy ry
  exact PySem.SeqAt.notIn_list_reads rb ra h2 h1 (by omega) ⟨.bl _,H,I,rfl,q⟩
 ·obtain⟨bs,rb⟩:=RV.reads I hy ry
  exact PySem.SeqAt.notIn_tuple_reads rb ra h2 h1 (by omega) ⟨.bl _,H,I,rfl,q⟩
end
end L2
namespace Dp
open PySem PySem.Spec PyProof.Rows L2
mutual
noncomputable def toPy:D->PyData
 | .non=>.none
 | .bl b=>.bool b
 | .int i=>.int i
 | .str x=>.str x
 | .tup ds=>.tuple (As ds)
 | .lst ds=>.list (As ds)
 | .dic _ _=>.dict []
 | .fdi _ _=>.dict []
 | .dit _ _=>.dict []
noncomputable def As:List D->List PyData
 | []=>[]
 | d::ds=>toPy d::As ds
end
mutual
noncomputable def Cz:D->Bool
 | .tup ds=>B2 ds
 | .lst ds=>B2 ds
 | .dic _ _=>false
 | .fdi _ _=>false
 | .dit _ _=>false
 | _=>true
noncomputable def B2:List D->Bool
 | []=>true
 | d::ds=>Cz d&&B2 ds
end
theorem Fk(ds:List D):As ds=ds.map toPy:=by
 induction ds with
 | nil=>rfl
 | cons d r ih=>rw [As,ih,List.map_cons]
section
variable {K:Frag}{M:Addr->Prop}{H:Hp}
mutual
theorem At.rv:∀{d:D} {v:V},At K M H d v->Cz d=true->RV H (toPy d) v
 | .non,v,h,_=>h
 | .bl b,v,h,_=>h
 | .int i,v,h,_=>h
 | .str x,v,h,_=>h.1
 | .tup ds,v,h,n=>by
  obtain⟨a,vs,e,hn,hs⟩:=h
  exact⟨a,vs,e,hn,Ats.rv hs n⟩
 | .lst ds,v,h,n=>by
  obtain⟨a,vs,e,hn,hs⟩:=h
  exact⟨a,vs,e,.inl hn.2,Ats.rv hs n⟩
 | .dic ks ds,v,h,n=>by cases n
 | .fdi ks ds,v,h,n=>by cases n
 | .dit ks ds,v,h,n=>by cases n
theorem Ats.rv:∀{ds:List D} {vs:List V},Ats K M H ds vs->B2 ds=true->RVs H (As ds) vs
 | [],vs,h,_=>h
 | d::ds,vs,h,n=>by
  obtain⟨v,r,e,h1,h2⟩:=h
  have n':(Cz d&&B2 ds)=true:=n
  rw [Bool.and_eq_true] at n'
  exact⟨v,r,e,At.rv h1 n'.1,Ats.rv h2 n'.2⟩
end
theorem AtT.rv{U:Addr->Prop}{d:D}{v:V}(h:AtT K U M H d v)(n:Cz d=true):RV H (toPy d) v:=by
 cases d with
 | lst ds =>
  obtain⟨a,vs,e,_,hq,hs⟩:=h
  exact⟨a,vs,e,hq,Ats.rv hs n⟩
 | dic ks ds=>cases n
 | fdi ks ds=>cases n
 | dit ks ds=>cases n
 | non=>exact h
 | bl b=>exact h
 | int i=>exact h
 | str x=>exact h.1
 | tup ds=>exact At.rv (K:=K) (M:=M) (d:=.tup ds) h n
noncomputable def Jh(d:D):Prop:=Cz d=true/\(toPy d).showable=true/\(toPy d).depth<=100/\(toPy d).shown.length<=sizeLine
noncomputable def Ga(d:D):Str:=(toPy d).shown
noncomputable def Dh(ds:List D)(P:D->Prop):Prop:=∃d,ds=[d]/\Jh d/\P (.str (Ga d))
theorem Cm:B_ K .sh Ot Dh:=by
 intro U M H ds vs P Q dom vM hp w q
 obtain⟨d,rfl,hd,w⟩:=w
 obtain⟨v,rfl,hx⟩:=CK hp
 exact⟨v,toPy d,rfl,hx.rv hd.1,hd.2.1,hd.2.2.1,hd.2.2.2,q _ H (.str (Ga d)) .refl ⟨rfl,hd.2.2.2⟩ w⟩
noncomputable def Hy(d:D):Prop:=Cz d=true/\(toPy d).canLay0=true/\(toPy d).depth<=100
noncomputable def O_(d e:D):Bool:=PyData.eqv (toPy d) (toPy e)
noncomputable def SS:D->Option (List D)
 | .lst ds=>some ds
 | .tup ds=>some ds
 | _=>none
noncomputable def QC(neg:Bool)(d e:D)(P:D->Prop):Prop:=Hy d/\Hy e/\∃es,SS e=some es/\P (.bl (if neg then !(es.any fun y=>O_ y d) else es.any fun y=>O_ y d))
theorem PD{neg:Bool}:Co K .sh (RA neg) (QC neg):=fun U M H d e x y P Q dom vM hx hy w q=>by
 obtain⟨h1,h2,es,he,w⟩:=w
 have any_eq:∀es:List D,(es.map toPy).any (fun y=>PyData.eqv y (toPy d))=es.any fun y=>O_ y d:=fun es=>by rw [List.any_map]; rfl
 cases e with
 | lst ds =>
  cases he
  refine⟨toPy d,As es,hx.rv h1.1,.inl (hy.rv h2.1),h1.2.1,by simpa [toPy,PyData.canLay0] using h2.2.1,h1.2.2,?_⟩
  rw [Fk,any_eq]
  exact q _ H (.bl _) .refl rfl w
 | tup ds =>
  cases he
  refine⟨toPy d,As es,hx.rv h1.1,.inr (hy.rv h2.1),h1.2.1,by simpa [toPy,PyData.canLay0] using h2.2.1,h1.2.2,?_⟩
  rw [Fk,any_eq]
  exact q _ H (.bl _) .refl rfl w
 | _=>cases he
noncomputable def RR(d e:D)(P:D->Prop):Prop:=Hy d/\Hy e/\P (.bl (!O_ d e))
end
end Dp
namespace L2
open PySem PySem.Spec PyProof.Rows
noncomputable def Q4:R2:=fun x y H Q=>∃d e,RV H d x/\RV H e y/\d.canLay0=true/\e.canLay0=true/\d.depth<=100/\Q (.bl (!PyData.eqv d e)) H
theorem Pw{X:Cx}{k:Nat}(hr:Room k X.A):OpR X (compareOp .NotEq) Q4:=by
 intro pins s σ H x y v u Q I rx ry h
 obtain⟨d,e,hx,hy,h1,h2,hd,q⟩:=h
 obtain⟨as,ra⟩:=RV.reads I hx rx
 obtain⟨bs,rb⟩:=RV.reads I hy ry
 have hu:=hr.un
 have hm:min d.depth e.depth<=d.depth:=Nat.min_le_left _ _
 exact PySem.SeqAt.compareNe_reads ra rb h1 h2 (by omega) ⟨.bl _,H,I,rfl,q⟩
end L2
namespace Dp
open PySem PySem.Spec PyProof.Rows L2
theorem Ri{K:Frag}:Co K .sh Q4 RR:=fun U M H d e x y P Q dom vM hx hy w q =>
 ⟨toPy d,toPy e,hx.rv w.1.1,hy.rv w.2.1.1,w.1.2.1,w.2.1.2.1,w.1.2.2,q _ H (.bl (!O_ d e)) .refl rfl w.2.2⟩
end Dp
namespace L2
open PySem PySem.Spec PyProof.Rows
noncomputable def kOf:Key->V
 | .inl i=>.int i
 | .inr x=>.str x
noncomputable def Qe:Key->Key->Bool
 | .inl i,.inl j=>decide (i<j)
 | .inr x,.inr y=>decide (x.cps.toList<y.cps.toList)
 | _,_=>false
noncomputable def EI:Key->Key->Bool
 | .inl _,.inl _=>true
 | .inr _,.inr _=>true
 | _,_=>false
noncomputable def Bv:List Key->List Key->Bool
 | [],[]=>false
 | [],_::_=>true
 | _::_,[]=>false
 | x::xs,y::ys=>if x=y then Bv xs ys else Qe x y
noncomputable def Az:List Key->List Key->Bool
 | x::xs,y::ys=>EI x y&&Az xs ys
 | _,_=>true
theorem IJ{A:Around}{s:Shared}{x y:Key}{u v:Value}(rx:RelV (kOf x) u)(ry:RelV (kOf y) v):∃e,SeqAt.EqAt A s u v e/\(e=true↔x=y):=by
 cases x with
 | inl i =>
  cases y with
  | inl j=>exact⟨_,G5 rx ry rfl rfl,by simp [kOf,RX]⟩
  | inr z=>exact⟨_,G5 rx ry rfl rfl,by simp [kOf,RX]⟩
 | inr z =>
  cases y with
  | inl j=>exact⟨_,G5 rx ry rfl rfl,by simp [kOf,RX]⟩
  | inr z'=>exact⟨_,G5 rx ry rfl rfl,by simp [kOf,RX]⟩
theorem LW(A:Around)(s:Shared){x y:Key}{u v:Value}(rx:RelV (kOf x) u)(ry:RelV (kOf y) v)(hs:EI x y=true)(prog:Program)(w:World)(E:Value->Shared->Prop)(Q:Value->Shared->Prop)(h:Q (.bool (Qe x y)) s) :
  wpAny (model prog w) A (richCompare .Lt u v) Q E s:=by
 cases x with
 | inl i =>
  cases y with
  | inl j =>
   obtain⟨t,rfl⟩:=rx
   obtain⟨t',rfl⟩:=ry
   exact(PyProof.Rows.lt_int h:wpAny (model prog w) A (compareOp .Lt (.int i t) (.int j t')) Q E s)
  | inr z=>cases hs
 | inr z =>
  cases y with
  | inl j=>cases hs
  | inr z' =>
   obtain⟨t,rfl⟩:=rx
   obtain⟨t',rfl⟩:=ry
   exact(PySem.P.lt_str h:wpAny (model prog w) A (compareOp .Lt (.str z t) (.str z' t')) Q E s)
section
open PySem.SeqAt
open PySem.AutoSeq1 (wpAny_loadPart')
open PySem.MeetsSeq PySem.MeetsSeq2 PySem.MeetsSeq3
theorem FO(l b:Addr)(items items2:Array Value)(n n2:Nat)(dd dd2:Option Addr)(sl sl2:Array (Option Value))(ns ms:List Key)(hi:Vals (ns.map kOf) items.toList)(hj:Vals (ms.map kOf) items2.toList)(hsame:Az ns ms=true) :
  Meets (Builtin.«tuple.__lt__» ⟨[.ref l,.ref b],[]⟩)
   (fun _ R s=>s.heap.get? l=some { cls:=.type "tuple",dict:=dd,data:=.seq items n,slots:=sl }/\s.heap.get? b=some { cls:=.type "tuple",dict:=dd2,data:=.seq items2 n2,slots:=sl2 } /\
    R (.ok (.ret (.bool (Bv ns ms)))) s) :=
 .of_wp fun prog w A R s h=>by
  obtain⟨hp,g,d,tk,os⟩:=s; obtain⟨hl,hb,h⟩:=h
  have f2:=AutoSeq1.sub_tuple_tuple
  have z1:items.size=ns.length:=by have:=hi.length; rw [List.length_map] at this; rw [this]; simp
  have z2:items2.size=ms.length:=by have:=hj.length; rw [List.length_map] at this; rw [this]; simp
  wp_walk using wpAny_loadPart' hl,wpAny_loadPart' hb,wpAny_forIn_list _ (fun rest b s'=>b.1=none/\s'=⟨hp,g,d,tk,os⟩/\∃(vs ws:List Value) (ns' ms':List Key),rest=vs.zip ws /\
   Vals (ns'.map kOf) vs/\Vals (ms'.map kOf) ws/\Az ns' ms'=true/\ns'.length+items2.size=ms'.length+items.size/\R (.ok (.ret (.bool (Bv ns' ms')))) ⟨hp,g,d,tk,os⟩) _
  case turn =>
   rintro ⟨y,x⟩ rest b s' ⟨hb',rfl,vs,ws,ns',ms',hz,hvi,hwi,hsm,hlen,hR⟩
   cases ns' with
   | nil=>cases hvi; rw [List.zip_nil_left] at hz; cases hz
   | cons a ns' =>
    cases ms' with
    | nil=>cases hwi; rw [List.zip_nil_right] at hz; cases hz
    | cons c ms' =>
     rw [List.map_cons] at hvi hwi
     cases hvi with
     | cons ra hvi' =>
      cases hwi with
      | cons rc hwi' =>
       rw [List.zip_cons_cons] at hz
       injection hz with hyx hrest
       injection hyx with hy hx
       subst hy hx
       have hR':R (.ok (.ret (.bool (if a=c then Bv ns' ms' else Qe a c)))) ⟨hp,g,d,tk,os⟩:=hR
       have hsm':(EI a c&&Az ns' ms')=true:=hsm
       rw [Bool.and_eq_true] at hsm'
       simp only [List.length_cons] at hlen
       obtain⟨e,he,hiff⟩:=IJ (A:=A.in1) (s:=⟨hp,g,d,tk,os⟩) ra rc
       refine wpAny_bind (he prog w _ _ ?_)
       cases e with
       | true =>
        rw [if_pos (hiff.mp rfl)] at hR'
        wp_walk
        exact⟨rfl,rfl,_,_,_,_,hrest,hvi',hwi',hsm'.2,by omega,hR'⟩
       | false =>
        rw [if_neg (fun q=>absurd (hiff.mpr q) Bool.false_ne_true)] at hR'
        have hri:=LW A.in1 ⟨hp,g,d,tk,os⟩ ra rc hsm'.1 prog w
        wp_walk using hri
        exact⟨_,rfl,by simpa using hR'⟩
  case fin =>
   rintro ⟨b1,b2⟩ s' ⟨hb',rfl,vs,ws,ns',ms',hz,hvi,hwi,hsm,hlen,hR⟩
   simp only at hb'
   subst hb'
   have hv:Bv ns' ms'=decide (items.size<items2.size):=by
    cases ns' with
    | nil =>
     cases ms' with
     | nil =>
      simp only [List.length_nil] at hlen
      exact(decide_eq_false (by omega)).symm
     | cons c u =>
      simp only [List.length_nil,List.length_cons] at hlen
      exact(decide_eq_true (by omega)).symm
    | cons a t =>
     cases ms' with
     | nil =>
      simp only [List.length_nil,List.length_cons] at hlen
      exact(decide_eq_false (by omega)).symm
     | cons c u =>
      rw [List.map_cons] at hvi hwi
      cases hvi
      cases hwi
      rw [List.zip_cons_cons] at hz
      cases hz
   rw [hv] at hR
   wp_walk
   exact⟨_,rfl,by simpa [Builtin.Tuple.tupleCompareSizes] using hR⟩
  case h =>
   exact⟨rfl,rfl,items.toList,items2.toList,ns,ms,rfl,hi,hj,hsame,by omega,h⟩
end
section
variable {X:Cx}
noncomputable def Q5(K:Frag):R2:=fun x y H Q=>∃a b ns ms,x=.ref a/\y=.ref b/\SqT K H a (ns.map kOf)/\SqT K H b (ms.map kOf)/\Az ns ms=true/\Q (.bl (Bv ns ms)) H
theorem Px(hu:X.A.units<cLine):OpR X (compareOp .Lt) (Q5 X.K):=by
 intro pins s σ H x y v u Q I rx ry h
 obtain⟨a,b,ns,ms,rfl,rfl,ha,hb,hsm,q⟩:=h
 cases rx
 cases ry
 obtain⟨its,r1,p1,_⟩:=I.tuple ha
 obtain⟨its2,r2,p2,_⟩:=I.tuple hb
 obtain⟨⟨cls,dd,data,sl⟩,ho,hc,n,hd⟩:=id p1
 obtain⟨⟨cls2,dd2,data2,sl2⟩,ho2,hc2,n2,hd2⟩:=id p2
 simp only at hc hd hc2 hd2
 subst hc hd hc2 hd2
 exact richCompare_meets_room (op:=.Lt) ⟨_,ho,rfl⟩ ⟨_,ho2,rfl⟩ PySem.F.slot_tuple_lt PySem.F.entry_tuple_lt (PySem.F.args_tuple_lt_2 _ _) (FO a b its.toArray its2.toArray n n2 dd dd2 sl sl2 ns ms r1 r2 hsm)
  ⟨ho,ho2,show Value.bool (Bv ns ms)≠Value.notImplemented/\EP X pins σ Q (.bool (Bv ns ms)) s from⟨(fun x=>nomatch x),⟨.bl _,H,I,rfl,q⟩⟩⟩ hu
end
noncomputable def ItAt(κ:Bool)(h:Heap)(it l:Addr)(k:Nat):Prop:=match κ with
 | true=>h.IsListIter it l k
 | false=>h.IsTupleIter it l k
noncomputable def SqAt(κ:Bool)(h:Heap)(l:Addr)(items:Array Value):Prop:=match κ with
 | true=>h.IsList l items
 | false=>h.IsTuple l items
section
variable {κ:Bool}{h h':Heap}{it l b:Addr}{k:Nat}{items:Array Value}
theorem ItAt.mv(x:ItAt κ h it l k)(e:∀o,h.get? it=some o->h'.get? it=some o):ItAt κ h' it l k:=by
 cases κ with
 | true=>obtain⟨o,ho,r⟩:=x; exact⟨o,e o ho,r⟩
 | false=>obtain⟨o,ho,r⟩:=x; exact⟨o,e o ho,r⟩
theorem SqAt.mv(x:SqAt κ h l items)(e:∀o,h.get? l=some o->h'.get? l=some o):SqAt κ h' l items:=by
 cases κ with
 | true=>obtain⟨o,ho,r⟩:=x; exact⟨o,e o ho,r⟩
 | false=>obtain⟨o,ho,r⟩:=x; exact⟨o,e o ho,r⟩
theorem ItAt.eb(x:ItAt κ h it l k)(hs:Heap.ExtBut b h h')(n:it≠b):ItAt κ h' it l k:=x.mv fun o e=>hs it o n e
theorem SqAt.eb(x:SqAt κ h l items)(hs:Heap.ExtBut b h h')(n:l≠b):SqAt κ h' l items:=x.mv fun o e=>hs l o n e
theorem ItAt.lies(x:ItAt κ h it l k):∃o,h.get? it=some o/\∀v,o.data≠.cell v:=by
 cases κ with
 | true=>obtain⟨o,ho,_,d⟩:=x; exact⟨o,ho,fun v z=>by rw [d] at z; cases z⟩
 | false=>obtain⟨o,ho,_,d⟩:=x; exact⟨o,ho,fun v z=>by rw [d] at z; cases z⟩
theorem SqAt.lies(x:SqAt κ h l items):∃o,h.get? l=some o:=by
 cases κ with
 | true=>obtain⟨o,ho,_⟩:=x; exact⟨o,ho⟩
 | false=>obtain⟨o,ho,_⟩:=x; exact⟨o,ho⟩
end
section
variable {prog:Program}{w:World}{A:Around}{E:Value->Shared->Prop}{s:Shared}
theorem K8{κ:Bool}{it l:Addr}{i:Nat}{items:Array Value}{x:Value}{Q:Value->Shared->Prop}(hit:ItAt κ s.heap it l i)(hl:SqAt κ s.heap l items)(hx:items[i]?=some x)
  (hQ:∀h',ItAt κ h' it l (i+1)->Heap.SameBut it s.heap h'->Q x { s with heap:=h' }):wpAny (model prog w) A (Builtin.SmallTypes.nextOf (.ref it)) Q E s:=by
 cases κ with
 | true=>exact wpAny_nextOf_list_item hit hl hx hQ
 | false =>
  have hit':s.heap.IsTupleIter it l i:=hit
  have hl':s.heap.IsTuple l items:=hl
  obtain⟨o,ho,hc,hd⟩:=id hit'; obtain⟨ol,hol,_,nl,hdl⟩:=hl'
  unfold Builtin.SmallTypes.nextOf
  refine wpAny_bind (wpAny_callSpecial?_slot (name:=Str.ofString "__next__") hit'.typeIs F.slot_tuple_iterator_next (wpAny_call_entry F.slot_tuple_iterator_next hit'.typeIs F.entry_tuple_iterator_next ?_ (F.args_tuple_iterator_next_1 _)))
  show wpAny (model prog w) _ (field (.ref it) 0 >>= _) _ _ s; refine wpAny_bind (wpAny_field ho hd (x:=.ref l) rfl ?_)
  show wpAny (model prog w) _ (if (Value.ref l==Value.none)=true then _ else _) _ _ s; rw [if_neg (show ¬((Value.ref l==Value.none)=true) from Bool.false_ne_true)]
  show wpAny (model prog w) _ (field (.ref it) 1 >>= _) _ _ s; refine wpAny_bind (wpAny_field ho hd (x:=.int i 0) rfl ?_)
  show wpAny (model prog w) _ (seqItems? (.ref l) >>= _) _ _ s; refine wpAny_bind (wpAny_seqItems hol hdl ?_); simp only [Int.toNat_natCast,hx]
  refine wpAny_bind (wpAny_setField ho hd (by simp) (wpAny_pure ⟨x,rfl,wpAny_pure (hQ _ (show Heap.IsTupleIter _ it l (i+1) from ?_) (Heap.SameBut.update ..))⟩))
  exact⟨_,Heap.get?_update_self _ ho (Obj.isFreed_of_fields (Obj.data_mapFields hd _)),(Obj.cls_mapFields ..).trans hc,by(rw [Obj.data_mapFields hd]; simp [rawInt])⟩
theorem IN{κ:Bool}{it l:Addr}{i:Nat}{items:Array Value}{Q:Value->Shared->Prop}(hh:A.handled=none)(hit:ItAt κ s.heap it l i)(hl:SqAt κ s.heap l items)(hx:items[i]?=none)
  (hE:∀h' e,Heap.ExtBut it s.heap h'->(∃o,h'.get? e=some o/\o.cls=.type "StopIteration")->E (.ref e) { s with heap:=h' }):wpAny (model prog w) A (Builtin.SmallTypes.nextOf (.ref it)) Q E s:=by
 cases κ with
 | true=>exact wpAny_nextOf_list_end hh hit hl hx hE
 | false =>
  have hit':s.heap.IsTupleIter it l i:=hit
  have hl':s.heap.IsTuple l items:=hl
  obtain⟨o,ho,hc,hd⟩:=id hit'; obtain⟨ol,hol,_,nl,hdl⟩:=hl'
  unfold Builtin.SmallTypes.nextOf
  refine wpAny_bind (wpAny_callSpecial?_slot (name:=Str.ofString "__next__") hit'.typeIs F.slot_tuple_iterator_next (wpAny_call_entry F.slot_tuple_iterator_next hit'.typeIs F.entry_tuple_iterator_next ?_ (F.args_tuple_iterator_next_1 _)))
  show wpAny (model prog w) _ (field (.ref it) 0 >>= _) _ _ s; refine wpAny_bind (wpAny_field ho hd (x:=.ref l) rfl ?_)
  show wpAny (model prog w) _ (if (Value.ref l==Value.none)=true then _ else _) _ _ s; rw [if_neg (show ¬((Value.ref l==Value.none)=true) from Bool.false_ne_true)]
  show wpAny (model prog w) _ (field (.ref it) 1 >>= _) _ _ s; refine wpAny_bind (wpAny_field ho hd (x:=.int i 0) rfl ?_)
  show wpAny (model prog w) _ (seqItems? (.ref l) >>= _) _ _ s; refine wpAny_bind (wpAny_seqItems hol hdl ?_); simp only [Int.toNat_natCast,hx]
  refine wpAny_bind (wpAny_rule (wpAny_bind (wpAny_setField ho hd (by simp) ?_))); show wpAny (model prog w) _ (newExc (.type "StopIteration") [] >>= _) _ _ _
  refine wpAny_bind ?_; simp only [newExc,newTuple]; refine wpAny_bind (wpAny_newObj_type ?_ (by size_fits))
  refine wpAny_bind (m:=firstArgMember _ _) (wpAny_of_eq (a:=Value.none) (by first | rfl | (simp only [firstArgMember]; rfl)) ?_); refine wpAny_newObj_type ?_ (by size_fits)
  simp only [raiseNew]; refine wpAny_bind (wpAny_handled ?_); first | rw [show A.in1.handled=none from hh] | rw [hh]
  refine wpAny_bind (wpAny_pure (wpAny_throw ?_)); exact hE _ _ (((Heap.SameBut.update ..).extBut.push _).push _) ⟨_,Heap.get?_push_size _ rfl,rfl⟩
structure TF (z TI TO i1 i2 l1 l2:Addr):Prop where
 TIz:TI≠z
 TOz:TO≠z
 i1z:i1≠z
 i2z:i2≠z
 TOi1:TO≠i1
 TOi2:TO≠i2
 i12:i1≠i2
 l1z:l1≠z
 l1TO:l1≠TO
 l1i1:l1≠i1
 l1i2:l1≠i2
 l2z:l2≠z
 l2TO:l2≠TO
 l2i1:l2≠i1
 l2i2:l2≠i2
end
noncomputable def P_(κ:Bool):String:=match κ with
 | true => "list_iterator"
 | false => "tuple_iterator"
noncomputable def GA(κ:Bool)(l:Addr):Obj:={ cls:=.type (P_ κ),data:=.fields #[.ref l,.int 0 0] }
theorem MK(κ:Bool)(h:Heap)(l:Addr):ItAt κ (h.push (GA κ l)) h.objs.size l 0:=by
 cases κ with
 | true=>exact⟨_,Heap.get?_push_size _ rfl,rfl,rfl⟩
 | false=>exact⟨_,Heap.get?_push_size _ rfl,rfl,rfl⟩
section
variable {prog:Program}{w:World}{A:Around}{E:Value->Shared->Prop}{s:Shared}
end
section
variable {X:Cx}{pins:List (Addr×Obj)}{σ:L2.St}{H:Hp}{s:Shared}{h':Heap}
theorem Inv.turnedL{t':Nat}{ch:List Addr}(I:Inv X pins σ H s)(hf:∀b∈ch,EC X pins H b)(k:∀b o,b∉ch->s.heap.get? b=some o->h'.get? b=some o):Inv X pins σ H { s with heap:=h',toks:=t' }:=by
 have nit:∀b u,H b=some u->b∉ch:=fun b u e z=>by rw [(hf b z).1] at e; cases e
 refine I.step (g':=s.gens) (d':=s.drawn) (ch:=ch) (fun b hb=>?_) (fun b o _ _ hc e _=>k b o hc e) (fun b o _ _ hc e _=>⟨o.slots,k b o hc e⟩) (fun _ _ _ _ n=>n) (fun b o hc e=>⟨o,k b o hc e⟩) (fun _ _ e=>e) (fun _ _ _ e=>e) (fun b ps e=>⟨#[],by rw [e]; simp⟩) (fun m hm=>?_) (fun b u e=>?_) I.bare
 ·obtain⟨f0,f1,f2,f3,f4,f5⟩:=hf b hb
  exact⟨f3,f1,f4,f5⟩
 ·obtain⟨o,es,ep,ho,r⟩:=hm
  exact⟨o,es,ep,k _ o (fun z=>(hf _ z).2.1 rfl) ho,r⟩
 ·exact(I.hok b u e).stay (fun c v hc q=>k c v (hc.elim (fun z=>by rw [z]; exact nit b u e) fun z=>nit c _ z) q) (fun _ q=>q) fun _ _ q=>q
theorem Inv.turnLaid{t':Nat}{ch:List Addr}{a:Addr}{o:HO}(I:Inv X pins σ H s)(hf:∀b∈ch,EC X pins H b)(k:∀b o,b∉ch->s.heap.get? b=some o->h'.get? b=some o)(ha:s.heap.objs.size<=a)(new:ObjOk X.prog X.w (Aw H a o) h' a o) :
  Inv X pins σ (Aw H a o) { s with heap:=h',toks:=t' }:=by
 have nit:∀b u,H b=some u->b∉ch:=fun b u e z=>by rw [(hf b z).1] at e; cases e
 have hn:H a=none:=I.hok.fresh ha
 have up:∀b u,H b=some u->Aw H a o b=some u:=fun b u e=>by rw [AL (Ax e hn)]; exact e
 refine I.step (g':=s.gens) (d':=s.drawn) (ch:=ch) (fun b hb=>?_) (fun b o _ _ hc e _=>k b o hc e) (fun b o _ _ hc e _=>⟨o.slots,k b o hc e⟩) (fun b u _ e n=>?_) (fun b o hc e=>⟨o,k b o hc e⟩) (fun b xs e=>up _ _ e) (fun b o u e=>up _ _ e) (fun b ps e=>⟨#[],by rw [up _ _ e]; simp⟩) (fun m hm=>?_) (fun b u e=>?_) I.bare
 ·obtain⟨f0,f1,f2,f3,f4,f5⟩:=hf b hb
  exact⟨f3,f1,f4,f5⟩
 ·rw [AL (Nat.ne_of_lt (Nat.lt_of_lt_of_le (Heap.lt_size e) ha))]; exact n
 ·obtain⟨o,es,ep,ho,r⟩:=hm
  exact⟨o,es,ep,k _ o (fun z=>(hf _ z).2.1 rfl) ho,r⟩
 ·by_cases hb:b=a
  ·subst hb; rw [AM] at e; cases e; exact new
  ·rw [AL hb] at e
   exact(I.hok b u e).stay (fun c v hc q=>k c v (hc.elim (fun z=>by rw [z]; exact nit b u e) fun z=>nit c _ z) q) (fun c q=>up _ _ q) fun c xs q=>up _ _ q
end
noncomputable def SqK(κ:Bool)(K:Frag)(H:Hp)(a:Addr)(xs:List V):Prop:=match κ with
 | true=>SqL K H a xs
 | false=>SqT K H a xs
theorem SqK.at{κ:Bool}{X:Cx}{pins:List (Addr×Obj)}{σ:L2.St}{H:Hp}{s:Shared}{a:Addr}{xs:List V}(I:Inv X pins σ H s)(h:SqK κ X.K H a xs):∃its:List Value,Vals xs its/\SqAt κ s.heap a its.toArray:=by
 cases κ with
 | true=>obtain⟨its,r,pl,_⟩:=I.list h; exact⟨its,r,pl.isList⟩
 | false=>obtain⟨its,r,p,_⟩:=I.tuple h; exact⟨its,r,p⟩
structure Sv (κ1 κ2:Bool) (z TI TO i1 i2 a b:Addr) (k:Nat) (h:Heap):Prop where
 z:IsZip h z TI TO .none
 ti:IsPair h TI (.ref i1) (.ref i2)
 to:∃a b,IsPair h TO a b
 i1:ItAt κ1 h i1 a k
 i2:ItAt κ2 h i2 b k
section
variable {X:Cx}
end
end L2
namespace Dp
open PySem PySem.Spec PyProof.Rows L2
section
variable {K:Frag}
end
section
variable {X:Cx}{e1 e2:Expr}{es:List Expr}{j:Nat}{tpos p pos:Pos}{ws:Dw}
noncomputable def SW:D->Option Key
 | .int i=>some (.inl i)
 | .str x=>some (.inr x)
 | _=>none
noncomputable def E7:List D->Option (List Key)
 | []=>some []
 | d::ds=>match SW d,E7 ds with
  | some k,some ks=>some (k::ks)
  | _,_=>none
theorem CY{K:Frag}{M:Addr->Prop}{H:Hp}:∀{ds:List D} {vs:List V} {ks:List Key},E7 ds=some ks->Ats K M H ds vs->vs=ks.map kOf
 | [],vs,ks,e,h=>by cases e; exact h
 | d::ds,vs,ks,e,h=>by
  obtain⟨v,r,e1,h1,h2⟩:=h
  unfold E7 at e
  split at e
  ·rename_i k ks' hk hks
   cases e
   rw [e1,CY hks h2,List.map_cons]
   congr 1
   cases d with
   | int i=>cases hk; exact h1
   | str x=>cases hk; exact h1.1
   | _=>cases hk
  ·cases e
noncomputable def K5(d e:D)(P:D->Prop):Prop:=match d,e with
 | .int i,.int j=>P (.bl (decide (i<j)))
 | .str i,.str j=>P (.bl (decide (i.cps.toList<j.cps.toList)))
 | .tup xs,.tup ys=>∃ks ls,E7 xs=some ks/\E7 ys=some ls/\Az ks ls=true/\P (.bl (Bv ks ls))
 | _,_=>False
noncomputable def Q6(K:Frag):R2:=fun x y H Q=>Pe x y H Q\/Q5 K x y H Q
theorem Gn{k:Nat}(hr:Room k X.A):OpR X (compareOp .Lt) (Q6 X.K):=op_ltU.or (Px hr.units0)
theorem KJ:Co X.K .sh (Q6 X.K) K5:=fun U M H d e x y P Q dom vM hx hy w q=>by
 unfold K5 at w
 split at w
 ·exact .inl (PC (X:=X) U M H (.int _) (.int _) x y P Q dom vM hx hy w q)
 ·exact .inl (PC (X:=X) U M H (.str _) (.str _) x y P Q dom vM hx hy w q)
 ·obtain⟨ks,ls,h1,h2,h3,w⟩:=w
  obtain⟨a,vs,rfl,ha,hs⟩:=hx.tup
  obtain⟨b,us,rfl,hb,ht⟩:=hy.tup
  have e1:=CY h1 hs
  have e2:=CY h2 ht
  subst e1 e2
  exact .inr ⟨a,b,ks,ls,rfl,rfl,ha.sq,hb.sq,h3,q _ H (.bl _) .refl rfl w⟩
 ·exact w.elim
end
end Dp
namespace L2
open PySem PySem.Spec PyProof.Rows
section
variable {prog:Program}{w:World}{A:Around}{E:Value->Shared->Prop}{s:Shared}
theorem HQ{t sl:Addr}{items:Array Value}{vl vu:Value}{lo hi:Option Int}{Q:Value->Shared->Prop}(ht:IsTup s.heap t items)(hs:s.heap.IsSliceOf sl vl vu .none)(pl:IsPart vl lo)(pu:IsPart vu hi)
  (hw:HT.sIx items.size 0 lo=0/\HT.sIx items.size items.size hi=items.size) (h:Q (.ref t) s):wpAny (model prog w) A (getItem (.ref t) (.ref sl)) Q E s:=by
 obtain⟨os,hos,hcs,hds⟩:=id hs
 have hTs:s.TypeIs (.ref sl) "slice":=⟨os,hos,hcs⟩
 unfold getItem
 (try with_reducible refine wpAny_holding ?_); (first | refine wpAny_bind (wpAny_pure ?_) | skip)
 refine wpAny_bind (wpAny_sequenceKey ht.typeIs (by decide) (wpAny_bind (wpAny_callSpecial?_slot (name:=Str.ofString "__getitem__") ht.typeIs PyProof.Rows.slot_tuple_getitem (wpAny_call_entry PyProof.Rows.slot_tuple_getitem ht.typeIs entry_tuple_getitem ?_ (args_tuple_getitem _ _)))))
 show wpAny (model prog w) _ (Builtin.Tuple.tupleItemsOf (.ref t) >>= _) _ _ s
 refine wpAny_bind (tupleItemsOf_ ht (wpAny_bind (wpAny_typeOf hTs ?_))); rw [if_pos (by decide)]
 refine wpAny_bind (HT.sliceApplied_gen hs pl pu ?_)
 have hyes:(((HT.sIx items.size 0 lo:Nat):Int)==0&&(1:Int)==1&&(HT.sIx items.size items.size hi - HT.sIx items.size 0 lo)==items.size)=true:=by rw [hw.1,hw.2]; simp
 show wpAny (model prog w) _ (if (((HT.sIx items.size 0 lo:Nat):Int)==0&&(1:Int)==1&&(HT.sIx items.size items.size hi - HT.sIx items.size 0 lo)==items.size)=true then _ else _) _ _ s
 rw [if_pos hyes]
 refine wpAny_bind (m:=Builtin.Tuple.tupleIsExact _) ?_
 unfold Builtin.Tuple.tupleIsExact
 refine wpAny_bind (wpAny_typeOf ht.typeIs (wpAny_pure ?_))
 show wpAny (model prog w) _ (if ((Value.type "tuple"==Value.type "tuple")=true) then _ else _) _ _ s
 rw [if_pos (by decide)]
 first
  | exact wpAny_bind (wpAny_rule (wpAny_bind (wpAny_pure (wpAny_pure ⟨_,rfl,wpAny_pure h⟩))))
  | exact wpAny_bind (wpAny_rule (wpAny_pure ⟨_,rfl,wpAny_pure h⟩))
  | exact wpAny_bind (wpAny_bind (wpAny_rule (wpAny_pure (wpAny_pure ⟨_,rfl,wpAny_pure h⟩))))
end
section
variable {X:Cx}{e st:Expr}{te tst:TE}{pos p2:Pos}
noncomputable def Oq(K:Frag):V->Option Int->Option Int->Hp->VK->Prop:=fun x lo hi H Q=>∃a xs,x=.ref a/\SqT K H a xs/\(HT.sIx xs.length 0 lo=0/\HT.sIx xs.length xs.length hi=xs.length)/\Q (.ref a) H
theorem NW:SlR X (Oq X.K):=by
 intro pins s σ H x v vl vu lo hi sl Q I rx hs pl pu h
 obtain⟨a,xs,rfl,hx,hw,q⟩:=h
 cases rx
 obtain⟨its,r,ht,hz⟩:=I.tuple hx
 have hlen:its.toArray.size=xs.length:=by rw [List.size_toArray]; exact r.length.symm
 exact⟨"tuple",_,PyProof.Rows.slot_tuple_getitem.lookup,ht.typeIs,HQ ht hs pl pu (by rw [hlen]; exact hw) ⟨.ref a,H,I,rfl,q⟩⟩
end
section
variable {X:Cx}
noncomputable def Lg(K:Frag):R2:=fun x y H Q=>∃a b ys,x=.ref a/\y=.ref b/\SqT K H a []/\SqT K H b ys/\Q (.ref b) H
theorem Lz:OpR X (binaryOp .Add) (Lg X.K):=by
 intro pins s σ H x y v u Q I rx ry h
 obtain⟨a,b,ys,rfl,rfl,ha,hb,q⟩:=h
 cases rx
 cases ry
 obtain⟨its,r1,p1,_⟩:=I.tuple ha
 obtain⟨its2,r2,p2,_⟩:=I.tuple hb
 cases r1
 obtain⟨⟨cls,dd,data,sl⟩,ho,hc,n,hd⟩:=id p1
 obtain⟨⟨cls2,dd2,data2,sl2⟩,ho2,hc2,n2,hd2⟩:=id p2
 simp only at hc hd hc2 hd2
 subst hc hd hc2 hd2
 exact concat_meets ⟨_,ho,rfl⟩ ⟨_,ho2,rfl⟩ noFill_tuple_add seq_tuple_add PySem.F.slot_tuple_add PySem.F.entry_tuple_add (PySem.F.args_tuple_add_2 _ _) (tuple_addW0 a b _ its2.toArray n n2 dd dd2 sl sl2 (by simp)) ⟨ho,ho2,⟨.ref b,H,I,rfl,q⟩⟩
noncomputable def bI(b:Bool):Int:=if b=true then 1 else 0
noncomputable def Rz(g:Int->Int->Int):R2:=fun x y H Q=>∃k j,x=.bl k/\y=.int j/\Q (.int (g (bI k) j)) H
noncomputable def Ss(g:Int->Int->Int):R2:=fun x y H Q=>∃i k,x=.int i/\y=.bl k/\Q (.int (g i (bI k))) H
theorem op_add_bi:OpR X (binaryOp .Add) (Rz fun i j=>i+j):=by
 intro pins s σ H x y v u Q I rx ry h
 obtain⟨k,j,rfl,rfl,q⟩:=h
 cases rx
 obtain⟨t,rfl⟩:=ry
 exact PySem.IntBool.add_bool_int ⟨.int _,H,I.tok _,⟨_,rfl⟩,q⟩
theorem op_sub_bi:OpR X (binaryOp .Sub) (Rz fun i j=>i - j):=by
 intro pins s σ H x y v u Q I rx ry h
 obtain⟨k,j,rfl,rfl,q⟩:=h
 cases rx
 obtain⟨t,rfl⟩:=ry
 exact PySem.IntBool.sub_bool_int ⟨.int _,H,I.tok _,⟨_,rfl⟩,q⟩
theorem Kl:OpR X (binaryOp .Sub) (Ss fun i j=>i - j):=by
 intro pins s σ H x y v u Q I rx ry h
 obtain⟨i,k,rfl,rfl,q⟩:=h
 obtain⟨t,rfl⟩:=rx
 cases ry
 exact PySem.IntBool.sub_int_bool ⟨.int _,H,I.tok _,⟨_,rfl⟩,q⟩
noncomputable def Oo:List V->Hp->VK->Prop:=fun xs H Q=>(∃i,xs=[.int i]/\i.natAbs.log2<1920/\Q (.str (toString i)) H)\/∃b,xs=[.bl b]/\Q (.str (if b then "True" else "False")) H
theorem GD:Bu X (.type "str") Oo:=by
 intro pins s σ H xs us Q I r h
 rcases h with h | ⟨b,rfl,q⟩
 ·exact HC pins s σ H xs us Q I r h
 ·obtain⟨u,rfl,rx⟩:=vals1 r
  cases rx
  exact PySem.P.str_of_bool ⟨.str _,H,I.tok _,⟨_,rfl⟩,q⟩
end
end L2
namespace Dp
open PySem PySem.Spec PyProof.Rows L2
section
variable {K:Frag}{X:Cx}
noncomputable def Bj(d e:D)(P:D->Prop):Prop:=match d,e with
 | .int i,.int j=>P (.int (i+j))
 | .bl k,.int j=>P (.int (bI k+j))
 | .str i,.str j=>i.length+j.length<=sizeLine/\P (.str (i++j))
 | .tup i,.tup j=>i.length+j.length<=sizeLine/\P (.tup (i++j))
 | .lst i,.lst j=>i.length+j.length<=sizeLine/\P (.lst (i++j))
 | _,_=>False
noncomputable def O0(K:Frag):R2:=fun x y H Q=>Li K x y H Q\/(Rz fun i j=>i+j) x y H Q\/Lg K x y H Q
theorem Ay:OpR X (binaryOp .Add) (O0 X.K):=op_addU.or (op_add_bi.or Lz)
theorem BL:Co X.K .sh (O0 X.K) Bj:=fun U M H d e x y P Q dom vM hx hy w q=>by
 unfold Bj at w
 split at w
 ·exact .inl (HF (X:=X) U M H (.int _) (.int _) x y P Q dom vM hx hy w q)
 ·rename_i k j
  exact .inr (.inl ⟨k,j,hx,hy,q _ H (.int _) .refl rfl w⟩)
 ·exact .inl (HF (X:=X) U M H (.str _) (.str _) x y P Q dom vM hx hy w q)
 ·rename_i i j
  cases i with
  | nil =>
   obtain⟨a,vs,rfl,ha,hs⟩:=hx.tup
   obtain⟨b,us,rfl,hb,ht⟩:=hy.tup
   cases (show vs=[] from hs)
   exact .inr (.inr ⟨a,b,us,rfl,rfl,ha.sq,hb.sq,q _ H (.tup j) .refl ⟨b,us,rfl,hb,ht⟩ (by have:=w.2; rw [List.nil_append] at this; exact this)⟩)
  | cons i0 i=>exact .inl (HF (X:=X) U M H (.tup (i0::i)) (.tup j) x y P Q dom vM hx hy ⟨(by intro z; cases z),w⟩ q)
 ·exact .inl (HF (X:=X) U M H (.lst _) (.lst _) x y P Q dom vM hx hy w q)
 ·exact w.elim
noncomputable def J0(d e:D)(P:D->Prop):Prop:=match d,e with
 | .int i,.int j=>P (.int (i - j))
 | .bl k,.int j=>P (.int (bI k - j))
 | .int i,.bl k=>P (.int (i - bI k))
 | _,_=>False
noncomputable def Om:R2:=fun x y H Q=>(EW fun i j=>.int (i - j)) x y H Q\/(Rz fun i j=>i - j) x y H Q\/(Ss fun i j=>i - j) x y H Q
theorem Jq:OpR X (binaryOp .Sub) Om:=op_sub.or (op_sub_bi.or Kl)
theorem M_:Co K .sh Om J0:=fun U M H d e x y P Q dom vM hx hy w q=>by
 unfold J0 at w
 split at w
 ·exact .inl (NB (K:=K) (g:=fun i j=>i - j) U M H (.int _) (.int _) x y P Q dom vM hx hy w q)
 ·rename_i k j
  exact .inr (.inl ⟨k,j,hx,hy,q _ H (.int _) .refl rfl w⟩)
 ·rename_i i k
  exact .inr (.inr ⟨i,k,hx,hy,q _ H (.int _) .refl rfl w⟩)
 ·exact w.elim
noncomputable def J1(ds:List D)(P:D->Prop):Prop:=match ds with
 | [.int i]=>i.natAbs.log2<1920/\(Str.ofString (toString i)).length<=sizeLine/\P (.str (toString i))
 | [.bl b]=>P (.str (if b then "True" else "False"))
 | _=>False
theorem NA:B_ K .sh Oo J1:=by
 intro U M H ds vs P Q dom vM hp w q
 unfold J1 at w
 split at w
 ·rename_i i
  obtain⟨v,rfl,hx⟩:=CK hp
  rw [hx.int]
  exact .inl ⟨i,rfl,w.1,q _ H (.str _) .refl ⟨rfl,w.2.1⟩ w.2.2⟩
 ·rename_i b
  obtain⟨v,rfl,hx⟩:=CK hp
  rw [hx.bl]
  refine .inr ⟨b,rfl,q _ H (.str _) .refl ⟨rfl,?_⟩ w⟩
  cases b <;> (rw [sizeLine_eq]; decide)
 ·exact w.elim
noncomputable def QB(d:D)(lo hi:Option Int)(P:D->Prop):Prop:=match d with
 | .str z=>P (.str (Txt.slice z lo hi))
 | .lst xs=>P (.lst (cutD xs lo hi))
 | .tup xs=>P (.tup (cutD xs lo hi))
 | _=>False
noncomputable def Q3(K:Frag):V->Option Int->Option Int->Hp->VK->Prop:=fun x lo hi H Q=>Q0 x lo hi H Q\/Q2 K x lo hi H Q\/Q1 K x lo hi H Q\/Oq K x lo hi H Q
theorem SR:SlR X (Q3 X.K):=sl_U.or (sl_list.or (sl_tup.or NW))
theorem J_{M:Addr->Prop}{H:Hp}{ds:List D}{vs:List V}(lo hi:Option Int)(h:Ats K M H ds vs):Ats K M H (cutD ds lo hi) (Fc vs lo hi):=by
 unfold cutD Fc
 rw [h.length]
 exact(h.drop _).take _
theorem Rh:Sw K .sh (Q3 K) QB:=by
 intro U M H d x lo hi P Q dom vM hx w q
 unfold QB at w
 split at w
 ·rename_i z
  exact .inl ⟨z,hx.str.1,hx.str.2,q _ H (.str (Txt.slice z lo hi)) .refl ⟨rfl,Nat.le_trans (Txt.slice_le z lo hi) hx.str.2⟩ w⟩
 ·rename_i xs
  obtain⟨a,vs,rfl,_,ha,hs⟩:=hx
  exact .inr (.inl ⟨a,vs,rfl,.inl ha,fun p hp=>q _ _ (.lst _) (Ag hp) ((B3 (U:=U) hp (J_ lo hi hs)).shOf dom (by intro z; cases z)) w⟩)
 ·rename_i xs
  obtain⟨a,vs,rfl,ha,hs⟩:=hx.tup
  by_cases hw:HT.sIx vs.length 0 lo=0/\HT.sIx vs.length vs.length hi=vs.length
  ·refine .inr (.inr (.inr ⟨a,vs,rfl,ha.sq,hw,?_⟩))
   have e:cutD xs lo hi=xs:=by
    unfold cutD
    rw [← hs.length,hw.1,hw.2,List.drop_zero,Nat.sub_zero,hs.length,List.take_length]
   rw [e] at w
   exact q _ H (.tup xs) .refl ⟨a,vs,rfl,ha,hs⟩ w
  ·exact .inr (.inr (.inl ⟨a,vs,rfl,ha.sq,hw,fun p hp=>q _ _ (.tup _) (Ag hp) (Df dom hp (J_ lo hi hs)) w⟩))
 ·exact w.elim
noncomputable def RW:D->D->(D->Prop)->Prop:=R7 fun i j P=>i.length+j.length<=sizeLine/\P (.lst (i++j))
end
end Dp
namespace Nt
open PySem PySem.Spec PyProof.Rows L2 Dp
noncomputable def Bt:W2:=fun ss n P=>∃m:Int,ss=[.fd,.sh (.int m)]/\1<=m/\m<1073741824/\1<=n/\∀r:Int,0<=r->r<m->P (.int r) (n - 1)
noncomputable def cs(x:Str):List Nat:=x.cps.toList
theorem FF(x:Str):(cs x).length=x.length:=Array.length_toList
theorem QK{x y:Str}(h:cs x=cs y):x=y:=by
 obtain⟨a⟩:=x
 obtain⟨b⟩:=y
 unfold cs at h
 exact congrArg Str.mk (Array.ext' h)
theorem Bh(x y:Str):cs (x++y)=cs x++cs y:=PySem.W.KT.app_list x y
noncomputable def FL(x:Str):Prop:=1<=x.length/\x.length<=8/\∀c∈cs x,97<=c/\c<=122
noncomputable def rising(xs:List Str):Prop:=xs.Pairwise fun x y=>cs x<cs y
theorem L_(a b:List Nat):ltCps a b=decide (a<b):=ltCps_eq a b
theorem EJ:∀(l:List Str) (p:Str),risingS p l=true->(p::l).Pairwise fun a b=>¬cs b<cs a
 | [],p,_=>List.pairwise_singleton _ _
 | x::r,p,h=>by
  have h':(!ltCps x.cps.toList p.cps.toList&&risingS x r)=true:=h
  rw [Bool.and_eq_true,Bool.not_eq_true',L_,decide_eq_false_iff_not] at h'
  have ih:=EJ r x h'.2
  refine List.pairwise_cons.mpr ⟨fun y hy=>?_,ih⟩
  rcases List.mem_cons.mp hy with rfl | hy
  ·exact h'.1
  ·have h2:=(List.pairwise_cons.mp ih).1 y hy
   exact List.le_trans (l₁:=cs p) (l₂:=cs x) (l₃:=cs y) h'.1 h2
theorem FQ{l:List Str}(h:sortedS l=true)(nd:l.Nodup):rising l:=by
 have hp:l.Pairwise fun a b=>¬cs b<cs a:=by
  cases l with
  | nil=>exact List.Pairwise.nil
  | cons x r=>exact EJ r x h
 refine(hp.and nd).imp fun {a b} ⟨h1,h2⟩=>?_
 exact Classical.byContradiction fun h3=>h2 (QK (List.le_antisymm (as:=cs a) (bs:=cs b) h1 h3))
theorem Em(lo:Int)(n:Nat):(C8 lo n).length=n:=by unfold C8; rw [List.length_map,List.length_range]
theorem LV{lo:Int}{n:Nat}{d:D}(h:d∈C8 lo n):∃k:Nat,k<n/\d=.int (lo+k):=by
 unfold C8 at h
 obtain⟨k,hk,rfl⟩:=List.mem_map.mp h
 exact⟨k,List.mem_range.mp hk,rfl⟩
end Nt
namespace Dp
open PySem PySem.Spec PyProof.Rows L2
section
variable {X:Cx}
theorem K9{k:Nat}{ps:List Str}{κ:Kd}{W:W2}{x:Str}{p pos:Pos}(G:Got X.prog X.w X.K X.mg X.base x k ps κ W)
  (hr:Room k X.A) (hg:Gl X x) (hdb:autoParam ((x==("__debug__" : Str))=false) zau1._auto_1):DE X (.Call (.Name x p) [] [] pos) κ (Ak W Al):=by
 obtain⟨f,fd,G,hm,hk,hb,hW⟩:=G
 refine⟨_,Lv G hr hg hm hk hb .nil Lw hdb,fun C M H n ρ σ P Q R w q=>?_⟩
 show EY X.K κ W ps.length ([]++[]) H Q E0
 rw [List.append_nil]
 refine⟨hW _ _ _ w,C.F,C.U,C.V,M,n,[],P,⟨R.dom,R.fU,R.uV,R.vM,R.feed,.nil⟩,w,fun v H2 d n2 e2 f2 r2 p2=>?_⟩
 exact q v H2 d n2 e2 f2 r2 p2
end
end Dp
namespace K71
open PySem PySem.Spec PyProof.Rows L2 Dp Nt
noncomputable def top(i:Nat):Stmt:=PySem.Challenge.pw_thinnet_k71_lines_there_and_back.main.body.getD i (.Pass ⟨0,0,0,0⟩)
noncomputable abbrev Bl:Stmt:=top 8
noncomputable abbrev BP:Stmt:=top 9
noncomputable abbrev Bz:Stmt:=top 10
noncomputable abbrev BN:Stmt:=top 12
noncomputable abbrev Cr:Stmt:=top 13
noncomputable abbrev BQ:Stmt:=top 14
noncomputable abbrev A6:Stmt:=top 15
noncomputable abbrev Ap:Stmt:=top 16
noncomputable abbrev BO:Stmt:=top 17
noncomputable abbrev BH:Stmt:=top 18
noncomputable abbrev Bk:Stmt:=top 19
noncomputable abbrev BS:Stmt:=top 21
noncomputable abbrev BB:Stmt:=top 22
noncomputable abbrev BI:Stmt:=top 23
noncomputable abbrev A7:Stmt:=top 24
noncomputable abbrev A8:Stmt:=top 25
noncomputable abbrev BR:Stmt:=top 26
noncomputable abbrev Bm:Stmt:=top 27
noncomputable abbrev BJ:Stmt:=top 28
noncomputable abbrev DP:Stmt:=top 29
structure Txt (K:Frag) (mg:Str->Option Value):Prop where
 n_all:mg "all"=none
 n_bool:mg "bool"=none
 n_enumerate:mg "enumerate"=none
 n_int:mg "int"=none
 n_isinstance:mg "isinstance"=none
 n_len:mg "len"=none
 n_list:mg "list"=none
 n_max:mg "max"=none
 n_min:mg "min"=none
 n_range:mg "range"=none
 n_repr:mg "repr"=none
 n_sorted:mg "sorted"=none
 n_str:mg "str"=none
 n_tuple:mg "tuple"=none
 g_MOST_SIGNS:∃t,mg "MOST_SIGNS"=some (.int 8 t)
 g_MOST_NUMBER:∃t,mg "MOST_NUMBER"=some (.int 1000000 t)
 g_MOST_PLACES:∃t,mg "MOST_PLACES"=some (.int 24 t)
 g_MOST_TIES:∃t,mg "MOST_TIES"=some (.int 60 t)
section
variable {P:Program}{w:World}{K:Frag}{mg:Str->Option Value}{base:Heap}
theorem sc__law_next:AY ["_law_feed_here","_law_many","_law_digit","_law_at","_law_cell","_law_first"] ["_law_feed_here","_law_many"] (AC BB):=⟨rfl,rfl,rfl,by decide +kernel,rfl,by decide +kernel,by decide +kernel⟩
theorem N0{f:Addr}{fd:FuncData}(F:Fun K "_law_next" "_law_next" BB f fd)(ml:mg "len"=none):BE P w K mg base Cq 1 f fd ["_law_feed_here","_law_many"] (EY K .sh Bt 2):=by
 refine F.ok sc__law_next (fun vs H Q E h=>h.1) (fun cdv A outer s H vs Q E hr h=>?_)
 obtain⟨hl,F0,U,V',M,n,ss,Pd,ra,⟨m,rfl,hm1,hm2,hn,hP⟩,q⟩:=h
 obtain⟨dom,fU,uV,vM,fd0,pa⟩:=ra
 cases pa with
 | cons r1 pa =>
 cases pa with
 | cons r2 pa =>
 cases pa
 obtain⟨⟨f0,c⟩,e0,hF⟩:=r1.1
 cases e0
 obtain⟨v2,e2,h2⟩:=r2.1
 cases e2
 cases (show _=V.int m from h2)
 obtain⟨a,r,cells,hf,hcf,hc,hcl,ha0,han⟩:=fd0 (f0,c) hF
 have fin:∀(a' r' z:Int) (H':Hp),(∀b o,H b=some o->b≠f0->H' b=some o)->H' f0=some (.lst [.ref c,.int a',.int r'])->0<=a'->a'<=a+1->0<=z->z<m->Q (.int z) H':=by
  intro a' r' z H' hk hf' h0 h1 hz0 hz1
  refine q (.int z) H' (.int z) (n - 1) (fun b o e=>?_) (fun g hg=>?_) rfl (hP z hz0 hz1)
  ·by_cases hb:b=f0
   ·subst hb
    exact⟨_,hf',fun nu=>absurd (fU (b,c) hF) nu,fun vs z=>by rw [z,hf] at e; cases e⟩
   ·exact⟨o,hk b o e hb,fun _=>rfl,fun _ _=>rfl⟩
  ·have:g=(f0,c):=Option.some.inj (hg.symm.trans hF)
   subst this
   exact⟨a',r',cells,hf',hcf,⟨hc.1,hk c _ hc.2 hcf⟩,hcl,h0,by omega⟩
 have hu:(A.deeper (envOfC "_law_next" (AC BB) s.heap.objs.size f cdv)).units<cLine:=hr.units0
 have hsq:∀{H':Hp} {xs:List V},H' f0=some (.lst xs)->SqL K H' f0 xs:=fun h=>SqL.of h
 have ed:∀z:Int,0<=z % m/\z % m<m:=fun z=>⟨Int.emod_nonneg _ (by omega),Int.emod_lt_of_pos _ (by omega)⟩
 refine⟨_,BC (Ln (DQ O3 (Cy ix_list (pv 0) Aa (fun _ _=>rfl)) Aa (Ab _))
   (BC (C_ (i:=2) sc__law_next.nd rfl (Or.inl rfl) (BD CB (Cy ix_list (pv 0) Aa (fun _ _=>rfl)) (pv 1)))
   (BC (Iu (BD EZ (Cy ix_list (pv 0) Aa (fun _ _=>rfl)) (pv 1)) (Iy (pv 0) Aa set_list))
   (DR (D4 (pv 2))))) Gk)
  (BC (C_ (i:=3) sc__law_next.nd rfl (Or.inl rfl) (Cy ix_list (pv 0) Aa (fun _ _=>rfl)))
  (BC (Iu (BD op_add (pv 3) Aa) (Iy (pv 0) Aa set_list))
  (BC (C_ (i:=4) sc__law_next.nd rfl (Or.inl rfl) (Hj (DQ (Km hu) (Cy ix_list (pv 0) Aa (fun _ _=>rfl)) (Iz CA) (Ab _))
   (Cy ix_list (Cy ix_list (pv 0) Aa (fun _ _=>rfl)) (BD CB (pv 3) (DU Ai rfl ml PySem.boot_len (BM (Cy ix_list (pv 0) Aa (fun _ _=>rfl)) CA))) (fun _ _=>rfl)) Aa))
  (BC (Ln (PW.pt (Lj (DQ RG (pv 4) (BD Ly Aa Aa) (Ab _)) (Jl (DQ op_lt (pv 3) (DU Ai rfl ml PySem.boot_len (BM (Cy ix_list (pv 0) Aa (fun _ _=>rfl)) CA)) (Ab _)))))
   (BC (Iu (BD EZ (pv 4) (pv 1)) (Iy (pv 0) Aa set_list))
   (DR (D4 (BD CB (pv 4) (pv 1))))) Gk)
  (BC (C_ (i:=5) sc__law_next.nd rfl (Or.inl rfl) (BD CB (BD op_mul (BD op_add (BD op_add (BD op_add (BD CB (pv 4) Aa) (BD op_mul (BD op_mul Aa (pv 3)) (pv 3))) (BD op_mul Aa (pv 3))) Aa) Aa) Aa))
  (DR (D4 (BD CB (BD EZ (BD CB (BD op_mul (BD op_add (pv 5) (BD op_mul Aa (pv 3))) Aa) Aa) Aa) (pv 1))))))))),?_⟩
 refine⟨_,rfl,f0,_,2,_,rfl,rfl,hsq hf,rfl,_,_,rfl,rfl,_,rfl,?_⟩
 refine JH (fun c1=>?_) (fun c1=>?_)
 ·refine⟨_,rfl,f0,_,2,_,rfl,rfl,hsq hf,rfl,_,rfl,_,_,rfl,rfl,(by show (0:Int)<m; omega),?_⟩
  refine⟨_,rfl,f0,_,2,_,rfl,rfl,hsq hf,rfl,_,rfl,_,_,rfl,rfl,⟨(by show (0:Int)<m; omega),hm2⟩,_,rfl,f0,_,2,2,rfl,rfl,hf,rfl,?_⟩
  refine⟨_,rfl,?_⟩
  exact fin a _ _ _ (fun b o e hb=>by rw [AL hb]; exact e) AM ha0 (by omega) (ed _).1 (ed _).2
 ·-- at=feed[1]; feed[1]=at+1
  refine⟨_,rfl,f0,_,1,_,rfl,rfl,hsq hf,rfl,?_⟩
  refine⟨_,rfl,_,_,rfl,rfl,_,rfl,f0,_,1,1,rfl,rfl,hf,rfl,?_⟩
  generalize hH1:Aw H f0 (.lst ([V.ref c,V.int a,V.int r].set 1 (V.int (a+1))))=H1
  have f1:H1 f0=some (.lst [.ref c,.int (a+1),.int r]):=by rw [← hH1]; exact AM
  have k1:∀b o,H b=some o->b≠f0->H1 b=some o:=fun b o e hb=>by rw [← hH1,AL hb]; exact e
  have c1':H1 c=some (.lst (cells.map V.int)):=k1 c _ hc.2 hcf
  have rest:∀(z:Int) (H2:Hp),(∀b o,H1 b=some o->H2 b=some o) ->
    (Kb (Qt (Qx (Jd (CI (EW fun i j=>V.bl (decide (j<=i))) (BG 4) (CI (rI Oa fun i j=>V.int (i ^ j.toNat)) (tC (V.int 10)) (tC (V.int 18))))) (Jd (CI (EW fun i j=>V.bl (decide (i<j))) (BG 3) (Ry (fun xs H Q=>∃x n,xs=[x]/\QY K x H n/\Q (V.int n) H) (Je (CI (Pf K) (BG 0) (tC (V.int 0))) LO))))) (Kb (HS (CI (rI NI fun i j=>V.int (i / j)) (BG 4) (BG 1)) (RN (BG 0) (tC (V.int 2)) Os)) (NR (CI (rI (fun _ j=>0<j) fun i j=>V.int (i % j)) (BG 4) (BG 1)))) Oj) (Kb (HS (CI (rI (fun _ j=>0<j) fun i j=>V.int (i % j)) (CI (rI CMul fun i j=>V.int (i*j)) (CI (EW fun i j=>V.int (i+j)) (CI (EW fun i j=>V.int (i+j)) (CI (EW fun i j=>V.int (i+j)) (CI (rI (fun _ j=>0<j) fun i j=>V.int (i % j)) (BG 4) (tC (V.int 1000003))) (CI (rI CMul fun i j=>V.int (i*j)) (CI (rI CMul fun i j=>V.int (i*j)) (tC (V.int 41)) (BG 3)) (BG 3))) (CI (rI CMul fun i j=>V.int (i*j)) (tC (V.int 17)) (BG 3))) (tC (V.int 3))) (tC (V.int 51749))) (tC (V.int 999917))) (EM 5)) (NR (CI (rI (fun _ j=>0<j) fun i j=>V.int (i % j)) (CI (rI NI fun i j=>V.int (i / j)) (CI (rI (fun _ j=>0<j) fun i j=>V.int (i % j)) (CI (rI CMul fun i j=>V.int (i*j)) (CI (EW fun i j=>V.int (i+j)) (BG 5) (CI (rI CMul fun i j=>V.int (i*j)) (tC (V.int 8111)) (BG 3))) (tC (V.int 39373))) (tC (V.int 2097143))) (tC (V.int 3))) (BG 1)))))
     { nx:=fun _ H'=>Q .non H',rt:=Q } [some (.ref f0),some (.int m),none,some (.int a),some (.int z),none] H2:=by
   intro z H2 k2
   have f2:=k2 _ _ f1
   have c2:=k2 _ _ c1'
   have lastWay:∀H3:Hp,H3=H2->(Kb (HS (CI (rI (fun _ j=>0<j) fun i j=>V.int (i % j)) (CI (rI CMul fun i j=>V.int (i*j)) (CI (EW fun i j=>V.int (i+j)) (CI (EW fun i j=>V.int (i+j)) (CI (EW fun i j=>V.int (i+j)) (CI (rI (fun _ j=>0<j) fun i j=>V.int (i % j)) (BG 4) (tC (V.int 1000003))) (CI (rI CMul fun i j=>V.int (i*j)) (CI (rI CMul fun i j=>V.int (i*j)) (tC (V.int 41)) (BG 3)) (BG 3))) (CI (rI CMul fun i j=>V.int (i*j)) (tC (V.int 17)) (BG 3))) (tC (V.int 3))) (tC (V.int 51749))) (tC (V.int 999917))) (EM 5)) (NR (CI (rI (fun _ j=>0<j) fun i j=>V.int (i % j)) (CI (rI NI fun i j=>V.int (i / j)) (CI (rI (fun _ j=>0<j) fun i j=>V.int (i % j)) (CI (rI CMul fun i j=>V.int (i*j)) (CI (EW fun i j=>V.int (i+j)) (BG 5) (CI (rI CMul fun i j=>V.int (i*j)) (tC (V.int 8111)) (BG 3))) (tC (V.int 39373))) (tC (V.int 2097143))) (tC (V.int 3))) (BG 1))))
     { nx:=fun _ H'=>Q .non H',rt:=Q } [some (.ref f0),some (.int m),none,some (.int a),some (.int z),none] H3:=by
    intro H3 e3
    subst e3
    have hb:CMul (41*a) a:=.inr ⟨by omega,by omega⟩
    refine⟨_,rfl,_,_,rfl,rfl,(by show (0:Int)<1000003; decide),_,rfl,_,_,rfl,rfl,.inl ⟨by decide,by decide⟩,_,rfl,_,_,rfl,rfl,hb,_,_,rfl,rfl,_,rfl,_,_,rfl,rfl,.inl ⟨by decide,by decide⟩,_,_,rfl,rfl,_,_,rfl,rfl,_,_,rfl,rfl,.inr ⟨by decide,by decide⟩,_,_,rfl,rfl,(by show (0:Int)<999917; decide),?_⟩
    refine⟨_,rfl,_,rfl,_,_,rfl,rfl,.inl ⟨by decide,by decide⟩,_,_,rfl,rfl,_,_,rfl,rfl,.inr ⟨by decide,by decide⟩,_,_,rfl,rfl,(by show (0:Int)<2097143; decide),_,_,rfl,rfl,⟨by decide,by decide⟩,_,rfl,_,_,rfl,rfl,(by show (0:Int)<m; omega),?_⟩
    exact fin (a+1) r _ _ (fun b o e hb=>k2 b o (k1 b o e hb)) f2 (by omega) (by omega) (ed _).1 (ed _).2
   refine⟨_,rfl,_,_,rfl,rfl,⟨by decide,by decide,by decide⟩,_,_,rfl,rfl,_,rfl,?_⟩
   refine JH (fun c3=>?_) (fun c3=>?_)
   ·refine⟨_,rfl,_,rfl,f0,_,0,_,rfl,rfl,hsq f2,rfl,_,_,rfl,.inl ⟨_,SqL.of c2,rfl⟩,_,_,rfl,rfl,_,rfl,?_⟩
    refine JH (fun c4=>?_) (fun c4=>lastWay H2 rfl)
    refine⟨_,rfl,_,rfl,_,_,rfl,rfl,⟨(by show (0:Int)<m; omega),hm2⟩,_,rfl,f0,_,2,2,rfl,rfl,f2,rfl,?_⟩
    refine⟨_,rfl,_,rfl,_,_,rfl,rfl,(by show (0:Int)<m; omega),?_⟩
    exact fin (a+1) _ _ _ (fun b o e hb=>by rw [AL hb]; exact k2 b o (k1 b o e hb)) AM (by omega) (by omega) (ed _).1 (ed _).2
   ·refine JH (fun c4=>absurd c4 (by simp)) (fun _=>lastWay H2 rfl)
  refine⟨_,rfl,f0,_,0,_,rfl,rfl,hsq f1,rfl,(by show 0<=sizeLine; decide),fun p hp=>?_⟩
  have kp:∀b o,H1 b=some o->Aw H1 p (.lst []) b=some o:=fun b o e=>by rw [AL (Ax e hp)]; exact e
  refine⟨c,p,_,rfl,rfl,SqL.of (kp _ _ c1'),SqL.of AM,_,rfl,?_⟩
  cases cells with
  | nil=>exact B6 (rest 0 _ kp)
  | cons z0 cs =>
   refine JG ?_
   have hlen:(((z0::cs).map V.int).length:Int)=(cs.length:Int)+1:=by simp
   have hpos:(0:Int)<(((z0::cs).map V.int).length:Int):=by omega
   obtain⟨z,hz⟩:∃z,atI ((z0::cs).map V.int) (a % (((z0::cs).map V.int).length:Int))=some (.int z):=by
    have h1:=Int.emod_nonneg a (show (((z0::cs).map V.int).length:Int)≠0 by omega)
    have h2:=Int.emod_lt_of_pos a hpos
    generalize a % (((z0::cs).map V.int).length:Int)=j at h1 h2
    obtain⟨k,rfl⟩:∃k:Nat,j=(k:Int):=⟨j.toNat,by omega⟩
    have hk:k<(z0::cs).length:=by rw [List.length_map] at h2; omega
    refine⟨(z0::cs)[k],AZ ?_⟩
    rw [List.getElem?_map,List.getElem?_eq_getElem hk]
    rfl
   refine⟨_,rfl,f0,_,0,_,rfl,rfl,hsq (kp _ _ f1),rfl,_,rfl,_,rfl,f0,_,0,_,rfl,rfl,hsq (kp _ _ f1),rfl,_,_,rfl,.inl ⟨_,SqL.of (kp _ _ c1'),rfl⟩,_,_,rfl,rfl,hpos,c,_,_,_,rfl,rfl,SqL.of (kp _ _ c1'),hz,?_⟩
   exact rest z _ kp
end
end K71
namespace So
open PySem PySem.W PyProof.Rows
section
variable {O:KeyOrd}{key:Nat->O.α}{N:Nat}{cmp:Nat->Nat->(Bool->Shared->Prop)->Shared->Prop}{s:Shared}{p p0:Array Nat}
noncomputable def KN(O:KeyOrd)(key:Nat->O.α)(p:Array Nat)(i:Nat):O.α:=key (p.getD i 0)
noncomputable def Srt(O:KeyOrd)(key:Nat->O.α)(p:Array Nat)(k:Nat):Prop:=∀i j,i<=j->j<k->O.kle (KN O key p i) (KN O key p j)
noncomputable def Rp(O:KeyOrd)(key:Nat->O.α)(p:Array Nat)(k:Nat):Prop:=∀i j,i<=j->j<k->O.kle (KN O key p j) (KN O key p i)
noncomputable def PK(O:KeyOrd)(key:Nat->O.α)(N:Nat)(cmp:Nat->Nat->(Bool->Shared->Prop)->Shared->Prop)(s:Shared):Prop:=∀(i j:Nat) (C:Bool->Shared->Prop),i<N->j<N->C (O.blt (key i) (key j)) s->cmp i j C s
noncomputable def Bd(N:Nat)(p:Array Nat):Prop:=0<N/\∀x∈p,x<N
theorem G2(p:Array Nat)(i:Nat):p.getD i 0=(p[i]?).getD 0:=by
 simp
theorem Bd.get(h:Bd N p)(i:Nat):p.getD i 0<N:=by
 rw [G2]
 cases e:p[i]? with
 | none=>exact h.1
 | some x=>exact h.2 x (Array.mem_of_getElem? e)
theorem Bd.perm{p':Array Nat}(h:Bd N p)(hp:p'.Perm p):Bd N p':=⟨h.1,fun x hx=>h.2 x (hp.mem_iff.mp hx)⟩
theorem Cp{p q:Array Nat}{i j:Nat}(h:p[i]?=q[j]?):KN O key p i=KN O key q j:=by
 unfold KN
 rw [G2,G2,h]
theorem GS{src d:Nat}(hs:src<p.size)(hd:d<=src)(k:Nat) :
  KN O key (bubble p src d) k=if k=src - d then KN O key p src else if src - d<k/\k<=src then KN O key p (k - 1) else KN O key p k:=by
 have e:=getElem?_bubble hs d hd k
 by_cases h1:k=src - d
 ·rw [if_pos h1] at e ⊢; exact Cp e
 ·rw [if_neg h1] at e ⊢
  by_cases h2:src - d<k/\k<=src
  ·rw [if_pos h2] at e ⊢; exact Cp e
  ·rw [if_neg h2] at e ⊢; exact Cp e
theorem EB{i j:Nat}(hj:j<=p.size)(k:Nat):KN O key (kas_rev p i j) k=if i<=k/\k<j then KN O key p (i+j - 1 - k) else KN O key p k:=by
 have e:=getElem?_mirror_all (i:=i) hj k
 unfold kas_rev
 by_cases h1:i<=k/\k<j
 ·rw [if_pos h1] at e ⊢; exact Cp e
 ·rw [if_neg h1] at e ⊢; exact Cp e
theorem A5{i j:Nat}(hj:j<=p.size)(heq:∀k,i<=k->k<j->KN O key p k=KN O key p (j - 1))(k:Nat):KN O key (kas_rev p i j) k=KN O key p k:=by
 rw [EB hj]
 split
 ·rw [heq _ (by omega) (by omega),heq k (by omega) (by omega)]
 ·rfl
theorem BY(p:Array Nat)(i j:Nat):(kas_rev p i j).Perm p:=mirror_perm _ _ _ _
theorem yes{α:Type}{T₁ T₂:KasT α}{Q:α->Shared->Prop}(h:T₁.kasWp cmp Q s):(if true=true then T₁ else T₂).kasWp cmp Q s:=by rw [if_pos rfl]; exact h
theorem no{α:Type}{T₁ T₂:KasT α}{Q:α->Shared->Prop}(h:T₂.kasWp cmp Q s):(if false=true then T₁ else T₂).kasWp cmp Q s:=by rw [if_neg (by simp)]; exact h
theorem JW(hC:PK O key N cmp s)(hb:Bd N p){nrem:Nat}{G:Nat->Shared->Prop}:∀(f n:Nat),1<=n->n+f=nrem->Srt O key p n ->
  (∀m,n<=m->m<=nrem->Srt O key p m->(m=nrem\/O.klt (KN O key p m) (KN O key p (m - 1)))->G m s)->(kas_asc p f n).kasWp cmp G s
 | 0,n,_,e,hs,h=>h n (Nat.le_refl _) (by omega) hs (.inl (by omega))
 | f+1,n,h1,e,hs,h=>by
  show cmp (p.getD n 0) (p.getD (n - 1) 0) (fun c s'=>(if c=true then KasT.ret n else kas_asc p f (n+1)).kasWp cmp G s') s
  refine hC _ _ _ (hb.get n) (hb.get _) ?_
  cases hless:O.blt (key (p.getD n 0)) (key (p.getD (n - 1) 0)) with
  | true=>exact yes (h n (Nat.le_refl _) (by omega) hs (.inr hless))
  | false =>
   refine no (JW hC hb f (n+1) (by omega) (by omega) (fun i j hij hj=>?_) fun m m1 m2 m3 m4=>h m (by omega) m2 m3 m4)
   by_cases hjx:j<n
   ·exact hs i j hij hjx
   ·have hj':j=n:=by omega
    subst hj'
    by_cases hi':i=j
    ·subst hi'; exact KeyOrd.kle_refl _
    ·exact KeyOrd.kle_trans (hs i (j - 1) (by omega) (by omega)) hless
theorem Eb(hC:PK O key N cmp s){nrem:Nat}{G:Array Nat×Nat×Nat->Shared->Prop}:∀(f:Nat) (p:Array Nat) (n q:Nat),p.Perm p0->Bd N p->nrem<=p.size->1<=n->n+f=nrem->Rp O key p n->q+1<=n ->
  (∀i,n - (q+1)<=i->i<n->KN O key p i=KN O key p (n - 1)) ->
  (∀p' m q',p'.Perm p0->Bd N p'->p'.size=p.size->n<=m->m<=nrem->Rp O key p' m->q'+1<=m->(∀i,m - (q'+1)<=i->i<m->KN O key p' i=KN O key p' (m - 1))->G (p',m,q') s)->(kas_desc f p n q).kasWp cmp G s
 | 0,p,n,q,hp,hb,hz,h1,e,hs,hq,he,h=>h p n q hp hb rfl (Nat.le_refl _) (by omega) hs hq he
 | f+1,p,n,q,hp,hb,hz,h1,e,hs,hq,he,h=>by
  show cmp (p.getD n 0) (p.getD (n - 1) 0) (fun c s'=>(if c=true then (if q > 0 then kas_desc f (kas_rev p (n - (q+1)) n) (n+1) 0 else kas_desc f p (n+1) 0)
   else .ask (p.getD (n - 1) 0) (p.getD n 0) fun d=>if d=true then .ret (p,n,q) else kas_desc f p (n+1) (q+1)).kasWp cmp G s') s
  refine hC _ _ _ (hb.get n) (hb.get _) ?_
  cases hless:O.blt (key (p.getD n 0)) (key (p.getD (n - 1) 0)) with
  | true =>
   have hl:O.klt (KN O key p n) (KN O key p (n - 1)):=hless
   have step1:∀xs:Array Nat,(∀k,KN O key xs k=KN O key p k)->Rp O key xs (n+1):=by
    intro xs hk i j hij hj
    rw [hk,hk]
    by_cases hjx:j<n
    ·exact hs i j hij hjx
    ·have hj':j=n:=by omega
     subst hj'
     by_cases hi':i=j
     ·subst hi'; exact KeyOrd.kle_refl _
     ·exact KeyOrd.kle_trans (KeyOrd.kle_of_klt hl) (hs i (j - 1) (by omega) (by omega))
   refine yes ?_
   have hsz:n<=p.size:=by omega
   by_cases hq0:q > 0
   ·rw [if_pos hq0]
    refine Eb hC f _ (n+1) 0 ((BY _ _ _).trans hp) (hb.perm (BY _ _ _)) (by rw [kas_rev_size]; exact hz) (by omega) (by omega) (step1 _ (A5 hsz he)) (by omega) (fun i a b=>by congr 1; omega) fun p' m q' a1 a2 a3 a4 a5 a6 a7 a8=>h p' m q' a1 a2 (a3.trans (kas_rev_size _ _)) (by omega) a5 a6 a7 a8
   ·rw [if_neg hq0]
    exact Eb hC f _ (n+1) 0 hp hb hz (by omega) (by omega) (step1 _ fun _=>rfl) (by omega) (fun i a b=>by congr 1; omega) fun p' m q' a1 a2 a3 a4 a5 a6 a7 a8=>h p' m q' a1 a2 a3 (by omega) a5 a6 a7 a8
  | false =>
   refine no ?_
   show cmp (p.getD (n - 1) 0) (p.getD n 0) (fun d s'=>(if d=true then KasT.ret (p,n,q) else kas_desc f p (n+1) (q+1)).kasWp cmp G s') s
   refine hC _ _ _ (hb.get _) (hb.get n) ?_
   cases hlarger:O.blt (key (p.getD (n - 1) 0)) (key (p.getD n 0)) with
   | true=>exact yes (h p n q hp hb rfl (Nat.le_refl _) (by omega) hs hq he)
   | false =>
    have heqx:KN O key p n=KN O key p (n - 1):=KeyOrd.kle_antisymm (O:=O) hlarger hless
    refine no (Eb hC f p (n+1) (q+1) hp hb hz (by omega) (by omega) (fun i j hij hj=>?_) (by omega) (fun i a b=>?_) fun p' m q' a1 a2 a3 a4 a5 a6 a7 a8=>h p' m q' a1 a2 a3 (by omega) a5 a6 a7 a8)
    ·by_cases hjx:j<n
     ·exact hs i j hij hjx
     ·have hj':j=n:=by omega
      subst hj'
      by_cases hi':i=j
      ·subst hi'; exact KeyOrd.kle_refl _
      ·rw [heqx]; exact hs i (j - 1) (by omega) (by omega)
    ·rw [show n+1 - 1=n by omega]
     by_cases hix:i=n
     ·subst hix; rfl
     ·rw [heqx]; exact he i (by omega) (by omega)
theorem HR(hC:PK O key N cmp s){n nrem:Nat}{G:Nat×Array Nat->Shared->Prop}(hp:p.Perm p0)(hb:Bd N p)(hz:nrem<=p.size)(h1:1<=n)(hn:n<=nrem)(hs:Rp O key p n)
  (h:∀m p',p'.Perm p0->Bd N p'->p'.size=p.size->1<=m->m<=nrem->Srt O key p' m->G (m,p') s):(kas_tail3 n nrem p).kasWp cmp G s:=by
 unfold kas_tail3
 rw [KasT.kasWp_bind]
 have hsz:n<=p.size:=by omega
 refine JW hC (hb.perm (BY _ _ _)) (nrem - n) n h1 (by omega) (fun i j hij hj=>?_) fun m m1 m2 m3 _=>h m _ ((BY _ _ _).trans hp) (hb.perm (BY _ _ _)) (kas_rev_size _ _) (by omega) m2 m3
 rw [EB hsz,EB hsz,if_pos (by omega),if_pos (by omega)]
 exact hs _ _ (by omega) (by omega)
theorem EO(hC:PK O key N cmp s){n nrem:Nat}{G:Nat×Array Nat->Shared->Prop}(hp:p.Perm p0)(hb:Bd N p)(hz:nrem<=p.size)(hn:n+1<=nrem)(hs:Rp O key p (n+1))
  (h:∀m p',p'.Perm p0->Bd N p'->p'.size=p.size->1<=m->m<=nrem->Srt O key p' m->G (m,p') s):(kas_descPart n nrem p).kasWp cmp G s:=by
 unfold kas_descPart
 rw [KasT.kasWp_bind]
 refine Eb (p0:=p0) hC (nrem - (n+1)) p (n+1) 0 hp hb hz (by omega) (by omega) hs (by omega) (fun i a b=>by congr 1; omega) fun p' m q' a1 a2 a3 a4 a5 a6 a7 a8=>?_
 have hsz:m<=p'.size:=by omega
 show (if q' > 0 then kas_tail3 m nrem (kas_rev p' (m - (q'+1)) m) else kas_tail3 m nrem p').kasWp cmp G s
 by_cases hq0:q' > 0
 ·rw [if_pos hq0]
  refine HR hC ((BY _ _ _).trans a1) (a2.perm (BY _ _ _)) (by rw [kas_rev_size]; omega) (by omega) a5 (fun i j hij hj=>?_) fun m' p'' b1 b2 b3 b4 b5 b6=>h m' p'' b1 b2 (b3.trans ((kas_rev_size _ _).trans a3)) b4 b5 b6
  rw [A5 hsz a8,A5 hsz a8]
  exact a6 i j hij hj
 ·rw [if_neg hq0]
  exact HR hC a1 a2 (by omega) (by omega) a5 a6 fun m' p'' b1 b2 b3 b4 b5 b6=>h m' p'' b1 b2 (b3.trans a3) b4 b5 b6
theorem Mz(hC:PK O key N cmp s){nrem:Nat}{G:Nat×Array Nat->Shared->Prop}(hp:p.Perm p0)(hb:Bd N p)(hz:nrem<=p.size)(h1:1<=nrem)
  (h:∀m p',p'.Perm p0->Bd N p'->p'.size=p.size->1<=m->m<=nrem->Srt O key p' m->G (m,p') s):(kas_count nrem p).kasWp cmp G s:=by
 unfold kas_count
 rw [KasT.kasWp_bind]
 refine JW (nrem:=nrem) hC hb (nrem - 1) 1 (Nat.le_refl _) (by omega) (fun i j hij hj=>by have:i=j:=(by omega); subst this; exact KeyOrd.kle_refl _) fun n hn1 hn2 hsn hor=>?_
 by_cases hnn:n=nrem
 ·rw [if_pos (by simpa using hnn)]
  exact h n p hp hb rfl hn1 hn2 hsn
 ·rw [if_neg (by simpa using hnn)]
  have hlt:O.klt (KN O key p n) (KN O key p (n - 1)):=hor.resolve_left hnn
  by_cases hgt:n > 1
  ·rw [if_pos hgt]
   show cmp (p.getD 0 0) (p.getD (n - 1) 0) (fun c s'=>(if c=true then KasT.ret (n,p) else kas_descPart n nrem (kas_rev p 0 n)).kasWp cmp G s') s
   refine hC _ _ _ (hb.get _) (hb.get _) ?_
   cases hrose:O.blt (key (p.getD 0 0)) (key (p.getD (n - 1) 0)) with
   | true=>exact yes (h n p hp hb rfl hn1 hn2 hsn)
   | false =>
    have hrose':O.kle (KN O key p (n - 1)) (KN O key p 0):=hrose
    have hsz:n<=p.size:=by omega
    have hall:∀k,0<=k->k<n->KN O key p k=KN O key p (n - 1):=by
     intro k _ hk
     have a1:=hsn 0 k (by omega) hk
     have a2:=hsn k (n - 1) (by omega) (by omega)
     exact KeyOrd.kle_antisymm a2 (KeyOrd.kle_trans hrose' a1)
    refine no (EO hC ((BY _ _ _).trans hp) (hb.perm (BY _ _ _)) (by rw [kas_rev_size]; exact hz) (by omega) (fun i j hij hj=>?_) fun m' p'' b1 b2 b3 b4 b5 b6=>h m' p'' b1 b2 (b3.trans (kas_rev_size _ _)) b4 b5 b6)
    rw [A5 hsz hall,A5 hsz hall]
    by_cases hjn:j<n
    ·rw [hall i (by omega) (by omega),hall j (by omega) hjn]; exact KeyOrd.kle_refl _
    ·have hj':j=n:=by omega
     subst hj'
     by_cases hi':i=j
     ·subst hi'; exact KeyOrd.kle_refl _
     ·rw [hall i (by omega) (by omega)]; exact KeyOrd.kle_of_klt hlt
  ·rw [if_neg hgt]
   have hn1':n=1:=by omega
   subst hn1'
   refine EO hC hp hb hz (by omega) (fun i j hij hj=>?_) h
   by_cases hi':i=j
   ·subst hi'; exact KeyOrd.kle_refl _
   ·have hi0:i=0:=by omega
    have hj1:j=1:=by omega
    subst hi0; subst hj1
    exact KeyOrd.kle_of_klt hlt
theorem Eu(hC:PK O key N cmp s)(hb:Bd N p){k:Nat}(hs:Srt O key p k){G:Nat->Shared->Prop}
  (h:∀l,l<=k->(∀i,i<l->O.kle (KN O key p i) (KN O key p k))->(∀i,l<=i->i<k->O.klt (KN O key p k) (KN O key p i))->G l s):∀(f l r:Nat),l<=r->r<=k->r - l<=f ->
  (∀i,i<l->O.kle (KN O key p i) (KN O key p k))->(∀i,r<=i->i<k->O.klt (KN O key p k) (KN O key p i))->(kas_place p k f l r).kasWp cmp G s
 | 0,l,r,hlr,hrk,hm,hlo,hhi=>by
  have:l=r:=by omega
  subst this
  exact h l hrk hlo hhi
 | f+1,l,r,hlr,hrk,hm,hlo,hhi=>by
  unfold kas_place
  by_cases hge:l≥r
  ·rw [if_pos hge]
   have:l=r:=by omega
   subst this
   exact h l hrk hlo hhi
  ·rw [if_neg hge]
   show cmp (p.getD k 0) (p.getD ((l+r) / 2) 0) (fun c s'=>(if c=true then kas_place p k f l ((l+r) / 2) else kas_place p k f ((l+r) / 2+1) r).kasWp cmp G s') s
   refine hC _ _ _ (hb.get _) (hb.get _) ?_
   cases hless:O.blt (key (p.getD k 0)) (key (p.getD ((l+r) / 2) 0)) with
   | true =>
    have hl:O.klt (KN O key p k) (KN O key p ((l+r) / 2)):=hless
    exact yes (Eu hC hb hs h f l ((l+r) / 2) (by omega) (by omega) (by omega) hlo fun i h1 h2=>KeyOrd.klt_of_klt_of_kle hl (hs _ _ h1 h2))
   | false =>
    have hl:O.kle (KN O key p ((l+r) / 2)) (KN O key p k):=hless
    exact no (Eu hC hb hs h f ((l+r) / 2+1) r (by omega) (by omega) (by omega) (fun i h1=>KeyOrd.kle_trans (hs i ((l+r) / 2) (by omega) (by omega)) hl) hhi)
theorem Cf(hC:PK O key N cmp s){n:Nat}{G:Array Nat->Shared->Prop}(h:∀p',p'.Perm p0->Srt O key p' n->G p' s):∀(f:Nat) (p:Array Nat) (k:Nat),p.Perm p0->Bd N p->n<=p.size->k+f=n->Srt O key p k->(kas_bin f p k).kasWp cmp G s
 | 0,p,k,hp,hb,hz,e,hs=>h p hp (by rw [← e]; exact hs)
 | f+1,p,k,hp,hb,hz,e,hs=>by
  rw [show kas_bin (f+1) p k=(kas_place p k k 0 k).bind fun l=>kas_bin f (bubble p k (k - l)) (k+1) from rfl,KasT.kasWp_bind]
  refine Eu hC hb hs (fun l hlk hlo hhi=>?_) k 0 k (Nat.zero_le _) (Nat.le_refl _) (by omega) (fun i hi=>by omega) fun i a b=>by omega
  have hks:k<p.size:=by omega
  refine Cf hC h f _ (k+1) ((bubble_perm _ _ _).trans hp) (hb.perm (bubble_perm _ _ _)) (by rw [bubble_size]; exact hz) (by omega) fun i j hij hj=>?_
  rw [GS hks (by omega),GS hks (by omega),show k - (k - l)=l by omega]
  by_cases hi1:i=l
  ·rw [if_pos hi1]
   by_cases hj1:j=l
   ·rw [if_pos hj1]; exact KeyOrd.kle_refl _
   ·rw [if_neg hj1,if_pos (by omega)]
    exact KeyOrd.kle_of_klt (hhi (j - 1) (by omega) (by omega))
  ·rw [if_neg hi1]
   by_cases hi2:l<i/\i<=k
   ·rw [if_pos hi2,if_neg (by omega),if_pos (by omega)]
    exact hs (i - 1) (j - 1) (by omega) (by omega)
   ·rw [if_neg hi2]
    by_cases hj1:j=l
    ·rw [if_pos hj1]; exact hlo i (by omega)
    ·rw [if_neg hj1]
     by_cases hj2:l<j/\j<=k
     ·rw [if_pos hj2]
      exact hs i (j - 1) (by omega) (by omega)
     ·rw [if_neg hj2]
      exact hs i j hij (by omega)
theorem sort_ok{n:Nat}(h1:1<=n)(hC:PK O key n cmp s){G:Array Nat->Shared->Prop}(h:∀p,p.Perm (List.toArray (List.range n))->Srt O key p n->G p s):(kas_sort n).kasWp cmp G s:=by
 unfold kas_sort
 rw [KasT.kasWp_bind]
 have hb:Bd n (List.toArray (List.range n)):=⟨h1,fun x hx=>by simpa using hx⟩
 have hsz:(List.toArray (List.range n)).size=n:=by simp
 refine Mz hC (Array.Perm.refl _) hb (by omega) h1 fun m p' a1 a2 a3 a4 a5 a6=>?_
 show (if m<n then kas_bin (n - max m 1) p' (max m 1) else KasT.ret p').kasWp cmp G s
 by_cases hlt:m<n
 ·rw [if_pos hlt,show max m 1=m by omega]
  exact Cf (p0:=List.toArray (List.range n)) hC h (n - m) p' m a1 a2 (by omega) (by omega) a6
 ·rw [if_neg hlt]
  exact h p' a1 (by rw [show n=m by omega]; exact a6)
end
end So
namespace L2
open PySem PySem.Spec PyProof.Rows PySem.W
noncomputable def P2:Key->Key->Bool
 | .inl i,.inl j=>decide (i<j)
 | .inr x,.inr y=>decide (x.cps.toList<y.cps.toList)
 | .inl _,.inr _=>true
 | .inr _,.inl _=>false
noncomputable def CN:List Key->List Key->Bool
 | [],[]=>false
 | [],_::_=>true
 | _::_,[]=>false
 | x::xs,y::ys=>if x=y then CN xs ys else P2 x y
theorem JD:∀x:Key,P2 x x=false
 | .inl i=>decide_eq_false (Int.lt_irrefl i)
 | .inr x=>decide_eq_false (List.lt_irrefl _)
theorem Kt:∀x y z:Key,P2 x y=true->P2 y z=true->P2 x z=true
 | .inl i,.inl j,.inl k,h1,h2=>decide_eq_true (Int.lt_trans (of_decide_eq_true h1) (of_decide_eq_true h2))
 | .inr i,.inr j,.inr k,h1,h2=>decide_eq_true (List.lt_trans (of_decide_eq_true h1) (of_decide_eq_true h2))
 | .inl i,.inl j,.inr k,_,_=>rfl
 | .inl i,.inr j,.inr k,_,_=>rfl
 | .inl i,.inr j,.inl k,_,h=>by cases h
 | .inr i,.inl j,_,h,_=>by cases h
 | .inr i,.inr j,.inl k,_,h=>by cases h
theorem Fu:∀x y:Key,P2 x y=false->P2 y x=false->x=y
 | .inl i,.inl j,h1,h2=>congrArg Sum.inl (by have a:=of_decide_eq_false h1; have b:=of_decide_eq_false h2; omega)
 | .inr x,.inr y,h1,h2=>by
  have a:=of_decide_eq_false h1
  have b:=of_decide_eq_false h2
  have e:x.cps.toList=y.cps.toList:=List.le_antisymm (as:=x.cps.toList) (bs:=y.cps.toList) b a
  obtain⟨u⟩:=x
  obtain⟨v⟩:=y
  exact congrArg Sum.inr (congrArg Str.mk (Array.ext' e))
 | .inl i,.inr j,h,_=>by cases h
 | .inr i,.inl j,_,h=>by cases h
theorem EK:∀x:List Key,CN x x=false
 | []=>rfl
 | x::xs=>by unfold CN; rw [if_pos rfl]; exact EK xs
theorem DA:∀x y z:List Key,CN x y=true->CN y z=true->CN x z=true
 | [],[],_,h,_=>by cases h
 | [],_::_,[],_,h=>by cases h
 | [],_::_,_::_,_,_=>rfl
 | _::_,[],_,h,_=>by cases h
 | _::_,_::_,[],_,h=>by cases h
 | x::xs,y::ys,z::zs,h1,h2=>by
  unfold CN at h1 h2 ⊢
  by_cases e1:x=y
  ·subst e1
   rw [if_pos rfl] at h1
   by_cases e2:x=z
   ·subst e2
    rw [if_pos rfl] at h2 ⊢
    exact DA xs ys zs h1 h2
   ·rw [if_neg e2] at h2 ⊢
    exact h2
  ·rw [if_neg e1] at h1
   by_cases e2:y=z
   ·subst e2
    rw [if_neg e1]
    exact h1
   ·rw [if_neg e2] at h2
    have h3:=Kt x y z h1 h2
    by_cases e3:x=z
    ·subst e3
     rw [JD] at h3
     cases h3
    ·rw [if_neg e3]
     exact h3
theorem DB:∀x y:List Key,CN x y=false->CN y x=false->x=y
 | [],[],_,_=>rfl
 | [],_::_,h,_=>by cases h
 | _::_,[],_,h=>by cases h
 | x::xs,y::ys,h1,h2=>by
  unfold CN at h1 h2
  by_cases e:x=y
  ·subst e
   rw [if_pos rfl] at h1 h2
   rw [DB xs ys h1 h2]
  ·rw [if_neg e] at h1
   rw [if_neg (fun z=>e z.symm)] at h2
   exact absurd (Fu x y h1 h2) e
noncomputable def Nv:KeyOrd:=⟨List Key,CN,EK,DA,fun a b c h=>by
 cases h1:CN a b with
 | true=>exact .inl rfl
 | false =>
  cases h2:CN b a with
  | true=>exact .inr (DA b a c h2 h)
  | false=>rw [← DB a b h1 h2]; exact .inr h,DB⟩
theorem Ju:∀x y:List Key,Az x y=true->Bv x y=CN x y
 | [],[],_=>rfl
 | [],_::_,_=>rfl
 | _::_,[],_=>rfl
 | x::xs,y::ys,h=>by
  have h':(EI x y&&Az xs ys)=true:=h
  rw [Bool.and_eq_true] at h'
  unfold Bv CN
  by_cases e:x=y
  ·rw [if_pos e,if_pos e]; exact Ju xs ys h'.2
  ·rw [if_neg e,if_neg e]
   cases x with
   | inl i=>cases y with
    | inl j=>rfl
    | inr z=>cases h'.1
   | inr i=>cases y with
    | inl j=>cases h'.1
    | inr z=>rfl
section
variable {prog:Program}{w:World}{A:Around}{E:Value->Shared->Prop}{s:Shared}
theorem MA{b:Bool}{Q:Bool->Shared->Prop}{nx ny:Nat}:∀(ns ms:List Key) (us ws:List Value) (i:Nat),Vals (ns.map kOf) us->Vals (ms.map kOf) ws->Az ns ms=true->ns.length+ny=ms.length+nx->Q (Bv ns ms) s ->
  KatLex prog w A b (decide (nx<ny)) Q (us.zip ws) i s
 | [],[],us,ws,i,h1,h2,_,hl,q=>by
  cases h1
  cases h2
  refine kat_nil ?_
  rw [show decide (nx<ny)=false from decide_eq_false (by simp only [List.length_nil] at hl; omega)]
  exact q
 | [],m::ms,us,ws,i,h1,h2,_,hl,q=>by
  cases h1
  rw [List.zip_nil_left]
  refine kat_nil ?_
  rw [show decide (nx<ny)=true from decide_eq_true (by simp only [List.length_nil,List.length_cons] at hl; omega)]
  exact q
 | n::ns,[],us,ws,i,h1,h2,_,hl,q=>by
  cases h2
  rw [List.zip_nil_right]
  refine kat_nil ?_
  rw [show decide (nx<ny)=false from decide_eq_false (by simp only [List.length_nil,List.length_cons] at hl; omega)]
  exact q
 | n::ns,m::ms,us,ws,i,h1,h2,hs,hl,q=>by
  have hs':(EI n m&&Az ns ms)=true:=hs
  rw [Bool.and_eq_true] at hs'
  have q':Q (if n=m then Bv ns ms else Qe n m) s:=q
  cases h1 with
  | @cons _ u _ ur r1 t1 =>
   cases h2 with
   | @cons _ v _ vr r2 t2 =>
    rw [List.zip_cons_cons]
    have ih:n=m->KatLex prog w A b (decide (nx<ny)) Q (ur.zip vr) (i+1) s:=fun e=>MA ns ms ur vr (i+1) t1 t2 hs'.2 (by simp only [List.length_cons] at hl; omega) (by rw [if_pos e] at q'; exact q')
    cases n with
    | inl x =>
     cases m with
     | inr y=>cases hs'.1
     | inl y =>
      obtain⟨tu,rfl⟩:=r1
      obtain⟨tv,rfl⟩:=r2
      refine kat_cons (wpAny_eqBool_int ?_)
      by_cases e:x=y
      ·rw [show (x==y)=true by simpa using e]
       exact kat_yes (ih (by rw [e]))
      ·rw [show (x==y)=false by simpa using e]
       refine kat_no ?_
       rw [if_neg (fun z=>e (Sum.inl.inj z))] at q'
       cases hf:(b&&i==0) with
       | true=>exact oneLt_int q'
       | false=>exact kat_one _ _ (PyProof.Rows.lt_int (show PySem.W.BoolBack Q (.bool (decide (x<y))) s from q'))
    | inr x =>
     cases m with
     | inl y=>cases hs'.1
     | inr y =>
      obtain⟨tu,rfl⟩:=r1
      obtain⟨tv,rfl⟩:=r2
      refine kat_cons (wpAny_eqBool_str ?_)
      by_cases e:x=y
      ·rw [show decide (x=y)=true by simpa using e]
       exact kat_yes (ih (by rw [e]))
      ·rw [show decide (x=y)=false by simpa using e]
       refine kat_no ?_
       rw [if_neg (fun z=>e (Sum.inr.inj z))] at q'
       cases hf:(b&&i==0) with
       | true=>exact oneLt_str q'
       | false=>exact kat_one _ _ (PySem.P.lt_str (show PySem.W.BoolBack Q (.bool (decide (x.cps.toList<y.cps.toList))) s from q'))
structure KQ (h:Heap) (ks:List Value) (keys:List (List Key)):Prop where
 at_:∀(i:Nat) (ns:List Key),keys[i]?=some ns->∃a o its n,ks[i]?=some (.ref a)/\h.get? a=some o/\o.cls=.type "tuple"/\o.data=.seq its n/\Vals (ns.map kOf) its.toList
 len:ks.length=keys.length
 same:∀x∈keys,∀y∈keys,Az x y=true
 ne:∀x∈keys,x≠[]
noncomputable def Rw:Key->String
 | .inl _ => "int"
 | .inr _ => "str"
theorem firsts{h:Heap}:∀(ks:List Value) (keys:List (List Key)) (T:String),ks.length=keys.length->(∀(i:Nat) (ns:List Key),keys[i]?=some ns->∃a o its n,ks[i]?=some (.ref a)/\h.get? a=some o/\o.cls=.type "tuple"/\o.data=.seq its n/\Vals (ns.map kOf) its.toList) ->
  (∀x∈keys,∃k r,x=k::r/\Rw k=T)->∃fs:List Value,KatTups h ks fs/\fs.length=keys.length/\∀v∈fs,typeOf v=pure (.type T)
 | [],[],T,_,_,_=>⟨[],trivial,rfl,fun v hv=>by cases hv⟩
 | [],_::_,T,hl,_,_=>by cases hl
 | _::_,[],T,hl,_,_=>by cases hl
 | k::ks,x::keys,T,hl,h1,h2=>by
  obtain⟨fs,g1,g2,g3⟩:=firsts ks keys T (by simpa using hl) (fun i ns e=>by
   obtain⟨a,o,its,n,e1,r⟩:=h1 (i+1) ns (by simpa using e)
   exact⟨a,o,its,n,by simpa using e1,r⟩) fun y hy=>h2 y (List.mem_cons_of_mem _ hy)
  obtain⟨a,o,its,n,e1,e2,e3,e4,e5⟩:=h1 0 x rfl
  have e1:k=.ref a:=by simpa using e1
  subst e1
  obtain⟨k,r,rfl,hk⟩:=h2 x List.mem_cons_self
  rw [List.map_cons] at e5
  cases hits:its.toList with
  | nil=>rw [hits] at e5; cases e5
  | cons f tl =>
   rw [hits] at e5
   cases e5 with
   | cons r1 r2 =>
    refine⟨f::fs,KatTups.cons e2 e3 e4 (by rw [← Array.getElem?_toList,hits]; rfl) g1,by rw [List.length_cons,List.length_cons,g2],fun v hv=>?_⟩
    rcases List.mem_cons.mp hv with rfl | hv
    ·cases k with
     | inl i=>obtain⟨t,rfl⟩:=r1; subst hk; rfl
     | inr i=>obtain⟨t,rfl⟩:=r1; subst hk; rfl
    ·exact g3 v hv
theorem KZ{ks:List Value}{keys:List (List Key)}(K:KQ s.heap ks keys)(h2:2<=ks.length){G:Array Nat->Shared->Prop}(h:∀p,p.Perm (List.toArray (List.range ks.length))->So.Srt Nv (fun i=>keys.getD i []) p ks.length->G p s) :
  wpAny (model prog w) A (keyKind' ks.toArray) (fun κ s'=>(kas_sort ks.length).kasWp (kas_ask prog w A κ ks) G s') (fun _ _=>False) s:=by
 obtain⟨x0,xr,hx⟩:∃x0 xr,keys=x0::xr:=by
  cases e:keys with
  | nil=>have:=K.len; rw [e] at this; simp only [List.length_nil] at this; omega
  | cons x r=>exact⟨x,r,rfl⟩
 have m0:x0∈keys:=by rw [hx]; exact List.mem_cons_self
 obtain⟨k0,r0,e0⟩:∃k r,x0=k::r:=by
  cases e:x0 with
  | nil=>exact absurd e (K.ne x0 m0)
  | cons k r=>exact⟨k,r,rfl⟩
 have hty:∀x∈keys,∃k r,x=k::r/\Rw k=Rw k0:=fun x hm=>by
  cases e:x with
  | nil=>exact absurd e (K.ne x hm)
  | cons k r =>
   refine⟨k,r,rfl,?_⟩
   have hsm:=K.same x hm x0 m0
   rw [e,e0] at hsm
   have hsm:(EI k k0&&Az r r0)=true:=hsm
   rw [Bool.and_eq_true] at hsm
   cases k with
   | inl i=>cases k0 with
    | inl j=>rfl
    | inr j=>cases hsm.1
   | inr i=>cases k0 with
    | inl j=>cases hsm.1
    | inr j=>rfl
 obtain⟨fs,g1,g2,g3⟩:=firsts ks keys (Rw k0) K.len K.at_ hty
 refine kat_kind g1 (by rw [g2,← K.len]; omega) (fun v hv=>by rw [g3 v hv]; exact Looks.now) (by simp) ?_
 refine So.sort_ok (O:=Nv) (key:=fun i=>keys.getD i []) (by omega) (fun i j C hi hj hC=>?_) h
 have hi':i<keys.length:=by rw [← K.len]; exact hi
 have hj':j<keys.length:=by rw [← K.len]; exact hj
 obtain⟨a,o,its,n,e1,e2,e3,e4,e5⟩:=K.at_ i keys[i] (List.getElem?_eq_getElem hi')
 obtain⟨a',o',its',n',e1',e2',e3',e4',e5'⟩:=K.at_ j keys[j] (List.getElem?_eq_getElem hj')
 unfold kas_ask
 rw [show ks.getD i Value.none=.ref a by rw [List.getD_eq_getElem?_getD,e1]; rfl,show ks.getD j Value.none=.ref a' by rw [List.getD_eq_getElem?_getD,e1']; rfl]
 have hsm:=K.same _ (List.getElem_mem hi') _ (List.getElem_mem hj')
 refine kat_lt e2 e4 e2' e4' (MA keys[i] keys[j] _ _ 0 e5 e5' hsm ?_ ?_)
 ·have l1:=e5.length
  have l2:=e5'.length
  have l3:(keys[i].map kOf).length=keys[i].length:=List.length_map ..
  have l4:(keys[j].map kOf).length=keys[j].length:=List.length_map ..
  have l5:its.toList.length=its.size:=Array.length_toList
  have l6:its'.toList.length=its'.size:=Array.length_toList
  omega
 ·rw [Ju _ _ hsm]
  have g1:keys.getD i []=keys[i]:=by rw [List.getD_eq_getElem?_getD,List.getElem?_eq_getElem hi']; rfl
  have g2:keys.getD j []=keys[j]:=by rw [List.getD_eq_getElem?_getD,List.getElem?_eq_getElem hj']; rfl
  have hC':C (CN (keys.getD i []) (keys.getD j [])) s:=hC
  rw [g1,g2] at hC'
  exact hC'
theorem GY{v:Value}{kw:List (Str×Value)}{Q:Value->Shared->Prop}(ha1:argsOk "sorted" ⟨[v],kw⟩)(ha2:∀x,argsOk "list.sort" ⟨[.ref x],kw⟩)
  (hc:wpAny (model prog w) A.in1 (collect v) (fun vs s1=>vs.length<=sizeLine/\wpAny (model prog w) A.in1.in1 (Builtin.«list.sort» ⟨[.ref s1.heap.objs.size],kw⟩) (fun fin s'=>fin=.done (.ret .none)/\Q (.ref s1.heap.objs.size) s') E { s1 with heap:=s1.heap.push (seqObj "list" vs.toArray 0) }) E s) :
  wpAny (model prog w) A (call (.builtin "sorted") [v] kw) Q E s:=by
 refine call_function_entry_kw kind_sorted plain_sorted entry_sorted ha1 ?_
 unfold Builtin.«sorted»
 refine wpAny_bind (m:=checkCount "sorted" 1 1 _) (wpAny_pure ?_)
 refine wpAny_bind (wpAny_mono hc (fun vs s1 h=>?_) fun _ _ x=>x)
 refine wpAny_bind (wpAny_newList ?_ h.1)
 have hoL:(s1.heap.push (seqObj "list" vs.toArray 0)).get? s1.heap.objs.size=some (seqObj "list" vs.toArray 0):=Heap.get?_push_size _ rfl
 refine wpAny_bind (wpAny_holding (wpAny_call_entry_kw PyProof.Rows.slot_list_sort ⟨_,hoL,rfl⟩ PyProof.Rows.entry_list_sort (wpAny_mono h.2 (fun fin s' hf=>?_) fun _ _ x=>x) (ha2 _)))
 exact⟨_,hf.1,wpAny_pure ⟨_,rfl,hf.2⟩⟩
noncomputable def EH(h:Heap)(D:Addr)(vs:List Value):Heap:=((h.update D (Obj.mapSeq fun _=>(#[]:Array Value))).push (seqObj "tuple" vs.toArray 0)).push (seqObj "list" #[] 0)
theorem Fo{h:Heap}{D:Addr}{vs:List Value}{b:Addr}{o:Obj}(hb:b≠D)(e:h.get? b=some o):(EH h D vs).get? b=some o :=
 Heap.get?_push_of_some _ (Heap.get?_push_of_some _ ((Heap.get?_update_other _ _ (Ne.symm hb)).trans e))
theorem LQ{h:Heap}{D:Addr}{vs:List Value}{n:Nat}(ho:h.get? D=some (seqObj "list" vs.toArray n)):∃e1,(EH h D vs).get? D=some (seqObj "list" #[] e1)/\(h.update D (Obj.mapSeq fun _=>(#[]:Array Value))).get? D=some (seqObj "list" #[] e1):=by
 obtain⟨e1,ho1⟩:∃e1,(h.update D (Obj.mapSeq fun _=>(#[]:Array Value))).get? D=some (seqObj "list" #[] e1):=⟨_,get?_update_seq ho fun _=>#[]⟩
 exact⟨e1,Heap.get?_push_of_some _ (Heap.get?_push_of_some _ ho1),ho1⟩
theorem Ht{D:Addr}{vs:List Value}{n:Nat}{P:PySem.Fin->Shared->Prop}{G:Array Nat->Prop}(ho:s.heap.get? D=some (seqObj "list" vs.toArray n))(h64:vs.length<64)
  (hk:2<=vs.length->wpAny (model prog w) A (keyKind' vs.toArray) (fun κ s'=>(kas_sort vs.length).kasWp (kas_ask prog w A κ vs) (fun p s''=>s''={ s with heap:=EH s.heap D vs }/\G p) s') (fun _ _=>False) { s with heap:=EH s.heap D vs })
  (h1:vs.length<2->G (List.toArray (List.range vs.length))) (hfin:∀(p:Array Nat) (h':Heap) (c:Nat),p.size=vs.length->G p->(∀b o,b≠D->s.heap.get? b=some o->h'.get? b=some o)->h'.get? D=some (seqObj "list" (List.toArray (p.toList.map fun i=>vs.getD i Value.none)) c)->P (.done (.ret .none)) { s with heap:=h' }) :
  wpAny (model prog w) A (Builtin.«list.sort» ⟨[.ref D],[]⟩) P E s:=by
 obtain⟨e1,ho6,ho1⟩:=LQ ho
 have fin:∀(p:Array Nat),p.size=vs.length->G p->P (.done (.ret .none)) { s with heap:=(EH s.heap D vs).update D (Obj.mapSeq fun _=>List.toArray (p.toList.map fun i=>vs.getD i Value.none)) }:=fun p hp hg=>by
  obtain⟨c2,hc2⟩:∃c2,((EH s.heap D vs).update D (Obj.mapSeq fun _=>List.toArray (p.toList.map fun i=>vs.getD i Value.none))).get? D=some (seqObj "list" (List.toArray (p.toList.map fun i=>vs.getD i Value.none)) c2):=⟨_,get?_update_seq ho6 fun _=>List.toArray (p.toList.map fun i=>vs.getD i Value.none)⟩
  exact hfin p _ c2 hp hg (fun b o hb e=>(Heap.get?_update_other _ _ (Ne.symm hb)).trans (Fo hb e)) hc2
 rw [list_sort_plain]
 refine wpAny_bind (listItems_at ho rfl ?_)
 refine wpAny_bind (listUpdate_at ho rfl ?_ (by rw [List.size_toArray,sizeLine_eq]; omega) (Nat.zero_le _))
 refine wpAny_bind (seqEpoch_at ho1 rfl ?_)
 refine wpAny_bind (wpAny_newTuple ?_ (by show vs.length<=_; rw [sizeLine_eq]; omega))
 refine wpAny_bind (wpAny_newList ?_ (Nat.zero_le _))
 refine wpAny_holding ?_
 show wpAny (model prog w) A _ P E { s with heap:=EH s.heap D vs }
 dsimp only
 by_cases h2:vs.length<2
 ·have h2':vs.toArray.size<2:=by rw [List.size_toArray]; exact h2
  rw [if_pos h2',if_pos h2']
  refine wpAny_bind (wpAny_pure ?_)
  rw [StateT.run_pure]
  refine wpAny_bind (wpAny_pure ?_)
  dsimp only
  refine wpAny_bind (seqEpoch_at ho6 rfl ?_)
  have hsz:(List.toArray (List.range vs.length)).size=vs.length:=by simp
  have hout:(arrOf (SortSt.mk' general' (vs.toArray.zip vs.toArray) #[] 7 none)).map (·.2)=List.toArray ((List.toArray (List.range vs.length)).toList.map fun i=>vs.getD i Value.none):=by
   refine kat_snds rfl ?_
   have e:=kas_range (vs.toArray.zip vs.toArray)
   rw [show (vs.toArray.zip vs.toArray).size=vs.length by simp] at e
   exact e.symm
  rw [hout]
  refine wpAny_bind (listUpdate_at ho6 rfl ?_ (Nat.zero_le _) (by rw [List.size_toArray,List.length_map,Array.length_toList,hsz,sizeLine_eq]; omega))
  simp only [bne_self_eq_false,Bool.false_eq_true,if_false]
  exact wpAny_pure (fin _ hsz (h1 h2))
 ·have h2':¬vs.toArray.size<2:=by rw [List.size_toArray]; exact h2
  rw [if_neg h2',if_neg h2']
  refine wpAny_bind (wpAny_mono (hk (by omega)) (fun κ s0 hk=>?_) fun _ _ x=>x.elim)
  refine wpAny_bind (wpAny_mono (kat_run (Q:=fun st' s'=>∃p:Array Nat,p.size=vs.length/\arrOf st'=p.map (kas_item (vs.toArray.zip vs.toArray))/\failedOf st'=none/\s'={ s with heap:=EH s.heap D vs }/\G p)
   rfl (by omega) h64 (fun p' st' s' a1 a2 a3 a4=>⟨p',a1,a2,a3,a4⟩) hk) ?_ fun _ _ e=>e)
  rintro ⟨⟨⟩,st'⟩ s' ⟨p,hp,har,hf,rfl,hg⟩
  dsimp only
  have hout:=kat_snds rfl har
  have hsz:(List.toArray (p.toList.map fun i=>vs.getD i Value.none)).size=vs.length:=by rw [List.size_toArray,List.length_map,Array.length_toList,hp]
  rw [hout]
  refine wpAny_bind (seqEpoch_at ho6 rfl ?_)
  refine wpAny_bind (listUpdate_at ho6 rfl ?_ (Nat.zero_le _) (Nat.le_trans (Nat.le_of_eq hsz) (by rw [sizeLine_eq]; omega)))
  rw [hf]
  simp only [bne_self_eq_false,Bool.false_eq_true,if_false]
  exact wpAny_pure (fin p hp hg)
end
section
variable {X:Cx}{pins:List (Addr×Obj)}{σ:L2.St}{H:Hp}{s:Shared}{h':Heap}
structure TB (X:Cx) (pins:List (Addr×Obj)) (D:Addr):Prop where
 new:X.s₀.heap.objs.size<=D
 loc:D≠X.env.locals
 cell:∀x c,X.env.cells.lookup x=some c->c≠D
 pin:∀p∈X.pn++pins,p.1≠D
 fs:D∉X.fs
structure KeysAt (K:Frag) (H:Hp) (vs:List V) (keys:List (List Key)):Prop where
 len:vs.length=keys.length
 at_:∀(i:Nat) (ns:List Key),keys[i]?=some ns->∃a,vs[i]?=some (.ref a)/\SqT K H a (ns.map kOf)
 same:∀x∈keys,∀y∈keys,Az x y=true
 ne:∀x∈keys,x≠[]
noncomputable def KS(keys:List (List Key))(ix:List Nat):Prop:=ix.Perm (List.range keys.length)/\∀i j,i<=j->j<keys.length->CN (keys.getD (ix.getD j 0) []) (keys.getD (ix.getD i 0) [])=false
theorem KeysAt.tups{vs:List V}{us:List Value}{keys:List (List Key)}(I:Inv X pins σ H s)(r:Vals vs us)(k:KeysAt X.K H vs keys){h':Heap}(hk:∀b o,s.heap.get? b=some o->h'.get? b=some o):KQ h' us keys:=by
 refine⟨fun i ns e=>?_,r.length.symm.trans k.len,k.same,k.ne⟩
 obtain⟨a,e1,h1⟩:=k.at_ i ns e
 obtain⟨u,e2,r2⟩:=r.get e1
 cases r2
 obtain⟨its,r3,⟨o,ho,hc,n,hd⟩,_⟩:=I.tuple h1
 exact⟨a,o,its.toArray,n,e2,hk a o ho,hc,hd,by rw [List.toList_toArray]; exact r3⟩
theorem Fj:∀{vs:List V} {us:List Value},Vals vs us->∀i:Nat,RelV (vs.getD i .non) (us.getD i Value.none)
 | _,_,.nil,i=>by simp [RelV]
 | _,_,.cons r t,0=>by simpa using r
 | _,_,.cons r t,i+1=>by simpa using Fj t i
theorem HJ{f:Nat->V}{g:Nat->Value}(h:∀i,RelV (f i) (g i)):∀ix:List Nat,Vals (ix.map f) (ix.map g)
 | []=>.nil
 | i::ix=>.cons (h i) (HJ h ix)
theorem getD_list(p:Array Nat)(i:Nat):p.getD i 0=p.toList.getD i 0:=by simp
theorem Pu{keys:List (List Key)}{n:Nat}{p:Array Nat}(hn:keys.length=n)(h1:p.Perm (List.toArray (List.range n)))(h2:So.Srt Nv (fun i=>keys.getD i []) p n):KS keys p.toList:=by
 subst hn
 refine⟨Array.perm_iff_toList_perm.mp h1,fun i j hij hj=>?_⟩
 have h:=h2 i j hij hj
 unfold So.KN at h
 rw [getD_list,getD_list] at h
 exact h
theorem Kc{A':Around}{E':Value->Shared->Prop}{vs:List V}{us:List Value}{keys:List (List Key)}{Q:VK}(I:Inv X pins σ H s)(r:Vals vs us)(h64:vs.length<64)(k:KeysAt X.K H vs keys)
  (q:∀(ix:List Nat) (l:Addr),KS keys ix->H l=none->Q (.ref l) (Aw H l (.lst (ix.map fun i=>vs.getD i .non)))) :
  wpAny (model X.prog X.w) A' (Builtin.«list.sort» ⟨[.ref s.heap.objs.size],[]⟩) (fun fin s'=>fin=.done (.ret .none)/\EP X pins σ Q (.ref s.heap.objs.size) s') E' { s with heap:=s.heap.push (seqObj "list" us.toArray 0) }:=by
 have hl:=r.length
 have hkl:keys.length=us.length:=k.len.symm.trans hl
 refine Ht (G:=fun p=>p.Perm (List.toArray (List.range us.length))/\So.Srt Nv (fun i=>keys.getD i []) p us.length) (n:=0) (Heap.get?_push_size _ rfl) (by omega) (fun h2=>?_) (fun h1=>⟨Array.Perm.refl _,fun i j hij hj=>?_⟩) (fun p h' c hp hg hold hD=>⟨rfl,?_⟩)
 ·refine KZ (keys:=keys) (k.tups I r fun b o e=>?_) h2 (fun p a b=>⟨rfl,a,b⟩)
  exact Fo (Nat.ne_of_lt (Heap.lt_size e)) (Heap.get?_push_of_some _ e)
 ·have:i=j:=by omega
  subst this
  exact KeyOrd.kle_refl _
 ·have hf:H s.heap.objs.size=none:=I.fresh
  have hix:(p.toList.map fun i=>vs.getD i .non).length=us.length:=by rw [List.length_map,Array.length_toList,hp]
  refine⟨.ref s.heap.objs.size,Aw H s.heap.objs.size (.lst (p.toList.map fun i=>vs.getD i .non)),I.laid (t':=s.toks) (fun b o e=>hold b o (Nat.ne_of_lt (Heap.lt_size e)) (Heap.get?_push_of_some _ e)) (Nat.le_refl _) ⟨by rw [hix,← hl,sizeLine_eq]; omega,_,c,HJ (Fj r) p.toList,hD⟩,rfl,q _ _ (Pu hkl hg.1 hg.2) hf⟩
end
end L2
namespace L2
open PySem PySem.Spec PyProof.Rows
section
variable {X:Cx}{tg elt iter:Expr}{ifs:List Expr}{sc:Scope}{pos spos pos':Pos}{N':List Str}{js:List (Option Nat)}{wi:TI}{i:Nat}{x:Str}
theorem Nc(hc:X.calm=true)(N':List Str)(js:List (Option Nat))(hi:PI X tg iter wi)
  (hB:FG sc X.env.scope X.N N' js=true) (hN:X.N.Nodup) (hix:X.N[i]?=some x) (hx:Loc X.env.scope x)
  (hsw:swapsWith (.ListComp elt [⟨tg,iter,ifs,0⟩] sc pos) (some (.Name x pos')) spos.line X.env=pure true)
  (hs:autoParam (∀x,foldedSetIterable iter X.env x=pure x) zau2._auto_1)
  (hf:autoParam (X.fn x=true\/X.env.scope.names.lookup x=some .local) zau0._auto_1) :
  PS X (.Assign [.Name x pos'] (.ListComp elt [⟨tg,iter,ifs,0⟩] sc pos) spos) (HS (LP X sc N' js tg elt ifs wi) (EM i)):=by
 intro pins s σ H D I h
 have O:CompOk X sc N' js:=CompOk.of hB
 obtain⟨cl,hclos,hcl,hcl2⟩:=FH (scope:=sc) (env:=X.env) fun x hx=>I.ok.has x (O.free x hx)
 rw [exec_Assign_Name_used _ _ _ _ hsw]
 refine wpAny_bind (wpAny_standAt (wpAny_bind ?_))
 show wpAny _ _ (do let _ ← comprehension (.ListComp elt [⟨tg,iter,ifs,0⟩] sc pos) sc X.env _ (newList []) false (eval iter X.env) (some (assign (.Name x pos') X.env))) _ _ s
 refine wpAny_bind (wpAny_mono (wpAny_comprehension_free (Q:=fun _ s'=>SP X pins D .next s') (use:=some (assign (.Name x pos') X.env)) rfl hs hclos O.kind O.names (A2 (hi pins s σ H _ I h) fun v s1 h1=>A2 h1 fun itv s2 h2=>?_))
  (fun _ s' hq=>wpAny_pure (wpAny_pure hq)) fun _ _ e=>e)
 obtain⟨it,fp,tn,J,H2,e,I2,T,st2,f2,hq⟩:=h2
 subst e
 have kfree:X.K.lookup s2.heap.objs.size=none:=by
  cases q:X.K.lookup s2.heap.objs.size with
  | none=>rfl
  | some o=>exact absurd (Heap.lt_size (I2.kIn _ _ q)) (Nat.lt_irrefl _)
 obtain⟨g,tt,te,W,hg,ht,he,⟨m0,w0⟩,hW⟩:=hq s2.heap.objs.size (I2.hok.fresh (Nat.le_refl _)) kfree cl (s2.heap.objs.size+1) s2 H2 fp
 refine wpAny_newObj_type (wpAny_newFunctionEnv O.cell (by intro y hy; simp at hy) (fun h₁ hns₁ hsb₁=>?_) O.kind)
 dsimp only at hns₁ hsb₁ ⊢
 generalize hH2:s2.heap.push { cls:=.type "list",dict:=none,data:=.seq ([]:List Value).toArray }=Hh at hns₁ hsb₁ ⊢
 have hCe:Hh.objs.size=s2.heap.objs.size+1:=by rw [← hH2,Heap.size_push]
 have hlt:∀b∈fp,b<s2.heap.objs.size:=fun b hb=>by
  obtain⟨o,e,_⟩:=T.obj _ _ st2 b hb
  exact Heap.lt_size e
 have old:∀b o,s2.heap.get? b=some o->h₁.get? b=some o:=fun b o e=>hsb₁.extBut b o (by rw [hCe]; exact Nat.ne_of_lt (Nat.lt_succ_of_lt (Heap.lt_size e))) (Heap.get?_push_of_some _ (hH2▸Heap.get?_push_of_some _ e))
 have hD:∃n,h₁.get? s2.heap.objs.size=some { cls:=.type "list",data:=.seq #[] n }:=⟨_,hsb₁.extBut _ _ (by rw [hCe]; exact Nat.ne_of_lt (Nat.lt_succ_self _)) (Heap.get?_push_of_some _ (hH2▸Heap.get?_push_size _ rfl))⟩
 have I3:∀tk,Inv (Ad X sc N' cl (s2.heap.objs.size+1) s2 H2 fp) [] (Bn js σ) (Aw H2 s2.heap.objs.size (.lst [])) { s2 with heap:=h₁,toks:=tk }:=fun tk =>
  IE I2 hc O hcl hcl2 f2 (fun b hb=>let ⟨o,e,_⟩:=T.obj _ _ st2 b hb; ⟨o,e⟩) (by rw [← hCe]; exact hns₁) old hD
 have st3:tn 0 h₁:=T.keep _ _ _ st2 fun b hb o e=>old b o e
 have fr3:∀b∈fp,Aw H2 s2.heap.objs.size (.lst []) b=none:=fun b hb=>by
  rw [AL (Nat.ne_of_lt (hlt b hb))]
  exact(f2 b hb).1
 have loop:∀tk,codeAny (model X.prog X.w) X.A (.compLoop (.ListComp elt [⟨tg,iter,ifs,0⟩] sc pos) 0 (.ref it) (.ref s2.heap.objs.size) (compEnvC sc cl (s2.heap.objs.size+1) X.env))
   (compPost (model X.prog X.w) X.A X.xe (some (assign (.Name x pos') X.env)) (fun _ s'=>SP X pins D .next s') (.ref s2.heap.objs.size) (s2.heap.objs.size+1)) { s2 with heap:=h₁,toks:=tk }:=fun tk=>by
  refine GC (W:=W) (m0:=m0) (Q:=fun v H1=>EM i v σ H1 fun σ2 H2=>D.nx σ2 H2) I2 f2 hlt (Nat.le_succ _) T hg ht he hW (fun σ' H' s' J' q'=>?_) (I3 tk) st3 fr3 w0
  obtain⟨m,hn,_⟩:=J'.loc
  have hCn:H' (s2.heap.objs.size+1)=none:=J'.free
  have I4:Inv X pins σ H' s':=E9 (h':=s'.heap) I2 f2 (Nat.le_succ _) J' fun b _=>rfl
  obtain⟨g1,g2,g3,g4,g5,g6⟩:=I2.fpOk (b:=s2.heap.objs.size+1) (Nat.le_succ _) hCn
  show wpAny (model X.prog X.w) X.A (assign (.Name x pos') X.env (.ref s2.heap.objs.size)) (fun _ s''=>∃m,s''.heap.Ns (s2.heap.objs.size+1) m/\∀h',Heap.SameBut (s2.heap.objs.size+1) s''.heap h'->SP X pins D .next { s'' with heap:=h' }) X.xe s'
  refine wpAny_assign_Name (Fn (v:=.ref s2.heap.objs.size) I4 hN hix hx rfl (fun s5 I5 ⟨a,hsame,ha⟩=>?_) hf)
  have na:s2.heap.objs.size+1≠a:=by
   rcases ha with rfl | ha
   ·exact g2
   ·exact fun z=>g5 _ _ ha z.symm
  refine⟨m,hn.sameBut hsame na,fun h' hs'=>?_⟩
  exact⟨_,H',I5.turned (t':=s5.toks) (it:=s2.heap.objs.size+1) (fun b o hb e=>hs'.extBut b o hb e) hCn g2 g4 g5 g6,q'⟩
 rw [show (newEnv sc Hh.objs.size X.env.globals cl X.env.qual none .none (some X.env) builtinsNs).locals=s2.heap.objs.size+1 from hCe]
 show codeAny (model X.prog X.w) X.A (.compStart (.ListComp elt [⟨tg,iter,ifs,0⟩] sc pos) 0 (.ref it) (.ref s2.heap.objs.size) (compEnvC sc cl (s2.heap.objs.size+1) X.env)) _ _
 exact codeAny_compStart_list (loop _) (T.self _ 0 _ _ _ st3 (loop _))
end
end L2
namespace Dp
open PySem PySem.Spec PyProof.Rows L2
section
variable {X:Cx}{κe:Kd}{tg elt iter:Expr}{ifs:List Expr}{sc:Scope}{pos:Pos}{src:Dw}{b:BW}{tt:FN}{te:DW}
theorem M5(hc:X.calm=true)(N':List Str)(js:List (Option Nat))(hi:Rt X tg iter src)(hg:∀cl C s H fp,DG (Ad X sc N' cl C s H fp) tg b)(ht:∀cl C s H fp,SE (Ad X sc N' cl C s H fp) ifs tt)(he:∀cl C s H fp,DE (Ad X sc N' cl C s H fp) elt κe te)
  (hB:FG sc X.env.scope X.N N' js=true) (hk:autoParam (κe≠.tp) zau7._auto_1)
  (hs:autoParam (∀x,foldedSetIterable iter X.env x=pure x) zau2._auto_1):∃wi,PI X tg iter wi/\∀(C:Fm) (M:Addr->Prop) (H:Hp) (n:Nat) (ρ:List Slot) (σ:L2.St) (P:D->Nat->Prop) (Q:VK),Rel X.K C M H n ρ σ->CT js src b tt te n ρ P ->
   (∀v H' d n',Ext C.U H H'->FeedC X.K C.F M H' n'->VR X.K C.V M H H' .fr v d->P d n'->Q v H')->LP X sc N' js tg elt ifs wi σ H Q:=by
 obtain⟨wi,a1,a2⟩:=hi
 refine⟨wi,a1,fun C M H n ρ σ P Q R w q=>?_⟩
 refine a2 C M H n ρ σ _ _ R w fun J H1 ds n1 e1 f1 y w1=>?_
 obtain⟨hlen,w1⟩:=w1
 have R1:=R.step e1 f1
 intro l hl hkl cl Ca s0 H0 fp
 obtain⟨g,g1,g2⟩:=hg cl Ca s0 H0 fp
 obtain⟨tc,c1,c2⟩:=ht cl Ca s0 H0 fp
 obtain⟨tx,x1,x2⟩:=he cl Ca s0 H0 fp
 have noU:¬C.U l:=fun z=>by
  obtain⟨o,z⟩:=R1.udom l z
  rw [hl] at z; cases z
 generalize hM':(fun b=>M b\/b=l)=M'
 have M'l:M' l:=by rw [← hM']; exact .inr rfl
 have M'of:∀b,M b->M' b:=fun b z=>by rw [← hM']; exact .inl z
 have ofM':∀b,M' b->M b\/b=l:=fun b z=>by rw [← hM'] at z; exact z
 have inV:∀b,C.V b\/b=l->M' b:=fun b z=>z.elim (fun z=>M'of b (R1.vM b z)) fun z=>by rw [z]; exact M'l
 have lenj:js.length=N'.length:=Ce (CompOk.of hB).cap
 refine⟨g,tc,tx,fun i m σ' H'=>m=ds.length - i/\i<=ds.length/\∃n' ρ' acc vs,Rel X.K ⟨M',C.F,C.U,fun b=>C.V b\/b=l,H1,[],[]⟩ M' H' n' ρ' σ'/\H' l=some (.lst vs)/\Ats X.K M' H' acc vs/\acc.length<=i/\Pres M H1 M' H' /\
   E3 b tt te (fun acc n2=>P (.lst acc) n2) (ds.drop i) acc n' ρ',g1,c1,x1,⟨ds.length,by simp,Nat.zero_le _,n1,Dc js ρ,[],[],?_⟩,?_⟩
 ·have gr:Grow H1 (Aw H1 l (.lst [])):=Ag hl
  have pr:Pres M H1 M' (Aw H1 l (.lst [])):=⟨fun b o e _=>gr.all b o e,fun b z=>(ofM' b z).elim .inl fun z=>.inr (by rw [z]; exact hl),fun b vs e=>gr.all b _ e⟩
  refine⟨⟨?_,fun a z=>z,fun a z=>?_,gr.ext,R1.fU,fun a z=>.inl (R1.uV a z),inV,f1.pres pr fun f o _ e=>gr.all f.1 o e,?_,fun p hp=>absurd hp (by simp),fun i d a q z=>Jt R1.sl q z,fun i s a q o _=>absurd o (by rw [CQ q]; decide),fun i j s t a q o _ _ _ _=>absurd o (by rw [CQ q]; decide),fun p hp=>absurd hp (by simp)⟩,AM,rfl,Nat.zero_le _,pr,w1⟩
  ·unfold Dc Bn
   rw [List.length_map,List.length_map]
  ·rcases ofM' a z with z | z
   ·obtain⟨o,z⟩:=R1.dom a z
    exact⟨o,gr.all a o z⟩
   ·subst z
    exact⟨_,AM⟩
  ·refine Hv R1.sl pr fun d v h=>h.same pr (fun a o _ e=>gr.all a o e) fun a e n1 z=>z.elim n1 fun z=>?_
   subst e
   obtain⟨o,w⟩:=h.lies
   rw [z,hl] at w
   cases w
 ·rintro i m σ' H' ⟨rfl,hi,n',ρ',acc,vs,R',hlv,hac,hal,pr,w'⟩
  by_cases hlt:i<ds.length
  ·have ed:ds.drop i=ds[i]::ds.drop (i+1):=List.drop_eq_getElem_cons hlt
   rw [ed] at w'
   obtain⟨go,yl⟩:=(y i M' H' pr R'.ext R'.dom).1 ds[i] (List.getElem?_eq_getElem hlt)
   refine .inr ⟨go,fun x H2 hy=>?_⟩
   obtain⟨gr,hx⟩:=yl x H2 hy
   have R2':=R'.step gr.ext (R'.feed.grow gr)
   refine g2 _ M' H2 n' ρ' σ' ds[i] x _ _ R2' hx w' fun ρ3 σ3 R3 w3=>?_
   refine c2 _ M' H2 n' ρ3 σ3 _ _ R3 w3 fun c H4 n4 e4 f4 w4=>?_
   have R4:=R3.step e4 f4
   have p4:Pres M' H' M' H4:=gr.pres.trans (R3.pres e4)
   have l4:H4 l=some (.lst vs):=e4.keep (gr.all _ _ hlv) noU
   cases c with
   | false=>exact⟨ds.length - (i+1),by omega,rfl,hlt,n4,ρ3,acc,vs,R4,l4,hac.pres p4,by omega,pr.trans p4,w4⟩
   | true =>
    refine x2 _ M' H4 n4 ρ3 σ3 _ _ R4 w4 fun yv H5 d5 n5 e5 f5 r5 w5=>?_
    have R5:=R4.step e5 f5
    have p5:Pres M' H4 M' H5:=R4.pres e5
    have l5:H5 l=some (.lst vs):=e5.keep l4 noU
    have hy5:=r5.shOf R4.dom hk
    have a5:=(hac.pres p4).pres p5
    have pu:Pres M' H5 M' (Aw H5 l (.lst (vs++[yv]))):=Cs M'l l5
    have hvl:vs.length=acc.length:=hac.length
    refine⟨vs,l5,by rw [sizeLine_eq]; omega,ds.length - (i+1),by omega,rfl,hlt,n5,ρ3,acc++[d5],vs++[yv],?_,AM,(a5.append (Ats.one hy5)).pres pu,by rw [List.length_append,List.length_singleton]; omega,(pr.trans p4).trans (p5.trans pu),w5⟩
    refine⟨R5.len,R5.sub,fun a z=>?_,fun b o e=>?_,R5.fU,R5.uV,R5.vM,?_,fun j s hs=>?_,fun p hp=>absurd hp (by simp),R5.br0,R5.new,R5.two,fun p hp=>absurd hp (by simp)⟩
    ·by_cases ha:a=l
     ·subst ha; exact⟨_,AM⟩
     ·rw [AL ha]; exact R5.dom a z
    ·obtain⟨o',q1,q2⟩:=R5.ext b o e
     by_cases hb:b=l
     ·subst hb
      have e':H1 b=some o:=e
      rw [hl] at e'; cases e'
     ·exact⟨o',by rw [AL hb]; exact q1,q2⟩
    ·refine f5.pres pu fun f o hf e=>?_
     rw [AL (fun z=>noU (by rw [← z]; exact R1.fU f hf))]
     exact e
    ·have hs5:=R5.sl j s hs
     cases s with
     | no=>trivial
     | sh d=>obtain⟨v,e1,h2⟩:=hs5; exact⟨v,e1,h2.pres pu⟩
     | br d =>
      obtain⟨v,e1,h2⟩:=hs5
      refine⟨v,e1,h2.same pu (fun a o z e=>?_) fun _ _ z=>z⟩
      subst z
      obtain⟨o3,w⟩:=R5.br0 j d a hs e1
      have hal:a≠l:=fun z=>by
       have w':H1 a=some o3:=w
       rw [z,hl] at w'; cases w'
      rw [AL hal]; exact e
     | ow d =>
      obtain⟨a,e1,h2,_⟩:=hs5
      exact absurd h2 (R5.new j _ a hs rfl e1).1
     | lt a d =>
      obtain⟨e1,h2,_⟩:=hs5
      exact absurd h2 (R5.new j _ a hs rfl e1).1
     | fd=>exact hs5
  ·have e:i=ds.length:=by omega
   subst e
   rw [List.drop_length] at w'
   refine .inl ⟨(y _ M' H' pr R'.ext R'.dom).2 (Nat.le_refl _),?_⟩
   have eb:Ext C.U H1 H':=R'.ext
   have less:Pres M' H' M H':=Pres.less M'of
   refine q _ H' (.lst acc) n' (e1.trans eb) (R'.feed.pres less fun _ _ _ z=>z) (VR.back e1 ?_) w'
   exact⟨l,rfl,hl,vs,hlv,by rw [hM']; exact hac⟩
end
end Dp
namespace L2
open PySem PySem.Spec PyProof.Rows
noncomputable def Ox:R2:=fun x y H Q=>∃a v,x=.ref a/\NG H a y (some v)/\Q v H
end L2
namespace Dp
open PySem PySem.Spec PyProof.Rows L2
noncomputable def Qn:List Key->List D->Key->Option D
 | k0::ks,d::ds,k=>if k0=k then some d else Qn ks ds k
 | _,_,_=>none
section
variable {K:Frag}{X:Cx}
noncomputable def keyOf:D->Option Key
 | .int i=>some (.inl i)
 | .str x=>some (.inr x)
 | _=>none
variable {a b:Expr}{κa κb:Kd}{wa wb:DW}{pos:Pos}
end
end Dp
namespace L2
open PySem PySem.Spec PyProof.Rows PySem.W
section
variable {X:Cx}{pins:List (Addr×Obj)}{σ:L2.St}{H:Hp}{s:Shared}{h':Heap}
theorem Hk{α β:Type}{F:α->β->Prop}:∀{l₁:List α} {l₂:List β} {j:Nat} {a:α} {b:β},Paired F l₁ l₂->l₁[j]?=some a->l₂[j]?=some b->F a b
 | _,_,_,_,_,.nil,h,_=>by simp at h
 | _,_,0,_,_,.cons r t,h1,h2=>by
  have h1:=Option.some.inj (by simpa using h1)
  have h2:=Option.some.inj (by simpa using h2)
  subst h1 h2
  exact r
 | _,_,j+1,_,_,.cons r t,h1,h2=>Hk (j:=j) t (by simpa using h1) (by simpa using h2)
theorem Fh:∀as:List Addr,Vals (as.map V.ref) (as.map Value.ref)
 | []=>.nil
 | a::as=>.cons rfl (Fh as)
end
end L2
namespace Dp
open PySem PySem.Spec PyProof.Rows L2
section
variable {X:Cx}{K:Frag}
noncomputable def MZ(ds:List D)(P:D->Prop):Prop:=match ds with
 | [.int i,.int j]=>P (.int (if j > i then j else i))
 | _=>False
noncomputable def MY(ds:List D)(P:D->Prop):Prop:=match ds with
 | [.int i,.int j]=>P (.int (if j<i then j else i))
 | _=>False
theorem QS:B_ K .sh (fun xs H Q=>∃i j,xs=[.int i,.int j]/\Q (.int (if j > i then j else i)) H) MZ:=by
 intro U M H ds vs P Q dom vM hp w q
 unfold MZ at w
 split at w
 ·rename_i i j
  cases hp with
  | cons r1 r2=>cases r2 with
   | cons r3 r4 =>
    cases r4
    cases r1.int
    cases r3.int
    exact⟨i,j,rfl,q _ H (.int _) .refl rfl w⟩
 ·exact w.elim
theorem QR:B_ K .sh (fun xs H Q=>∃i j,xs=[.int i,.int j]/\Q (.int (if j<i then j else i)) H) MY:=by
 intro U M H ds vs P Q dom vM hp w q
 unfold MY at w
 split at w
 ·rename_i i j
  cases hp with
  | cons r1 r2=>cases r2 with
   | cons r3 r4 =>
    cases r4
    cases r1.int
    cases r3.int
    exact⟨i,j,rfl,q _ H (.int _) .refl rfl w⟩
 ·exact w.elim
end
end Dp
namespace L2
open PySem PySem.Spec PyProof.Rows
noncomputable def OA(H:Hp)(L:List Addr)(f:Addr->Obj):Hp:=fun b=>if b∈L then (H b).map (HO.frz (f b)) else H b
theorem IF{H:Hp}{L:List Addr}{f:Addr->Obj}{b:Addr}(h:b∉L):OA H L f b=H b:=by unfold OA; rw [if_neg h]
section
variable {X:Cx}{pins:List (Addr×Obj)}{σ:L2.St}{H:Hp}{s:Shared}
end
end L2
namespace Dp
open PySem PySem.Spec PyProof.Rows L2
section
variable {K:Frag}{M:Addr->Prop}{H:Hp}
theorem Ats.getD:∀{ds:List D} {vs:List V},Ats K M H ds vs->∀i:Nat,At K M H (ds.getD i .non) (vs.getD i .non)
 | [],vs,h,i=>by cases (show vs=[] from h); simp [At]
 | d::ds,vs,h,0=>by
  obtain⟨v,r,e,h1,h2⟩:=h
  subst e
  simpa using h1
 | d::ds,vs,h,i+1=>by
  obtain⟨v,r,e,h1,h2⟩:=h
  subst e
  simpa using Ats.getD h2 i
theorem Ats.pick{ds:List D}{vs:List V}(h:Ats K M H ds vs):∀ix:List Nat,Ats K M H (ix.map fun i=>ds.getD i .non) (ix.map fun i=>vs.getD i .non)
 | []=>rfl
 | i::ix=>⟨_,_,rfl,h.getD i,Ats.pick h ix⟩
end
section
variable {X:Cx}{a e:Expr}{κa:Kd}{wa:DW}{pos p fp kp apos cpos:Pos}
noncomputable def Sd:Key->D
 | .inl i=>.int i
 | .inr x=>.str x
noncomputable def De:Key->Prop
 | .inl _=>True
 | .inr x=>x.length<=sizeLine
theorem QJ{K:Frag}{M:Addr->Prop}{H:Hp}{k:Key}(h:De k):At K M H (Sd k) (kOf k):=by
 cases k with
 | inl i=>exact rfl
 | inr x=>exact⟨rfl,h⟩
end
end Dp
namespace L2
open PySem PySem.Spec PyProof.Rows
section
open PySem.MeetsSeq
open PySem.AutoSeq1 (wpAny_loadPart')
end
section
variable {X:Cx}
end
end L2
namespace Dp
open PySem PySem.Spec PyProof.Rows L2
section
variable {X:Cx}{κ:Kd}{c:Expr}{body:List Stmt}{wc:FN}{wb:AS}{pos:Pos}
end
noncomputable def Oh(i:Nat)(b:BW)(body:AS):AS:=fun D2 n ρ=>∃ds,ρ[i]?=some (.ow (.lst ds))/\∀a,Bc b body { D2 with nx:=fun n ρ=>ρ[i]?=some (.lt a (.lst ds))/\D2.nx n (ρ.set i (.ow (.lst ds))) } ds n (ρ.set i (.lt a (.lst ds)))
section
variable {X:Cx}{κ:Kd}{tg:Expr}{body:List Stmt}{b:BW}{wb:AS}{pos p:Pos}{x:Str}{i:Nat}
theorem OI(hp:PassesOwn (model X.prog X.w) X.A X.env X.xe)(hc:X.calm=true)(h:PE X (.Name x p) (BG i))(hg:DG X tg b)(hb:NF X κ body wb)
  (hs:autoParam (∀y,foldedSetIterable (.Name x p) X.env y=pure y) zau2._auto_1):DS X κ (.For tg (.Name x p) body [] pos) (Oh i b wb):=by
 obtain⟨g,g1,g2⟩:=hg
 obtain⟨tb,b1,b2⟩:=hb
 refine⟨_,Ir hp hc (Lq h) g1 b1 hs,fun C M H n ρ σ D2 E R L w=>?_⟩
 obtain⟨ds,hi,w⟩:=w
 obtain⟨a,e1,hm,nv,vs,hH,hat⟩:=R.sl i _ hi
 have hk:∀q∈C.kp,q.1≠a:=fun q hq z=>(R.kept q hq).2.2.2 i _ hi (by rw [e1,z])
 have R1:=(R.lend hi e1 hH).pinned
 refine⟨.ref a,getD_some e1,.inl ⟨a,rfl,⟨vs,.inl (.inl hH)⟩,?_⟩⟩
 have w1:=w a
 generalize hD3:({ D2 with nx:=fun n ρ=>ρ[i]?=some (.lt a (.lst ds))/\D2.nx n (ρ.set i (.ow (.lst ds))) }:E2)=D3 at w1
 have L3:∀M H n ρ σ,Rel X.K { C with kp:=(a,.lst vs)::C.kp } M H n ρ σ->D3.nx n ρ->E.nx σ H:=fun M H n ρ σ R w=>by
  rw [← hD3] at w
  exact L.nx M H n _ σ (R.unlend w.1 hk) w.2
 have Lrt:D3.rt=D2.rt:=by rw [← hD3]
 refine⟨fun k m σ' H'=>m=ds.length - k/\k<=ds.length/\∃M' n' ρ',Rel X.K { C with kp:=(a,.lst vs)::C.kp,pins:=(M,H)::C.pins } M' H' n' ρ' σ'/\Bc b wb D3 (ds.drop k) n' ρ',⟨ds.length,by simp,Nat.zero_le _,M,n,_,R1,w1⟩,?_⟩
 rintro k m σ' H' ⟨rfl,hkl,M',n',ρ',R',w'⟩
 have pr:Pres M H M' H':=R'.pin (M,H) List.mem_cons_self
 have ha':H' a=some (.lst vs):=(R'.kept (a,.lst vs) List.mem_cons_self).1
 have hq:SqL X.K H' a vs:=.inl (.inl ha')
 by_cases hlt:k<ds.length
 ·have ed:ds.drop k=ds[k]::ds.drop (k+1):=List.drop_eq_getElem_cons hlt
  rw [ed] at w'
  obtain⟨v,ev,hv⟩:=(hat.pres pr).get (List.getElem?_eq_getElem hlt)
  refine .inr ⟨⟨vs,v,hq,ev⟩,fun σ2 H2=>∃M2 n2 ρ2,Rel X.K { C with kp:=(a,.lst vs)::C.kp,pins:=(M,H)::C.pins } M2 H2 n2 ρ2 σ2/\Bc b wb D3 (ds.drop (k+1)) n2 ρ2,fun σ2 H2 ⟨M2,n2,ρ2,R2',w2⟩=>⟨ds.length - (k+1),by omega,rfl,hlt,M2,n2,ρ2,R2',w2⟩,fun y H2 hy=>?_⟩
  obtain⟨e2,hy⟩:=hy
  subst e2
  have:some v=some y:=ev.symm.trans (hy vs hq)
  cases this
  refine g2 _ M' H2 n' ρ' σ' ds[k] v _ _ R' hv w' fun ρ3 σ3 R3 w3=>?_
  refine b2 _ M' H2 n' ρ3 σ3 { D3 with nx:=Bc b wb D3 (ds.drop (k+1)),ct:=Bc b wb D3 (ds.drop (k+1)),bk:=D3.nx } _ R3 ⟨fun M4 H4 n4 ρ4 σ4 R4 w4=>⟨M4,n4,ρ4,R4,w4⟩,fun v H d n e f r p=>L.rt v H d n e f r (by rw [← Lrt]; exact p),fun M4 H4 n4 ρ4 σ4 R4 w4=>L3 M4 H4 n4 ρ4 σ4 R4.unpin w4,fun M4 H4 n4 ρ4 σ4 R4 w4=>⟨M4,n4,ρ4,R4,w4⟩⟩ w3
 ·have e:k=ds.length:=by omega
  subst e
  rw [List.drop_length] at w'
  exact .inl ⟨⟨vs,hq,by rw [hat.length]; exact Nat.le_refl _⟩,L3 M' H' n' ρ' σ' R'.unpin w'⟩
end
end Dp
namespace L2
open PySem PySem.Spec PyProof.Rows PySem.W
section
variable {prog:Program}{w:World}{A:Around}{E:Value->Shared->Prop}{R:Result->Shared->Prop}{I:Addr}{fp wr:List Addr}{n:Nat}{P:Nat->Value->Prop}{St:Nat->Heap->Prop}
end
section
variable {X:Cx}
end
end L2
namespace Dp
open PySem PySem.Spec PyProof.Rows L2
end Dp
namespace Nt
open PySem PySem.Spec PyProof.Rows L2 Dp
theorem Ft{α β:Type}{f:α->β}:∀{l:List α},l.Nodup->(∀a∈l,∀b∈l,f a=f b->a=b)->(l.map f).Nodup
 | [],_,_=>List.nodup_nil
 | a::l,h,hf=>by
  rw [List.nodup_cons] at h
  rw [List.map_cons,List.nodup_cons]
  refine⟨fun hm=>?_,Ft h.2 fun x hx y hy=>hf x (List.mem_cons_of_mem _ hx) y (List.mem_cons_of_mem _ hy)⟩
  obtain⟨b,hb,e⟩:=List.mem_map.mp hm
  exact h.1 (hf a List.mem_cons_self b (List.mem_cons_of_mem _ hb) e.symm▸hb)
theorem M9(ss:List Str):By (ss.map .str)=some ss:=by
 induction ss with
 | nil=>rfl
 | cons y r ih =>
  rw [List.map_cons]
  unfold By
  rw [ih]
  rfl
theorem CM{b:BW}{body:AS}{D2:E2}{all:List D}(I:List D->Nat->List Slot->Prop)(hend:∀n ρ,I all n ρ->D2.nx n ρ)
  (hstep:∀(pre:List D) (d:D) (post:List D) (n:Nat) (ρ:List Slot) (nx:Nat->List Slot->Prop),all=pre++d::post->I pre n ρ->(∀n' ρ',I (pre++[d]) n' ρ'->nx n' ρ')->b d ρ fun ρ1=>body { D2 with nx:=nx,ct:=nx,bk:=D2.nx } n ρ1) :
  ∀(ds pre:List D) (n:Nat) (ρ:List Slot),all=pre++ds->I pre n ρ->Bc b body D2 ds n ρ
 | [],pre,n,ρ,e,h=>by
  rw [List.append_nil] at e
  subst e
  exact hend n ρ h
 | d::ds,pre,n,ρ,e,h=>hstep pre d ds n ρ (Bc b body D2 ds) e h fun n' ρ' h'=>CM I hend hstep ds (pre++[d]) n' ρ' (by rw [e,List.append_assoc]; rfl) h'
theorem NX{lo:Int}{n:Nat}{pre post:List D}{d:D}(h:C8 lo n=pre++d::post):d=.int (lo+(pre.length:Int))/\pre.length<n:=by
 have hl:=congrArg List.length h
 rw [Em,List.length_append,List.length_cons] at hl
 have e:(C8 lo n)[pre.length]?=some d:=by rw [h,List.getElem?_append_right (Nat.le_refl _),Nat.sub_self]; rfl
 unfold C8 at e
 rw [List.getElem?_map,List.getElem?_range (by omega)] at e
 exact⟨(Option.some.inj e).symm,by omega⟩
structure Ef where
 a:Str
 b:Str
 len:Int
structure Net where
 ps:List Str
 ts:List Ef
noncomputable def CC(t:Ef):D:=.tup [.str t.a,.str t.b,.int t.len]
noncomputable def J4(N:Net):D:=.tup [.tup (N.ps.map .str),.tup (N.ts.map CC)]
noncomputable def FC(s t:Ef):Prop:=cs s.a<cs t.a\/(s.a=t.a/\cs s.b<cs t.b)
structure Net.Ok (N:Net):Prop where
 names:∀x∈N.ps,FL x
 rise:rising N.ps
 tin:∀t∈N.ts,t.a∈N.ps/\t.b∈N.ps/\cs t.a<cs t.b/\1<=t.len/\t.len<=1000000
 trise:N.ts.Pairwise FC
structure Ix where
 i:Nat
 j:Nat
 len:Int
noncomputable def S7(ts:List Ef)(p:Str):List (Str×Int):=ts.flatMap fun t=>(if t.a=p then [(t.b,t.len)] else [])++(if t.b=p then [(t.a,t.len)] else [])
structure TH (H:Hp) (d:Addr) (as:List (Str×Addr)) (tb:Str->List (Key×V)) (H':Hp):Prop where
 old:∀b o,H b=some o->H' b=some o
 new:H d=none
 top:H' d=some (.dK (as.map fun x=>(.inr x.1,.ref x.2)))
 inn:∀x∈as,H x.2=none/\x.2≠d/\H' x.2=some (.dK (tb x.1))
 ads:(as.map (·.2)).Nodup
 nms:(as.map (·.1)).Nodup
end Nt
namespace L2
open PySem PySem.Spec PyProof.Rows
end L2
namespace Dp
open PySem PySem.Spec PyProof.Rows L2
section
variable {X:Cx}{a:Expr}{κa:Kd}{wa:DW}{els:List Expr}{j:Nat}{tpos apos cpos:Pos}
end
section
variable {K:Frag}{C:Fm}{M:Addr->Prop}{H H':Hp}{n n':Nat}{ρ:List Slot}{σ:L2.St}
end
section
variable {X:Cx}{a b e:Expr}{κ κa κb:Kd}{wa wb:DW}{pos pos':Pos}
noncomputable def PV:D->Option Bool
 | .lst xs=>some (!xs.isEmpty)
 | .tup xs=>some (!xs.isEmpty)
 | .bl b=>some b
 | .non=>some false
 | _=>none
noncomputable def PM(wa:DW):FN:=fun n ρ P=>wa n ρ fun d n1=>∃c,PV d=some c/\P c n1
theorem GL{K:Frag}{M:Addr->Prop}{H:Hp}{ds:List D}{vs:List V}(h:Ats K M H ds vs):vs.isEmpty=ds.isEmpty:=by
 have:=h.length
 cases vs <;> cases ds <;> first | rfl | cases this
theorem LN{U M:Addr->Prop}{H:Hp}{K:Frag}{d:D}{x:V}{c:Bool}(h:AtT K U M H d x)(e:PV d=some c):OX K x H c:=by
 cases d with
 | lst ds=>cases e; obtain⟨a,vs,rfl,_,hq,hs⟩:=h; exact .inl ⟨vs,.inl hq,by rw [GL hs]⟩
 | tup ds=>cases e; obtain⟨a,vs,rfl,hq,hs⟩:=h; exact .inr (.inl ⟨vs,.inl (.inl hq),by rw [GL hs]⟩)
 | bl b=>cases e; rw [h.bl]; exact rfl
 | non=>cases e; rw [show x=.non from h]; exact rfl
 | _=>cases e
theorem Mg(h:DE X e κ wa)(he:autoParam (∀whole,isTrue e X.env whole=(do let v ← whole; standAt e.pos; holding [v] (truthy v))) zau2._auto_1):DT X e (PM wa):=by
 obtain⟨t,h1,h2⟩:=h
 refine⟨_,Ll h1 he,fun C M H n ρ σ P Q R w q=>?_⟩
 refine h2 C M H n ρ σ _ _ R w fun v H' d n' e1 f1 r1 p=>?_
 obtain⟨c,hc,p⟩:=p
 exact⟨c,LN (r1.tpOf R.dom R.vM) hc,q c H' n' e1 f1 p⟩
noncomputable def RT(neg:Bool)(d e:D)(P:D->Prop):Prop:=e=.non/\P (.bl (if neg then !Jx d else Jx d))
theorem QP{K:Frag}:Co K .sh (fun x y H Q=>y=.non/\Q (.bl (!decide (x=.non))) H) (RT true):=fun U M H d e x y P Q dom vM hx hy w q=>by
 obtain⟨rfl,w⟩:=w
 exact⟨hy,q _ H (.bl (!Jx d)) .refl (by rw [ML hx]; rfl) w⟩
variable {apos cpos:Pos}{f:Expr}{κf:Kd}{wf:DW}
end
section
variable {X:Cx}{pos:Pos}
end
end Dp
namespace L2
open PySem PySem.Spec PyProof.Rows
section
variable {X:Cx}
end
end L2
namespace Dp
open PySem PySem.Spec PyProof.Rows L2
section
variable {X:Cx}{a tg:Expr}{κa:Kd}{wa:DW}
mutual
theorem At.frz{K:Frag}{M:Addr->Prop}{H:Hp}{a:Addr}{f:Addr->Obj}{kvs:List (Key×V)}(ha:H a=some (.dK kvs)):∀{d:D} {v:V},Cz d=true->At K M H d v->At K M (OA H [a] f) d v
 | .non,v,_,h=>h
 | .bl b,v,_,h=>h
 | .int i,v,_,h=>h
 | .str x,v,_,h=>h
 | .tup ds,v,hn,h=>by
  obtain⟨b,vs,e,n2,hs⟩:=h
  refine⟨b,vs,e,?_,Ats.frz ha hn hs⟩
  unfold NdT at n2 ⊢
  rw [IF fun z=>by rw [List.mem_singleton.mp z,ha] at n2; cases n2]
  exact n2
 | .lst ds,v,hn,h=>by
  obtain⟨b,vs,e,⟨n1,n2⟩,hs⟩:=h
  refine⟨b,vs,e,⟨n1,?_⟩,Ats.frz ha hn hs⟩
  rw [IF fun z=>by rw [List.mem_singleton.mp z,ha] at n2; cases n2]
  exact n2
 | .dic _ _,v,hn,h=>by cases hn
 | .fdi _ _,v,hn,h=>by cases hn
 | .dit _ _,v,hn,h=>by cases hn
theorem Ats.frz{K:Frag}{M:Addr->Prop}{H:Hp}{a:Addr}{f:Addr->Obj}{kvs:List (Key×V)}(ha:H a=some (.dK kvs)):∀{ds:List D} {vs:List V},B2 ds=true->Ats K M H ds vs->Ats K M (OA H [a] f) ds vs
 | [],vs,_,h=>h
 | d::ds,vs,hn,h=>by
  obtain⟨v,r,e,h1,h2⟩:=h
  have hn:(Cz d&&B2 ds)=true:=hn
  rw [Bool.and_eq_true] at hn
  exact⟨v,r,e,At.frz ha hn.1 h1,Ats.frz ha hn.2 h2⟩
end
end
noncomputable def CV:List (List Key)->List D->List Key->Option D
 | k0::ks,d::ds,k=>if k0=k then some d else CV ks ds k
 | _,_,_=>none
noncomputable def IB:List D->Option (List Key)
 | []=>some []
 | d::ds=>match keyOf d,IB ds with
  | some k,some ks=>some (k::ks)
  | _,_=>none
noncomputable def keysOf:D->Option (List Key)
 | .tup ds=>IB ds
 | _=>none
section
variable {K:Frag}{X:Cx}
theorem HM{M:Addr->Prop}{H:Hp}{k:List Key}:∀{ks:List (List Key)} {ds:List D} {vs:List V},Ats K M H ds vs ->
  match CV ks ds k with
  | some z=>∃v,Cw (ks.zip vs) k=some v/\At K M H z v
  | none=>Cw (ks.zip vs) k=none
 | [],ds,vs,h=>by unfold CV; exact rfl
 | k0::ks,[],vs,h=>by cases h; exact rfl
 | k0::ks,d::ds,vs,h=>by
  obtain⟨v,r,rfl,h1,h2⟩:=h
  have ih:=HM (k:=k) (ks:=ks) h2
  unfold CV
  by_cases e:k0=k
  ·rw [if_pos e]
   refine⟨v,?_,h1⟩
   show Cw ((k0,v)::ks.zip r) k=some v
   rw [DL e]
  ·rw [if_neg e]
   have:Cw ((k0,v)::ks.zip r) k=Cw (ks.zip r) k:=DM e
   rw [show (k0::ks).zip (v::r)=(k0,v)::ks.zip r from rfl,this]
   exact ih
theorem MG{M:Addr->Prop}{H:Hp}{d:D}{v:V}{k:Key}(e:keyOf d=some k)(h:At K M H d v):v=kV k:=by
 cases d with
 | int i=>cases e; exact h
 | str x=>cases e; exact h.1
 | _=>cases e
theorem IA{M:Addr->Prop}{H:Hp}:∀{ds:List D} {vs:List V} {ks:List Key},IB ds=some ks->Ats K M H ds vs->vs=ks.map kV
 | [],vs,ks,e,h=>by cases e; exact h
 | d::ds,vs,ks,e,h=>by
  obtain⟨v,r,rfl,h1,h2⟩:=h
  unfold IB at e
  cases c1:keyOf d with
  | none=>rw [c1] at e; cases e
  | some k =>
   cases c2:IB ds with
   | none=>rw [c1,c2] at e; cases e
   | some k2 =>
    rw [c1,c2] at e
    cases e
    rw [IA c2 h2,MG c1 h1]
    rfl
theorem Fy{U M:Addr->Prop}{H:Hp}{d:D}{v:V}{k:List Key}(e:keysOf d=some k)(h:AtT K U M H d v):∃b,v=.ref b/\H b=some (.tup (k.map kV)):=by
 cases d with
 | tup ds =>
  obtain⟨a,vs,rfl,ha,hs⟩:=h.tup
  refine⟨a,rfl,?_⟩
  rw [← IA e hs]
  exact ha
 | _=>cases e
theorem Mq{U M:Addr->Prop}{H:Hp}{x:V}{ks:List (List Key)}{ds:List D}(h:AtT K U M H (.dit ks ds) x):∃a vs,x=.ref a/\Rd H a (.dT (ks.zip vs))/\Ats K M H ds vs:=by
 obtain⟨a,vs,rfl,_,ha,_,hs⟩:=h
 exact⟨a,vs,rfl,.inl ha,hs⟩
theorem OL{H:Hp}{a b:Addr}{kvs:List (List Key×V)}{k:List Key}(e:Rd H a (.dT kvs))(eb:H b=some (.tup (k.map kV))):NG H a (.ref b) (Cw kvs k):=.inr ⟨kvs,k,b,e,rfl,eb,rfl⟩
noncomputable def MT(d e:D)(P:D->Prop):Prop:=∃ks ds k z,d=.dit ks ds/\keysOf e=some k/\CV ks ds k=some z/\P z
theorem QN:Co K .sh Ox MT:=fun U M H d e x y P Q dom vM hx hy w q=>by
 obtain⟨ks,ds,k,z,rfl,he,hz,w⟩:=w
 obtain⟨a,vs,rfl,ha,hs⟩:=Mq hx
 obtain⟨b,rfl,eb⟩:=Fy he hy
 have h:=HM (k:=k) (ks:=ks) hs
 rw [hz] at h
 obtain⟨v,h1,h2⟩:=h
 exact⟨a,v,rfl,by rw [← h1]; exact OL ha eb,q v H z .refl h2 w⟩
variable {a b:Expr}{κa κb:Kd}{wa wb:DW}{pos:Pos}
theorem OM{k:Nat}(hr:Room k X.A)(ha:DE X a κa wa)(hb:DE X b κb wb)(hs:autoParam (QX b) zau6._auto_1):DE X (.Subscript a b pos) .sh (Av MT wa wb):=by
 obtain⟨ta,ha1,ha2⟩:=ha
 obtain⟨tb,hb1,hb2⟩:=hb
 exact⟨CI Ox ta tb,Nn (O5 hr) ha1 hb1 hs,fun C M H n ρ σ P Q R w q=>Cf QN ha2 hb2 C M H n ρ σ P Q R w q⟩
end
noncomputable def GB(ks:List (List Key))(k:List Key):Bool:=ks.any fun k0=>decide (k0=k)
theorem hasK_iffU{ks:List (List Key)}{k:List Key}:GB ks k=true↔k∈ks:=by
 unfold GB
 rw [List.any_eq_true]
 exact⟨fun⟨x,hx,e⟩=>by rw [← of_decide_eq_true e]; exact hx,fun h=>⟨k,h,decide_eq_true rfl⟩⟩
noncomputable def Ba(ks:List (List Key))(k:List Key):List (List Key):=if GB ks k=true then ks else ks++[k]
noncomputable def BZ{α:Type}(ks:List (List Key))(ds:List α)(k:List Key)(d:α):List α:=if GB ks k=true then List.zipWith (fun k0 d0=>if k0=k then d else d0) ks ds else ds++[d]
theorem M7{ks:List (List Key)}{vs:List V}(hl:ks.length=vs.length)(k:List Key):((ks.zip vs).any fun kv=>decide (kv.1=k))=GB ks k:=by
 rw [Bool.eq_iff_iff,List.any_eq_true,hasK_iffU]
 constructor
 ·rintro ⟨⟨a,b⟩,hm,e⟩
  have e:a=k:=of_decide_eq_true e
  rw [← e]
  exact(List.of_mem_zip hm).1
 ·intro h
  obtain⟨i,hi,e⟩:=List.mem_iff_getElem.mp h
  refine⟨(ks[i],vs[i]'(by omega)),?_,by rw [e]; exact decide_eq_true rfl⟩
  exact List.mem_iff_getElem.mpr ⟨i,by rw [List.length_zip]; omega,by rw [List.getElem_zip]⟩
theorem Ki{ks:List (List Key)}{vs:List V}(hl:ks.length=vs.length)(k:List Key)(v:V):putK (ks.zip vs) k v=(Ba ks k).zip (BZ ks vs k v):=by
 unfold putK Ba BZ
 rw [M7 hl]
 by_cases h:GB ks k=true
 ·rw [if_pos h,if_pos h,if_pos h]
  have go:∀(ks:List (List Key)) (vs:List V),((ks.zip vs).map fun kv=>if kv.1=k then (kv.1,v) else kv)=ks.zip (List.zipWith (fun k0 d0=>if k0=k then v else d0) ks vs):=by
   intro ks
   induction ks with
   | nil=>intro vs; rfl
   | cons a ks ih =>
    intro vs
    cases vs with
    | nil=>rfl
    | cons b vs =>
     show (if a=k then (a,v) else (a,b))::_=(a,if a=k then v else b)::_
     exact List.cons_eq_cons.mpr ⟨by split <;> rfl,ih vs⟩
  exact go ks vs
 ·rw [if_neg h,if_neg h,if_neg h,List.zip_append hl]
  rfl
theorem Ats.putU{K:Frag}{M:Addr->Prop}{H:Hp}{k:List Key}{d:D}{v:V}(hd:At K M H d v):∀{ks:List (List Key)} {ds:List D} {vs:List V},Ats K M H ds vs->Ats K M H (List.zipWith (fun k0 d0=>if k0=k then d else d0) ks ds) (List.zipWith (fun k0 d0=>if k0=k then v else d0) ks vs)
 | [],ds,vs,h=>rfl
 | a::ks,[],vs,h=>by cases (show vs=[] from h); rfl
 | a::ks,e::ds,vs,h=>by
  obtain⟨u,r,rfl,h1,h2⟩:=h
  refine⟨_,_,rfl,?_,Ats.putU hd h2⟩
  show At K M H (if a=k then d else e) (if a=k then v else u)
  by_cases e1:a=k
  ·rw [if_pos e1,if_pos e1]; exact hd
  ·rw [if_neg e1,if_neg e1]; exact h1
theorem Ats.putXU{K:Frag}{M:Addr->Prop}{H:Hp}{k:List Key}{d:D}{v:V}{ks:List (List Key)}{ds:List D}{vs:List V}(hd:At K M H d v)(h:Ats K M H ds vs):Ats K M H (BZ ks ds k d) (BZ ks vs k v):=by
 unfold BZ
 split
 ·exact Ats.putU hd h
 ·exact h.append (Ats.one hd)
theorem Hd{α:Type}{ks:List (List Key)}{ds:List α}{k:List Key}{d:α}(hl:ks.length=ds.length):(Ba ks k).length=(BZ ks ds k d).length:=by
 unfold Ba BZ
 split
 ·rw [List.length_zipWith]; omega
 ·rw [List.length_append,List.length_append]; show ks.length+1=ds.length+1; omega
theorem C5:∀{ks:List (List Key)} {ds:List D} {k:List Key},ks.length=ds.length->k∈ks->∃z,CV ks ds k=some z
 | [],ds,k,_,h=>by cases h
 | a::ks,[],k,h,_=>by cases h
 | a::ks,d::ds,k,hl,h=>by
  unfold CV
  by_cases e:a=k
  ·exact⟨d,if_pos e⟩
  ·rw [if_neg e]
   exact C5 (by simpa using hl) ((List.mem_cons.mp h).resolve_left fun z=>e z.symm)
section
variable {X:Cx}{a b e:Expr}{κ κa κb:Kd}{wa wb:DW}{pos pos':Pos}
noncomputable def LK:DW:=fun n _ P=>P (.dit [] []) n
theorem Mv:DE X (.Dict [] [] pos) .fr LK:=by
 refine⟨_,Ls,fun C M H n ρ σ P Q R w q=>fun p hp=>?_⟩
 have g:Grow H (Aw H p (.dT [])):=Ag hp
 exact q _ _ (.dit [] []) n g.ext (R.feed.grow g) ⟨p,rfl,hp,[],AM,rfl,rfl⟩ w
noncomputable def Ob(i:Nat)(wk wv:DW):AS:=fun D2 n ρ=>∃ks ds,ρ[i]?=some (.ow (.dit ks ds))/\wv n ρ fun d n1=>wk n1 ρ fun k n2=>∃key,keysOf k=some key/\ks.length<sizeLine/\D2.nx n2 (ρ.set i (.ow (.dit (Ba ks key) (BZ ks ds key d))))
theorem OG{i k:Nat}{x:Expr}(hr:Room k X.A)(hx:PE X x (BG i))(ha:DE X a κa wa)(hb:DE X b κb wb)(hk:autoParam (κb≠.tp) zau7._auto_1)
  (hs:autoParam (swapsWith b (some (.Subscript x a pos')) pos.line X.env=pure false) zau3._auto_1):DS X κ (.Assign [.Subscript x a pos'] b pos) (Ob i wa wb):=by
 obtain⟨t,h1,h2⟩:=ha
 obtain⟨u,g1,g2⟩:=hb
 refine⟨_,Nd (O5 hr) hx h1 g1 hs,fun C M H n ρ σ D2 E R L w=>?_⟩
 obtain⟨ks,ds,hd,w⟩:=w
 refine g2 C M H n ρ σ _ _ R w fun v H1 d n1 e1 f1 r1 p=>?_
 have R1:=R.step e1 f1
 obtain⟨ad,ea,m,nv,tt⟩:=R1.sl i _ hd
 refine⟨.ref ad,getD_some ea,?_⟩
 refine h2 C M H1 n1 ρ σ _ _ R1 p fun y H2 kk n2 e2 f2 r2 p=>?_
 obtain⟨key,hkey,hlt,p⟩:=p
 have R2:=R1.step e2 f2
 obtain⟨ad',ea',m',nv',tt'⟩:=R2.sl i _ hd
 rw [ea] at ea'
 cases ea'
 obtain⟨vs,hH,hl,hs'⟩:=tt'
 have hat:At X.K M H2 d v:=(r1.shOf R.dom hk).pres (R1.pres e2)
 have hvl:ks.length=vs.length:=by rw [hl,hs'.length]
 obtain⟨b,rfl,eb⟩:=Fy hkey (r2.tpOf R1.dom R1.vM)
 refine⟨ad,_,rfl,DPut.t hH eb (by rw [List.length_zip]; omega),L.nx M _ n2 _ σ (R2.mut (e:=.dit (Ba ks key) (BZ ks ds key d)) hd ea ⟨BZ ks vs key v,by rw [AM,Ki hvl],Hd hl,(hs'.putXU hat).pres (Cs m' hH)⟩) p⟩
variable {apos cpos:Pos}{f:Expr}{κf:Kd}{wf:DW}
end
end Dp
namespace L2
open PySem PySem.Spec PyProof.Rows
noncomputable def DRaw(h:Heap)(a:Addr)(es:Array DictEntry)(ep:Nat):Prop:=∃o,h.get? a=some o/\o.ExactDict/\o.data=.dict es ep
section
variable {P:Program}{w:World}{A:Around}{E:Value->Shared->Prop}{s:Shared}{d t:Addr}{es:Array DictEntry}{ep i:Nat}
theorem DRaw.ty(x:DRaw s.heap d es ep):s.TypeIs (.ref d) "dict":=let ⟨o,h1,h2,_⟩:=x; ⟨o,h1,h2.1⟩
theorem DRaw.lt{h:Heap}(x:DRaw h d es ep):d<h.objs.size:=let ⟨_,h1,_⟩:=x; Heap.lt_size h1
theorem DRaw.to{h h':Heap}(x:DRaw h d es ep)(k:∀o,h.get? d=some o->h'.get? d=some o):DRaw h' d es ep:=let ⟨o,h1,h2⟩:=x; ⟨o,k o h1,h2⟩
theorem LY{Q:Value->Shared->Prop}(lo:(d==sysModules)=false)(x:DRaw s.heap d es ep)
  (q:Q (.ref s.heap.objs.size) { s with heap:=s.heap.push { cls:=.type "dict_keyiterator",data:=.fields #[.ref d,.int 0 0,.int es.size 0,.int ep 0] } }):wpAny (model P w) A (pyIter (.ref d)) Q E s:=by
 have T:=x.ty
 obtain⟨o,h1,h2,h3⟩:=x
 refine wpAny_pyIter_slot T F.slot_dict_iter (wpAny_call_entry F.slot_dict_iter T F.entry_dict_iter ?_ (F.args_dict_iter_1 _))
 unfold Builtin.«dict.__iter__»; refine wpAny_bind ?_
 unfold Builtin.Dict.dictSlotNone; refine wpAny_bind (wpAny_notOrdered_dict T ?_)
 show wpAny (model P w) _ (pure (Value.ref d)) _ _ s; refine wpAny_pure ?_
 show wpAny (model P w) _ (Builtin.Dict.showsAll d >>= _) _ _ s; unfold Builtin.Dict.showsAll
 rw [if_neg (by rw [lo]; decide)]; refine wpAny_bind (wpAny_pure (wpAny_bind (wpAny_dictEntries h1 h3 (wpAny_bind (wpAny_dictEpoch h1 h3 ?_)))))
 refine wpAny_bind (wpAny_newObj_type (wpAny_pure ⟨_,rfl,"dict_keyiterator",_,⟨_,Heap.get?_push_size _ rfl,rfl⟩,F.slot_dict_keyiterator_next.lookup,?_⟩)); simpa [rawInt] using q
theorem LZ{Q:Option Value->Shared->Prop}(x:s.heap.IsKeyIter t d i es.size ep)(y:DRaw s.heap d es ep)(hi:i<es.size)
  (q:∀h',h'.IsKeyIter t d (i+1) es.size ep->Heap.SameBut t s.heap h'->Q (some es[i].key) { s with heap:=h' }):wpAny (model P w) A (pyNext (.ref t)) Q E s:=by
 have T:=x.typeIs
 obtain⟨o,g1,g2,g3⟩:=x
 obtain⟨od,h1,h2,h3⟩:=y
 unfold pyNext; refine wpAny_bind (wpAny_attempt (wpAny_callSpecial?_slot (name:=Str.ofString "__next__") T F.slot_dict_keyiterator_next (wpAny_call_entry F.slot_dict_keyiterator_next T F.entry_dict_keyiterator_next ?_ (F.args_dict_keyiterator_next_1 _))))
 refine wpAny_bind (wpAny_pure (wpAny_bind (wpAny_bind ?_)))
 first | refine wpAny_bind (wpAny_typeNameOfWhole_keyiter T (wpAny_pure ?_)) | refine wpAny_bind (wpAny_typeNameOf_keyiter T (wpAny_pure ?_))
 refine wpAny_bind (wpAny_fieldsOf g1 g3 ?_)
 have ow:Builtin.Dict_items.ownsTuple "dict_keyiterator"=false:=by decide
 simp only [ow,Bool.false_eq_true,if_false]
 show wpAny (model P w) _ (if (Value.ref d==Value.none)=true then _ else _) _ _ s
 rw [if_neg (show ¬(Value.ref d==Value.none)=true by intro z; cases z)]; refine wpAny_bind (wpAny_pure (wpAny_bind (wpAny_dictEntries h1 h3 ?_)))
 rw [if_neg (by simp)]; refine wpAny_bind (wpAny_pure (wpAny_bind (wpAny_dictEpoch h1 h3 ?_)))
 rw [if_neg (by simp)]; refine wpAny_pure ?_
 simp only [show ¬(i:Int)<0 by omega,if_false,Int.toNat_natCast,Array.getElem?_eq_getElem hi]; refine wpAny_bind ?_
 first | refine wpAny_bind (wpAny_typeNameOfWhole_keyiter T (wpAny_pure ?_)) | refine wpAny_bind (wpAny_typeNameOf_keyiter T (wpAny_pure ?_))
 refine wpAny_bind (wpAny_isOneOf_keyiter T ?_); show wpAny (model P w) _ (setField (.ref t) 1 (rawInt ((i:Int)+1)) >>= _) _ _ s
 refine wpAny_bind (wpAny_setField g1 g3 (by simp) ?_)
 have g':(s.heap.update t (Obj.mapFields (·.setIfInBounds 1 (rawInt ((i:Int)+1))))).IsKeyIter t d (i+1) es.size ep:=⟨_,Heap.get?_update_self _ g1 (Obj.isFreed_of_fields (Obj.data_mapFields g3 _)),(Obj.cls_mapFields ..).trans g2,by rw [Obj.data_mapFields g3]; simp [rawInt]⟩
 refine wpAny_bind (wpAny_holding (wpAny_bind (wpAny_isOneOf_keyiter (s:={ s with heap:=s.heap.update t (Obj.mapFields (·.setIfInBounds 1 (rawInt ((i:Int)+1)))) }) g'.typeIs ?_)))
 show wpAny (model P w) _ (pure es[i].key) _ _ _; exact wpAny_pure (wpAny_pure ⟨_,rfl,wpAny_pure (q _ g' (Heap.SameBut.update ..))⟩)
theorem NZ{Q:Option Value->Shared->Prop}(hh:A.handled=none)(x:s.heap.IsKeyIter t d i es.size ep)(y:DRaw s.heap d es ep)(hi:es.size<=i)
  (q:∀h',Heap.ExtBut t s.heap h'->Q none { s with heap:=h' }):wpAny (model P w) A (pyNext (.ref t)) Q E s:=by
 have T:=x.typeIs
 obtain⟨o,g1,g2,g3⟩:=x
 obtain⟨od,h1,h2,h3⟩:=y
 unfold pyNext; refine wpAny_bind (wpAny_attempt (wpAny_callSpecial?_slot (name:=Str.ofString "__next__") T F.slot_dict_keyiterator_next (wpAny_call_entry F.slot_dict_keyiterator_next T F.entry_dict_keyiterator_next ?_ (F.args_dict_keyiterator_next_1 _))))
 refine wpAny_bind (wpAny_pure (wpAny_bind (wpAny_bind ?_)))
 first | refine wpAny_bind (wpAny_typeNameOfWhole_keyiter T (wpAny_pure ?_)) | refine wpAny_bind (wpAny_typeNameOf_keyiter T (wpAny_pure ?_))
 refine wpAny_bind (wpAny_fieldsOf g1 g3 ?_)
 have ow:Builtin.Dict_items.ownsTuple "dict_keyiterator"=false:=by decide
 simp only [ow,Bool.false_eq_true,if_false]
 show wpAny (model P w) _ (if (Value.ref d==Value.none)=true then _ else _) _ _ s
 rw [if_neg (show ¬(Value.ref d==Value.none)=true by intro z; cases z)]; refine wpAny_bind (wpAny_pure (wpAny_bind (wpAny_dictEntries h1 h3 ?_)))
 rw [if_neg (by simp)]; refine wpAny_bind (wpAny_pure (wpAny_bind (wpAny_dictEpoch h1 h3 ?_)))
 rw [if_neg (by simp)]; refine wpAny_pure ?_
 simp only [show ¬(i:Int)<0 by omega,if_false,Int.toNat_natCast,Array.getElem?_eq_none hi]; refine wpAny_bind ?_
 first | refine wpAny_bind (wpAny_typeNameOfWhole_keyiter T (wpAny_pure ?_)) | refine wpAny_bind (wpAny_typeNameOf_keyiter T (wpAny_pure ?_))
 show wpAny (model P w) _ (setField (.ref t) 0 .none >>= _) _ _ s; refine wpAny_bind (wpAny_setField g1 g3 (by simp) ?_)
 show wpAny (model P w) _ (newExc (.type "StopIteration") [] >>= _) _ _ _; refine wpAny_bind ?_
 simp only [newExc,newTuple]; refine wpAny_bind (wpAny_newObj_type ?_ (by size_fits))
 refine wpAny_bind (m:=firstArgMember _ _) (wpAny_of_eq (a:=Value.none) (by first | rfl | (simp only [firstArgMember]; rfl)) (wpAny_newObj_type ?_ (by size_fits)))
 simp only [raiseNew]; refine wpAny_bind (wpAny_handled ?_)
 rw [show A.in1.handled=none from hh]; refine wpAny_bind (wpAny_pure (wpAny_throw ?_)); refine wpAny_bind (wpAny_isInstance (T := "StopIteration") (b:=true) ⟨_,Heap.get?_push_size _ rfl,rfl⟩ isSubtype_stop ?_)
 exact wpAny_pure (q _ (((Heap.SameBut.update ..).extBut.push _).push _))
theorem Kg(hh:A.handled=none)(I d:Addr)(hne:d≠I)(es:Array DictEntry)(ep:Nat):Walks P w A I [I,d] [I] es.size (fun i v=>∃e,es[i]?=some e/\v=e.key) (fun i h=>h.IsKeyIter I d i es.size ep/\DRaw h d es ep) where
 sub:=fun b hb=>by rw [List.mem_singleton.mp hb]; exact List.mem_cons_self
 frame:=fun _ _ _ st hk=>⟨st.1.at fun o e=>hk I (by simp) o e,st.2.to fun o e=>hk d (by simp) o e⟩
 item:=fun i s Q E hi st hQ=>LZ st.1 st.2 hi fun h' it' sb=>hQ _ h' s.toks ⟨_,Array.getElem?_eq_getElem hi,rfl⟩ ⟨it',st.2.to fun o e=>sb.extBut d o hne e⟩ fun b o hb e=>sb.extBut b o (fun h=>hb (by simp [h])) e
 done:=fun s Q E st hQ=>NZ hh st.1 st.2 (Nat.le_refl _) fun h' he=>hQ h' s.toks fun b o hb e=>he b o (fun h=>hb (by simp [h])) e
 self:=fun _ _ _ _ st hQ=>wpAny_pyIter_keyiter st.1 hQ
theorem NY(lo:(d==sysModules)=false):PySem.W.KdlSrc P w "dict" d d es.size (fun i v=>∃e,es[i]?=some e/\v=e.key) (fun h=>DRaw h d es ep) where
 type:=fun _ x=>x.ty
 there:=fun _ x=>⟨x.lt,x.lt⟩
 keep:=fun _ _ x k=>x.to fun o e=>k d (.inl rfl) o e
 notList:=by decide
 notTuple:=by decide
 hint:=fun _ _ _ _ x q=>PySem.W.kdl_hint_dict x.ty q
 iter:=fun _ _ hh x=>⟨_,_,(fun _ _ q=>LY lo x q),Kg hh _ d (Nat.ne_of_lt x.lt) es ep,⟨⟨_,Heap.get?_push_size _ rfl,rfl,rfl⟩,x.to fun o e=>Heap.get?_push_of_some _ e⟩⟩
end
end L2
namespace L2
open PySem PySem.Spec PyProof.Rows PySem.W
theorem Jv(k:Key):kOf k=kV k:=by cases k <;> rfl
theorem N7(ks:List Key):ks.map kOf=ks.map kV:=List.map_congr_left fun k _=>Jv k
section
variable {X:Cx}
theorem OF{P:Program}{w:World}{H:Hp}{h:Heap}{d:Addr}{kvs:List (List Key×V)}(ok:HOk P w H h)(hd:Rd H d (.dT kvs)) :
  ∃(o:Obj) (es:Array DictEntry) (ep:Nat) (as:List Addr),h.get? d=some o/\o.ExactDict/\o.data=.dict es ep/\as.length=kvs.length/\es.size=kvs.length /\
   (∀(i:Nat) (e:DictEntry),es[i]?=some e->∃a,as[i]?=some a/\e.key=.ref a)/\∀(i:Nat) (a:Addr) (p:List Key×V),as[i]?=some a->kvs[i]?=some p->H a=some (.tup (p.1.map kV)):=by
 obtain⟨_,_,xs,r,o,es,ep,h1,h2,h3,h4,h5,h6⟩:=IL ok hd
 have hl:kvs.length=xs.length:=by
  have:∀{l:List (List Key×V)} {m:List (List Key×Addr×Value)},KT H l m->l.length=m.length:=fun q=>q.length
  exact this r
 have hes:es.size=xs.length:=by rw [← Array.length_toList,h4,List.length_map]
 refine⟨o,es,ep,xs.map fun x=>x.2.1,h1,h2,h3,by rw [List.length_map,hl],by rw [hes,hl],fun i e he=>?_,fun i a p ha hp=>?_⟩
 ·rw [← Array.getElem?_toList,h4,List.getElem?_map] at he
  obtain⟨x,hx,rfl⟩:=Option.map_eq_some_iff.mp he
  exact⟨x.2.1,by rw [List.getElem?_map,hx]; rfl,rfl⟩
 ·rw [List.getElem?_map] at ha
  obtain⟨x,hx,rfl⟩:=Option.map_eq_some_iff.mp ha
  have:=Hk r hp hx
  exact this.2.1
noncomputable def Ld:List V->Hp->VK->Prop:=fun xs H Q=>∃(d:Addr) (kvs:List (List Key×V)),xs=[.ref d]/\Rd H d (.dT kvs)/\kvs.length<64/\(∀x∈kvs.map (·.1),∀y∈kvs.map (·.1),Az x y=true)/\(∀x∈kvs.map (·.1),x≠[]) /\
 ∀(as:List Addr) (ix:List Nat) (l:Addr),as.length=kvs.length->(∀(i:Nat) (a:Addr) (p:List Key×V),as[i]?=some a->kvs[i]?=some p->H a=some (.tup (p.1.map kV)))->KS (kvs.map (·.1)) ix->H l=none ->
  Q (.ref l) (Aw H l (.lst (ix.map fun i=>(as.map V.ref).getD i .non)))
theorem JT(hc:X.calm=true):Bu X (.builtin "sorted") Ld:=by
 intro pins s σ H xs us Q I r h
 obtain⟨d,kvs,rfl,hd,h64,hsm,hne,q⟩:=h
 obtain⟨u,rfl,rx⟩:=vals1 r
 cases rx
 obtain⟨o,es,ep,as,g1,g2,g3,g4,g5,g6,g7⟩:=OF I.hok hd
 have lo:=(IL I.hok hd).2.1
 refine GY (kw:=[]) (args_sorted1 _) (fun x=>args_list_sort _) (PySem.W.kdu_collect (NY (P:=X.prog) (w:=X.w) (es:=es) (ep:=ep) lo) (show X.A.in1.handled=none from by simp [I.ok.hd hc]) ⟨o,g1,g2,g3⟩ (by rw [sizeLine_eq]; omega) fun h' tk acc hkp hacc=>⟨by rw [Array.length_toList,hacc.1,sizeLine_eq]; omega,?_⟩)
 have I1:Inv X pins σ H { s with heap:=h',toks:=tk }:=I.kept (t':=tk) hkp
 have hv:acc.toList=as.map Value.ref:=by
  refine List.ext_getElem? fun i=>?_
  cases hx:acc.toList[i]? with
  | some v =>
   obtain⟨e,he,rfl⟩:=hacc.2 i v (by rw [← Array.getElem?_toList]; exact hx)
   obtain⟨a,ha,hk⟩:=g6 i e he
   rw [List.getElem?_map,ha,hk]; rfl
  | none =>
   have:acc.toList.length<=i:=List.getElem?_eq_none_iff.mp hx
   rw [Array.length_toList,hacc.1] at this
   rw [List.getElem?_eq_none (by rw [List.length_map]; omega)]
 rw [hv]
 refine Kc I1 (Fh as) (by rw [List.length_map]; omega) (keys:=kvs.map (·.1)) ⟨by rw [List.length_map,List.length_map]; exact g4,fun i ns e=>?_,hsm,hne⟩ fun ix l ho hl=>q as ix l g4 g7 ho hl
 rw [List.getElem?_map] at e
 obtain⟨p,hp,rfl⟩:=Option.map_eq_some_iff.mp e
 have hil:i<as.length:=by rw [g4]; exact(List.getElem?_eq_some_iff.mp hp).1
 refine⟨as[i],by rw [List.getElem?_map,List.getElem?_eq_getElem hil]; rfl,?_⟩
 rw [N7]
 exact SqT.of (g7 i _ p (List.getElem?_eq_getElem hil) hp)
end
end L2
namespace Dp
open PySem PySem.Spec PyProof.Rows L2
noncomputable def tupK(k:List Key):D:=.tup (k.map Sd)
theorem H_{K:Frag}{M:Addr->Prop}{H:Hp}:∀{k:List Key},(∀x∈k,De x)->Ats K M H (k.map Sd) (k.map kV)
 | [],_=>rfl
 | x::k,h=>⟨kV x,k.map kV,rfl,by rw [← Jv]; exact QJ (h x List.mem_cons_self),H_ fun y hy=>h y (List.mem_cons_of_mem _ hy)⟩
theorem HP{K:Frag}{M:Addr->Prop}{H:Hp}:∀{ks:List (List Key)} {as:List Addr},as.length=ks.length->(∀k∈ks,∀x∈k,De x)->(∀(i:Nat) (a:Addr) (k:List Key),as[i]?=some a->ks[i]?=some k->H a=some (.tup (k.map kV)))->Ats K M H (ks.map tupK) (as.map V.ref)
 | [],[],_,_,_=>rfl
 | k::ks,a::as,hl,hf,h=>⟨.ref a,as.map V.ref,rfl,⟨a,k.map kV,rfl,h 0 a k rfl rfl,H_ (hf k List.mem_cons_self)⟩,HP (by simpa using hl) (fun k hk=>hf k (List.mem_cons_of_mem _ hk)) fun i a' k' e1 e2=>h (i+1) a' k' (by simpa using e1) (by simpa using e2)⟩
section
variable {X:Cx}
noncomputable def MV(ds:List D)(P:D->Prop):Prop:=∃(ks:List (List Key)) (es:List D),ds=[.dit ks es]/\ks.length=es.length/\ks.length<64/\(∀x∈ks,∀y∈ks,Az x y=true)/\(∀x∈ks,x≠[])/\(∀k∈ks,∀x∈k,De x) /\
 ∀ks':List (List Key),ks'.Perm ks->ks'.Pairwise (fun a b=>CN b a=false)->P (.lst (ks'.map tupK))
theorem Lx{ks:List (List Key)}{ix:List Nat}(h:KS ks ix):(ix.map fun i=>ks.getD i []).Perm ks/\(ix.map fun i=>ks.getD i []).Pairwise (fun a b=>CN b a=false):=by
 obtain⟨h1,h2⟩:=h
 have il:ix.length=ks.length:=by rw [h1.length_eq,List.length_range]
 constructor
 ·have:=h1.map fun i=>ks.getD i []
  have e:(List.range ks.length).map (fun i=>ks.getD i [])=ks:=by
   apply List.ext_getElem
   ·simp
   ·intro i h1 h2
    simp [h2]
  rw [e] at this
  exact this
 ·rw [List.pairwise_iff_getElem]
  intro i j hi hj hij
  rw [List.length_map] at hi hj
  have:=h2 i j (Nat.le_of_lt hij) (by omega)
  rw [List.getElem_map,List.getElem_map]
  rw [List.getD_eq_getElem?_getD (l:=ix),List.getElem?_eq_getElem hj,List.getD_eq_getElem?_getD (l:=ix),List.getElem?_eq_getElem hi] at this
  exact this
theorem OT:B_ X.K .fr Ld MV:=by
 intro U M H ds vs P Q dom vM hp w q
 obtain⟨ks,es,rfl,hl,h64,hsm,hne,hf,w⟩:=w
 obtain⟨v,rfl,hx⟩:=CK hp
 obtain⟨a,us,rfl,ha,hs⟩:=Mq hx
 have hul:=hs.length
 have ez:(ks.zip us).map (·.1)=ks:=List.map_fst_zip (by omega)
 have ezl:(ks.zip us).length=ks.length:=by rw [List.length_zip]; omega
 refine⟨a,_,rfl,ha,by omega,by rw [ez]; exact hsm,by rw [ez]; exact hne,fun as ix l has hat ho hlf=>?_⟩
 rw [ez] at ho
 obtain⟨o1,o2⟩:=Lx ho
 have hA:Ats X.K M H (ks.map tupK) (as.map V.ref):=HP (by omega) hf fun i b k e1 e2=>by
  have hi:i<(ks.zip us).length:=by rw [ezl]; exact(List.getElem?_eq_some_iff.mp e2).1
  have:=hat i b _ e1 (List.getElem?_eq_getElem hi)
  rw [List.getElem_zip] at this
  obtain⟨_,e3⟩:=List.getElem?_eq_some_iff.mp e2
  rw [e3] at this
  exact this
 have e4:(ix.map fun i=>(ks.map tupK).getD i .non)=(ix.map fun i=>ks.getD i []).map tupK:=by
  rw [List.map_map]
  refine List.map_congr_left fun i hi=>?_
  have hil:i<ks.length:=List.mem_range.mp (ho.1.mem_iff.mp hi)
  show (ks.map tupK).getD i .non=tupK (ks.getD i [])
  rw [List.getD_eq_getElem?_getD,List.getD_eq_getElem?_getD,List.getElem?_map,List.getElem?_eq_getElem hil]
  rfl
 have:=w _ o1 o2
 rw [← e4] at this
 exact q _ _ (.lst _) (Ag hlf) (B3 hlf (hA.pick ix)) this
end
end Dp
namespace Nt
open PySem PySem.Spec PyProof.Rows L2 Dp
noncomputable abbrev EE(Pd:D->Nat->Prop):E2:={ nx:=fun n _=>Kd.sh=.sh/\Pd .non n,rt:=Pd }
theorem A9{b:BW}{te:DW}{P:List D->Nat->Prop}(g:D->D)(I:List Slot->Prop):∀(ds acc:List D) (n:Nat) (ρ:List Slot),
  (∀d∈ds,∀(ρ:List Slot) (n:Nat) (nx:D->Nat->List Slot->Prop),I ρ->(∀ρ',I ρ'->nx (g d) n ρ')->b d ρ fun ρ1=>te n ρ1 fun y n2=>nx y n2 ρ1)->I ρ->P (acc++ds.map g) n->E3 b ET te P ds acc n ρ
 | [],acc,n,ρ,_,_,h=>by rw [List.map_nil,List.append_nil] at h; exact h
 | d::ds,acc,n,ρ,ht,hρ,h=>ht d List.mem_cons_self ρ n (fun y n2 ρ1=>E3 b ET te P ds (acc++[y]) n2 ρ1) hρ fun ρ' hρ' =>
  A9 g I ds (acc++[g d]) n ρ' (fun d hd=>ht d (List.mem_cons_of_mem _ hd)) hρ' (by rw [List.append_assoc]; exact h)
theorem Mc{α:Type}{l:List α}{p:α->Bool}{P:D->Prop}(h:P (.bl (l.all p))):Md [.lst (l.map fun a=>.bl (p a))] P :=
 ⟨_,_,rfl,IX p l,by rw [List.all_map]; exact h⟩
theorem M8{b1 b2:Bool}{P:D->Nat->Prop}{n:Nat}{k:(D->Nat->Prop)->Prop}(hk:b1=true->P (.bl b2) n->k P)(h:P (.bl (b1&&b2)) n):(match (.bl b1:D) with | .bl true=>k P | .bl false=>P (.bl false) n | _=>False):=M6 hk h
noncomputable abbrev Wb(g:D->Bool):W2:=O1 1 fun ds=>.bl (g (ds.getD 0 .non))
theorem Wb.out{g:D->Bool}{ss:List Slot}{n:Nat}{P:D->Nat->Prop}(h:Wb g ss n P):∃d,ss=[.sh d]/\P (.bl (g d)) n:=by
 obtain⟨ds,hl,rfl,h⟩:=h
 match ds,hl with
 | [d],_=>exact⟨d,rfl,h⟩
noncomputable def PL:D->Bool
 | .int _=>true
 | _=>false
noncomputable def N4:D->Bool
 | .int i=>decide (1<=i)&&decide (i<=1000000)
 | _=>false
noncomputable def Hq:D->Bool
 | .str x=>(decide (1<=x.length)&&decide (x.length<=8))&&(cs x).all fun c=>decide (97<=c)&&decide (c<=122)
 | _=>false
noncomputable abbrev FJ:W2:=Wb PL
noncomputable abbrev Du:W2:=Wb N4
noncomputable abbrev Ib:W2:=Wb Hq
noncomputable def JV:AS:=(BF (NN (NL "int" (AK 0)) (Ql (NL "bool" (AK 0)))))
noncomputable def IU:AS:=(BF (NN (Ak FJ (AH (Aj (AK 0)) Al)) (Dy Fb Fb (wC (D.int 1)) (AK 0) (wC (D.int 1000000)))))
noncomputable def LD:AS:=(Ar (CJ (EU (Ff (Af (NL "str" (AK 0)))) (Ff (Af (Dy Fb Fb (wC (D.int 1)) (CH CZ (AD (AK 0) AU)) (wC (D.int 8)))))) (BF (wC (D.bl false))) BV)
 (BF (CH Md (AD (CT [none] (CO (AK 0)) (Bi 0) ET (Dy Fb Fb (wC (D.str "a")) (AK 0) (wC (D.str "z")))) AU))))
section
variable {ss:List Slot}{n:Nat}{Pd:D->Nat->Prop}
theorem Hb(h:FJ ss n Pd):JV (EE Pd) n (ss++List.replicate 0 .no):=by
 obtain⟨d,rfl,q⟩:=h.out
 cases d <;> exact q
theorem Gj(h:Du ss n Pd):IU (EE Pd) n (ss++List.replicate 0 .no):=by
 obtain⟨d,rfl,q⟩:=h.out
 refine⟨[d],rfl,rfl,?_⟩
 cases d with
 | int i=>exact M8 (k:=fun P=>P (.bl _) n) (fun _ h=>h) q
 | _=>exact q
theorem LR(c:Nat):((!(decide ([c]<("a" : Str).cps.toList)))&&(!(decide (("z" : Str).cps.toList<[c]))))=(decide (97<=c)&&decide (c<=122)):=by
 have ea:("a" : Str).cps.toList=[97]:=by decide +kernel
 have ez:("z" : Str).cps.toList=[122]:=by decide +kernel
 rw [ea,ez,Bool.eq_iff_iff]
 simp only [Bool.and_eq_true,Bool.not_eq_true',decide_eq_false_iff_not,decide_eq_true_eq,List.cons_lt_cons_iff,List.not_lt_nil,and_false,or_false]
 omega
theorem Fp(x:Str):(Dp.signs x).length=x.length:=by unfold Dp.signs; rw [List.length_map]; exact FF x
theorem Iq(h0:Ib ss n Pd):LD (EE Pd) n (ss++List.replicate 0 .no):=by
 obtain⟨d,rfl,h⟩:=h0.out
 clear h0
 cases d with
 | str x =>
  have h':Pd (.bl ((decide (1<=x.length)&&decide (x.length<=8))&&(cs x).all fun c=>decide (97<=c)&&decide (c<=122))) n:=h
  refine⟨_,_,rfl,rfl,?_⟩
  by_cases h1:1<=x.length
  ·have i1:decide ((1:Int)<=(x.length:Int))=true:=decide_eq_true (by omega)
   by_cases h2:x.length<=8
   ·have i2:decide ((x.length:Int)<=8)=true:=decide_eq_true (by omega)
    rw [decide_eq_true h1,decide_eq_true h2,Bool.true_and,Bool.true_and] at h'
    show (match (.bl (decide ((1:Int)<=(x.length:Int))):D) with | .bl true=>_ | .bl false=>_ | _=>False)
    rw [i1]
    show (if (!decide ((x.length:Int)<=8))=true then _ else _)
    rw [i2]
    refine B6 ⟨by rw [Fp]; omega,?_⟩
    refine A9 (fun d=>match d with | .str z=>.bl ((!(decide (z.cps.toList<("a" : Str).cps.toList)))&&(!(decide (("z" : Str).cps.toList<z.cps.toList)))) | _=>.non) (fun ρ=>∃s,ρ=[s]) _ _ _ _ ?_ ⟨_,rfl⟩ ?_
    ·rintro d hd ρ m nx ⟨s,rfl⟩ hnx
     obtain⟨c,hc,rfl⟩:=List.mem_map.mp hd
     exact M8 (P:=fun y n2=>nx y n2 [.sh (.str ⟨#[c]⟩)]) (k:=fun P=>P (.bl _) m) (fun _ h=>h) (hnx _ ⟨_,rfl⟩)
    ·rw [List.nil_append]
     unfold Dp.signs
     rw [List.map_map]
     show Md [.lst (x.cps.toList.map fun c=>.bl ((!(decide ([c]<("a" : Str).cps.toList)))&&(!(decide (("z" : Str).cps.toList<[c])))))] fun z=>Pd z n
     refine Mc (p:=fun c=>(!(decide ([c]<("a" : Str).cps.toList)))&&(!(decide (("z" : Str).cps.toList<[c])))) ?_
     rw [show (fun c=>(!(decide ([c]<("a" : Str).cps.toList)))&&(!(decide (("z" : Str).cps.toList<[c]))))=fun c=>decide (97<=c)&&decide (c<=122) from funext LR]
     exact h'
   ·have i2:decide ((x.length:Int)<=8)=false:=decide_eq_false (by omega)
    rw [decide_eq_true h1,decide_eq_false h2,Bool.and_false,Bool.false_and] at h'
    show (match (.bl (decide ((1:Int)<=(x.length:Int))):D) with | .bl true=>_ | .bl false=>_ | _=>False)
    rw [i1]
    show (if (!decide ((x.length:Int)<=8))=true then _ else _)
    rw [i2]
    exact JG h'
  ·have i1:decide ((1:Int)<=(x.length:Int))=false:=decide_eq_false (by omega)
   rw [decide_eq_false h1,Bool.false_and,Bool.false_and] at h'
   show (match (.bl (decide ((1:Int)<=(x.length:Int))):D) with | .bl true=>_ | .bl false=>_ | _=>False)
   rw [i1]
   exact JG h'
 | _=>exact h
end
theorem nameB_iff{d:D}:Hq d=true↔∃x,d=.str x/\FL x:=by
 cases d with
 | str x =>
  simp only [Hq,FL,Bool.and_eq_true,decide_eq_true_eq,List.all_eq_true]
  constructor
  ·intro h; exact⟨x,rfl,h.1.1,h.1.2,h.2⟩
  ·rintro ⟨y,e,h1,h2,h3⟩; cases e; exact⟨⟨h1,h2⟩,h3⟩
 | _=>exact⟨(fun h=>by cases h),fun⟨x,e,_⟩=>(by cases e)⟩
theorem HU{x:Str}(h:∀c∈cs x,c<1114112):PyData.strOk x=true:=by
 unfold PyData.strOk
 rw [← Array.all_toList,List.all_eq_true]
 intro c hc
 exact decide_eq_true (h c hc)
theorem E6{x:Str}(h:FL x):Hy (.str x):=⟨rfl,HU fun c hc=>by have:=h.2.2 c hc; omega,Nat.zero_le _⟩
theorem Hz{ps:List Str}(h:∀p∈ps,FL p):B2 (ps.map .str)=true/\PyData.canLayAll0 (As (ps.map .str))=true/\PyData.depthAll (As (ps.map .str))=0:=by
 induction ps with
 | nil=>exact⟨rfl,rfl,rfl⟩
 | cons p r ih =>
  obtain⟨h1,h2,h3⟩:=ih fun q hq=>h q (List.mem_cons_of_mem _ hq)
  have hp:=E6 (h p List.mem_cons_self)
  refine⟨by rw [List.map_cons,B2,h1]; rfl,?_,?_⟩
  ·rw [List.map_cons,As,PyData.canLayAll0,h2,Bool.and_true]
   exact hp.2.1
  ·rw [List.map_cons,As,PyData.depthAll,h3]
   rfl
theorem Fx{ps:List Str}(h:∀p∈ps,FL p):Hy (.tup (ps.map .str)):=by
 obtain⟨h1,h2,h3⟩:=Hz h
 refine⟨h1,h2,?_⟩
 show PyData.depthAll (As (ps.map .str))+1<=100
 rw [h3]; decide
section
variable {ss:List Slot}{n:Nat}{Pd:D->Nat->Prop}
end
mutual
noncomputable def Fa(B:Nat):D->Prop
 | .int i=>i.natAbs<=B
 | .str x=>∀c∈cs x,c<1114112
 | .tup ds=>IH B ds
 | .lst ds=>IH B ds
 | .dic _ _=>False
 | .fdi _ _=>False
 | .dit _ _=>False
 | _=>True
noncomputable def IH(B:Nat):List D->Prop
 | []=>True
 | d::ds=>Fa B d/\IH B ds
end
mutual
noncomputable def NU:D->Nat
 | .int _=>200
 | .str x=>x.length
 | .tup ds=>NT ds
 | .lst ds=>NT ds
 | _=>0
noncomputable def NT:List D->Nat
 | []=>0
 | d::ds=>NU d+1+NT ds
end
mutual
noncomputable def NK:D->Nat
 | .tup ds=>JM ds+1
 | .lst ds=>JM ds+1
 | _=>0
noncomputable def JM:List D->Nat
 | []=>0
 | d::ds=>max (NK d) (JM ds)
end
theorem fines_iff{B:Nat}:∀{ds:List D},IH B ds↔∀d∈ds,Fa B d
 | []=>⟨(fun _ d h=>by cases h),fun _=>trivial⟩
 | d::ds=>by
  have ih:=@fines_iff B ds
  constructor
  ·rintro ⟨h1,h2⟩ e he
   rcases List.mem_cons.mp he with rfl | he
   ·exact h1
   ·exact ih.mp h2 e he
  ·exact fun h=>⟨h d List.mem_cons_self,ih.mpr fun e he=>h e (List.mem_cons_of_mem _ he)⟩
theorem dps_le{k:Nat}:∀{ds:List D},JM ds<=k↔∀d∈ds,NK d<=k
 | []=>⟨(fun _ d h=>by cases h),fun _=>Nat.zero_le _⟩
 | d::ds=>by
  have ih:=@dps_le k ds
  show max (NK d) (JM ds)<=k↔_
  rw [Nat.max_le,ih]
  constructor
  ·rintro ⟨h1,h2⟩ e he
   rcases List.mem_cons.mp he with rfl | he
   ·exact h1
   ·exact h2 e he
  ·exact fun h=>⟨h d List.mem_cons_self,fun e he=>h e (List.mem_cons_of_mem _ he)⟩
mutual
theorem G3{B:Nat}(hB:B<10 ^ 45):∀{d:D},Fa B d->Cz d=true/\(toPy d).showable=true/\(toPy d).canLay0=true/\(toPy d).depth=NK d/\(toPy d).leavesShort 60=true/\(toPy d).weight<=NU d
 | .non,_=>⟨rfl,rfl,rfl,rfl,rfl,Nat.le_refl _⟩
 | .bl b,_=>⟨rfl,rfl,rfl,rfl,rfl,Nat.le_refl _⟩
 | .int i,h=>by
  have h':i.natAbs<=B:=h
  have hlt:i.natAbs<10 ^ 45:=Nat.lt_of_le_of_lt h' hB
  have h2:i.natAbs<2 ^ 150:=Nat.lt_trans hlt (by decide)
  have hl:i.natAbs.log2<150:=by
   by_cases h0:i.natAbs=0
   ·rw [h0]; decide
   ·exact(Nat.log2_lt h0).mpr h2
  refine⟨rfl,?_,rfl,rfl,?_,?_⟩
  ·show decide (i.natAbs.log2<1920)=true
   exact decide_eq_true (by omega)
  ·show decide ((PyData.shown (.int i)).length<=60)=true
   refine decide_eq_true ?_
   have:=int_text_length_le10 (a:=i) (k:=45) (by decide) hlt
   show (Str.ofString (toString i)).length<=60
   rw [PySem.ofString_length]
   omega
  ·show (if i==0 then 0 else i.natAbs.log2+1)<=200
   split <;> omega
 | .str x,h=>by
  have h':∀c∈cs x,c<1114112:=h
  refine⟨rfl,rfl,HU h',rfl,?_,Nat.le_refl _⟩
  show (x.cps.toList.all fun c=>decide (c<16 ^ 8))=true
  rw [List.all_eq_true]
  intro c hc
  exact decide_eq_true (Nat.lt_trans (h' c hc) (by decide))
 | .tup ds,h=>by
  obtain⟨h1,h2,h3,h4,h5,h6⟩:=FA hB (ds:=ds) h
  refine⟨h1,h2,h3,?_,h5,h6⟩
  show PyData.depthAll (As ds)+1=JM ds+1
  rw [h4]
 | .lst ds,h=>by
  obtain⟨h1,h2,h3,h4,h5,h6⟩:=FA hB (ds:=ds) h
  refine⟨h1,h2,h3,?_,h5,h6⟩
  show PyData.depthAll (As ds)+1=JM ds+1
  rw [h4]
 | .dic ks ds,h=>(show False from h).elim
 | .fdi ks ds,h=>(show False from h).elim
 | .dit ks ds,h=>(show False from h).elim
theorem FA{B:Nat}(hB:B<10 ^ 45):∀{ds:List D},IH B ds->B2 ds=true/\PyData.showableAll (As ds)=true/\PyData.canLayAll0 (As ds)=true/\PyData.depthAll (As ds)=JM ds/\PyData.leavesShortAll 60 (As ds)=true/\PyData.weightAll (As ds)<=NT ds
 | [],_=>⟨rfl,rfl,rfl,rfl,rfl,Nat.le_refl _⟩
 | d::ds,h=>by
  obtain⟨h1,h2,h3,h4,h5,h6⟩:=G3 hB (d:=d) h.1
  obtain⟨g1,g2,g3,g4,g5,g6⟩:=FA hB (ds:=ds) h.2
  refine⟨?_,?_,?_,?_,?_,?_⟩
  ·show (Cz d&&B2 ds)=true
   rw [h1,g1]; rfl
  ·show ((toPy d).showable&&PyData.showableAll (As ds))=true
   rw [h2,g2]; rfl
  ·show ((toPy d).canLay0&&PyData.canLayAll0 (As ds))=true
   rw [h3,g3]; rfl
  ·show max (toPy d).depth (PyData.depthAll (As ds))=max (NK d) (JM ds)
   rw [h4,g4]
  ·show ((toPy d).leavesShort 60&&PyData.leavesShortAll 60 (As ds))=true
   rw [h5,g5]; rfl
  ·show (toPy d).weight+1+PyData.weightAll (As ds)<=NU d+1+NT ds
   omega
end
theorem Jg{B:Nat}{d:D}(hB:B<10 ^ 45)(h:Fa B d)(hd:NK d<=100)(hs:NU d<=200000):Jh d:=by
 obtain⟨h1,h2,h3,h4,h5,h6⟩:=G3 hB h
 refine⟨h1,h2,by rw [h4]; exact hd,?_⟩
 have:=PyData.shown_le 60 (by decide) (toPy d) h5
 rw [PySem.sizeLine_eq]
 have:62*(toPy d).weight<=62*200000:=Nat.mul_le_mul_left _ (by omega)
 omega
theorem P4{B:Nat}{d:D}(hB:B<10 ^ 45)(h:Fa B d)(hd:NK d<=100):Hy d:=by
 obtain⟨h1,h2,h3,h4,h5,h6⟩:=G3 hB h
 exact⟨h1,h3,by rw [h4]; exact hd⟩
section
variable {ss:List Slot}{n:Nat}{Pd:D->Nat->Prop}
end
section
variable {ss:List Slot}{n:Nat}{Pd:D->Nat->Prop}
end
section
variable {ss:List Slot}{n:Nat}{Pd:D->Nat->Prop}
end
noncomputable def item(d:D):Prop:=Fa 1000001 d/\NU d<=450/\NK d<=1
theorem GW{k:Nat}:∀{ds:List D},(∀d∈ds,NU d+1<=k)->NT ds<=k*ds.length
 | [],_=>Nat.zero_le _
 | d::ds,h=>by
  have h1:=h d List.mem_cons_self
  have h2:=GW (ds:=ds) fun e he=>h e (List.mem_cons_of_mem _ he)
  show NU d+1+NT ds<=k*(ds.length+1)
  rw [Nat.mul_succ]; omega
theorem Dg{B:Nat}{xs:List D}(h:∀d∈xs,Fa B d):Fa B (.tup xs):=fines_iff.mpr h
theorem item_str{x:Str}(h1:x.length<=8)(h2:∀c∈cs x,c<1114112):item (.str x):=⟨h2,by show x.length<=450; omega,Nat.zero_le _⟩
theorem D8{x:Str}(h:FL x):item (.str x):=item_str h.2.1 fun c hc=>by have:=h.2.2 c hc; omega
theorem MI{a b:Str}{l:Int}(ha:item (.str a))(hb:item (.str b))(la:a.length<=8)(lb:b.length<=8)(hl:l.natAbs<=1000001):item (.tup [.str a,.str b,.int l]):=by
 refine⟨Dg fun d hd=>?_,?_,?_⟩
 ·simp only [List.mem_cons,List.not_mem_nil,or_false] at hd
  rcases hd with rfl | rfl | rfl
  ·exact ha.1
  ·exact hb.1
  ·exact hl
 ·show a.length+1+(b.length+1+(200+1+0))<=450
  omega
 ·show max 0 (max 0 (max 0 0))+1<=1
  decide
theorem MJ{N:Net}(ok:N.Ok):∀d∈N.ts.map CC,item d:=fun d hd=>by
 obtain⟨t,ht,rfl⟩:=List.mem_map.mp hd
 obtain⟨h1,h2,_,h3,h4⟩:=ok.tin t ht
 have n1:=ok.names _ h1
 have n2:=ok.names _ h2
 exact MI (D8 n1) (D8 n2) n1.2.1 n2.2.1 (by omega)
theorem N8{N:Net}(ok:N.Ok):∀d∈N.ps.map D.str,item d:=fun d hd=>by
 obtain⟨x,hx,rfl⟩:=List.mem_map.mp hd
 exact D8 (ok.names x hx)
theorem PU{xs ys:List D}(hx:∀d∈xs,item d)(hy:∀d∈ys,item d)(lx:xs.length<=26)(ly:ys.length<=80):Fa 1000001 (.tup [.tup xs,.tup ys])/\NU (.tup [.tup xs,.tup ys])<=48000/\NK (.tup [.tup xs,.tup ys])<=3:=by
 have s1:=GW (k:=451) fun d hd=>Nat.succ_le_succ (hx d hd).2.1
 have s2:=GW (k:=451) fun d hd=>Nat.succ_le_succ (hy d hd).2.1
 have d1:JM xs<=1:=dps_le.mpr fun d hd=>(hx d hd).2.2
 have d2:JM ys<=1:=dps_le.mpr fun d hd=>(hy d hd).2.2
 refine⟨Dg fun d hd=>?_,?_,?_⟩
 ·simp only [List.mem_cons,List.not_mem_nil,or_false] at hd
  rcases hd with rfl | rfl
  ·exact Dg fun d hd=>(hx d hd).1
  ·exact Dg fun d hd=>(hy d hd).1
 ·show NT xs+1+(NT ys+1+0)<=48000
  omega
 ·show max (JM xs+1) (max (JM ys+1) 0)+1<=3
  omega
theorem z1:1<=sizeLine:=by decide
theorem z2:2<=sizeLine:=by decide
theorem z3:3<=sizeLine:=by decide
theorem z0:0<=sizeLine:=Nat.zero_le _
theorem S8:Oa 10 6:=⟨by decide,by decide,by decide⟩
section
variable {ss:List Slot}{n:Nat}{Pd:D->Nat->Prop}
end
noncomputable def Qp(s t:Ef):Decidable (s=t) :=
 if h:s.a=t.a/\s.b=t.b/\s.len=t.len then .isTrue (by obtain⟨a,b,l⟩:=s; obtain⟨a',b',l'⟩:=t; obtain⟨h1,h2,h3⟩:=h; simp only at h1 h2 h3; subst h1 h2 h3; rfl) else .isFalse fun e=>h (by rw [e]; exact⟨rfl,rfl,rfl⟩)
noncomputable instance:DecidableEq Ef:=Qp
noncomputable abbrev EF(Pd:D->Nat->Prop):E2:={ nx:=fun n _=>Kd.fr=.sh/\Pd .non n,rt:=Pd }
section
variable {ss:List Slot}{n:Nat}{Pd:D->Nat->Prop}
end
end Nt
namespace L2
open PySem PySem.Spec PyProof.Rows PySem.W
section
variable {X:Cx}
end
end L2
namespace Dp
open PySem PySem.Spec PyProof.Rows L2
section
variable {X:Cx}{K:Frag}
end
end Dp
namespace Nt
open PySem PySem.Spec PyProof.Rows L2 Dp
section
variable {ss:List Slot}{n:Nat}{Pd:D->Nat->Prop}
end
section
variable {ss:List Slot}{n:Nat}{Pd:D->Nat->Prop}
end
section
variable {ss:List Slot}{n:Nat}{Pd:D->Nat->Prop}
end
section
variable {ss:List Slot}{n:Nat}{Pd:D->Nat->Prop}
theorem S9{i j:Int}(h0:0<=j)(h1:j<=1000000):CMul i j:=.inr ⟨by omega,by omega⟩
end
end Nt
namespace L2
open PySem PySem.Spec PyProof.Rows
open AutoSeq1 (wpAny_loadPart')
section
variable {prog:Program}{w:World}{A:Around}{E:Value->Shared->Prop}{s:Shared}{I:Addr}{fp wr:List Addr}{G:Array GenState->Array GenState->Prop}{n:Nat}{P:Nat->Value->Prop}{St:Nat->Shared->Prop}
end
section
variable {X:Cx}{e:Expr}{te:TE}{p1 p2 q1 q2:Pos}
end
end L2
namespace Dp
open PySem PySem.Spec PyProof.Rows L2
section
variable {X:Cx}{a:Expr}{κa:Kd}{wa:DW}{p1 p2 q1 q2:Pos}
end
end Dp
namespace Nt
open PySem PySem.Spec PyProof.Rows L2 Dp
noncomputable def Ed(N:Net)(x y:Str)(l:Int):Prop:=(y,l)∈S7 N.ts x
inductive Wk (N:Net) (s:Str):Str->Int->Prop
 | nil:Wk N s s 0
 | snoc {x y:Str} {d l:Int}:Wk N s x d->Ed N x y l->Wk N s y (d+l)
noncomputable def PH(N:Net)(s x:Str)(d:Int):Prop:=Wk N s x d/\∀d',Wk N s x d'->d<=d'
structure TD (ks:List Key) (ds:List D) (J4:α->D) (F:Str->Option α):Prop where
 len:ks.length=ds.length
 at_:∀x:Str,Qn ks ds (.inr x)=(F x).map J4
 dom:∀k∈ks,∃x:Str,k=.inr x
 nd:ks.Nodup
noncomputable abbrev SD:=Str->Option (Int×Option Str)
structure Dj (N:Net) (s:Str) (F:SD) (Wt:List Str):Prop where
 start:F s=some (0,none)
 ins:∀x,F x≠none->x∈N.ps
 wk:∀x d p,F x=some (d,p)->Wk N s x d
 prev:∀x d p,F x=some (d,p)->(p=none/\x=s)\/∃y dy q l,p=some y/\F y=some (dy,q)/\y∉Wt/\Ed N y x l/\d=dy+l
 wfound:∀x∈Wt,F x≠none
 nd:Wt.Nodup
 done:∀x d p y l,F x=some (d,p)->x∉Wt->Ed N x y l->∃dy q,F y=some (dy,q)/\dy<=d+l
 near:∀x d p y dy q,F x=some (d,p)->x∉Wt->F y=some (dy,q)->y∈Wt->d<=dy
structure Dm (N:Net) (s:Str) (F:SD) (Wt:List Str) (v:Str) (dv:Int) (seen:List (Str×Int)):Prop where
 start:F s=some (0,none)
 ins:∀x,F x≠none->x∈N.ps
 wk:∀x d p,F x=some (d,p)->Wk N s x d
 prev:∀x d p,F x=some (d,p)->(p=none/\x=s)\/∃y dy q l,p=some y/\F y=some (dy,q)/\y∉Wt/\Ed N y x l/\d=dy+l
 wfound:∀x∈Wt,F x≠none
 nd:Wt.Nodup
 done:∀x d p y l,F x=some (d,p)->x∉Wt->x≠v->Ed N x y l->∃dy q,F y=some (dy,q)/\dy<=d+l
 near:∀x d p y dy q,F x=some (d,p)->x∉Wt->F y=some (dy,q)->y∈Wt->d<=dy
 here:∃p,F v=some (dv,p)
 out:v∉Wt
 least:∀x d p,F x=some (d,p)->x∉Wt->d<=dv
 gone:∀y l,(y,l)∈seen->∃dy q,F y=some (dy,q)/\dy<=dv+l
structure Told (N:Net) (s:Str) (F:SD):Prop where
 start:F s=some (0,none)
 ins:∀x,F x≠none->x∈N.ps
 least:∀x d p,F x=some (d,p)->PH N s x d
 all:∀x d,Wk N s x d->F x≠none
 prev:∀x d p,F x=some (d,p)->(p=none/\x=s)\/∃y dy q l,p=some y/\F y=some (dy,q)/\Ed N y x l/\d=dy+l
noncomputable abbrev Kn:=Str->Option Int
structure Bf (N:Net) (s:Str) (c:Nat) (K:Kn):Prop where
 start:∃d,K s=some d/\d<=0
 ins:∀x,K x≠none->x∈N.ps
 wk:∀x d,K x=some d->Wk N s x d
 top:∀x d,K x=some d->d<=1000000*(c:Int)
structure Sz (N:Net) (s:Str) (K:Kn):Prop where
 ins:∀x,K x≠none->x∈N.ps
 least:∀x d,K x=some d->PH N s x d
 all:∀x d,Wk N s x d->K x≠none
 top:∀x d,K x=some d->d<=30000000
noncomputable def walk(N:Net):List Str->Int->Prop
 | [],_=>False
 | [_],d=>d=0
 | x::y::r,d=>∃l e,Ed N x y l/\walk N (y::r) e/\d=l+e
section
variable {ss:List Slot}{n:Nat}{Pd:D->Nat->Prop}
end
structure S_ (N:Net) (F:SD) (b:Str) (db:Int) (acc:List Str) (pl:Option Str):Prop where
 st:(acc=[]/\pl=some b)\/∃z r dz,acc.reverse=z::r/\F z=some (dz,pl)/\walk N acc.reverse (db - dz)/\acc.reverse.getLast?=some b
 nd:acc.Nodup
 ins:∀x∈acc,x∈N.ps
 less:∀y dy q,pl=some y->F y=some (dy,q)->∀x∈acc,∃dx qx,F x=some (dx,qx)/\dy<dx
 fnd:∀y,pl=some y->F y≠none
section
variable {ss:List Slot}{n:Nat}{Pd:D->Nat->Prop}
end
section
variable {ss:List Slot}{n:Nat}{Pd:D->Nat->Prop}
end
section
variable {ss:List Slot}{n:Nat}{Pd:D->Nat->Prop}
end
end Nt
namespace Dp
open PySem PySem.Spec PyProof.Rows L2
section
variable {X:Cx}{κ:Kd}{tg:Expr}{body:List Stmt}{b:BW}{wb:AS}{pos p:Pos}{x:Str}{i:Nat}
theorem Rel.lessKp{K:Frag}{C:Fm}{q:Addr×HO}{M:Addr->Prop}{H:Hp}{n:Nat}{ρ:List Slot}{σ:L2.St}(R:Rel K { C with kp:=q::C.kp } M H n ρ σ):Rel K C M H n ρ σ :=
 ⟨R.len,R.sub,R.dom,R.ext,R.fU,R.uV,R.vM,R.feed,R.sl,R.pin,R.br0,R.new,R.two,fun p hp=>R.kept p (List.mem_cons_of_mem _ hp)⟩
end
end Dp
namespace Nt
open PySem PySem.Spec PyProof.Rows L2 Dp
section
variable {ss:List Slot}{n:Nat}{Pd:D->Nat->Prop}
end
section
variable {ss:List Slot}{n:Nat}{Pd:D->Nat->Prop}
end
section
variable {ss:List Slot}{n:Nat}{Pd:D->Nat->Prop}
end
end Nt
namespace Dp
open PySem PySem.Spec PyProof.Rows L2
section
variable {X:Cx}{κ κe:Kd}{tg e:Expr}{b:BW}{we:DW}{pos p apos cpos:Pos}{x:Str}{i:Nat}
end
section
variable {X:Cx}{κ κe:Kd}{e:Expr}{we:DW}{pos p apos cpos p2 apos2 cpos2:Pos}{x y:Str}{i j:Nat}
end
end Dp
namespace Nt
open PySem PySem.Spec PyProof.Rows L2 Dp
section
variable {ss:List Slot}{n:Nat}{Pd:D->Nat->Prop}
end
section
variable {ss:List Slot}{n:Nat}{Pd:D->Nat->Prop}
end
end Nt
namespace L2
open PySem PySem.Spec PyProof.Rows
section
variable {prog:Program}{w:World}{A:Around}{E:Value->Shared->Prop}{s:Shared}{x y:Str}{t u:Tok}
end
section
variable {X:Cx}
end
end L2
namespace Dp
open PySem PySem.Spec PyProof.Rows L2
section
variable {K:Frag}
end
end Dp
namespace L2
open PySem PySem.Spec PyProof.Rows PySem.W
section
variable {X:Cx}
end
end L2
namespace Dp
open PySem PySem.Spec PyProof.Rows L2
end Dp
namespace L2
open PySem PySem.Spec PyProof.Rows PySem.W
section
variable {X:Cx}
end
end L2
namespace Dp
open PySem PySem.Spec PyProof.Rows L2
section
variable {K:Frag}
end
end Dp
namespace Nt
open PySem PySem.Spec PyProof.Rows L2 Dp
noncomputable def words26:List Str:=["a","aa","ab","abc","b","ba","bb","c","come","d","far","in","lay","m","n","near","out","place","q","r","tie","tree","x","xy","y","zzzzzzzz"]
noncomputable def Dv:W2:=fun ss n P=>ss=[]/\P (.lst (words26.map .str)) n
noncomputable def B5:W2:=fun ss n P=>∃m:Nat,ss=[.fd,.sh (.int m)]/\m<=26/\2<=n/\∀xs:List Str,xs.length=m->(∀x∈xs,FL x)->rising xs->P (.tup (xs.map .str)) (n - 2)
noncomputable def Id:W2:=fun ss n P=>∃s:Int,ss=[.fd,.sh (.int s)]/\0<=s/\s<=3/\1<=n/\∀r:Int,1<=r->r<=1000000->P (.int r) (n - 1)
noncomputable def DC:W2:=fun ss n P=>∃(xs:List Str) (most:Nat),ss=[.fd,.sh (.tup (xs.map .str)),.sh (.int most)]/\(∀x∈xs,FL x)/\rising xs/\xs.length<=26/\most<=60/\200<=n/\∀(ts:List Ef) (n':Nat),(⟨xs,ts⟩:Net).Ok->ts.length<=most->n - 200<=n'->P (.tup (ts.map CC)) n'
noncomputable def GR:W2:=fun ss n P=>∃most ties:Nat,ss=[.fd,.sh (.int most),.sh (.int ties)]/\most<=25/\ties<=60/\210<=n/\∀(N:Net) (n':Nat),N.Ok->N.ps.length<=most->N.ts.length<=ties->n - 210<=n'->P (J4 N) n'
noncomputable def C4:AS:=(Ar (DH 0 (GV (AD (wC (D.str "a")) (AD (wC (D.str "aa")) (AD (wC (D.str "ab")) (AD (wC (D.str "abc")) (AD (wC (D.str "b")) (AD (wC (D.str "ba")) (AD (wC (D.str "bb")) (AD (wC (D.str "c")) (AD (wC (D.str "come")) (AD (wC (D.str "d")) (AD (wC (D.str "far")) (AD (wC (D.str "in")) (AD (wC (D.str "lay")) (AD (wC (D.str "m")) (AD (wC (D.str "n")) (AD (wC (D.str "near")) (AD (wC (D.str "out")) AU)))))))))))))))))))
 (BF (Av Bj (AK 0) (GV (AD (wC (D.str "place")) (AD (wC (D.str "q")) (AD (wC (D.str "r")) (AD (wC (D.str "tie")) (AD (wC (D.str "tree")) (AD (wC (D.str "x")) (AD (wC (D.str "xy")) (AD (wC (D.str "y")) (AD (wC (D.str "zzzzzzzz")) AU)))))))))))))
noncomputable def Ci:AS:=(Ar (DH 2 (Ak Dv Al))
 (Ar (DH 3 (Ak Bt (AH (BX 0) (AH (Aj (wC (D.int 26))) Al))))
 (Ar (DH 4 (Av Di (GV (AD (wC (D.int 1)) (AD (wC (D.int 3)) (AD (wC (D.int 5)) (AD (wC (D.int 7)) AU))))) (Ak Bt (AH (BX 0) (AH (Aj (wC (D.int 4))) Al)))))
 (BF (CH Ct (AD (CH MW (AD (CT [some 2,some 3,some 4,none] (Jb (AD (AK 1) AU)) (Bi 3) ET (Av Di (AK 0) (Av (Qg (fun _ j=>0<j) fun i j=>D.int (i % j)) (Av Bj (AK 1) (Av MX (AK 2) (AK 3))) (wC (D.int 26))))) AU)) AU))))))
noncomputable def Ck:AS:=(Ar (CJ (Af (Av (II false) (AK 1) (wC (D.int 3)))) (BF (Av J0 (Av (Qg Oa fun i j=>D.int (i ^ j.toNat)) (wC (D.int 10)) (wC (D.int 6))) (Ak Bt (AH (BX 0) (AH (Aj (wC (D.int 3))) Al))))) BV)
 (BF (Av Bj (wC (D.int 1)) (Ak Bt (AH (BX 0) (AH (Aj (Av Di (GV (AD (wC (D.int 3)) (AD (wC (D.int 9)) (AD (wC (D.int 60)) AU)))) (AK 1))) Al))))))
noncomputable def Ds:AS:=(Ar (DF 3 LK)
 (Ar (DH 4 (Ak Bt (AH (BX 0) (AH (Aj (wC (D.int 5))) Al))))
 (Ar (PQ (Jb (AD (Ak Bt (AH (BX 0) (AH (Aj (Av Bj (AK 2) (wC (D.int 1)))) Al))) AU)) (Bi 5) (CJ (Af (Av (f2 fun i j=>D.bl (decide (j<i))) (CH CZ (AD (AK 1) AU)) (wC (D.int 1)))) (Ar (DH 6 (Ak Bt (AH (BX 0) (AH (Aj (CH CZ (AD (AK 1) AU))) Al))))
 (Ar (DH 7 (Av (Qg (fun _ j=>0<j) fun i j=>D.int (i % j)) (Av Bj (Av Bj (AK 6) (wC (D.int 1))) (Ak Bt (AH (BX 0) (AH (Aj (Av J0 (CH CZ (AD (AK 1) AU)) (wC (D.int 1)))) Al)))) (CH CZ (AD (AK 1) AU))))
 (Ob 3 (Eg (AD (Av Di (AK 1) (CH MY (AD (AK 6) (AD (AK 7) AU)))) (AD (Av Di (AK 1) (CH MZ (AD (AK 6) (AD (AK 7) AU)))) AU))) (Ak Id (AH (BX 0) (AH (Aj (Av Di (GV (AD (AK 4) (AD (Av (Qg (fun _ j=>0<j) fun i j=>D.int (i % j)) (AK 5) (wC (D.int 4))) AU))) (Av (Qg NI fun i j=>D.int (i / j)) (AK 4) (wC (D.int 4))))) Al)))))) BV))
 (BF (CH Ct (AD (CT [some 3,none] (CO (CH MV (AD (Aq 3) AU))) (Bi 1) ET (Av Bj (AK 1) (Eg (AD (Av MT (Aq 0) (AK 1)) AU)))) AU))))))
noncomputable def ER:AS:=(Ar (DH 3 (Ak B5 (AH (BX 0) (AH (Aj (Ak Bt (AH (BX 0) (AH (Aj (Av Bj (AK 1) (wC (D.int 1)))) Al)))) Al))))
 (BF (Eg (AD (AK 3) (AD (Ak DC (AH (BX 0) (AH (Aj (AK 3)) (AH (Aj (AK 2)) Al)))) AU)))))
noncomputable def B0(i:Nat):Str:=words26.getD i "a"
theorem Ig:∀i,i<26->FL (B0 i):=by
 have h:∀i∈List.range 26,1<=(B0 i).length/\(B0 i).length<=8/\∀c∈cs (B0 i),97<=c/\c<=122:=by decide +kernel
 exact fun i hi=>h i (List.mem_range.mpr hi)
theorem KU:∀i j,i<26->j<26->B0 i=B0 j->i=j:=by
 have h:∀i∈List.range 26,∀j∈List.range 26,cs (B0 i)=cs (B0 j)->i=j:=by decide +kernel
 exact fun i j hi hj e=>h i (List.mem_range.mpr hi) j (List.mem_range.mpr hj) (congrArg cs e)
theorem LH(i:Nat)(h:i<26):(words26.map D.str)[i]?=some (.str (B0 i)):=by
 have hl:i<words26.length:=h
 unfold B0
 rw [List.getElem?_map,List.getD_eq_getElem?_getD,List.getElem?_eq_getElem hl]
 rfl
section
variable {ss:List Slot}{n:Nat}{Pd:D->Nat->Prop}
theorem FU(h:Dv ss n Pd):C4 (EE Pd) n (ss++List.replicate 1 .no):=by
 obtain⟨rfl,p⟩:=h
 unfold C4
 exact⟨(by decide:17<=sizeLine),(by decide:9<=sizeLine),(by decide:26<=sizeLine),p⟩
noncomputable def Iw(f s:Nat):D->D
 | .int k=>.str (B0 ((f+s*k.toNat) % 26))
 | _=>.non
theorem Hg(f s k:Nat):Iw f s (.int (0+(k:Int)))=.str (B0 ((f+s*k) % 26)):=by
 show D.str (B0 ((f+s*(0+(k:Int)).toNat) % 26))=_
 rw [show (0+(k:Int)).toNat=k by omega]
theorem Ep(h:B5 ss n Pd):Ci (EE Pd) n (ss++List.replicate 3 .no):=by
 obtain⟨m,rfl,hm,hn,p⟩:=h
 unfold Ci
 refine⟨rfl,26,rfl,by decide,by decide,by omega,fun first f0 f1=>?_⟩
 obtain⟨f,rfl⟩:∃f:Nat,first=(f:Int):=⟨first.toNat,by omega⟩
 refine⟨(by decide:4<=sizeLine),4,rfl,by decide,by decide,by omega,fun w w0 w1=>?_⟩
 obtain⟨s,hs,es⟩:∃s:Nat,(s=1\/s=3\/s=5\/s=7)/\atI [D.int 1,D.int 3,D.int 5,D.int 7] w=some (.int (s:Int)):=by
  rcases (show w=0\/w=1\/w=2\/w=3 by omega) with rfl | rfl | rfl | rfl
  ·exact⟨1,.inl rfl,rfl⟩
  ·exact⟨3,.inr (.inl rfl),rfl⟩
  ·exact⟨5,.inr (.inr (.inl rfl)),rfl⟩
  ·exact⟨7,.inr (.inr (.inr rfl)),rfl⟩
 refine⟨_,es,(m:Int),rfl,⟨by omega,by omega⟩,by rw [Em]; omega,?_⟩
 refine A9 (Iw f s) (fun ρ=>∃s',ρ=[.sh (.lst (words26.map .str)),.sh (.int f),.sh (.int s),s']) _ _ _ _ ?_ ⟨_,rfl⟩ ?_
 ·rintro d hd ρ n' nx ⟨s',rfl⟩ hnx
  obtain⟨k,hk,rfl⟩:=LV hd
  have hlt:(f+s*k) % 26<26:=Nat.mod_lt _ (by decide)
  have hsk:(s:Int)*(0+(k:Int))=((s*k:Nat):Int):=by rw [Int.zero_add]; exact(Int.natCast_mul s k).symm
  refine⟨S9 (by omega) (by omega),by show (0:Int)<26; decide,.str (B0 ((f+s*k) % 26)),?_,?_⟩
  ·rw [hsk,show ((f:Int)+((s*k:Nat):Int)) % 26=(((f+s*k) % 26:Nat):Int) by omega]
   exact AZ (LH _ hlt)
  ·have:=hnx [.sh (.lst (words26.map .str)),.sh (.int f),.sh (.int s),.sh (.int (0+(k:Int)))] ⟨_,rfl⟩
   rw [Hg] at this
   exact this
 ·have e:[]++(C8 0 ((m:Int)).toNat).map (Iw f s)=((List.range m).map fun k:Nat=>B0 ((f+s*k) % 26)).map .str:=by
   unfold C8
   rw [List.nil_append,List.map_map,List.map_map,Int.toNat_natCast]
   refine List.map_congr_left fun k _=>?_
   exact Hg f s k
  rw [e]
  refine⟨_,_,rfl,M9 _,by rw [List.length_map,List.length_range]; omega,fun ss' hp hs'=>p ss' ?_ ?_ ?_⟩
  ·rw [hp.length_eq,List.length_map,List.length_range]
  ·intro y hy
   obtain⟨k,_,rfl⟩:=List.mem_map.mp (hp.mem_iff.mp hy)
   exact Ig _ (Nat.mod_lt _ (by decide))
  ·refine FQ hs' (hp.nodup_iff.mpr (Ft List.nodup_range fun j hj k hk e=>?_))
   have e:=KU _ _ (Nat.mod_lt _ (by decide)) (Nat.mod_lt _ (by decide)) e
   have hj:=List.mem_range.mp hj
   have hk:=List.mem_range.mp hk
   rcases hs with rfl | rfl | rfl | rfl <;> omega
theorem Es(h:Id ss n Pd):Ck (EE Pd) n (ss++List.replicate 0 .no):=by
 obtain⟨s,rfl,s0,s3,hn,p⟩:=h
 unfold Ck
 show if (s==3)=true then _ else _
 refine JH (fun c=>?_) fun c=>?_
 ·refine⟨S8,_,rfl,by decide,by decide,hn,fun r r0 r1=>?_⟩
  have e6:(10:Int) ^ (6:Int).toNat=1000000:=by decide
  show Pd (.int (10 ^ (6:Int).toNat - r)) (n - 1)
  rw [e6]
  exact p _ (by omega) (by omega)
 ·have c:s≠3:=by simpa using c
  obtain⟨k,hk,ek⟩:∃k:Int,(1<=k/\k<=60)/\atI [D.int 3,D.int 9,D.int 60] s=some (.int k):=by
   rcases (show s=0\/s=1\/s=2 by omega) with rfl | rfl | rfl
   ·exact⟨3,by decide,rfl⟩
   ·exact⟨9,by decide,rfl⟩
   ·exact⟨60,by decide,rfl⟩
  refine⟨(by decide:3<=sizeLine),_,ek,k,rfl,by omega,by omega,hn,fun r r0 r1=>?_⟩
  exact p _ (by omega) (by omega)
theorem HZ(h:GR ss n Pd):ER (EE Pd) n (ss++List.replicate 1 .no):=by
 obtain⟨most,ties,rfl,hm,ht,hn,p⟩:=h
 unfold ER
 refine⟨_,rfl,by omega,by omega,by omega,fun r r0 r1=>?_⟩
 refine⟨r.toNat,by rw [show ((r.toNat:Nat):Int)=r by omega],by omega,by omega,fun xs xl hx hr=>?_⟩
 refine⟨xs,ties,rfl,hx,hr,by omega,ht,by omega,fun ts n' ok hl hn'=>⟨z2,?_⟩⟩
 exact p ⟨xs,ts⟩ n' ok (by show xs.length<=most; omega) hl (by omega)
theorem KA(x y:Str):cs x<cs y\/x=y\/cs y<cs x:=by
 by_cases h1:cs x<cs y
 ·exact .inl h1
 ·by_cases h2:cs y<cs x
  ·exact .inr (.inr h2)
  ·refine .inr (.inl ?_)
   have:=Fu (.inr x) (.inr y) (decide_eq_false h1) (decide_eq_false h2)
   exact Sum.inr.inj this
theorem Lk{ks:List (List Key)}{k x:List Key}(h:x∈Ba ks k):x∈ks\/x=k:=by
 unfold Ba at h
 split at h
 ·exact .inl h
 ·exact(List.mem_append.mp h).imp id List.mem_singleton.mp
theorem Na{ks:List (List Key)}{k:List Key}(nd:ks.Nodup):(Ba ks k).Nodup:=by
 unfold Ba
 split
 ·exact nd
 ·rename_i h
  rw [List.nodup_append]
  refine⟨nd,by simp,fun x hx y hy e=>h (hasK_iffU.mpr ?_)⟩
  rw [List.mem_singleton] at hy
  subst hy; subst e; exact hx
theorem Nb{ks:List (List Key)}{k:List Key}:(Ba ks k).length<=ks.length+1:=by
 unfold Ba
 split
 ·omega
 ·rw [List.length_append,List.length_singleton]; omega
theorem He{k:List Key}{d x:D}:∀{ks:List (List Key)} {ds:List D},x∈List.zipWith (fun k0 d0=>if k0=k then d else d0) ks ds->x=d\/x∈ds
 | [],_,h=>by cases h
 | _::_,[],h=>by cases h
 | k0::ks,d0::ds,h=>by
  rw [List.zipWith_cons_cons] at h
  rcases List.mem_cons.mp h with h | h
  ·by_cases e:k0=k
   ·rw [if_pos e] at h; exact .inl h
   ·rw [if_neg e] at h; exact .inr (by rw [h]; exact List.mem_cons_self)
  ·exact(He h).imp id (List.mem_cons_of_mem _)
theorem Kh{ks:List (List Key)}{ds:List D}{k:List Key}{d x:D}(h:x∈BZ ks ds k d):x=d\/x∈ds:=by
 unfold BZ at h
 split at h
 ·exact He h
 ·rcases List.mem_append.mp h with h | h
  ·exact .inr h
  ·exact .inl (List.mem_singleton.mp h)
theorem HL{k:List Key}{z:D}:∀{ks:List (List Key)} {ds:List D},CV ks ds k=some z->z∈ds
 | [],_,h=>by cases h
 | _::_,[],h=>by cases h
 | k0::ks,d0::ds,h=>by
  unfold CV at h
  split at h
  ·cases h; exact List.mem_cons_self
  ·exact List.mem_cons_of_mem _ (HL h)
structure Tds (xs:List Str) (ks:List (List Key)) (ds:List D):Prop where
 len:ks.length=ds.length
 nd:ks.Nodup
 key:∀k∈ks,∃a b:Str,k=[.inr a,.inr b]/\a∈xs/\b∈xs/\cs a<cs b
 val:∀d∈ds,∃l:Int,d=.int l/\1<=l/\l<=1000000
theorem Tds.put{xs:List Str}{ks:List (List Key)}{ds:List D}(T:Tds xs ks ds){a b:Str}{l:Int}(ha:a∈xs)(hb:b∈xs)(lt:cs a<cs b)(l1:1<=l)(l2:l<=1000000):Tds xs (Ba ks [.inr a,.inr b]) (BZ ks ds [.inr a,.inr b] (.int l)):=by
 refine⟨Hd T.len,Na T.nd,fun k hk=>?_,fun d hd=>?_⟩
 ·rcases Lk hk with hk | rfl
  ·exact T.key k hk
  ·exact⟨a,b,rfl,ha,hb,lt⟩
 ·rcases Kh hd with rfl | hd
  ·exact⟨l,rfl,l1,l2⟩
  ·exact T.val d hd
noncomputable def Fe(ks:List (List Key))(ds:List D):D->D
 | .tup [.str a,.str b]=>.tup [.str a,.str b,(CV ks ds [.inr a,.inr b]).getD .non]
 | d=>d
theorem HI(ks:List (List Key))(ds:List D)(a b:Str):Fe ks ds (.tup [.str a,.str b])=.tup [.str a,.str b,(CV ks ds [.inr a,.inr b]).getD .non]:=rfl
theorem Tds.ties{xs:List Str}{ks:List (List Key)}{ds:List D}(T:Tds xs ks ds):∀{ks':List (List Key)},(∀k∈ks',k∈ks)->ks'.Nodup->ks'.Pairwise (fun a b=>CN b a=false) ->
  ∃ts:List Ef,(ks'.map tupK).map (Fe ks ds)=ts.map CC/\ts.map (fun t=>([.inr t.a,.inr t.b]:List Key))=ks'/\(∀t∈ts,t.a∈xs/\t.b∈xs/\cs t.a<cs t.b/\1<=t.len/\t.len<=1000000)/\ts.Pairwise FC
 | [],_,_,_=>⟨[],rfl,rfl,(fun t h=>by cases h),List.Pairwise.nil⟩
 | k::ks',hin,nd,pw=>by
  rw [List.nodup_cons] at nd
  rw [List.pairwise_cons] at pw
  obtain⟨ts,e1,e2,h1,h2⟩:=T.ties (ks':=ks') (fun k hk=>hin k (List.mem_cons_of_mem _ hk)) nd.2 pw.2
  obtain⟨a,b,rfl,ha,hb,lt⟩:=T.key k (hin k List.mem_cons_self)
  obtain⟨z,hz⟩:=C5 T.len (hin _ List.mem_cons_self)
  obtain⟨l,rfl,l1,l2⟩:=T.val z (HL hz)
  refine⟨⟨a,b,l⟩::ts,?_,?_,fun t ht=>?_,List.pairwise_cons.mpr ⟨fun t ht=>?_,h2⟩⟩
  ·rw [List.map_cons,List.map_cons,List.map_cons,e1]
   show Fe ks ds (.tup [.str a,.str b])::_=_
   rw [HI,hz]; rfl
  ·rw [List.map_cons,e2]
  ·rcases List.mem_cons.mp ht with rfl | ht
   ·exact⟨ha,hb,lt,l1,l2⟩
   ·exact h1 t ht
  ·have hm:([.inr t.a,.inr t.b]:List Key)∈ks':=by rw [← e2]; exact List.mem_map.mpr ⟨t,ht,rfl⟩
   have h3:=pw.1 _ hm
   have hne:([.inr a,.inr b]:List Key)≠[.inr t.a,.inr t.b]:=fun z=>nd.1 (by rw [z]; exact hm)
   have h3:(if (Sum.inr t.a:Key)=.inr a then (if (Sum.inr t.b:Key)=.inr b then false else decide (t.b.cps.toList<b.cps.toList)) else decide (t.a.cps.toList<a.cps.toList))=false:=h3
   show cs a<cs t.a\/(a=t.a/\cs b<cs t.b)
   by_cases q1:t.a=a
   ·rw [if_pos (by rw [q1])] at h3
    by_cases q2:t.b=b
    ·exact absurd (by rw [q1,q2]) hne
    ·rw [if_neg (fun z=>q2 (Sum.inr.inj z))] at h3
     refine .inr ⟨q1.symm,?_⟩
     rcases KA b t.b with l | l | l
     ·exact l
     ·exact absurd l.symm q2
     ·exact absurd l (of_decide_eq_false h3)
   ·rw [if_neg (fun z=>q1 (Sum.inr.inj z))] at h3
    left
    rcases KA a t.a with l | l | l
    ·exact l
    ·exact absurd l.symm q1
    ·exact absurd l (of_decide_eq_false h3)
theorem Gi(h:DC ss n Pd):Ds (EE Pd) n (ss++List.replicate 5 .no):=by
 obtain⟨xs,most,rfl,hx,hr,h26,hm,hn,p⟩:=h
 have szl:=PySem.sizeLine_eq
 unfold Ds
 refine⟨5,rfl,by decide,by decide,by omega,fun sort s0 s1=>?_⟩
 refine⟨_,rfl,by omega,by omega,by omega,fun many m0 m1=>⟨many,rfl,⟨by omega,by omega⟩,?_⟩⟩
 refine CM (all:=C8 0 many.toNat) (fun pre m ρ=>n - 2 - 3*pre.length<=m/\∃(ks:List (List Key)) (ds:List D) (s5 s6 s7:Slot),ρ=[.fd,.sh (.tup (xs.map .str)),.sh (.int most),.ow (.dit ks ds),.sh (.int sort),s5,s6,s7]/\Tds xs ks ds/\ks.length<=pre.length) ?_ ?_ _ [] _ _ rfl ⟨by simp; omega,[],[],_,_,_,rfl,⟨rfl,List.nodup_nil,(fun k h=>by cases h),fun d h=>by cases h⟩,Nat.le_refl _⟩
 ·rintro m ρ ⟨hm2,ks,ds,s5,s6,s7,rfl,T,hkl⟩
  rw [Em] at hm2 hkl
  refine⟨ks,ds,rfl,T.len,by omega,fun x hx' y hy'=>?_,fun x hx'=>?_,fun k hk' x hx'=>?_,fun ks' hp pw=>⟨by show (ks'.map tupK).length<=10000000; rw [List.length_map,hp.length_eq]; omega,?_⟩⟩
  ·obtain⟨a,b,rfl,_⟩:=T.key x hx'
   obtain⟨a',b',rfl,_⟩:=T.key y hy'
   rfl
  ·obtain⟨a,b,rfl,_⟩:=T.key x hx'
   simp
  ·obtain⟨a,b,rfl,ha,hb,_⟩:=T.key k hk'
   have fit:∀y∈xs,De (.inr y):=fun y hy=>by
    have:=(hx y hy).2.1
    show y.length<=sizeLine
    omega
   rcases List.mem_cons.mp hx' with rfl | hx'
   ·exact fit a ha
   ·rw [List.mem_singleton.mp hx']; exact fit b hb
  ·obtain⟨ts,e1,e2,h1,h2⟩:=T.ties (ks':=ks') (fun k hk'=>hp.mem_iff.mp hk') (hp.nodup_iff.mpr T.nd) pw
   have htl:ts.length=ks.length:=by rw [← hp.length_eq,← e2,List.length_map]
   refine A9 (Fe ks ds) (fun ρ=>∃s,ρ=[.br (.dit ks ds),s]) _ _ _ _ ?_ ⟨_,rfl⟩ ?_
   ·rintro d hd ρ n' nx ⟨s,rfl⟩ hnx
    obtain⟨k,hk',rfl⟩:=List.mem_map.mp hd
    have hkk:=hp.mem_iff.mp hk'
    obtain⟨a,b,rfl,_⟩:=T.key k hkk
    obtain⟨z,hz⟩:=C5 T.len hkk
    have:=hnx [.br (.dit ks ds),.sh (.tup [.str a,.str b])] ⟨_,rfl⟩
    rw [show Fe ks ds (tupK [.inr a,.inr b])=.tup [.str a,.str b,z] by show Fe ks ds (.tup [.str a,.str b])=_; rw [HI,hz]; rfl] at this
    exact⟨ks,ds,_,z,rfl,rfl,hz,z1,z3,this⟩
   ·rw [List.nil_append,e1]
    exact p ts m ⟨hx,hr,h1,h2⟩ (by omega) (by omega)
 ·rintro pre d post m ρ nx hall ⟨hm2,ks,ds,s5,s6,s7,rfl,T,hkl⟩ hnx
  obtain⟨rfl,hk⟩:=NX hall
  rw [List.length_append,List.length_singleton] at hnx
  generalize pre.length=i at hk hm2 hkl hnx ⊢
  have xl:(xs.map D.str).length=xs.length:=List.length_map ..
  refine⟨_,_,rfl,rfl,?_⟩
  show if decide ((1:Int)<((xs.map D.str).length:Int))=true then _ else _
  refine JH (fun c=>?_) fun c=>hnx _ _ ⟨by omega,ks,ds,_,_,_,rfl,T,by omega⟩
  have c:=of_decide_eq_true c
  rw [xl] at c
  refine⟨_,_,rfl,rfl,_,rfl,by omega,by omega,by omega,fun a a0 a1=>?_⟩
  refine⟨_,_,rfl,rfl,_,rfl,by omega,by omega,by omega,fun q q0 q1=>⟨_,_,rfl,rfl,by show (0:Int)<_; omega,?_⟩⟩
  rw [xl] at a1 q1 ⊢
  obtain⟨s,es,se0,se3⟩:∃s:Int,atI [D.int sort,D.int ((0+(i:Int)) % 4)] (sort / 4)=some (.int s)/\0<=s/\s<=3:=by
   rcases (show sort<4\/sort=4 by omega) with z | z
   ·refine⟨sort,?_,s0,by omega⟩
    rw [show sort / 4=0 by omega]; rfl
   ·refine⟨(0+(i:Int)) % 4,?_,by omega,by omega⟩
    rw [show sort / 4=1 by omega]; rfl
  refine⟨ks,ds,rfl,by show (0:Int)<4; decide,z2,⟨by decide,by decide⟩,_,es,s,rfl,se0,se3,by omega,fun r r1 r2=>?_⟩
  have hb0:0<=(a+1+q) % (xs.length:Int)/\(a+1+q) % (xs.length:Int)<xs.length:=⟨Int.emod_nonneg _ (by omega),Int.emod_lt_of_pos _ (by omega)⟩
  have hab:(a+1+q) % (xs.length:Int)≠a:=by
   intro e
   rcases (show a+1+q<xs.length\/xs.length<=a+1+q by omega) with z | z
   ·rw [Int.emod_eq_of_lt (by omega) z] at e; omega
   ·have:(a+1+q) % (xs.length:Int)=a+1+q - xs.length:=by
     rw [← Int.sub_emod_right,Int.emod_eq_of_lt (by omega) (by omega)]
    omega
  obtain⟨b,eb⟩:∃b,(a+1+q) % (xs.length:Int)=b:=⟨_,rfl⟩
  rw [eb] at hb0 hab
  have key:∀lo hi:Int,0<=lo->lo<hi->hi<xs.length->∃x y:Str,atI (xs.map D.str) lo=some (.str x)/\atI (xs.map D.str) hi=some (.str y)/\x∈xs/\y∈xs/\cs x<cs y:=by
   intro lo hi l0 lh hl
   have h1:lo.toNat<xs.length:=by omega
   have h2:hi.toNat<xs.length:=by omega
   refine⟨xs[lo.toNat],xs[hi.toNat],?_,?_,List.getElem_mem _,List.getElem_mem _,?_⟩
   ·have:=AZ (xs:=xs.map D.str) (j:=lo.toNat) (v:=.str xs[lo.toNat]) (by rw [List.getElem?_map,List.getElem?_eq_getElem h1]; rfl)
    rwa [show ((lo.toNat:Nat):Int)=lo by omega] at this
   ·have:=AZ (xs:=xs.map D.str) (j:=hi.toNat) (v:=.str xs[hi.toNat]) (by rw [List.getElem?_map,List.getElem?_eq_getElem h2]; rfl)
    rwa [show ((hi.toNat:Nat):Int)=hi by omega] at this
   ·exact List.pairwise_iff_getElem.mp hr _ _ h1 h2 (by omega)
  obtain⟨x,y,ex,ey,hx1,hy1,lt⟩:=key (if b<a then b else a) (if b > a then b else a) (by split <;> omega) (by split <;> omega) (by split <;> omega)
  have done:=hnx (m - 1 - 1 - 1) [.fd,.sh (.tup (xs.map .str)),.sh (.int most),.ow (.dit (Ba ks [.inr x,.inr y]) (BZ ks ds [.inr x,.inr y] (.int r))),.sh (.int sort),.sh (.int (0+(i:Int))),.sh (.int a),.sh (.int b)] ⟨by omega,_,_,_,_,_,rfl,T.put hx1 hy1 lt r1 r2,Nat.le_trans Nb (by omega)⟩
  subst eb
  refine⟨_,ex,_,ey,z2,_,rfl,by omega,done⟩
end
end Nt
namespace L2
open PySem PySem.Spec PyProof.Rows
open AutoSeq1 (wpAny_loadPart')
theorem boot_enumerate:bootBuiltins "enumerate"=some (.type "enumerate"):=by decide +kernel
section
variable {prog:Program}{w:World}{A:Around}{E:Value->Shared->Prop}{s:Shared}
theorem K7{κ:Bool}(hh:A.handled=none)(it l:Addr)(hne:l≠it)(items:Array Value):Draws prog w A it [it,l] items.size (fun i v=>items[i]?=some v) (fun i h=>ItAt κ h it l i/\SqAt κ h l items) where
 live:=fun _ _ st=>let ⟨o,ho,_⟩:=st.1.lies; ⟨o,ho⟩
 frame:=fun _ _ _ st k=>⟨st.1.mv fun o e=>k it (by simp) o e,st.2.mv fun o e=>k l (by simp) o e⟩
 item:=fun i s Q E hi st hQ=>K8 st.1 st.2 (x:=items[i]) (by simp [hi]) fun h' a b=>hQ _ h' s.toks (by simp [hi]) ⟨a,st.2.eb b.extBut hne⟩ b
 done:=fun s Q E st hE=>IN hh st.1 st.2 (by simp) hE
theorem JL{κ:Bool}(hh:A.handled=none)(it l:Addr)(items:Array Value)(k:Nat)(hk:items[k]?=none):Draws prog w A it [it,l] k (fun _ _=>True) (fun i h=>ItAt κ h it l i/\SqAt κ h l items/\i=k) where
 live:=fun _ _ st=>let ⟨o,ho,_⟩:=st.1.lies; ⟨o,ho⟩
 frame:=fun _ _ _ st k=>⟨st.1.mv fun o e=>k it (by simp) o e,st.2.1.mv fun o e=>k l (by simp) o e,st.2.2⟩
 item:=fun i s Q E hi st hQ=>absurd st.2.2 (Nat.ne_of_lt hi)
 done:=fun s Q E st hE=>IN hh st.1 st.2.1 hk hE
theorem L6(κ:Bool)(l:Addr)(items:Array Value):Meets (Builtin.«enumerate.__new__» ⟨[.type "enumerate",.ref l],[]⟩) (fun _ R s=>SqAt κ s.heap l items /\
   R (.ok (.ret (.ref (s.heap.push (GA κ l)).objs.size))) { s with heap:=(s.heap.push (GA κ l)).push { cls:=.type "enumerate",data:=.fields #[.none,.bool false,.ref s.heap.objs.size,rawInt 0,.none,.none] } }) :=
 .of_wp fun prog w A R s h=>by
  obtain⟨hp,g,d,tk,os⟩:=s; obtain⟨hl,h⟩:=h
  have hsub:=sub_enumerate
  cases κ with
  | true =>
   have hL:Heap.IsList (Shared.heap ⟨hp,g,d,tk,os⟩) l items:=hl
   obtain⟨⟨c,dct,dt,sl⟩,ho,hc,n,hd⟩:=id hL
   replace hc:c=.type "list":=hc
   replace hd:dt=.seq items n:=hd
   subst hc hd
   wp_walk using wpAny_loadPart' ho
   refine wpAny_stack_any fun st=>wpAny_pure ?_
   split
   ·rename_i c _ _ _ _ _
    cases (c==Value.type "enumerate") <;> (wp_walk using wpAny_loadPart' ho,wpAny_pyIter_list hL; exact⟨_,rfl,h⟩)
   ·(wp_walk using wpAny_loadPart' ho,wpAny_pyIter_list hL; exact⟨_,rfl,h⟩)
  | false =>
   have hL:Heap.IsTuple (Shared.heap ⟨hp,g,d,tk,os⟩) l items:=hl
   obtain⟨⟨c,dct,dt,sl⟩,ho,hc,n,hd⟩:=id hL
   replace hc:c=.type "tuple":=hc
   replace hd:dt=.seq items n:=hd
   subst hc hd
   wp_walk using wpAny_loadPart' ho
   refine wpAny_stack_any fun st=>wpAny_pure ?_
   split
   ·rename_i c _ _ _ _ _
    cases (c==Value.type "enumerate") <;> (wp_walk using wpAny_loadPart' ho,wpAny_pyIter_tuple hL; exact⟨_,rfl,h⟩)
   ·(wp_walk using wpAny_loadPart' ho,wpAny_pyIter_tuple hL; exact⟨_,rfl,h⟩)
theorem Fd{κ:Bool}{l:Addr}{items:Array Value}{Q:Value->Shared->Prop}(hl:SqAt κ s.heap l items)
  (h:∀h',IsEnum h' (s.heap.objs.size+1) s.heap.objs.size 0 .none->ItAt κ h' s.heap.objs.size l 0->(∀b o,s.heap.get? b=some o->h'.get? b=some o)->Q (.ref (s.heap.objs.size+1)) { s with heap:=h' }) :
  wpAny (model prog w) A (call (.type "enumerate") [.ref l]) Q E s:=by
 refine callType_new F.called_enumerate (by decide) (F.typeCall_enumerate_1 _) (F.newCall_enumerate_1 _) (fun obj=>F.args_object_init_2 obj _) F.entry_enumerate_new (L6 κ l items) ⟨hl,?_⟩
 have hz:(s.heap.push (GA κ l)).objs.size=s.heap.objs.size+1:=Heap.size_push ..
 have g1:((s.heap.push (GA κ l)).push { cls:=.type "enumerate",data:=.fields #[.none,.bool false,.ref s.heap.objs.size,rawInt 0,.none,.none] }).get? (s.heap.push (GA κ l)).objs.size=some _:=Heap.get?_push_size _ rfl
 rw [hz] at g1
 refine⟨⟨_,by rw [hz]; exact g1,rfl⟩,?_⟩
 rw [hz]
 exact h _ g1 ((MK κ s.heap l).mv fun o e=>Heap.get?_push_of_some _ e) fun b o e=>Heap.get?_push_of_some _ (Heap.get?_push_of_some _ e)
end
noncomputable def Qj(K:Frag)(κ:Bool)(a:Addr)(xs:List V):It :=
 ⟨fun i H=>SqK κ K H a xs/\i<xs.length,fun i H x H'=>∃T p,x=.ref T/\H T=none/\H'=Aw H T (.tup [.int i,p])/\xs[i]?=some p,fun i H=>SqK κ K H a xs/\xs.length<=i⟩
structure QZ (κ:Bool) (e it a:Addr) (k:Nat) (h:Heap):Prop where
 e:∃old,IsEnum h e it (k:Int) old
 i:ItAt κ h it a k
theorem KY{P:Program}{w:World}{K:Frag}{es:List Expr}{j:Nat}{pos:Pos}(κ:Bool)(e it a:Addr)(xs:List V)(ei:e≠it)(ae:a≠e)(ai:a≠it) :
  Turn P w K (.Tuple es j pos) (Qj K κ a xs) [e,it] e (QZ κ e it a) where
 mem:=by simp
 obj:=fun i h st c hc=>by
  simp only [List.mem_cons,List.not_mem_nil,or_false] at hc
  rcases hc with rfl | rfl
  ·obtain⟨o,q⟩:=st.e
   exact⟨_,q,fun v q=>by cases q⟩
  ·exact st.i.lies
 keep:=fun i h h' st k=>by
  obtain⟨o,q⟩:=st.e
  exact⟨⟨o,k e (by simp) _ q⟩,st.i.mv fun o e=>k it (by simp) o e⟩
 item:=by
  intro X hP hw hK hc i pins s σ H E I hf st hg
  subst hP hw hK
  obtain⟨ha,hi⟩:=hg
  obtain⟨us,r1,q1⟩:=ha.at I
  obtain⟨u,hu,ru⟩:=r1.get (List.getElem?_eq_getElem hi)
  obtain⟨old,ee⟩:=st.e
  have l1:=r1.length
  refine wpAny_pyNext_enum_itemD (K7 (κ:=κ) (A:=X.A.in1) (I.ok.hd hc) it a ai us.toArray) ee ⟨st.i,q1⟩ (by simp; omega) ei (by simp [ei,ae.symm]) fun x h' tk hp a1 a2 a3 a4 a5=>⟨_,rfl,?_⟩
  have hxu:x=u:=by
   have e2:us[i]?=some x:=by simpa using hp
   rw [hu] at e2
   exact(Option.some.inj e2).symm
  subst hxu
  refine wpAny_letOwnedTupleGo_enum a1 fun h2 b1 b2=>?_
  have hT:H s.heap.objs.size=none:=I.hok.fresh (Nat.le_refl _)
  have kk:∀c o,c∉[e,it]->s.heap.get? c=some o->h2.get? c=some o:=fun c o hc z=>by
   simp only [List.mem_cons,List.not_mem_nil,or_false,not_or] at hc
   exact b2.extBut _ _ hc.1 (a5 c o hc.1 hc.2 z)
  have I2:Inv X pins σ (Aw H s.heap.objs.size (.tup [.int i,xs[i]])) { s with heap:=h2,toks:=tk+1 }:=by
   refine I.turnLaid (t':=tk+1) (ch:=[e,it]) hf kk (Nat.le_refl _) ?_
   have nT:s.heap.objs.size≠e:=Nat.ne_of_gt (Heap.lt_size ee)
   exact⟨by show 2<=sizeLine; decide,[.int i tk,x],.cons ⟨_,rfl⟩ (.cons ru .nil),⟨_,b2.extBut _ _ nT a3,rfl,_,rfl,rfl,rfl⟩⟩
  refine⟨.ref s.heap.objs.size,_,I2,rfl,⟨_,_,rfl,hT,rfl,List.getElem?_eq_getElem hi⟩,⟨⟨_,b1⟩,a2.1.eb b2.extBut ei.symm⟩,fun c hc=>?_⟩
  have hcn:H c=none:=(hf c hc).1
  have hlt:c≠s.heap.objs.size:=fun z=>by
   obtain⟨o,ho⟩:∃o,s.heap.get? c=some o:=by
    simp only [List.mem_cons,List.not_mem_nil,or_false] at hc
    rcases hc with rfl | rfl
    ·exact⟨_,ee⟩
    ·obtain⟨o,q,_⟩:=st.i.lies; exact⟨o,q⟩
   rw [z] at ho
   exact Nat.lt_irrefl _ (Heap.lt_size ho)
  rw [AL hlt]; exact hcn
 done:=by
  intro X hP hw hK hc i pins s σ H E I hf st hg
  subst hP hw hK
  obtain⟨ha,hi⟩:=hg
  obtain⟨us,r1,q1⟩:=ha.at I
  obtain⟨old,ee⟩:=st.e
  have l1:=r1.length
  refine wpAny_pyNext_enum_endD (JL (κ:=κ) (A:=X.A.in1) (I.ok.hd hc) it a us.toArray i (by simp; omega)) ee ⟨st.i,q1,rfl⟩ fun h' kk=>⟨rfl,?_⟩
  refine I.turnedL (t':=s.toks) (ch:=[e,it]) hf fun c o hc e=>?_
  simp only [List.mem_cons,List.not_mem_nil,or_false,not_or] at hc
  exact kk c o hc.2 e
 self:=fun A i s Q E st h=>by
  obtain⟨old,ee⟩:=st.e
  exact wpAny_pyIter_enum ee h
section
variable {X:Cx}{e1:Expr}{es:List Expr}{j:Nat}{tpos p pos:Pos}{te:TE}
noncomputable def RM(K:Frag)(te:TE):TI:=fun σ H R=>te σ H fun v H1=>∃κ a xs,v=.ref a/\SqK κ K H1 a xs/\R (Qj K κ a xs) H1
theorem Nh(hg:Gl X "enumerate")(hm:X.mg "enumerate"=none)(he:PE X e1 te)(hs:autoParam (starEach [e1] X.env=[(false,eval e1 X.env)]) zau3._auto_1) :
  PI X (.Tuple es j tpos) (.Call (.Name "enumerate" p) [e1] [] pos) (RM X.K te):=by
 intro pins s σ H R I h
 refine wpAny_Call_Name_kw (E5 I hg hm boot_enumerate ?_)
 refine PyProof.Rows.callWith_type1 ?_ hs rfl
 rw [hs]
 refine Calls.spliced_cons (A2 (he pins s σ H _ I h) fun u s1 ⟨x,H1,I1,r1,κ,a,xs,ex,hq,q⟩=>Calls.spliced_nil ?_)
 subst ex
 cases r1
 obtain⟨us,r1',q1⟩:=hq.at I1
 have la:a<s1.heap.objs.size:=by obtain⟨o,e⟩:=q1.lies; exact Heap.lt_size e
 refine Fd q1 fun h' hz hi hk=>?_
 refine wpAny_pyIter_enum hz ?_
 refine⟨s1.heap.objs.size+1,[s1.heap.objs.size+1,s1.heap.objs.size],_,Qj X.K κ a xs,H1,rfl,I1.kept (t':=s1.toks) hk,KY κ _ _ a xs (by show (_:Nat)≠(_:Nat); omega) (Nat.ne_of_lt (Nat.lt_succ_of_lt la)) (Nat.ne_of_lt la),⟨⟨_,hz⟩,hi⟩,fun c hc=>?_,q⟩
 have hge:s1.heap.objs.size<=c:=by
  simp only [List.mem_cons,List.not_mem_nil,or_false] at hc
  rcases hc with rfl | rfl
  ·exact Nat.le_succ _
  ·exact Nat.le_refl _
 exact I1.fpOk hge (I1.hok.fresh hge)
end
end L2
namespace Dp
open PySem PySem.Spec PyProof.Rows L2
noncomputable def Be:Nat->List D->List D
 | _,[]=>[]
 | k,x::r=>.tup [.int (k:Int),x]::Be (k+1) r
theorem Cu:∀(k:Nat) (ds:List D),(Be k ds).length=ds.length
 | _,[]=>rfl
 | k,x::r=>by show (Be (k+1) r).length+1=r.length+1; rw [Cu (k+1) r]
theorem D9:∀(k:Nat) (ds:List D) (i:Nat),(Be k ds)[i]?=(ds[i]?).map fun x=>.tup [.int ((k+i:Nat):Int),x]
 | _,[],i=>by simp [Be]
 | k,x::r,0=>rfl
 | k,x::r,i+1=>by
  show (Be (k+1) r)[i]?=(r[i]?).map _
  rw [D9 (k+1) r i,show k+1+i=k+(i+1) by omega]
section
variable {K:Frag}
theorem IK{M:Addr->Prop}{H:Hp}{κ:Bool}{a:Addr}{vs:List V}{ds:List D}(hs:Ats K M H ds vs){i:Nat}{M':Addr->Prop}{H':Hp}(pr:Pres M H M' H')(h1:SqK κ K H' a vs)(dom:∀a,M' a->∃o,H' a=some o) :
  (∀d,(Be 0 ds)[i]?=some d->(Qj K κ a vs).go i H'/\∀x H2,(Qj K κ a vs).yld i H' x H2->Grow H' H2/\At K M' H2 d x)/\((Be 0 ds).length<=i->(Qj K κ a vs).stop i H'):=by
 have l1:=hs.length
 refine⟨fun d hd=>?_,fun hl=>⟨h1,by rw [Cu] at hl; omega⟩⟩
 rw [D9,Nat.zero_add] at hd
 cases q1:ds[i]? with
 | none=>rw [q1] at hd; cases hd
 | some d1 =>
  rw [q1] at hd
  have hd':D.tup [.int (i:Int),d1]=d:=Option.some.inj hd
  have i1:i<ds.length:=(List.getElem?_eq_some_iff.mp q1).1
  refine⟨⟨h1,by omega⟩,fun x H2 y=>?_⟩
  obtain⟨T,p,rfl,hT,rfl,e1⟩:=y
  obtain⟨v1,f1,a1⟩:=(hs.pres pr).get q1
  rw [e1] at f1
  cases f1
  subst hd'
  exact⟨Ag hT,Df dom hT ⟨.int (i:Int),[p],rfl,rfl,p,[],rfl,a1,rfl⟩⟩
end
section
variable {X:Cx}{e1:Expr}{es:List Expr}{j:Nat}{tpos p pos:Pos}{κ:Kd}{wa:DW}
end
end Dp
namespace L2
open PySem PySem.Spec PyProof.Rows PySem.W
section
variable {prog:Program}{w:World}{A:Around}{E:Value->Shared->Prop}{s:Shared}
end
section
variable {prog:Program}{w:World}{A:Around}{R:Result->Shared->Prop}{I:Addr}{fp wr:List Addr}{n:Nat}{P:Nat->Value->Prop}{St:Nat->Heap->Prop}{K:Type}[DecidableEq K]{knd:KeyKind prog w K}
end
section
variable {X:Cx}
end
end L2
namespace Dp
open PySem PySem.Spec PyProof.Rows L2
end Dp
namespace L2
open PySem PySem.Spec PyProof.Rows PySem.W
section
variable {prog:Program}{w:World}{A:Around}{E:Value->Shared->Prop}{s:Shared}
end
structure TJ (prog:Program) (w:World) (A:Around) (I d:Addr) (n:Nat) (base:Heap) (key:Nat->Addr) (val:Nat->Value) (ch:Addr->Prop) (St:Nat->Heap->Prop):Prop where
 new:∀b,ch b->base.get? b=none
 item:∀(i:Nat) (s:Shared) (Q:Option Value->Shared->Prop) (E:Value->Shared->Prop),i<n->St i s.heap->(∀b o,base.get? b=some o->s.heap.get? b=some o)->(∃o,s.heap.get? d=some o) ->
  (∀h' tk a o c,h'.get? a=some o->o.cls=.type "tuple"->o.data=.seq #[.ref (key i),val i] c->St (i+1) h'->(∀b o,¬ch b->s.heap.get? b=some o->h'.get? b=some o)->Q (some (.ref a)) { s with heap:=h',toks:=tk })->wpAny (model prog w) A (pyNext (.ref I)) Q E s
 done:∀(s:Shared) (Q:Option Value->Shared->Prop) (E:Value->Shared->Prop),St n s.heap->(∀b o,base.get? b=some o->s.heap.get? b=some o)->(∀h' tk,(∀b o,¬ch b->s.heap.get? b=some o->h'.get? b=some o)->Q none { s with heap:=h',toks:=tk })->wpAny (model prog w) A (pyNext (.ref I)) Q E s
 frame:∀i h h',St i h->Heap.SameBut d h h'->St i h'
 dch:¬ch d
section
variable {prog:Program}{w:World}{A:Around}{R:Result->Shared->Prop}{I d:Addr}{n:Nat}{base:Heap}{key:Nat->Addr}{val:Nat->Value}{ch:Addr->Prop}{St:Nat->Heap->Prop}
end
section
variable {prog:Program}{w:World}{A:Around}{E:Value->Shared->Prop}{s:Shared}
end
section
variable {X:Cx}
end
end L2
namespace Dp
open PySem PySem.Spec PyProof.Rows L2
section
variable {K:Frag}
end
section
variable {X:Cx}{e1 e2:Expr}{ws:Dw}{p1 q1 p2 q2:Pos}
end
end Dp
namespace L2
open PySem PySem.Spec PyProof.Rows
section
variable {X:Cx}
end
end L2
namespace Dp
open PySem PySem.Spec PyProof.Rows L2
noncomputable def O7(d:D)(ds:List D)(P:D->D->Prop):Prop:=∃xs,d=.lst xs/\ds=[]/\P (.lst xs.reverse) .non
theorem QO{K:Frag}:LG K Hc O7:=by
 intro M H a d ds vs P Q m t hv w q
 obtain⟨xs,rfl,rfl,w⟩:=w
 obtain⟨us,h1,h2⟩:=t
 cases (show vs=[] from hv)
 exact⟨a,us,rfl,rfl,h1,q _ (.lst xs.reverse) .non _ ⟨us.reverse,AM,h2.reverse.pres (Cs m h1)⟩ rfl w⟩
section
variable {X:Cx}{κ:Kd}{pos:Pos}
noncomputable def PN(i:Nat)(T:String)(f:D->List D->(D->D->Prop)->Prop):AS:=fun D2 n ρ=>∃d,ρ[i]?=some (.ow d)/\R6 T d/\f d [] fun e _=>D2.nx n (ρ.set i (.ow e))
theorem Ml{x name:Str}{p apos cpos:Pos}{T id:String}{r:V->List V->Hp->VK->Prop}{f:D->List D->(D->D->Prop)->Prop}(i:Nat)(pa:PlainAttrs T)(slot:PySem.Slot T name id)(hty:typeOf (.builtin id)=pure (.type "method_descriptor"))
  (hm:Qi X id r) (hA:LG X.K r f) (h:PE X (.Name x p) (BG i))
  (hbase:autoParam (attributeBase (.Name x p) name X.env (eval (.Name x p) X.env)=eval (.Name x p) X.env) zau3._auto_1) (hline:autoParam ((apos.endLine==cpos.line)=true) zau3._auto_1)
  (hsw:autoParam (swapsWith (.Call (.Attribute (.Name x p) name apos) [] [] cpos) none pos.line X.env=pure false) zau3._auto_1) :
  DS X κ (.Expr (.Call (.Attribute (.Name x p) name apos) [] [] cpos) pos) (PN i T f):=by
 refine⟨_,Jm (Ps pa slot hty hm h hbase hline) hsw,fun C M H n ρ σ D2 E R L ⟨d,hd,hT,hw⟩=>?_⟩
 obtain⟨a,e1,m,nv,tt⟩:=R.sl i _ hd
 refine⟨.ref a,getD_some e1,JI hT (tt.att nv),?_⟩
 exact hA M H a d [] [] _ _ m tt rfl hw fun o d' z v t2 hz pp=>L.nx M _ n _ σ (R.mut hd e1 t2) pp
end
end Dp
namespace L2
open PySem PySem.Spec PyProof.Rows
section
variable {X:Cx}
open Builtin.Str in
noncomputable def Lc:V->List V->Hp->VK->Prop:=fun x xs H Q=>∃(z y:Str),x=.str z/\xs=[.str y]/\(y.length==0)=false/\z.length<=sizeLine/\(partsBetween z (occurrences z y 0 z.length (z.length+1)) y.length).length<=sizeLine/\(Txt.split z y).length<=sizeLine/\∀p,H p=none->Q (.ref p) (Aw H p (.lst ((Txt.split z y).map V.str)))
theorem Fg:∀(l:List (Str×Tok)),Vals ((l.map (·.1)).map V.str) (strValues l)
 | []=>.nil
 | p::l=>.cons ⟨p.2,rfl⟩ (Fg l)
open Builtin.Str in
theorem L8:Qi X "str.split" Lc:=by
 intro pins s σ H x xs v us Q I rx rv h
 obtain⟨z,y,rfl,rfl,hy,hz,hn,hl,q⟩:=h
 obtain⟨t,rfl⟩:=rx
 obtain⟨u,rfl,ru⟩:=vals1 rv
 obtain⟨u,rfl⟩:=ru
 have fin:∀(l:List (Str×Tok)) (k:Nat),l.map (·.1)=Txt.split z y->EP X pins σ Q (.ref s.heap.objs.size) { s with heap:=s.heap.push { cls:=.type "list",data:=.seq (strValues l).toArray },toks:=k }:=fun l k e=>by
  refine⟨.ref s.heap.objs.size,_,I.laid (t':=k) (fun b o e=>Heap.get?_push_of_some _ e) (Nat.le_refl _) (show ObjOk X.prog X.w _ _ _ (.lst ((Txt.split z y).map V.str)) from⟨by rw [List.length_map]; exact hl,strValues l,_,e▸Fg l,Heap.get?_push_size _ rfl⟩),rfl,q _ (I.hok.fresh (Nat.le_refl _))⟩
 cases h1:(decide (z.length<y.length)||decide (strKind z<strKind y))
 ·cases hf:(occurrences z y 0 z.length (z.length+1)).isEmpty
  ·refine call_meets PySem.F.slot_str_split (typeIs_str _ _ _) PySem.F.entry_str_split (PySem.F.args_str_split_2 _ _) (meets_str_split_sep z y t u h1 hy hf hz hn) ?_
   show wants (EP X pins σ Q) X.xe _ { s with toks:=_,heap:=s.heap.push { cls:=.type "list",data:=.seq (strsFrom s.toks (partsBetween z (occurrences z y 0 z.length (z.length+1)) y.length)).toArray } }
   rw [strsFrom_eq]
   exact fin (numbered s.toks _) _ ((numbered_texts _ _).trans ((if_neg (ne_true_of_eq_false h1)).trans (if_neg (ne_true_of_eq_false hf))).symm)
  ·exact call_meets PySem.F.slot_str_split (typeIs_str _ _ _) PySem.F.entry_str_split (PySem.F.args_str_split_2 _ _) (meets_str_split_not_found z y t u h1 hy hf) (fin [(z,t)] s.toks ((if_neg (ne_true_of_eq_false h1)).trans (if_pos hf)).symm)
 ·exact call_meets PySem.F.slot_str_split (typeIs_str _ _ _) PySem.F.entry_str_split (PySem.F.args_str_split_2 _ _) (meets_str_split_cannot_occur z y t u h1) (fin [(z,t)] s.toks (if_pos h1).symm)
noncomputable def Ow:List V->Hp->VK->Prop:=fun xs H Q=>∃i:Int,xs=[.str (Str.ofString (toString i))]/\0<=i/\i<10 ^ 10/\Q (.int i) H
theorem GE:Bu X (.type "int") Ow:=by
 intro pins s σ H xs us Q I r h
 obtain⟨i,rfl,h0,h1,q⟩:=h
 obtain⟨u,rfl,t,rfl⟩:=vals1 r
 exact PySem.W.KIN.call_num h0 h1 ⟨.int _,H,I.tok _,⟨_,rfl⟩,q⟩
noncomputable def PJ(X:Cx)(es:List Expr)(t:Str->TE):Prop:=∀(acc:Str) (pins:List (Addr×Obj)) (s:Shared) (σ:St) (H:Hp) (Q:VK),Inv X pins σ H s->t acc σ H Q->wpAny (model X.prog X.w) X.A (joinParts acc (evalEach es X.env)) (EP X pins σ Q) X.xe s
theorem Pk:PJ X [] (fun acc σ H Q=>acc.length<=sizeLine/\Q (.str acc) H):=by
 intro acc pins s σ H Q I h
 exact joinParts_nil ⟨.str acc,H,I.tok _,⟨_,rfl⟩,h.2⟩ h.1
theorem Nf{e:Expr}{es:List Expr}{te:TE}{tr:Str->TE}(he:PE X e te)(hr:PJ X es tr):PJ X (e::es) (fun acc σ H Q=>te σ H fun v H1=>∃z,v=.str z/\(acc++z).length<=sizeLine/\tr (acc++z) σ H1 Q):=by
 intro acc pins s σ H Q I h
 refine joinParts_cons (A2 (he pins s σ H _ I h) fun u s1 ⟨x,H1,I1,r1,z,ex,hz,q⟩=>?_)
 subst ex
 obtain⟨t,rfl⟩:=r1
 exact⟨hz,hr (acc++z) pins s1 σ H1 Q I1 q⟩
theorem Nl{e1 e2:Expr}{es:List Expr}{t:Str->TE}{pos:Pos}(h:PJ X (e1::e2::es) t):PE X (.JoinedStr (e1::e2::es) pos) (t Str.empty):=by
 intro pins s σ H Q I q
 exact JoinedStr_many (h Str.empty pins s σ H Q I q)
noncomputable def SO(te:TE):TE:=fun σ H Q=>te σ H fun v H1=>(∃z,v=.str z/\z.length<=sizeLine/\Q (.str z) H1)\/∃i:Int,v=.int i/\i.natAbs.log2<1920/\Q (.str (Str.ofString (toString i))) H1
theorem Pr{e:Expr}{te:TE}{pos:Pos}(he:PE X e te):PE X (.FormattedValue e (-1) none pos) (SO te):=by
 intro pins s σ H Q I h
 refine FormattedValue_plain (A2 (he pins s σ H _ I h) fun u s1 ⟨x,H1,I1,r1,q⟩=>?_)
 rcases q with ⟨z,rfl,hz,q⟩ | ⟨i,rfl,hi,q⟩
 ·obtain⟨t,rfl⟩:=r1
  exact formatField_str (fun t' tk=>⟨.str z,H1,I1.tok _,⟨_,rfl⟩,q⟩) hz
 ·obtain⟨t,rfl⟩:=r1
  exact formatField_int_small hi ⟨.str _,H1,I1.tok _,⟨_,rfl⟩,q⟩
end
end L2
namespace Dp
open PySem PySem.Spec PyProof.Rows L2
section
variable {K:Frag}
theorem IV{M:Addr->Prop}{H:Hp}:∀{ys:List Str},(∀y∈ys,y.length<=sizeLine)->Ats K M H (ys.map D.str) (ys.map V.str)
 | [],_=>rfl
 | y::ys,h=>⟨_,_,rfl,⟨rfl,h y List.mem_cons_self⟩,IV fun z hz=>h z (List.mem_cons_of_mem _ hz)⟩
open Builtin.Str in
noncomputable def MU(d:D)(ds:List D)(P:D->Prop):Prop:=∃(z y:Str),d=.str z/\ds=[.str y]/\(y.length==0)=false/\(partsBetween z (occurrences z y 0 z.length (z.length+1)) y.length).length<=sizeLine/\(Txt.split z y).length<=sizeLine/\(∀x∈Txt.split z y,x.length<=sizeLine)/\P (.lst ((Txt.split z y).map .str))
theorem OS:Sy K .fr "str" Lc MU:=by
 intro U M H d ds x vs P Q dom vM hx hp w q
 obtain⟨z,y,rfl,rfl,hy,hn,hl,hs,w⟩:=w
 obtain⟨v,rfl,hv⟩:=CK hp
 exact⟨z,y,hx.str.1,by rw [hv.str.1],hy,hx.str.2,hn,hl,fun p hp=>q _ _ _ (Ag hp) (B3 (U:=U) hp (IV hs)) w⟩
noncomputable def Ma(ds:List D)(P:D->Prop):Prop:=∃i:Int,ds=[.str (Str.ofString (toString i))]/\0<=i/\i<10 ^ 10/\P (.int i)
theorem NC:B_ K .sh Ow Ma:=by
 intro U M H ds vs P Q dom vM hp w q
 obtain⟨i,rfl,h0,h1,w⟩:=w
 obtain⟨v,rfl,hv⟩:=CK hp
 exact⟨i,by rw [hv.str.1],h0,h1,q _ H (.int i) .refl rfl w⟩
end
section
variable {X:Cx}{e e1 e2:Expr}{es:List Expr}{κ:Kd}{wa:DW}{pos:Pos}
noncomputable def NM(we:DW):DW:=fun n ρ P=>we n ρ fun d n1=>match d with
 | .str z=>P (.str z) n1
 | .int i=>i.natAbs.log2<1920/\(Str.ofString (toString i)).length<=sizeLine/\P (.str (Str.ofString (toString i))) n1
 | _=>False
theorem JP(h:DE X e κ wa):DE X (.FormattedValue e (-1) none pos) .sh (NM wa):=by
 obtain⟨t,h1,h2⟩:=h
 refine⟨_,Pr h1,fun C M H n ρ σ P Q R w q=>?_⟩
 refine h2 C M H n ρ σ _ _ R w fun v H1 d n1 ee f1 r1 p=>?_
 have R1:=R.step ee f1
 have tx:=r1.tpOf R.dom R.vM
 cases d with
 | str z=>exact .inl ⟨z,tx.str.1,tx.str.2,q _ H1 (.str z) n1 ee f1 ⟨rfl,tx.str.2⟩ p⟩
 | int i=>exact .inr ⟨i,tx.int,p.1,q _ H1 (.str _) n1 ee f1 ⟨rfl,p.2.1⟩ p.2.2⟩
 | _=>exact(show False from p).elim
noncomputable def DJ(X:Cx)(es:List Expr)(w:Str->DW):Prop:=∃t,PJ X es t/\∀(acc:Str) (C:Fm) (M:Addr->Prop) (H:Hp) (n:Nat) (ρ:List Slot) (σ:L2.St) (P:D->Nat->Prop) (Q:VK),Rel X.K C M H n ρ σ->w acc n ρ P ->
 (∀v H' d n',Ext C.U H H'->FeedC X.K C.F M H' n'->VR X.K C.V M H H' .sh v d->P d n'->Q v H')->t acc σ H Q
noncomputable def Og:Str->DW:=fun acc n _ P=>acc.length<=sizeLine/\P (.str acc) n
noncomputable def Dx(we:DW)(wr:Str->DW):Str->DW:=fun acc n ρ P=>we n ρ fun d n1=>∃z,d=.str z/\(acc++z).length<=sizeLine/\wr (acc++z) n1 ρ P
theorem QH:DJ X [] Og:=⟨_,Pk,fun acc C M H n ρ σ P Q R w q=>⟨w.1,q _ H (.str acc) n (Ext.refl _ _) R.feed ⟨rfl,w.1⟩ w.2⟩⟩
theorem Dk{wr:Str->DW}(h:DE X e .sh wa)(hr:DJ X es wr):DJ X (e::es) (Dx wa wr):=by
 obtain⟨t,h1,h2⟩:=h
 obtain⟨u,g1,g2⟩:=hr
 refine⟨_,Nf h1 g1,fun acc C M H n ρ σ P Q R w q=>?_⟩
 refine h2 C M H n ρ σ _ _ R w fun v H1 d n1 ee f1 r1 p=>?_
 obtain⟨z,rfl,hz,p⟩:=p
 have R1:=R.step ee f1
 exact⟨z,r1.1,hz,g2 (acc++z) C M H1 n1 ρ σ P _ R1 p fun v H2 d n2 e2 f2 r2 p2=>q v H2 d n2 (ee.trans e2) f2 r2 p2⟩
noncomputable def Of(w:Str->DW):DW:=w Str.empty
theorem OP{w:Str->DW}(h:DJ X (e1::e2::es) w):DE X (.JoinedStr (e1::e2::es) pos) .sh (Of w):=by
 obtain⟨t,h1,h2⟩:=h
 exact⟨_,Nl h1,fun C M H n ρ σ P Q R w q=>h2 Str.empty C M H n ρ σ P Q R w q⟩
end
end Dp
namespace L2
open PySem PySem.Spec PyProof.Rows
theorem LX(A:Around)(s:Shared){x y:Key}{u v:Value}(rx:RelV (kOf x) u)(ry:RelV (kOf y) v)(hs:EI x y=true)(prog:Program)(w:World)(E:Value->Shared->Prop)(Q:Value->Shared->Prop)(h:Q (.bool (Qe y x)) s) :
  wpAny (model prog w) A (richCompare .Gt u v) Q E s:=by
 cases x with
 | inl i =>
  cases y with
  | inl j =>
   obtain⟨t,rfl⟩:=rx
   obtain⟨t',rfl⟩:=ry
   exact(PyProof.Rows.gt_int h:wpAny (model prog w) A (compareOp .Gt (.int i t) (.int j t')) Q E s)
  | inr z=>cases hs
 | inr z =>
  cases y with
  | inl j=>cases hs
  | inr z' =>
   obtain⟨t,rfl⟩:=rx
   obtain⟨t',rfl⟩:=ry
   exact(PySem.P.gt_str h:wpAny (model prog w) A (compareOp .Gt (.str z t) (.str z' t')) Q E s)
section
open PySem.SeqAt
open PySem.AutoSeq1 (wpAny_loadPart')
open PySem.MeetsSeq PySem.MeetsSeq2 PySem.MeetsSeq3
theorem FP(l b:Addr)(items items2:Array Value)(n n2:Nat)(dd dd2:Option Addr)(sl sl2:Array (Option Value))(ns ms:List Key)(hi:Vals (ns.map kOf) items.toList)(hj:Vals (ms.map kOf) items2.toList)(hsame:Az ns ms=true) :
  Meets (Builtin.«tuple.__gt__» ⟨[.ref l,.ref b],[]⟩)
   (fun _ R s=>s.heap.get? l=some { cls:=.type "tuple",dict:=dd,data:=.seq items n,slots:=sl }/\s.heap.get? b=some { cls:=.type "tuple",dict:=dd2,data:=.seq items2 n2,slots:=sl2 } /\
    R (.ok (.ret (.bool (Bv ms ns)))) s) :=
 .of_wp fun prog w A R s h=>by
  obtain⟨hp,g,d,tk,os⟩:=s; obtain⟨hl,hb,h⟩:=h
  have f2:=AutoSeq1.sub_tuple_tuple
  have z1:items.size=ns.length:=by have:=hi.length; rw [List.length_map] at this; rw [this]; simp
  have z2:items2.size=ms.length:=by have:=hj.length; rw [List.length_map] at this; rw [this]; simp
  wp_walk using wpAny_loadPart' hl,wpAny_loadPart' hb,wpAny_forIn_list _ (fun rest b s'=>b.1=none/\s'=⟨hp,g,d,tk,os⟩/\∃(vs ws:List Value) (ns' ms':List Key),rest=vs.zip ws /\
   Vals (ns'.map kOf) vs/\Vals (ms'.map kOf) ws/\Az ns' ms'=true/\ns'.length+items2.size=ms'.length+items.size/\R (.ok (.ret (.bool (Bv ms' ns')))) ⟨hp,g,d,tk,os⟩) _
  case turn =>
   rintro ⟨y,x⟩ rest b s' ⟨hb',rfl,vs,ws,ns',ms',hz,hvi,hwi,hsm,hlen,hR⟩
   cases ns' with
   | nil=>cases hvi; rw [List.zip_nil_left] at hz; cases hz
   | cons a ns' =>
    cases ms' with
    | nil=>cases hwi; rw [List.zip_nil_right] at hz; cases hz
    | cons c ms' =>
     rw [List.map_cons] at hvi hwi
     cases hvi with
     | cons ra hvi' =>
      cases hwi with
      | cons rc hwi' =>
       rw [List.zip_cons_cons] at hz
       injection hz with hyx hrest
       injection hyx with hy hx
       subst hy hx
       have hR':R (.ok (.ret (.bool (if c=a then Bv ms' ns' else Qe c a)))) ⟨hp,g,d,tk,os⟩:=hR
       have hsm':(EI a c&&Az ns' ms')=true:=hsm
       rw [Bool.and_eq_true] at hsm'
       simp only [List.length_cons] at hlen
       obtain⟨e,he,hiff⟩:=IJ (A:=A.in1) (s:=⟨hp,g,d,tk,os⟩) ra rc
       refine wpAny_bind (he prog w _ _ ?_)
       cases e with
       | true =>
        rw [if_pos (hiff.mp rfl).symm] at hR'
        wp_walk
        exact⟨rfl,rfl,_,_,_,_,hrest,hvi',hwi',hsm'.2,by omega,hR'⟩
       | false =>
        rw [if_neg (fun q=>absurd (hiff.mpr q.symm) Bool.false_ne_true)] at hR'
        have hri:=LX A.in1 ⟨hp,g,d,tk,os⟩ ra rc hsm'.1 prog w
        wp_walk using hri
        exact⟨_,rfl,by simpa using hR'⟩
  case fin =>
   rintro ⟨b1,b2⟩ s' ⟨hb',rfl,vs,ws,ns',ms',hz,hvi,hwi,hsm,hlen,hR⟩
   simp only at hb'
   subst hb'
   have hv:Bv ms' ns'=decide (items2.size<items.size):=by
    cases ns' with
    | nil =>
     cases ms' with
     | nil =>
      simp only [List.length_nil] at hlen
      exact(decide_eq_false (by omega)).symm
     | cons c u =>
      simp only [List.length_nil,List.length_cons] at hlen
      exact(decide_eq_false (by omega)).symm
    | cons a t =>
     cases ms' with
     | nil =>
      simp only [List.length_nil,List.length_cons] at hlen
      exact(decide_eq_true (by omega)).symm
     | cons c u =>
      rw [List.map_cons] at hvi hwi
      cases hvi
      cases hwi
      rw [List.zip_cons_cons] at hz
      cases hz
   rw [hv] at hR
   wp_walk
   exact⟨_,rfl,by simpa [Builtin.Tuple.tupleCompareSizes] using hR⟩
  case h =>
   exact⟨rfl,rfl,items.toList,items2.toList,ns,ms,rfl,hi,hj,hsame,by omega,h⟩
end
section
variable {X:Cx}
noncomputable def Pg(K:Frag):R2:=fun x y H Q=>∃a b ns ms,x=.ref a/\y=.ref b/\SqT K H a (ns.map kOf)/\SqT K H b (ms.map kOf)/\Az ns ms=true/\Q (.bl (Bv ms ns)) H
theorem P0(hu:X.A.units<cLine):OpR X (compareOp .Gt) (Pg X.K):=by
 intro pins s σ H x y v u Q I rx ry h
 obtain⟨a,b,ns,ms,rfl,rfl,ha,hb,hsm,q⟩:=h
 cases rx
 cases ry
 obtain⟨its,r1,p1,_⟩:=I.tuple ha
 obtain⟨its2,r2,p2,_⟩:=I.tuple hb
 obtain⟨⟨cls,dd,data,sl⟩,ho,hc,n,hd⟩:=id p1
 obtain⟨⟨cls2,dd2,data2,sl2⟩,ho2,hc2,n2,hd2⟩:=id p2
 simp only at hc hd hc2 hd2
 subst hc hd hc2 hd2
 exact richCompare_meets_room (op:=.Gt) ⟨_,ho,rfl⟩ ⟨_,ho2,rfl⟩ PySem.F.slot_tuple_gt PySem.F.entry_tuple_gt (PySem.F.args_tuple_gt_2 _ _) (FP a b its.toArray its2.toArray n n2 dd dd2 sl sl2 ns ms r1 r2 hsm)
  ⟨ho,ho2,show Value.bool (Bv ms ns)≠Value.notImplemented/\EP X pins σ Q (.bool (Bv ms ns)) s from⟨(fun x=>nomatch x),⟨.bl _,H,I,rfl,q⟩⟩⟩ hu
theorem Nk{a:Expr}{ta:TE}{pos:Pos}(ha:PE X a ta):PE X (.UnaryOp .Not a pos) (fun σ H Q=>ta σ H fun x H1=>∃c,OX X.K x H1 c/\Q (.bl (!c)) H1):=by
 intro pins s σ H Q I h
 refine UnaryOp_ (A2 (ha pins s σ H _ I h) fun v s1 ⟨x,H1,I1,r1,c,hc,q1⟩=>?_)
 exact not_of (A2 (LM pins s1 σ H1 x v (fun k H'=>k=c/\Q (.bl (!k)) H') I1 r1 ⟨c,hc,rfl,q1⟩) fun b s2 ⟨H2,I2,e,q⟩=>⟨.bl (!b),H2,I2,rfl,q⟩)
end
end L2
namespace Dp
open PySem PySem.Spec PyProof.Rows L2
noncomputable def QD(d e:D)(P:D->Prop):Prop:=match d,e with
 | .tup xs,.tup ys=>∃ks ls,E7 xs=some ks/\E7 ys=some ls/\Az ks ls=true/\P (.bl (Bv ls ks))
 | _,_=>False
section
variable {X:Cx}{e e1:Expr}{es:List Expr}{κ:Kd}{wa:DW}{pos:Pos}
theorem Pz{k:Nat}(hr:Room k X.A):OpR X (compareOp .Gt) (Pg X.K):=P0 hr.units0
theorem Rk:Co X.K .sh (Pg X.K) QD:=fun U M H d e x y P Q dom vM hx hy w q=>by
 unfold QD at w
 split at w
 ·obtain⟨ks,ls,h1,h2,h3,w⟩:=w
  obtain⟨a,vs,rfl,ha,hs⟩:=hx.tup
  obtain⟨b,us,rfl,hb,ht⟩:=hy.tup
  have e1:=CY h1 hs
  have e2:=CY h2 ht
  subst e1 e2
  exact⟨a,b,ks,ls,rfl,rfl,ha.sq,hb.sq,h3,q _ H (.bl _) .refl rfl w⟩
 ·exact w.elim
noncomputable def Oe(wa:DW):DW:=fun n ρ P=>wa n ρ fun d n1=>∃c,PV d=some c/\P (.bl (!c)) n1
theorem ON(h:DE X e κ wa):DE X (.UnaryOp .Not e pos) .sh (Oe wa):=by
 obtain⟨t,h1,h2⟩:=h
 refine⟨_,Nk h1,fun C M H n ρ σ P Q R w q=>?_⟩
 refine h2 C M H n ρ σ _ _ R w fun v H' d n' e1 f1 r1 p=>?_
 obtain⟨c,hc,p⟩:=p
 exact⟨c,LN (r1.tpOf R.dom R.vM) hc,q _ H' (.bl (!c)) n' e1 f1 rfl p⟩
noncomputable def O8(d:D)(ds:List D)(P:D->D->Prop):Prop:=∃xs,d=.lst xs/\ds=[]/\P (.lst []) .non
theorem QT{K:Frag}:LG K Lf O8:=by
 intro M H a d ds vs P Q m t hv w q
 obtain⟨xs,rfl,rfl,w⟩:=w
 obtain⟨us,h1,h2⟩:=t
 cases (show vs=[] from hv)
 exact⟨a,us,rfl,rfl,h1,q _ (.lst []) .non _ ⟨[],AM,rfl⟩ rfl w⟩
noncomputable def LJ(i:Nat)(b:BW)(body:AS):AS:=fun D2 n ρ=>∃ds,ρ[i]?=some (.br (.lst ds))/\Bc b body D2 (Be 0 ds) n ρ
variable {fpos:Pos}{body:List Stmt}{b:BW}{wb:AS}{p cp:Pos}{x:Str}{i j:Nat}{tpos:Pos}
theorem Mn(hp:PassesOwn (model X.prog X.w) X.A X.env X.xe)(hc:X.calm=true)(hgl:Gl X "enumerate")(hm:X.mg "enumerate"=none)(h:PE X (.Name x p) (BG i))(hg:DG X (.Tuple es j tpos) b)(hb:NF X κ body wb)
  (hs:autoParam (∀y,foldedSetIterable (.Call (.Name "enumerate" cp) [.Name x p] [] pos) X.env y=pure y) zau2._auto_1) (hst:autoParam (starEach [.Name x p] X.env=[(false,eval (.Name x p) X.env)]) zau3._auto_1) :
  DS X κ (.For (.Tuple es j tpos) (.Call (.Name "enumerate" cp) [.Name x p] [] pos) body [] fpos) (LJ i b wb):=by
 obtain⟨g,g1,g2⟩:=hg
 obtain⟨tb,b1,b2⟩:=hb
 refine⟨_,Ir hp hc (Nh hgl hm h hst) g1 b1 hs,fun C M H n ρ σ D2 E R L w=>?_⟩
 obtain⟨ds,hi,w⟩:=w
 obtain⟨v,e1,hAt⟩:=R.sl i _ hi
 obtain⟨a,vs,rfl,nV,hH,hat⟩:=hAt
 obtain⟨o,ho,hro⟩:∃o,H a=some o/\∀H':Hp,H' a=some o->SqL X.K H' a vs:=by
  rcases hH with z | ⟨u,z⟩
  ·exact⟨_,z,fun H' e=>.inl (.inl e)⟩
  ·exact⟨_,z,fun H' e=>.inl (.inr ⟨u,e⟩)⟩
 refine⟨.ref a,getD_some e1,true,a,vs,rfl,hro H ho,?_⟩
 obtain⟨kp',R1,less,st⟩:∃kp',Rel X.K { C with kp:=kp' } M H n ρ σ/\(∀{M H n ρ σ},Rel X.K { C with kp:=kp' } M H n ρ σ->Rel X.K C M H n ρ σ)/\(∀M' H' n' ρ' σ',Rel X.K { C with kp:=kp',pins:=(M,H)::C.pins } M' H' n' ρ' σ'->SqL X.K H' a vs):=by
  by_cases hM:M a
  ·refine⟨(a,o)::C.kp,⟨R.len,R.sub,R.dom,R.ext,R.fU,R.uV,R.vM,R.feed,R.sl,R.pin,R.br0,R.new,R.two,fun q hq=>?_⟩,fun R=>R.lessKp,fun M' H' n' ρ' σ' R'=>hro H' (R'.kept (a,o) List.mem_cons_self).1⟩
   rcases List.mem_cons.mp hq with rfl | hq
   ·refine⟨ho,hM,nV,fun j e q z=>?_⟩
    obtain⟨u,hu⟩:=R.br0 i _ a hi e1
    have:=(R.new j _ a q rfl z).2
    rw [hu] at this
    cases this
   ·exact R.kept q hq
  ·exact⟨C.kp,R,fun R=>R,fun M' H' n' ρ' σ' R'=>hro H' ((R'.pin (M,H) List.mem_cons_self).1 a o ho hM)⟩
 have el:=Cu 0 ds
 refine⟨fun i m σ' H'=>m=ds.length - i/\i<=ds.length/\∃M' n' ρ',Rel X.K { C with kp:=kp',pins:=(M,H)::C.pins } M' H' n' ρ' σ'/\Bc b wb D2 ((Be 0 ds).drop i) n' ρ',⟨ds.length,by simp,Nat.zero_le _,M,n,ρ,R1.pinned,w⟩,?_⟩
 rintro i m σ' H' ⟨rfl,hil,M',n',ρ',R',w'⟩
 have pr:Pres M H M' H':=R'.pin (M,H) List.mem_cons_self
 have hq:=st M' H' n' ρ' σ' R'
 have y:=IK (κ:=true) hat (i:=i) pr (show SqK true X.K H' a vs from hq) R'.dom
 by_cases hlt:i<ds.length
 ·have ed:(Be 0 ds).drop i=(Be 0 ds)[i]::(Be 0 ds).drop (i+1):=List.drop_eq_getElem_cons (by omega)
  rw [ed] at w'
  obtain⟨go,yl⟩:=y.1 _ (List.getElem?_eq_getElem (by omega))
  refine .inr ⟨go,fun σ2 H2=>∃M2 n2 ρ2,Rel X.K { C with kp:=kp',pins:=(M,H)::C.pins } M2 H2 n2 ρ2 σ2/\Bc b wb D2 ((Be 0 ds).drop (i+1)) n2 ρ2,fun σ2 H2 ⟨M2,n2,ρ2,R2',w2⟩=>⟨ds.length - (i+1),by omega,rfl,hlt,M2,n2,ρ2,R2',w2⟩,fun x H2 hy=>?_⟩
  obtain⟨gr,hx⟩:=yl x H2 hy
  have R2':=R'.step gr.ext (R'.feed.grow gr)
  refine g2 _ M' H2 n' ρ' σ' _ x _ _ R2' hx w' fun ρ3 σ3 R3 w3=>?_
  refine b2 _ M' H2 n' ρ3 σ3 { D2 with nx:=Bc b wb D2 ((Be 0 ds).drop (i+1)),ct:=Bc b wb D2 ((Be 0 ds).drop (i+1)),bk:=D2.nx } _ R3 ⟨fun M4 H4 n4 ρ4 σ4 R4 w4=>⟨M4,n4,ρ4,R4,w4⟩,L.rt,fun M4 H4 n4 ρ4 σ4 R4 w4=>L.nx M4 H4 n4 ρ4 σ4 (less R4.unpin) w4,fun M4 H4 n4 ρ4 σ4 R4 w4=>⟨M4,n4,ρ4,R4,w4⟩⟩ w3
 ·have e:i=ds.length:=by omega
  rw [List.drop_eq_nil_of_le (by omega)] at w'
  exact .inl ⟨y.2 (by omega),L.nx M' H' n' ρ' σ' (less R'.unpin) w'⟩
end
noncomputable def LI:AS:=fun _ _ _=>False
section
variable {X:Cx}{κ κe:Kd}{e:Expr}{st:Stmt}{we:DW}{pos p apos cpos:Pos}{x:Str}{i:Nat}
theorem Mm:DS X κ st LI:=⟨fun _ _ _=>False,fun _ _ _ _ _ _ h=>h.elim,fun _ _ _ _ _ _ _ _ _ _ w=>w⟩
end
end Dp
namespace Nt
open PySem PySem.Spec PyProof.Rows L2 Dp
theorem C6{x y:Str}(h:cs x=cs y):x=y:=Str.ext' (Array.toList_inj.mp h)
theorem A1(x y z:Str):x++y++z=x++(y++z):=C6 (by rw [Bh,Bh,Bh,Bh,List.append_assoc])
theorem J5(x:Str):Str.empty++x=x:=C6 (by rw [Bh]; rfl)
theorem len_app(x y:Str):(x++y).length=x.length+y.length:=by rw [← FF,Bh,List.length_append,FF,FF]
noncomputable def sp:Str := " "
theorem Mx:cs sp=[32]:=by decide +kernel
theorem PZ:sp=⟨#[32]⟩:=C6 (by rw [Mx]; rfl)
theorem J9:∀{p q r s:List Nat},32∉p->32∉q->p++32::r=q++32::s->p=q/\r=s
 | [],[],r,s,_,_,e=>⟨rfl,(List.cons.inj e).2⟩
 | [],b::q,r,s,_,hq,e=>absurd (by rw [(List.cons.inj e).1]; exact List.mem_cons_self) hq
 | a::p,[],r,s,hp,_,e=>absurd (by rw [← (List.cons.inj e).1]; exact List.mem_cons_self) hp
 | a::p,b::q,r,s,hp,hq,e=>by
  obtain⟨e1,e2⟩:=List.cons.inj e
  obtain⟨h1,h2⟩:=J9 (fun z=>hp (List.mem_cons_of_mem _ z)) (fun z=>hq (List.mem_cons_of_mem _ z)) e2
  exact⟨by rw [e1,h1],h2⟩
theorem Dn(x y:Str)(r:List Str):cs (Str.join sp (x::y::r))=cs x++32::cs (Str.join sp (y::r)):=by
 show cs (x++sp++Str.join sp (y::r))=_
 rw [Bh,Bh,Mx,List.append_assoc]
 rfl
theorem ID:∀{ws vs:List Str},ws≠[]->vs≠[]->(∀w∈ws,32∉cs w)->(∀v∈vs,32∉cs v)->cs (Str.join sp ws)=cs (Str.join sp vs)->ws=vs
 | [],_,h,_,_,_,_=>absurd rfl h
 | _,[],_,h,_,_,_=>absurd rfl h
 | [x],[y],_,_,_,_,e=>by rw [C6 (x:=x) (y:=y) e]
 | [x],y::z::r,_,_,h1,_,e=>by
  rw [Dn] at e
  exact absurd (show 32∈cs x by rw [show cs x=_ from e]; exact List.mem_append_right _ List.mem_cons_self) (h1 x List.mem_cons_self)
 | x::z::r,[y],_,_,_,h2,e=>by
  rw [Dn] at e
  exact absurd (show 32∈cs y by rw [show cs y=_ from e.symm]; exact List.mem_append_right _ List.mem_cons_self) (h2 y List.mem_cons_self)
 | x::x'::r,y::y'::s,_,_,h1,h2,e=>by
  rw [Dn,Dn] at e
  obtain⟨e1,e2⟩:=J9 (h1 x List.mem_cons_self) (h2 y List.mem_cons_self) e
  rw [C6 e1,ID (fun z=>by cases z) (fun z=>by cases z) (fun w hw=>h1 w (List.mem_cons_of_mem _ hw)) (fun w hw=>h2 w (List.mem_cons_of_mem _ hw)) e2]
theorem HW{ws:List Str}(h0:ws≠[])(h:∀w∈ws,32∉cs w):Txt.split (Str.join sp ws) sp=ws:=by
 refine ID (fun z=>?_) h0 (fun w hw=>?_) h ?_
 ·have:=split_pos (Str.join sp ws) sp
  rw [z] at this
  exact absurd this (by decide)
 ·rw [PZ] at hw
  exact StrLaws.split_free _ 32 w hw
 ·rw [StrLaws.join_split]
open Builtin.Str in
noncomputable def HG(x:Str)(ws:List Str):Prop:=(sp.length==0)=false/\(partsBetween x (occurrences x sp 0 x.length (x.length+1)) sp.length).length<=sizeLine/\(Txt.split x sp).length<=sizeLine/\(∀z∈Txt.split x sp,z.length<=sizeLine)/\Txt.split x sp=ws
theorem EG{ws:List Str}(h0:ws≠[])(h:∀w∈ws,32∉cs w)(hl:ws.length<=10)(hx:(Str.join sp ws).length<=1000):HG (Str.join sp ws) ws:=by
 have szl:=PySem.sizeLine_eq
 have e:=HW h0 h
 refine⟨by decide +kernel,?_,by rw [e]; omega,fun x hx'=>?_,e⟩
 ·rw [len_partsBetween]
  have:=StrLaws.occ_length_le (Str.join sp ws) sp 0 (Str.join sp ws).length ((Str.join sp ws).length+1)
  omega
 ·have:=part_short hx'
  omega
noncomputable def Bb(i:Int):Str:=Str.ofString (toString i)
theorem Mr:∀(m:Nat),1<=m->∃c r,Nat.toDigits 10 m=c::r/\c≠'0':=by
 intro m
 induction m using Nat.strongRecOn with
 | _ m ih =>
  intro h1
  by_cases h:m<10
  ·rw [Nat.toDigits_of_lt_base h]
   refine⟨_,_,rfl,?_⟩
   have:∀d:Nat,d<10->1<=d->Nat.digitChar d≠'0':=by decide
   exact this m h h1
  ·have t:Nat.toDigits 10 (m / 10)++Nat.toDigits 10 (m % 10)=Nat.toDigits 10 (10*(m / 10)+m % 10):=Nat.toDigits_append_toDigits (by decide) (by omega) (Nat.mod_lt m (by decide))
   rw [Nat.div_add_mod] at t
   obtain⟨c,r,e,hc⟩:=ih (m / 10) (by omega) (by omega)
   rw [← t,e]
   exact⟨c,_,rfl,hc⟩
theorem J6:∀(k m:Nat),m<10 ^ (k+1)->(Nat.toDigits 10 m).length<=k+1
 | 0,m,h=>by rw [Nat.toDigits_of_lt_base (by omega)]; exact Nat.le_refl _
 | k+1,m,h=>by
  by_cases hm:m<10
  ·rw [Nat.toDigits_of_lt_base hm]; show 1<=_; omega
  ·have t:Nat.toDigits 10 (m / 10)++Nat.toDigits 10 (m % 10)=Nat.toDigits 10 (10*(m / 10)+m % 10):=Nat.toDigits_append_toDigits (by decide) (by omega) (Nat.mod_lt m (by decide))
   rw [Nat.div_add_mod] at t
   have:=J6 k (m / 10) (by rw [Nat.pow_succ] at h; omega)
   rw [← t,List.length_append,Nat.toDigits_of_lt_base (Nat.mod_lt m (by decide))]
   show _+1<=_
   omega
theorem JA{i:Int}(h:1<=i):∃m:Nat,i=(m:Int)/\1<=m/\cs (Bb i)=(Nat.toDigits 10 m).map Char.toNat:=by
 obtain⟨m,rfl⟩:=Int.eq_ofNat_of_zero_le (show 0<=i by omega)
 exact⟨m,rfl,by omega,PySem.W.KIN.signs_num m⟩
theorem Gy{i:Int}(h:1<=i):∀c∈cs (Bb i),48<=c/\c<=57:=by
 obtain⟨m,rfl,_,e⟩:=JA h
 rw [e]
 intro c hc
 obtain⟨ch,hch,rfl⟩:=List.mem_map.mp hc
 have r:=PyProof.Rows.digit_range (Nat.isDigit_of_mem_toDigits (by decide) (by decide) hch)
 exact r
theorem Ea{i:Int}(h:1<=i)(h2:i<=1000000):(Bb i).length<=7:=by
 obtain⟨m,rfl,_,e⟩:=JA h
 rw [← FF,e,List.length_map]
 exact J6 6 m (by omega)
theorem L1{i:Int}(h:1<=i):∃c r,cs (Bb i)=c::r/\c≠48:=by
 obtain⟨m,rfl,hm,e⟩:=JA h
 obtain⟨c,r,e2,hc⟩:=Mr m hm
 rw [e,e2]
 refine⟨c.toNat,r.map Char.toNat,rfl,fun z=>hc ?_⟩
 have hd:=Nat.isDigit_of_mem_toDigits (b:=10) (n:=m) (c:=c) (by decide) (by decide) (by rw [e2]; exact List.mem_cons_self)
 exact Char.ext (UInt32.toNat_inj.mp z)
theorem Gx{i:Int}(h:1<=i)(h2:i<=1000000):i.natAbs.log2<1920:=by
 have:i.natAbs<2 ^ 1920:=Nat.lt_of_le_of_lt (show i.natAbs<=1000000 by omega) (by decide +kernel)
 exact(Nat.log2_lt (by omega)).mpr this
end Nt
namespace Dp
open PySem PySem.Spec PyProof.Rows L2
section
variable {X:Cx}{κe:Kd}{tg elt iter:Expr}{ifs:List Expr}{sc:Scope}{pos:Pos}{src:Dw}{b:BW}{tt:FN}{te:DW}
theorem Mj{κ:Kd}{i:Nat}{x:Str}{pos' spos:Pos}(hN:X.N.Nodup)(hix:X.N[i]?=some x)(hx:Loc X.env.scope x)(hc:X.calm=true)(N':List Str)(js:List (Option Nat))(hi:Rt X tg iter src)(hg:∀cl C s H fp,DG (Ad X sc N' cl C s H fp) tg b)(ht:∀cl C s H fp,SE (Ad X sc N' cl C s H fp) ifs tt)(he:∀cl C s H fp,DE (Ad X sc N' cl C s H fp) elt κe te)
  (hB:FG sc X.env.scope X.N N' js=true) (hsw:autoParam (swapsWith (.ListComp elt [⟨tg,iter,ifs,0⟩] sc pos) (some (.Name x pos')) spos.line X.env=pure true) zau3._auto_1) (hk:autoParam (κe≠.tp) zau7._auto_1)
  (hs:autoParam (∀x,foldedSetIterable iter X.env x=pure x) zau2._auto_1)
  (hf:autoParam (X.fn x=true\/X.env.scope.names.lookup x=some .local) zau0._auto_1):DS X κ (.Assign [.Name x pos'] (.ListComp elt [⟨tg,iter,ifs,0⟩] sc pos) spos) (DF i (CT js src b tt te)):=by
 obtain⟨wi,a1,a2⟩:=M5 hc N' js hi hg ht he hB hk hs
 refine⟨_,Nc hc N' js a1 hB hN hix hx hsw hs hf,fun C M H n ρ σ D2 E R L w=>?_⟩
 refine a2 C M H n ρ σ _ _ R w fun v H' d n' e1 f1 r1 p=>?_
 obtain⟨a,rfl,h1,h2⟩:=r1
 exact L.nx _ H' n' _ _ (R.setOw e1 f1 h1 h2) p
end
end Dp
namespace Nt
open PySem PySem.Spec PyProof.Rows L2 Dp
noncomputable def Ei(t:Ef):Str:=Str.join sp [t.a,t.b,Bb t.len]
noncomputable def DY(t:Ef):Str:=Str.join sp ["tie",t.a,t.b,Bb t.len]
noncomputable def DZ(x:Str):Str:=Str.join sp ["place",x]
noncomputable def linesOf(N:Net):List Str:=N.ps.map DZ++N.ts.map DY
noncomputable def Fl(t:Ef):Prop:=FL t.a/\FL t.b/\cs t.a<cs t.b/\1<=t.len/\t.len<=1000000
noncomputable def IY:W2:=fun ss n P=>∃ts:List Ef,ss=[.sh (.tup (ts.map CC))]/\(∀t∈ts,Fl t)/\ts.length<=60/\P (.lst (ts.map fun t=>.str (Ei t))) n
noncomputable def CG:W2:=fun ss n P=>∃N:Net,ss=[.sh (J4 N)]/\N.Ok/\N.ps.length<=24/\N.ts.length<=60/\P (.lst ((linesOf N).map .str)) n
noncomputable def FK:W2:=fun ss n P=>∃i:Int,ss=[.sh (.str (Bb i))]/\1<=i/\i<=1000000/\P (.bl true) n
noncomputable def GQ:W2:=fun ss n P=>∃(x:Str) (ps:List Str),ss=[.sh (.lst [.str "place",.str x]),.br (.lst (ps.map .str)),.br (.lst [])]/\ps.length<24/\FL x/\(∀y,ps.getLast?=some y->cs y<cs x)/\P .non n
noncomputable def IZ:W2:=fun ss n P=>∃(t:Ef) (ps:List Str) (ts:List Ef),ss=[.sh (.str t.a),.sh (.str t.b),.br (.lst (ps.map .str)),.br (.lst (ts.map CC))]/\(∀p∈ps,FL p)/\t.b∈ps/\ps.length<=24/\cs t.a<cs t.b/\(∀s,ts.getLast?=some s->FC s t)/\P (.bl true) n
noncomputable def GO:W2:=fun ss n P=>∃(t:Ef) (ps:List Str) (ts:List Ef),ss=[.sh (.lst [.str "tie",.str t.a,.str t.b,.str (Bb t.len)]),.br (.lst (ps.map .str)),.br (.lst (ts.map CC))]/\(∀p∈ps,FL p)/\Fl t/\t.a∈ps/\t.b∈ps/\ps.length<=24/\ts.length<60/\(∀s,ts.getLast?=some s->FC s t)/\P .non n
noncomputable def Ic:W2:=fun ss n P=>GQ ss n P\/GO ss n P
noncomputable def GP:W2:=fun ss n P=>∃N:Net,ss=[.br (.lst ((linesOf N).map .str))]/\N.Ok/\N.ps.length<=24/\N.ts.length<=60/\P (J4 N) n
noncomputable def C1:AS:=(BF (CT [none,none,none] (CO (AK 0)) (OR 3 (CS (Bi 0) (CS (Bi 1) (CS (Bi 2) KD)))) ET (Of (Dx (NM (AK 0)) (Dx (wC (D.str " ")) (Dx (NM (AK 1)) (Dx (wC (D.str " ")) (Dx (NM (AK 2)) Og))))))))
noncomputable def GJ:AS:=(BF (Av RW (CT [none] (CO (Av Di (AK 0) (wC (D.int 0)))) (Bi 0) ET (Av Bj (wC (D.str "place ")) (AK 0))) (CT [none] (CO (Ak IY (AH (Aj (Av Di (AK 0) (wC (D.int 1)))) Al))) (Bi 0) ET (Av Bj (wC (D.str "tie ")) (AK 0)))))
noncomputable def C3:AS:=(Ar (CJ (EU (Af (Av (II false) (AK 0) (wC (D.str "")))) (EU (Af (Av (II false) (Av Di (AK 0) (wC (D.int 0))) (wC (D.str "0")))) (Af (Av (f2 fun i j=>D.bl (decide (j<i))) (CH CZ (AD (AK 0) AU)) (CH CZ (AD (CH J1 (AD (wC (D.int 1000000)) AU)) AU)))))) (BF (wC (D.bl false))) BV)
 (BF (NN (CH Md (AD (CT [none] (CO (AK 0)) (Bi 0) ET (Av (Qf fun i j P=>P (D.bl (!(Builtin.Str.occurrences j i 0 j.length 1).isEmpty))) (AK 0) (wC (D.str "0123456789")))) AU)) (Ak Du (AH (Aj (CH Ma (AD (AK 0) AU))) Al)))))
noncomputable def CU:AS:=(Ar (CJ (EU (PM (Aq 2)) (Af (Av (II false) (CH CZ (AD (Aq 1) AU)) (wC (D.int 24))))) (BF (wC (D.int 0))) BV)
 (Ar (CJ (EU (Af (Av K5 (CH CZ (AD (AK 0) AU)) (wC (D.int 2)))) (Ff (Af (Ak Ib (AH (Aj (Av Di (AK 0) (wC (D.int 1)))) Al))))) (BF (wC (D.int 1))) BV)
 (Ar (CJ (Oi (PM (Aq 1)) (Af (Av Fb (Av Di (AK 0) (wC (D.int 1))) (Av Di (Aq 1) (PP (wC (D.int 1))))))) (BF (wC (D.int 1))) BV)
 (BF (Qm (Af (Av (f2 fun i j=>D.bl (decide (j<i))) (CH CZ (AD (AK 0) AU)) (wC (D.int 2)))) (wC (D.int 2)) (wC D.non))))))
noncomputable def B9:AS:=(Ar (CJ (EU (Af (Av (QC true) (AK 1) (Aq 2))) (Af (Av Fb (AK 1) (AK 0)))) (BF (wC (D.bl false))) BV)
 (BF (Sl (Oe (Aq 3)) (Av QD (Eg (AD (AK 0) (AD (AK 1) AU))) (Sk QB (Av Di (Aq 3) (PP (wC (D.int 1)))) Jc (Od (wC (D.int 2))))))))
noncomputable def C2:AS:=(Ar (CJ (Af (Av (II false) (CH CZ (AD (Aq 2) AU)) (wC (D.int 60)))) (BF (wC (D.int 0))) BV)
 (Ar (CJ (EU (Af (Av K5 (CH CZ (AD (AK 0) AU)) (wC (D.int 2)))) (Af (Av (QC true) (Av Di (AK 0) (wC (D.int 1))) (Aq 1)))) (BF (wC (D.int 1))) BV)
 (Ar (CJ (EU (Af (Av K5 (CH CZ (AD (AK 0) AU)) (wC (D.int 3)))) (Ff (Af (Ak IZ (AH (Aj (Av Di (AK 0) (wC (D.int 1)))) (AH (Aj (Av Di (AK 0) (wC (D.int 2)))) (AH (B1 (Aq 1)) (AH (B1 (Aq 2)) Al)))))))) (BF (wC (D.int 2))) BV)
 (Ar (CJ (EU (Af (Av K5 (CH CZ (AD (AK 0) AU)) (wC (D.int 4)))) (Ff (Af (Ak FK (AH (Aj (Av Di (AK 0) (wC (D.int 3)))) Al))))) (BF (wC (D.int 3))) BV)
 (BF (Qm (Af (Av (f2 fun i j=>D.bl (decide (j<i))) (CH CZ (AD (AK 0) AU)) (wC (D.int 4)))) (wC (D.int 4)) (wC D.non)))))))
noncomputable def Cg:AS:=(Ar (CJ (Af (Av (II false) (Av Di (AK 0) (wC (D.int 0))) (wC (D.str "place")))) (BF (Ak GQ (AH (Aj (AK 0)) (AH (B1 (Aq 1)) (AH (B1 (Aq 2)) Al))))) BV)
 (BF (Qm (Af (Av (II false) (Av Di (AK 0) (wC (D.int 0))) (wC (D.str "tie")))) (Ak GO (AH (Aj (AK 0)) (AH (B1 (Aq 1)) (AH (B1 (Aq 2)) Al)))) (wC (D.int 0)))))
noncomputable def Dr:AS:=(Ar (DF 1 (GV AU))
 (Ar (DF 2 (GV AU))
 (Ar (LJ 0 (OR 2 (CS (Bi 3) (CS (Bi 4) KD))) (Ar (DH 5 (Sm "str" MU (AK 4) (AD (wC (D.str " ")) AU)))
 (Ar (DH 6 (Ak Ic (AH (Aj (AK 5)) (AH (B1 (Aq 1)) (AH (B1 (Aq 2)) Al)))))
 (Ar (CJ (Af (Av (RT true) (AK 6) (wC D.non))) LI BV)
 (CJ (Af (Av (II false) (Av Di (AK 5) (wC (D.int 0))) (wC (D.str "place")))) (Qc 1 "list" Mb (AD (Av Di (AK 5) (wC (D.int 1))) AU)) (Qc 2 "list" Mb (AD (Eg (AD (Av Di (AK 5) (wC (D.int 1))) (AD (Av Di (AK 5) (wC (D.int 2))) (AD (CH Ma (AD (Av Di (AK 5) (wC (D.int 3))) AU)) AU)))) AU)))))))
 (BF (Eg (AD (CH Ct (AD (Aq 1) AU)) (AD (CH Ct (AD (Aq 2) AU)) AU)))))))
noncomputable def Cj:AS:=(Ar (DF 1 (CT [none] (CO (Av Di (AK 0) (wC (D.int 0)))) (Bi 0) ET (Av Bj (wC (D.str "place ")) (AK 0))))
 (Ar (Qc 1 "list" RU (AD (CT [none,none,none] (CO (Av Di (AK 0) (wC (D.int 1)))) (OR 3 (CS (Bi 0) (CS (Bi 1) (CS (Bi 2) KD)))) ET (Av Bj (Av Bj (Av Bj (Av Bj (Av Bj (wC (D.str "tie ")) (AK 0)) (wC (D.str " "))) (AK 1)) (wC (D.str " "))) (CH J1 (AD (AK 2) AU)))) AU))
 (Oc 1)))
noncomputable def NE:AS:=(Ar (Oh 2 (Bi 4) (Ar (DH 5 (Ak CG (AH (Aj (AK 4)) Al)))
 (Ar (PQ (Jb (AD (wC (D.int 2)) AU)) (Bi 6) (Ar (DF 7 (Ak CG (AH (Aj (AK 4)) Al)))
 (Ar (CJ (Af (Av (II true) (CH Dh (AD (Aq 7) AU)) (CH Dh (AD (AK 5) AU)))) (BF (wC (D.bl false))) BV)
 (Ar (Qc 7 "list" Mb (AD (wC (D.str "place zz")) AU))
 (PN 7 "list" O7)))))
 (Ar (DF 8 (CH JK (AD (AK 5) AU)))
 (Ar (DH 7 (Ak GP (AH (B1 (Aq 8)) Al)))
 (Ar (CJ (EU (Af (Av (II true) (CH Dh (AD (Aq 7) AU)) (CH Dh (AD (AK 4) AU)))) (Af (Av RR (Aq 8) (AK 5)))) (BF (wC (D.bl false))) BV)
 (Ar (PN 8 "list" O8)
 (CJ (EU (Af (Av (II true) (CH Dh (AD (Aq 7) AU)) (CH Dh (AD (AK 4) AU)))) (Af (Av (II true) (CH Dh (AD (Ak GP (AH (B1 (AK 5)) Al)) AU)) (CH Dh (AD (AK 4) AU))))) (BF (wC (D.bl false))) BV))))))))
 (BF (wC (D.bl true))))
noncomputable def GK:AS:=(Ar (DF 2 (GV (AD (Eg (AD (Eg AU) (AD (Eg AU) AU))) (AD (Ak GR (AH (BX 1) (AH (Aj (wC (D.int 8))) (AH (Aj (wC (D.int 14))) Al)))) (AD (Ak GR (AH (BX 1) (AH (Aj (wC (D.int 3))) (AH (Aj (wC (D.int 4))) Al)))) AU)))))
 (Ar (CJ (Af (Av (II false) (Ak Bt (AH (BX 1) (AH (Aj (wC (D.int 8))) Al))) (wC (D.int 0)))) (Ar (DH 3 (Ak B5 (AH (BX 1) (AH (Aj (wC (D.int 24))) Al))))
 (Qc 2 "list" Mb (AD (Eg (AD (AK 3) (AD (Ak DC (AH (BX 1) (AH (Aj (AK 3)) (AH (Aj (wC (D.int 60))) Al)))) AU))) AU))) BV)
 NE))
section
variable {ss:List Slot}{n:Nat}{Pd:D->Nat->Prop}
theorem D6{x:Str}(h:FL x):x.length<=8:=h.2.1
theorem Gz{x:Str}(h:FL x):32∉cs x:=fun z=>absurd (h.2.2 32 z).1 (by decide)
theorem L4{i:Int}(h:1<=i):32∉cs (Bb i):=fun z=>absurd (Gy h 32 z).1 (by decide)
noncomputable def Qq:D->D
 | .tup [.str a,.str b,.int l]=>.str (Ei ⟨a,b,l⟩)
 | _=>.non
theorem NQ(a b:Str)(l:Int):Str.empty++a++sp++b++sp++Bb l=Ei ⟨a,b,l⟩:=by
 show _=a++sp++(b++sp++Bb l)
 rw [J5,A1,A1,A1,A1,A1]
theorem En(h:IY ss n Pd):C1 (EF Pd) n (ss++List.replicate 0 .no):=by
 obtain⟨ts,rfl,hts,hl,p⟩:=h
 have szl:=PySem.sizeLine_eq
 unfold C1
 refine⟨by show (ts.map CC).length<=10000000; rw [List.length_map]; omega,?_⟩
 refine A9 Qq (fun ρ=>∃s1 s2 s3,ρ=[s1,s2,s3]) _ _ _ _ ?_ ⟨_,_,_,rfl⟩ ?_
 ·rintro d hd ρ n' nx ⟨s1,s2,s3,rfl⟩ hnx
  obtain⟨t,ht,rfl⟩:=List.mem_map.mp hd
  obtain⟨ha,hb,_,h1,h2⟩:=hts t ht
  have la:=D6 ha
  have lb:=D6 hb
  have ln:=Ea h1 h2
  have l1:(Str.empty++t.a).length=t.a.length:=by rw [J5]
  have l2:(Str.empty++t.a++sp).length=t.a.length+1:=by rw [len_app,l1]; rfl
  have l3:(Str.empty++t.a++sp++t.b).length=t.a.length+1+t.b.length:=by rw [len_app,l2]
  have l4:(Str.empty++t.a++sp++t.b++sp).length=t.a.length+1+t.b.length+1:=by rw [len_app,l3]; rfl
  have l5:(Str.empty++t.a++sp++t.b++sp++Bb t.len).length=t.a.length+1+t.b.length+1+(Bb t.len).length:=by rw [len_app,l4]
  have fin:=hnx [.sh (.str t.a),.sh (.str t.b),.sh (.int t.len)] ⟨_,_,_,rfl⟩
  rw [show Qq (CC t)=.str (Ei t) from rfl,← NQ t.a t.b t.len] at fin
  exact⟨rfl,rfl,t.a,rfl,by rw [l1]; omega,sp,rfl,by rw [l2]; omega,t.b,rfl,by rw [l3]; omega,sp,rfl,by rw [l4]; omega,Gx h1 h2,Nat.le_trans ln (by rw [szl]; decide),Bb t.len,rfl,by rw [l5]; omega,by rw [l5]; omega,fin⟩
 ·rw [List.nil_append,List.map_map]
  exact p
theorem PX:("tie " : Str) = "tie"++sp:=C6 (by decide +kernel)
theorem Lo:("place " : Str) = "place"++sp:=C6 (by decide +kernel)
theorem Hu(t:Ef):("tie " : Str)++Ei t=DY t:=by
 rw [PX]
 rfl
theorem E4(x:Str):("place " : Str)++x=DZ x:=by
 rw [Lo]
 rfl
theorem Fv{x:Str}(h:FL x):("place " : Str).length+x.length<=sizeLine:=by
 have:=h.2.1
 rw [show ("place " : Str).length=6 by decide +kernel,PySem.sizeLine_eq]
 omega
theorem Eh{t:Ef}(h:Fl t):(Ei t).length<=25:=by
 obtain⟨ha,hb,_,h1,h2⟩:=h
 have la:=D6 ha
 have lb:=D6 hb
 have ln:=Ea h1 h2
 show (t.a++sp++(t.b++sp++Bb t.len)).length<=_
 rw [len_app,len_app,len_app,len_app,show sp.length=1 by decide +kernel]
 omega
theorem Kx{t:Ef}(h:Fl t):("tie " : Str).length+(Ei t).length<=sizeLine:=by
 have:=Eh h
 rw [show ("tie " : Str).length=4 by decide +kernel,PySem.sizeLine_eq]
 omega
theorem Ex{N:Net}(ok:N.Ok){t:Ef}(h:t∈N.ts):Fl t:=by
 obtain⟨h1,h2,h3,h4,h5⟩:=ok.tin t h
 exact⟨ok.names _ h1,ok.names _ h2,h3,h4,h5⟩
noncomputable def Qd:D->D
 | .str x=>.str (DZ x)
 | _=>.non
noncomputable def Sn:D->D
 | .str x=>.str ("tie "++x)
 | _=>.non
theorem Io(h:CG ss n Pd):GJ (EF Pd) n (ss++List.replicate 0 .no):=by
 obtain⟨N,rfl,ok,lp,lt,p⟩:=h
 have szl:=PySem.sizeLine_eq
 unfold GJ
 refine⟨_,AZ (j:=0) rfl,by show (N.ps.map D.str).length<=10000000; rw [List.length_map]; omega,?_⟩
 refine A9 Qd (fun ρ=>∃s1,ρ=[s1]) _ _ _ _ ?_ ⟨_,rfl⟩ ?_
 ·rintro d hd ρ n' nx ⟨s1,rfl⟩ hnx
  obtain⟨x,hx,rfl⟩:=List.mem_map.mp hd
  have fin:=hnx [.sh (.str x)] ⟨_,rfl⟩
  rw [show Qd (.str x)=.str (DZ x) from rfl,← E4] at fin
  exact⟨Fv (ok.names x hx),fin⟩
 ·refine⟨_,AZ (j:=1) rfl,N.ts,rfl,fun t ht=>Ex ok ht,lt,by show (N.ts.map fun t=>D.str (Ei t)).length<=10000000; rw [List.length_map]; omega,?_⟩
  refine A9 Sn (fun ρ=>∃s1,ρ=[s1]) _ _ _ _ ?_ ⟨_,rfl⟩ ?_
  ·rintro d hd ρ n' nx ⟨s1,rfl⟩ hnx
   obtain⟨t,ht,rfl⟩:=List.mem_map.mp hd
   exact⟨Kx (Ex ok ht),hnx [.sh (.str (Ei t))] ⟨_,rfl⟩⟩
  ·have e:(linesOf N).map D.str=([]++(N.ps.map D.str).map Qd)++([]++(N.ts.map fun t=>D.str (Ei t)).map Sn):=by
    unfold linesOf
    rw [List.map_append,List.map_map,List.map_map,List.map_map,List.map_map,List.nil_append,List.nil_append]
    congr 1
   refine⟨?_,?_⟩
   ·rw [← List.length_append,← e,List.length_map]
    unfold linesOf
    rw [List.length_append,List.length_map,List.length_map]
    omega
   ·rw [e] at p
    exact p
noncomputable def SH:D->D
 | .tup [.str a,.str b,.int l]=>.str (DY ⟨a,b,l⟩)
 | _=>.non
theorem Er(h:CG ss n Pd):Cj (EF Pd) n (ss++List.replicate 1 .no):=by
 obtain⟨N,rfl,ok,lp,lt,p⟩:=h
 have szl:=PySem.sizeLine_eq
 unfold Cj
 refine⟨_,AZ (j:=0) rfl,by show (N.ps.map D.str).length<=10000000; rw [List.length_map]; omega,?_⟩
 refine A9 Qd (fun ρ=>∃s1,ρ=[s1]) _ _ _ _ ?_ ⟨_,rfl⟩ ?_
 ·rintro d hd ρ n' nx ⟨s1,rfl⟩ hnx
  obtain⟨x,hx,rfl⟩:=List.mem_map.mp hd
  have fin:=hnx [.sh (.str x)] ⟨_,rfl⟩
  rw [show Qd (.str x)=.str (DZ x) from rfl,← E4] at fin
  exact⟨Fv (ok.names x hx),fin⟩
 ·refine⟨_,rfl,rfl,_,AZ (j:=1) rfl,by show (N.ts.map CC).length<=10000000; rw [List.length_map]; omega,?_⟩
  refine A9 SH (fun ρ=>∃s1 s2 s3,ρ=[s1,s2,s3]) _ _ _ _ ?_ ⟨_,_,_,rfl⟩ ?_
  ·rintro d hd ρ n' nx ⟨s1,s2,s3,rfl⟩ hnx
   obtain⟨t,ht,rfl⟩:=List.mem_map.mp hd
   obtain⟨ha,hb,_,h1,h2⟩:=Ex ok ht
   have la:=D6 ha
   have lb:=D6 hb
   have ln:=Ea h1 h2
   have fin:=hnx [.sh (.str t.a),.sh (.str t.b),.sh (.int t.len)] ⟨_,_,_,rfl⟩
   have e:("tie " : Str)++t.a++sp++t.b++sp++Bb t.len=DY t:=by
    rw [← Hu]
    show _=("tie " : Str)++(t.a++sp++(t.b++sp++Bb t.len))
    rw [A1,A1,A1,A1,A1,A1]
   rw [show SH (CC t)=.str (DY t) from rfl,← e] at fin
   have k1:("tie " : Str).length=4:=by decide +kernel
   have k2:sp.length=1:=by decide +kernel
   have l1:(("tie " : Str)++t.a).length=4+t.a.length:=by rw [len_app,k1]
   have l2:(("tie " : Str)++t.a++sp).length=4+t.a.length+1:=by rw [len_app,l1,k2]
   have l3:(("tie " : Str)++t.a++sp++t.b).length=4+t.a.length+1+t.b.length:=by rw [len_app,l2]
   have l4:(("tie " : Str)++t.a++sp++t.b++sp).length=4+t.a.length+1+t.b.length+1:=by rw [len_app,l3,k2]
   have k2':(" " : Str).length=1:=k2
   have ln':(Str.ofString (toString t.len)).length<=7:=ln
   exact⟨rfl,rfl,by rw [k1]; omega,by rw [l1,k2']; omega,by show (("tie " : Str)++t.a++sp).length+_<=_; rw [l2]; omega,by show (("tie " : Str)++t.a++sp++t.b).length+_<=_; rw [l3,k2']; omega,Gx h1 h2,by rw [szl]; omega,by show (("tie " : Str)++t.a++sp++t.b++sp).length+_<=_; rw [l4]; omega,fin⟩
  ·have e:(linesOf N).map D.str=([]++(N.ps.map D.str).map Qd)++([]++(N.ts.map CC).map SH):=by
    unfold linesOf
    rw [List.map_append,List.map_map,List.map_map,List.map_map,List.map_map,List.nil_append,List.nil_append]
    rfl
   refine⟨_,_,rfl,rfl,?_,?_⟩
   ·rw [← List.length_append,← e,List.length_map]
    unfold linesOf
    rw [List.length_append,List.length_map,List.length_map]
    omega
   ·rw [e] at p
    exact⟨_,rfl,p⟩
theorem O4:(Str.ofString (toString (1000000:Int))).length=7:=by decide +kernel
theorem QL:cs "0123456789"=[48,49,50,51,52,53,54,55,56,57]:=by decide +kernel
noncomputable def Ra:D->D
 | .str x=>.bl (!(Builtin.Str.occurrences "0123456789" x 0 ("0123456789" : Str).length 1).isEmpty)
 | _=>.non
theorem FI{α:Type}(p:α->Bool):∀l:List α,allB (l.map fun a=>D.bl (p a))=some (l.map p)
 | []=>rfl
 | a::l=>by
  show (allB (l.map fun a=>D.bl (p a))).map (p a::·)=_
  rw [FI p l]
  rfl
theorem Et(h:FK ss n Pd):C3 (EE Pd) n (ss++List.replicate 0 .no):=by
 obtain⟨i,rfl,h1,h2,p⟩:=h
 have szl:=PySem.sizeLine_eq
 have hl:=Ea h1 h2
 obtain⟨c,r,ec,hc⟩:=L1 h1
 have e1:(Bb i==("" : Str))=false:=by
  rw [beq_eq_false_iff_ne]
  intro z
  rw [z] at ec
  cases ec
 have e2:((⟨#[c]⟩:Str)==("0" : Str))=false:=by
  rw [beq_eq_false_iff_ne]
  intro z
  have:=congrArg cs z
  rw [show cs ("0" : Str)=[48] by decide +kernel] at this
  exact hc (List.cons.inj this).1
 unfold C3
 show if (Bb i==("" : Str))=true then _ else _
 rw [e1]
 refine B6 ⟨c,AZ (j:=0) (by show (cs (Bb i))[0]?=_; rw [ec]; rfl),?_⟩
 show if ((⟨#[c]⟩:Str)==("0" : Str))=true then _ else _
 rw [e2]
 refine B6 ⟨_,_,rfl,rfl,Gx (by decide) (by decide),by rw [O4,szl]; decide,_,_,rfl,rfl,?_⟩
 show if decide (((Str.ofString (toString (1000000:Int))).length:Int)<((Bb i).length:Int))=true then _ else _
 rw [O4,decide_eq_false (by omega)]
 refine B6 ⟨by rw [Fp]; omega,?_⟩
 refine A9 Ra (fun ρ=>∃s1,ρ=[s1]) _ _ _ _ ?_ ⟨_,rfl⟩ ?_
 ·rintro d hd ρ n' nx ⟨s1,rfl⟩ hnx
  obtain⟨c,hc,rfl⟩:=List.mem_map.mp hd
  exact hnx [.sh (.str ⟨#[c]⟩)] ⟨_,rfl⟩
 ·rw [List.nil_append]
  unfold Dp.signs
  rw [List.map_map]
  rw [show List.map (Ra∘fun c=>D.str ⟨#[c]⟩) (Bb i).cps.toList=(cs (Bb i)).map fun c=>D.bl (!(Builtin.Str.occurrences "0123456789" ⟨#[c]⟩ 0 ("0123456789" : Str).length 1).isEmpty) from List.map_congr_left fun c _=>rfl]
  have hall:((cs (Bb i)).map fun c=>!(Builtin.Str.occurrences "0123456789" ⟨#[c]⟩ 0 ("0123456789" : Str).length 1).isEmpty).all id=true:=List.all_eq_true.mpr fun b hb=>by
   obtain⟨c,hc,rfl⟩:=List.mem_map.mp hb
   rw [StrLaws.found_one]
   refine decide_eq_true ?_
   show c∈cs "0123456789"
   rw [QL]
   obtain⟨a,b⟩:=Gy h1 c hc
   simp only [List.mem_cons,List.not_mem_nil,or_false]
   omega
  refine⟨_,_,rfl,FI (fun c=>!(Builtin.Str.occurrences "0123456789" ⟨#[c]⟩ 0 ("0123456789" : Str).length 1).isEmpty) (cs (Bb i)),?_⟩
  rw [hall]
  refine⟨i,rfl,by omega,by omega,[.int i],rfl,rfl,?_⟩
  show Pd (.bl (decide (1<=i)&&decide (i<=1000000))) n
  rw [decide_eq_true h1,decide_eq_true h2]
  exact p
theorem L7{x:Str}(h:FL x):Hq (.str x)=true:=nameB_iff.mpr ⟨x,rfl,h⟩
theorem ME{w:List Str}{b:Str}(h:w.getLast?=some b):atI (w.map D.str) (-1)=some (.str b):=by
 obtain⟨ys,rfl⟩:=List.getLast?_eq_some_iff.mp h
 rw [List.map_append]
 exact IW _ _
theorem D0(h:GQ ss n Pd):CU (EE Pd) n (ss++List.replicate 0 .no):=by
 obtain⟨x,ps,rfl,hl,hx,hlast,p⟩:=h
 unfold CU
 refine⟨false,rfl,?_⟩
 refine B6 ⟨_,_,rfl,rfl,?_⟩
 show if (((ps.map D.str).length:Int)==24)=true then _ else _
 rw [show (((ps.map D.str).length:Int)==24)=false by rw [beq_eq_false_iff_ne,List.length_map]; omega]
 refine B6 ⟨_,_,rfl,rfl,?_⟩
 refine⟨_,AZ (j:=1) rfl,[.str x],rfl,rfl,?_⟩
 show if (!(Hq (.str x)))=true then _ else _
 rw [L7 hx]
 refine B6 ⟨!(ps.map D.str).isEmpty,rfl,?_⟩
 have fin:(BF (Qm (Af (Av (f2 fun i j=>D.bl (decide (j<i))) (CH CZ (AD (AK 0) AU)) (wC (D.int 2)))) (wC (D.int 2)) (wC D.non))) (EE Pd) n [.sh (.lst [.str "place",.str x]),.br (.lst (ps.map .str)),.br (.lst [])]:=by
  refine⟨_,_,rfl,rfl,?_⟩
  exact p
 cases e:ps.getLast? with
 | none =>
  have:ps=[]:=List.getLast?_eq_none_iff.mp e
  subst this
  exact B6 (B6 fin)
 | some y =>
  have hne:(!(ps.map D.str).isEmpty)=true:=by
   obtain⟨ys,rfl⟩:=List.getLast?_eq_some_iff.mp e
   simp
  rw [hne]
  refine JG ⟨_,AZ (j:=1) rfl,1,rfl,_,ME e,?_⟩
  show if (!(decide (cs y<cs x)))=true then _ else _
  rw [decide_eq_true (hlast y e)]
  exact B6 fin
theorem MD{w:List Ef}{b:Ef}(h:w.getLast?=some b):atI (w.map CC) (-1)=some (CC b):=by
 obtain⟨ys,rfl⟩:=List.getLast?_eq_some_iff.mp h
 rw [List.map_append]
 exact IW _ _
theorem RK{ps:List Str}{x:Str}(hx:x∈ps):((ps.map D.str).any fun y=>O_ y (.str x))=true:=by
 rw [List.any_map]
 exact List.any_eq_true.mpr ⟨x,hx,by show (x==x)=true; exact beq_self_eq_true x⟩
theorem Mf{s t:Ef}(h:FC s t):Bv [.inr s.a,.inr s.b] [.inr t.a,.inr t.b]=true:=by
 unfold Bv Bv Bv
 rcases h with h | ⟨e,h⟩
 ·rw [if_neg (fun z=>by rw [Sum.inr.inj z] at h; exact List.lt_irrefl _ h)]
  exact decide_eq_true h
 ·rw [e,if_pos rfl,if_neg (fun z=>by rw [Sum.inr.inj z] at h; exact List.lt_irrefl _ h)]
  exact decide_eq_true h
theorem C9(h:IZ ss n Pd):B9 (EE Pd) n (ss++List.replicate 0 .no):=by
 obtain⟨t,ps,ts,rfl,hps,hb,hl,hlt,hlast,p⟩:=h
 unfold B9
 refine⟨E6 (hps _ hb),Fx hps,_,rfl,?_⟩
 rw [RK hb]
 show if (!(decide (cs t.a<cs t.b)))=true then _ else _
 rw [decide_eq_true hlt]
 refine B6 ⟨!(ts.map CC).isEmpty,rfl,?_⟩
 cases e:ts.getLast? with
 | none =>
  have:ts=[]:=List.getLast?_eq_none_iff.mp e
  subst this
  exact p
 | some s =>
  have hne:(!(ts.map CC).isEmpty)=true:=by
   obtain⟨ys,rfl⟩:=List.getLast?_eq_some_iff.mp e
   simp
  rw [hne]
  refine⟨z2,1,rfl,_,MD e,[.inr t.a,.inr t.b],[.inr s.a,.inr s.b],rfl,rfl,rfl,?_⟩
  rw [Mf (hlast s e)]
  exact p
theorem Eo(h:GO ss n Pd):C2 (EE Pd) n (ss++List.replicate 0 .no):=by
 obtain⟨t,ps,ts,rfl,hps,ht,ha,hb,hl,hlt,hlast,p⟩:=h
 unfold C2
 refine⟨_,_,rfl,rfl,?_⟩
 show if (((ts.map CC).length:Int)==60)=true then _ else _
 rw [show (((ts.map CC).length:Int)==60)=false by rw [beq_eq_false_iff_ne,List.length_map]; omega]
 refine B6 ⟨_,_,rfl,rfl,?_⟩
 refine⟨_,AZ (j:=1) rfl,?_⟩
 refine⟨E6 (hps _ ha),Fx hps,_,rfl,?_⟩
 rw [RK ha]
 refine⟨_,_,rfl,rfl,?_⟩
 refine⟨_,AZ (j:=1) rfl,_,AZ (j:=2) rfl,t,ps,ts,rfl,hps,hb,hl,ht.2.2.1,hlast,?_⟩
 refine B6 ⟨_,_,rfl,rfl,?_⟩
 refine⟨_,AZ (j:=3) rfl,t.len,rfl,ht.2.2.2.1,ht.2.2.2.2,?_⟩
 refine B6 ⟨_,_,rfl,rfl,?_⟩
 exact p
theorem EV(h:Ic ss n Pd):Cg (EE Pd) n (ss++List.replicate 0 .no):=by
 unfold Cg
 have ne:("tie" : Str) ≠ "place":=fun z=>absurd (congrArg cs z) (by decide +kernel)
 generalize hw:("place" : Str)=w at ne
 generalize hv:("tie" : Str)=v at ne
 rcases h with ⟨x,ps,rfl,h⟩ | ⟨t,ps,ts,rfl,h⟩
 ·rw [hw]
  refine⟨_,AZ (j:=0) rfl,?_⟩
  show if (w==w)=true then _ else _
  rw [beq_self_eq_true]
  exact JG ⟨x,ps,by rw [hw],h⟩
 ·rw [hv]
  refine⟨_,AZ (j:=0) rfl,?_⟩
  show if (v==w)=true then _ else _
  rw [beq_eq_false_iff_ne.mpr ne]
  refine B6 ⟨_,AZ (j:=0) rfl,?_⟩
  show if (v==v)=true then _ else _
  rw [beq_self_eq_true]
  exact JG ⟨t,ps,ts,by rw [hv],h⟩
theorem Me{ls:List Str}{pre post:List D}{d:D}(h:Be 0 (ls.map .str)=pre++d::post):∃x,ls[pre.length]?=some x/\d=.tup [.int (pre.length:Int),.str x]:=by
 have e:(Be 0 (ls.map .str))[pre.length]?=some d:=by rw [h,List.getElem?_append_right (Nat.le_refl _),Nat.sub_self]; rfl
 rw [D9,List.getElem?_map,Option.map_map] at e
 obtain⟨t,h1,h2⟩:=Option.map_eq_some_iff.mp e
 refine⟨t,h1,?_⟩
 rw [← h2]
 show D.tup [.int ((0+pre.length:Nat):Int),.str t]=_
 rw [Nat.zero_add]
theorem Jk{α:Type}{R:α->α->Prop}{l:List α}{i:Nat}{x y:α}(h:l.Pairwise R)(hx:l[i]?=some x)(hy:(l.take i).getLast?=some y):R y x:=by
 obtain⟨hi,e⟩:=List.getElem?_eq_some_iff.mp hx
 have:l=l.take i++l[i]::l.drop (i+1):=by rw [← List.drop_eq_getElem_cons hi,List.take_append_drop]
 rw [this,List.pairwise_append] at h
 rw [e] at h
 exact h.2.2 y (List.mem_of_getLast? hy) x List.mem_cons_self
theorem ED{α:Type}{l:List α}{i:Nat}{x:α}(h:l[i]?=some x):l.take (i+1)=l.take i++[x]:=by rw [List.take_add_one,h]; rfl
theorem Hf{y:Str}(h:FL y):HG (DZ y) ["place",y]:=EG (ws:=["place",y]) (fun z=>by cases z) (fun w hw=>by
  rcases List.mem_cons.mp hw with rfl | hw
  ·decide +kernel
  ·rw [List.mem_singleton.mp hw]; exact Gz h) (by show 2<=10; decide) (by
  show ("place"++sp++y:Str).length<=1000
  have:=h.2.1
  rw [len_app,len_app,show ("place" : Str).length=5 by decide +kernel,show sp.length=1 by decide +kernel]
  omega)
theorem Ka{t:Ef}(h:Fl t):HG (DY t) ["tie",t.a,t.b,Bb t.len]:=EG (ws:=["tie",t.a,t.b,Bb t.len]) (fun z=>by cases z) (fun w hw=>by
  rcases List.mem_cons.mp hw with rfl | hw
  ·decide +kernel
  rcases List.mem_cons.mp hw with rfl | hw
  ·exact Gz h.1
  rcases List.mem_cons.mp hw with rfl | hw
  ·exact Gz h.2.1
  ·rw [List.mem_singleton.mp hw]; exact L4 h.2.2.2.1) (by show 4<=10; decide) (by
  show (("tie" : Str)++sp++Ei t).length<=1000
  have:=Eh h
  rw [len_app,len_app,show ("tie" : Str).length=3 by decide +kernel,show sp.length=1 by decide +kernel]
  omega)
theorem FT(h:GP ss n Pd):Dr (EE Pd) n (ss++List.replicate 6 .no):=by
 obtain⟨N,rfl,ok,lp,lt,p⟩:=h
 have szl:=PySem.sizeLine_eq
 have ll:(linesOf N).length=N.ps.length+N.ts.length:=by unfold linesOf; rw [List.length_append,List.length_map,List.length_map]
 unfold Dr
 refine⟨z0,z0,_,rfl,?_⟩
 refine CM (all:=Be 0 ((linesOf N).map .str)) (fun pre m ρ=>m=n/\∃s3 s4 s5 s6,ρ=[.br (.lst ((linesOf N).map .str)),.ow (.lst ((N.ps.take pre.length).map .str)),.ow (.lst ((N.ts.take (pre.length - N.ps.length)).map CC)),s3,s4,s5,s6]) ?_ ?_ _ [] _ _ rfl ⟨rfl,_,_,_,_,by rw [List.length_nil,Nat.zero_sub]; rfl⟩
 ·rintro m ρ ⟨rfl,s3,s4,s5,s6,rfl⟩
  rw [Cu,List.length_map,ll,List.take_of_length_le (by omega),List.take_of_length_le (by omega)]
  exact⟨z2,p⟩
 ·rintro pre d post m ρ nx hall ⟨rfl,s3,s4,s5,s6,rfl⟩ hnx
  obtain⟨x,hx,rfl⟩:=Me hall
  rw [List.length_append,List.length_singleton] at hnx
  generalize pre.length=i at hx hnx ⊢
  have ne:("tie" : Str) ≠ "place":=fun z=>absurd (congrArg cs z) (by decide +kernel)
  by_cases hi:i<N.ps.length
  ·have ey:N.ps[i]?=some N.ps[i]:=List.getElem?_eq_getElem hi
   generalize N.ps[i]=y at ey
   have exy:x=DZ y:=by
    unfold linesOf at hx
    rw [List.getElem?_append_left (by rw [List.length_map]; exact hi),List.getElem?_map,ey] at hx
    exact(Option.some.inj hx).symm
   subst exy
   have hy:FL y:=ok.names y (List.mem_of_getElem? ey)
   obtain⟨c1,c2,c3,c4,e⟩:=Hf hy
   have fin:=hnx m [.br (.lst ((linesOf N).map .str)),.ow (.lst ((N.ps.take i).map .str++[.str y])),.ow (.lst []),.sh (.int (i:Int)),.sh (.str (DZ y)),.sh (.lst [.str "place",.str y]),.sh .non] ⟨rfl,_,_,_,_,by rw [ED ey,List.map_append,show i+1 - N.ps.length=0 by omega]; rfl⟩
   rw [show i - N.ps.length=0 by omega]
   refine⟨rfl,rfl,rfl,DZ y,sp,rfl,rfl,c1,c2,c3,c4,?_⟩
   rw [e]
   refine .inl ⟨y,N.ps.take i,rfl,by rw [List.length_take]; omega,hy,fun y' h'=>Jk (R:=fun x y=>cs x<cs y) ok.rise ey h',?_⟩
   generalize ("place" : Str)=w at fin ⊢
   refine⟨rfl,_,AZ (j:=0) rfl,?_⟩
   show if (w==w)=true then _ else _
   rw [beq_self_eq_true]
   exact JG ⟨_,rfl,rfl,_,AZ (j:=1) rfl,_,_,rfl,rfl,by rw [List.length_map,List.length_take]; omega,fin⟩
  ·have hj:i - N.ps.length<N.ts.length:=by
    have:=(List.getElem?_eq_some_iff.mp hx).1
    omega
   have et:N.ts[i - N.ps.length]?=some N.ts[i - N.ps.length]:=List.getElem?_eq_getElem hj
   generalize N.ts[i - N.ps.length]=t at et
   have ext:x=DY t:=by
    unfold linesOf at hx
    rw [List.getElem?_append_right (by rw [List.length_map]; omega),List.length_map,List.getElem?_map,et] at hx
    exact(Option.some.inj hx).symm
   subst ext
   have hm:t∈N.ts:=List.mem_of_getElem? et
   have ht:=Ex ok hm
   obtain⟨ma,mb,_⟩:=ok.tin t hm
   obtain⟨c1,c2,c3,c4,e⟩:=Ka ht
   have fin:=hnx m [.br (.lst ((linesOf N).map .str)),.ow (.lst (N.ps.map .str)),.ow (.lst ((N.ts.take (i - N.ps.length)).map CC++[CC t])),.sh (.int (i:Int)),.sh (.str (DY t)),.sh (.lst [.str "tie",.str t.a,.str t.b,.str (Bb t.len)]),.sh .non] ⟨rfl,_,_,_,_,by rw [show i+1 - N.ps.length=(i - N.ps.length)+1 by omega,ED et,List.map_append,List.take_of_length_le (show N.ps.length<=i+1 by omega)]; rfl⟩
   rw [List.take_of_length_le (show N.ps.length<=i by omega)]
   refine⟨rfl,rfl,rfl,DY t,sp,rfl,rfl,c1,c2,c3,c4,?_⟩
   rw [e]
   refine .inr ⟨t,N.ps,N.ts.take (i - N.ps.length),rfl,ok.names,ht,ma,mb,lp,by rw [List.length_take]; omega,fun s h'=>Jk ok.trise et h',?_⟩
   generalize ("place" : Str)=w at ne ⊢
   generalize ("tie" : Str)=v at ne fin ⊢
   refine⟨rfl,_,AZ (j:=0) rfl,?_⟩
   show if (v==w)=true then _ else _
   rw [beq_eq_false_iff_ne.mpr ne]
   exact B6 ⟨_,rfl,rfl,_,AZ (j:=1) rfl,_,AZ (j:=2) rfl,_,AZ (j:=3) rfl,t.len,rfl,by have:=ht.2.2.2.1; omega,by have:=ht.2.2.2.2; omega,z3,_,_,rfl,rfl,by rw [List.length_map,List.length_take]; omega,fin⟩
end
theorem K6(xs:List Str):O_ (.lst (xs.map .str)) (.lst (xs.map .str))=true:=by
 show PyData.eqvAll (As (xs.map .str)) (As (xs.map .str))=true
 induction xs with
 | nil=>rfl
 | cons x xs ih =>
  show ((x==x)&&PyData.eqvAll (As (xs.map .str)) (As (xs.map .str)))=true
  rw [ih,beq_self_eq_true]
  rfl
theorem JE{N:Net}(ok:N.Ok)(lp:N.ps.length<=24)(lt:N.ts.length<=60):Fa 1000001 (.lst ((linesOf N).map .str))/\NU (.lst ((linesOf N).map .str))<=40*84/\NK (.lst ((linesOf N).map .str))<=1:=by
 have nm:∀{x:Str},FL x->∀c∈cs x,c<1114112:=fun h c hc=>by have:=h.2.2 c hc; omega
 have key:∀x∈linesOf N,(∀c∈cs x,c<1114112)/\x.length<=39:=by
  intro x hx
  unfold linesOf at hx
  rcases List.mem_append.mp hx with hx | hx
  ·obtain⟨y,hy,rfl⟩:=List.mem_map.mp hx
   have hn:=ok.names y hy
   rw [← E4]
   refine⟨fun c hc=>?_,by rw [len_app,show ("place " : Str).length=6 by decide +kernel]; have:=hn.2.1; omega⟩
   rw [Bh] at hc
   rcases List.mem_append.mp hc with hc | hc
   ·exact(show ∀c∈cs "place ",c<1114112 by decide +kernel) c hc
   ·exact nm hn c hc
  ·obtain⟨t,ht,rfl⟩:=List.mem_map.mp hx
   have hk:=Ex ok ht
   rw [← Hu]
   refine⟨fun c hc=>?_,by rw [len_app,show ("tie " : Str).length=4 by decide +kernel]; have:=Eh hk; omega⟩
   rw [Bh] at hc
   rcases List.mem_append.mp hc with hc | hc
   ·exact(show ∀c∈cs "tie ",c<1114112 by decide +kernel) c hc
   ·have hc:c∈cs (t.a++sp++(t.b++sp++Bb t.len)):=hc
    rw [Bh,Bh,Bh,Bh,Mx] at hc
    simp only [List.mem_append,List.mem_singleton] at hc
    rcases hc with (hc | hc) | (hc | hc) | hc
    ·exact nm hk.1 c hc
    ·omega
    ·exact nm hk.2.1 c hc
    ·omega
    ·have:=Gy hk.2.2.2.1 c hc; omega
 have ll:(linesOf N).length<=84:=by unfold linesOf; rw [List.length_append,List.length_map,List.length_map]; omega
 refine⟨fines_iff.mpr fun d hd=>?_,?_,?_⟩
 ·obtain⟨x,hx,rfl⟩:=List.mem_map.mp hd
  exact(key x hx).1
 ·have:=GW (k:=40) (ds:=(linesOf N).map D.str) fun d hd=>by
   obtain⟨x,hx,rfl⟩:=List.mem_map.mp hd
   have:=(key x hx).2
   show x.length+1<=40
   omega
  rw [List.length_map] at this
  have h2:40*(linesOf N).length<=40*84:=Nat.mul_le_mul_left _ ll
  exact Nat.le_trans this h2
 ·have:JM ((linesOf N).map D.str)<=0:=dps_le.mpr fun d hd=>by
   obtain⟨x,hx,rfl⟩:=List.mem_map.mp hd
   exact Nat.le_refl _
  show JM ((linesOf N).map D.str)+1<=1
  omega
noncomputable def DX(N:Net):Prop:=N.Ok/\N.ps.length<=24/\N.ts.length<=60
theorem IC{Ns:List Net}(h:∀N∈Ns,DX N)(n:Nat)(s3 s4 s5 s6 s7 s8:Slot):NE { nx:=fun _ _=>False,rt:=fun d _=>d=.bl true } n [.no,.fd,.ow (.lst (Ns.map J4)),s3,s4,s5,s6,s7,s8]:=by
 have szl:=PySem.sizeLine_eq
 refine⟨_,rfl,fun a=>?_⟩
 refine CM (all:=Ns.map J4) (fun pre m ρ=>m=n/\∃s3 s4 s5 s6 s7 s8,ρ=[.no,.fd,.lt a (.lst (Ns.map J4)),s3,s4,s5,s6,s7,s8]) ?_ ?_ _ [] _ _ rfl ⟨rfl,_,_,_,_,_,_,rfl⟩
 ·rintro m ρ ⟨rfl,s3,s4,s5,s6,s7,s8,rfl⟩
  exact⟨rfl,rfl⟩
 ·rintro pre d post m ρ nx hall ⟨rfl,s3,s4,s5,s6,s7,s8,rfl⟩ hnx
  obtain⟨N,hN,rfl⟩:∃N∈Ns,d=J4 N:=by
   have:d∈Ns.map J4:=by rw [hall]; exact List.mem_append_right _ List.mem_cons_self
   obtain⟨N,h1,h2⟩:=List.mem_map.mp this
   exact⟨N,h1,h2.symm⟩
  obtain⟨ok,lp,lt⟩:=h N hN
  obtain⟨f1,f2,f3⟩:=JE ok lp lt
  have sL:Jh (.lst ((linesOf N).map .str)):=Jg (B:=1000001) (by decide) f1 (Nat.le_trans f3 (by decide)) (Nat.le_trans f2 (by decide))
  have lL:Hy (.lst ((linesOf N).map .str)):=P4 (B:=1000001) (by decide) f1 (Nat.le_trans f3 (by decide))
  have zN:=PU (N8 ok) (MJ ok) (by rw [List.length_map]; omega) (by rw [List.length_map]; omega)
  have sN:Jh (J4 N):=Jg (B:=1000001) (by decide) zN.1 (Nat.le_trans zN.2.2 (by decide)) (Nat.le_trans zN.2.1 (by decide))
  have ll:((linesOf N).map D.str).length<=84:=by unfold linesOf; rw [List.length_map,List.length_append,List.length_map,List.length_map]; omega
  have el:=K6 (linesOf N)
  refine⟨N,rfl,ok,lp,lt,2,rfl,by decide,?_⟩
  refine CM (all:=C8 0 2) (fun pre m' ρ=>m'=m/\∃s6 s7,ρ=[.no,.fd,.lt a (.lst (Ns.map J4)),s3,.sh (J4 N),.sh (.lst ((linesOf N).map .str)),s6,s7,s8]) ?_ ?_ _ [] _ _ rfl ⟨rfl,_,_,rfl⟩
  ·rintro m' ρ ⟨rfl,s6,s7,rfl⟩
   refine⟨N,rfl,ok,lp,lt,?_⟩
   refine⟨_,rfl,sN,_,rfl,sN,?_⟩
   generalize hA:Ga (J4 N)=A
   show if (!(A==A))=true then _ else _
   rw [beq_self_eq_true]
   refine B6 ⟨lL,lL,?_⟩
   show if (!O_ (.lst ((linesOf N).map .str)) (.lst ((linesOf N).map .str)))=true then _ else _
   rw [el]
   refine B6 ⟨_,rfl,rfl,_,rfl,rfl,?_⟩
   refine⟨_,rfl,sN,_,rfl,sN,?_⟩
   rw [hA]
   show if (!(A==A))=true then _ else _
   rw [beq_self_eq_true]
   refine B6 ⟨N,rfl,ok,lp,lt,_,rfl,sN,_,rfl,sN,?_⟩
   rw [hA]
   show if (!(A==A))=true then _ else _
   rw [beq_self_eq_true]
   exact B6 (hnx _ _ ⟨rfl,_,_,_,_,_,_,rfl⟩)
  ·rintro pre' d' post' m' ρ nx' _ ⟨rfl,s6,s7,rfl⟩ hnx'
   refine⟨N,rfl,ok,lp,lt,_,rfl,sL,_,rfl,sL,?_⟩
   generalize hA:Ga (.lst ((linesOf N).map .str))=A
   show if (!(A==A))=true then _ else _
   rw [beq_self_eq_true]
   exact B6 ⟨_,rfl,rfl,_,_,rfl,rfl,by omega,_,rfl,rfl,_,rfl,rfl,hnx' _ _ ⟨rfl,_,_,rfl⟩⟩
theorem Ip:GK { nx:=fun _ _=>False,rt:=fun d _=>d=.bl true } 3000 (.no::.fd::List.replicate 7 .no):=by
 unfold GK
 have ok0:DX ⟨[],[]⟩:=⟨⟨fun x h=>(by cases h),List.Pairwise.nil,fun t h=>(by cases h),List.Pairwise.nil⟩,Nat.zero_le _,Nat.zero_le _⟩
 refine⟨z0,z0,z2,8,14,rfl,by decide,by decide,by decide,fun N1 n1 ok1 p1 t1 hn1=>?_⟩
 refine⟨3,4,rfl,by decide,by decide,by omega,fun N2 n2 ok2 p2 t2 hn2=>⟨z3,?_⟩⟩
 have h1:DX N1:=⟨ok1,by omega,by omega⟩
 have h2:DX N2:=⟨ok2,by omega,by omega⟩
 refine⟨8,rfl,by decide,by decide,by omega,fun r r0 r1=>?_⟩
 show if (r==0)=true then _ else _
 refine JH (fun c=>?_) fun c=>?_
 ·refine⟨24,rfl,by decide,by omega,fun xs hl hx hr=>?_⟩
  refine⟨_,rfl,rfl,xs,60,rfl,hx,hr,by omega,by decide,by omega,fun ts n3 ok3 hl3 hn3=>⟨z2,_,_,rfl,rfl,(by show 3<sizeLine; decide),?_⟩⟩
  have h3:DX ⟨xs,ts⟩:=⟨ok3,by show xs.length<=24; omega,hl3⟩
  exact IC (Ns:=[⟨[],[]⟩,N1,N2,⟨xs,ts⟩]) (fun N hN=>by
   rcases List.mem_cons.mp hN with rfl | hN
   ·exact ok0
   rcases List.mem_cons.mp hN with rfl | hN
   ·exact h1
   rcases List.mem_cons.mp hN with rfl | hN
   ·exact h2
   rw [List.mem_singleton.mp hN]; exact h3) n3 _ _ _ _ _ _
 ·exact IC (Ns:=[⟨[],[]⟩,N1,N2]) (fun N hN=>by
   rcases List.mem_cons.mp hN with rfl | hN
   ·exact ok0
   rcases List.mem_cons.mp hN with rfl | hN
   ·exact h1
   rw [List.mem_singleton.mp hN]; exact h2) _ _ _ _ _ _ _
end Nt
namespace K71
open PySem PySem.Spec PyProof.Rows L2 Dp Nt
section
variable {P:Program}{w:World}{K:Frag}{mg:Str->Option Value}{base:Heap}
theorem HY:AY ["thing"] ["thing"] (AC Bl):=by constructor <;> first | rfl | decide +kernel
theorem Hm{f:Addr}{fd:FuncData}(T:Txt K mg)(F:Fun K "is_whole" "is_whole" Bl f fd):BE P w K mg base Cq 1 f fd ["thing"] (EY K .sh FJ 1):=by
 exact IG F HY (by decide) (fun cdv A outer s H E hr=>(AI (AW (JQ (JO N6 (dv 0) rfl T.n_isinstance rfl T.n_int (by decide +kernel)) (G9 (QI (JO MF (dv 0) rfl T.n_isinstance rfl T.n_bool (by decide +kernel)))))))) (fun ss n Pd hl hw=>Hb hw)
theorem Ge:AY ["thing"] ["thing"] (AC BP):=by constructor <;> first | rfl | decide +kernel
theorem Gs{f:Addr}{fd:FuncData}(T:Txt K mg)(G_is_whole:Got P w K mg base "is_whole" 1 ["thing"] .sh FJ)(F:Fun K "is_number" "is_number" BP f fd):BE P w K mg base Cq 2 f fd ["thing"] (EY K .sh Du 1):=by
 obtain⟨_,g_MOST_NUMBER⟩:=T.g_MOST_NUMBER
 exact IG F Ge (by decide) (fun cdv A outer s H E hr=>(AI (AW (JQ (AN G_is_whole (hr.mono (by decide)) rfl (AA (Am (dv 0)) AR)) (G9 (IP CW ES CW ES AE (dv 0) (Dl rfl g_MOST_NUMBER))))))) (fun ss n Pd hl hw=>Gj hw)
theorem Il:AY ["thing"] ["thing"] (AC Bz):=by constructor <;> first | rfl | decide +kernel
theorem I_{f:Addr}{fd:FuncData}(T:Txt K mg)(F:Fun K "is_name" "is_name" Bz f fd):BE P w K mg base Cq 1 f fd ["thing"] (EY K .sh Ib 1):=by
 obtain⟨_,g_MOST_SIGNS⟩:=T.g_MOST_SIGNS
 exact IG F Il (by decide) (fun cdv A outer s H E hr=>(AG (Bg (DTW.dt (Cb (FD (G6 (JO N5 (dv 0) rfl T.n_isinstance rfl T.n_str (by decide +kernel)))) (CD (FD (Mi CW ES CW ES AE (AO Ai B4 rfl T.n_len PySem.boot_len (AF (dv 0) AJ)) (Dl rfl g_MOST_SIGNS)))))) (AI (AW FE)) An)
 (AI (AW (AO (IT rfl) PF rfl T.n_all PyProof.Rows.boot_all (AF (B8 rfl [("sign" : Str)] [none] (B7 (dv 0)) (fun _ _ _ _ _=>(Ao (i:=0) (show List.Nodup [("sign" : Str)] by decide +kernel) rfl (Or.inl rfl))) (fun _ _ _ _ _=>Bx) (fun _ _ _ _ _=>(IP CW ES CW ES AQ (dv 0) AQ)) (by kernel_rfl)) AJ)))))) (fun ss n Pd hl hw=>Iq hw)
theorem Gc:AY ["ties"] ["ties"] (AC BN):=by constructor <;> first | rfl | decide +kernel
theorem Gq{f:Addr}{fd:FuncData}(T:Txt K mg)(F:Fun K "tie_texts" "tie_texts" BN f fd):BE P w K mg base Cq 1 f fd ["ties"] (EY K .fr IY 1):=by
 exact IG F Gc (by decide) (fun cdv A outer s H E hr=>(AI (AW (B8 rfl [("a" : Str),("b" : Str),("length" : Str)] [none,none,none] (B7 (dv 0)) (fun _ _ _ _ _=>(JN rfl (Bq (Ao (i:=0) (show List.Nodup [("a" : Str),("b" : Str),("length" : Str)] by decide +kernel) rfl (Or.inl rfl)) (Bq (Ao (i:=1) (show List.Nodup [("a" : Str),("b" : Str),("length" : Str)] by decide +kernel) rfl (Or.inl rfl)) (Bq (Ao (i:=2) (show List.Nodup [("a" : Str),("b" : Str),("length" : Str)] by decide +kernel) rfl (Or.inl rfl)) G7))))) (fun _ _ _ _ _=>Bx) (fun _ _ _ _ _=>(OP (Dk (JP (dv 0)) (Dk AQ (Dk (JP (dv 1)) (Dk AQ (Dk (JP (dv 2)) QH))))))) (by kernel_rfl))))) (fun ss n Pd hl hw=>En hw)
theorem LT:AY ["net"] ["net"] (AC Cr):=by constructor <;> first | rfl | decide +kernel
theorem L0{f:Addr}{fd:FuncData}(T:Txt K mg)(G_tie_texts:Got P w K mg base "tie_texts" 1 ["ties"] .fr IY)(F:Fun K "shown" "shown" Cr f fd):BE P w K mg base Cq 2 f fd ["net"] (EY K .fr CG 1):=by
 exact IG F LT (by decide) (fun cdv A outer s H E hr=>(AI (AW (A4 Js GN (B8 rfl [("place" : Str)] [none] (B7 (A3 Ah Bs (dv 0) AE)) (fun _ _ _ _ _=>(Ao (i:=0) (show List.Nodup [("place" : Str)] by decide +kernel) rfl (Or.inl rfl))) (fun _ _ _ _ _=>Bx) (fun _ _ _ _ _=>(A4 Ay BL AQ (dv 0))) (by kernel_rfl)) (B8 rfl [("text" : Str)] [none] (B7 (AN G_tie_texts (hr.mono (by decide)) rfl (AA (Am (A3 Ah Bs (dv 0) AE)) AR))) (fun _ _ _ _ _=>(Ao (i:=0) (show List.Nodup [("text" : Str)] by decide +kernel) rfl (Or.inl rfl))) (fun _ _ _ _ _=>Bx) (fun _ _ _ _ _=>(A4 Ay BL AQ (dv 0))) (by kernel_rfl)))))) (fun ss n Pd hl hw=>Io hw)
theorem Gg:AY ["word"] ["word"] (AC BQ):=by constructor <;> first | rfl | decide +kernel
theorem Gu{f:Addr}{fd:FuncData}(T:Txt K mg)(G_is_number:Got P w K mg base "is_number" 2 ["thing"] .sh Du)(F:Fun K "is_length" "is_length" BQ f fd):BE P w K mg base Cq 3 f fd ["word"] (EY K .sh FK 1):=by
 obtain⟨_,g_MOST_NUMBER⟩:=T.g_MOST_NUMBER
 exact IG F Gg (by decide) (fun cdv A outer s H E hr=>(AG (Bg (DTW.dt (Cb (Ae DV HE (dv 0) AQ (Ab _)) (Cb (Ae DV HE (A3 Ah Bs (dv 0) AE) AQ (Ab _)) (CD (Ae Gp KL (AO Ai B4 rfl T.n_len PySem.boot_len (AF (dv 0) AJ)) (AO Ai B4 rfl T.n_len PySem.boot_len (AF (BK GD NA rfl T.n_str boot_str (AF (Dl rfl g_MOST_NUMBER) AJ)) AJ)) (Ab _)))))) (AI (AW FE)) An)
 (AI (AW (JQ (AO (IT rfl) PF rfl T.n_all PyProof.Rows.boot_all (AF (B8 rfl [("sign" : Str)] [none] (B7 (dv 0)) (fun _ _ _ _ _=>(Ao (i:=0) (show List.Nodup [("sign" : Str)] by decide +kernel) rfl (Or.inl rfl))) (fun _ _ _ _ _=>Bx) (fun _ _ _ _ _=>(Mw Py Rj (dv 0) AQ (by with_unfolding_all rfl))) (by kernel_rfl)) AJ)) (G9 (AN G_is_number (hr.mono (by decide)) rfl (AA (Am (BK GE NC rfl T.n_int boot_int (AF (dv 0) AJ))) AR)))))))) (fun ss n Pd hl hw=>Et hw)
theorem Ek:AY ["words","places","ties"] ["words","places","ties"] (AC A6):=by constructor <;> first | rfl | decide +kernel
theorem Ey{f:Addr}{fd:FuncData}(T:Txt K mg)(G_is_name:Got P w K mg base "is_name" 1 ["thing"] .sh Ib)(F:Fun K "place_fault" "place_fault" A6 f fd):BE P w K mg base Cq 2 f fd ["words","places","ties"] (EY K .sh GQ 3):=by
 obtain⟨_,g_MOST_PLACES⟩:=T.g_MOST_PLACES
 exact IG F Ek (by decide) (fun cdv A outer s H E hr=>(AG (Bg (DTW.dt (Cb (Mg (EN 2)) (CD (Ae DV HE (AO Ai B4 rfl T.n_len PySem.boot_len (AF (EN 1) AJ)) (Dl rfl g_MOST_PLACES) (Ab _))))) (AI (AW AE)) An)
 (AG (Bg (DTW.dt (Cb (Ae (Gn hr) KJ (AO Ai B4 rfl T.n_len PySem.boot_len (AF (dv 0) AJ)) AE (Ab _)) (CD (FD (G6 (AN G_is_name (hr.mono (by decide)) rfl (AA (Am (A3 Ah Bs (dv 0) AE)) AR))))))) (AI (AW AE)) An)
 (AG (Bg (DTW.dt (QF (Mg (EN 1)) (OE (Ae CW ES (A3 Ah Bs (dv 0) AE) (A3 Ah Bs (EN 1) (Ms AE)) (Ab _))))) (AI (AW AE)) An)
 (AI (AW (Mu (Ae Gp KL (AO Ai B4 rfl T.n_len PySem.boot_len (AF (dv 0) AJ)) AE (Ab _)) AE JR))))))) (fun ss n Pd hl hw=>D0 hw)
theorem Dz:AY ["a","b","places","ties"] ["a","b","places","ties"] (AC Ap):=by constructor <;> first | rfl | decide +kernel
theorem D5{f:Addr}{fd:FuncData}(T:Txt K mg)(F:Fun K "is_second_end" "is_second_end" Ap f fd):BE P w K mg base Cq 1 f fd ["a","b","places","ties"] (EY K .sh IZ 4):=by
 exact IG F Dz (by decide) (fun cdv A outer s H E hr=>(AG (Bg (DTW.dt (Cb (Ae (Fs hr) PD (dv 1) (EN 2) (by with_unfolding_all rfl)) (CD (Ae CW ES (dv 1) (dv 0) (Ab _))))) (AI (AW FE)) An)
 (AI (AW (Rc (ON (EN 3)) (G9 (Mw (Pz hr) Rk (CF (AB (dv 0) (AB (dv 1) Ac))) (Rb SR Rh (A3 Ah Bs (EN 3) (Ms AE)) OK (OJ AE)) (Ab _)))))))) (fun ss n Pd hl hw=>C9 hw)
theorem Gd:AY ["words","places","ties"] ["words","places","ties"] (AC BO):=by constructor <;> first | rfl | decide +kernel
theorem Gr{f:Addr}{fd:FuncData}(T:Txt K mg)(G_is_length:Got P w K mg base "is_length" 3 ["word"] .sh FK)(G_is_second_end:Got P w K mg base "is_second_end" 1 ["a","b","places","ties"] .sh IZ)(F:Fun K "tie_fault" "tie_fault" BO f fd):BE P w K mg base Cq 4 f fd ["words","places","ties"] (EY K .sh GO 3):=by
 obtain⟨_,g_MOST_TIES⟩:=T.g_MOST_TIES
 exact IG F Gd (by decide) (fun cdv A outer s H E hr=>(AG (Bg (Ae DV HE (AO Ai B4 rfl T.n_len PySem.boot_len (AF (EN 2) AJ)) (Dl rfl g_MOST_TIES) (Ab _)) (AI (AW AE)) An)
 (AG (Bg (DTW.dt (Cb (Ae (Gn hr) KJ (AO Ai B4 rfl T.n_len PySem.boot_len (AF (dv 0) AJ)) AE (Ab _)) (CD (Ae (Fs hr) PD (A3 Ah Bs (dv 0) AE) (EN 1) (by with_unfolding_all rfl))))) (AI (AW AE)) An)
 (AG (Bg (DTW.dt (Cb (Ae (Gn hr) KJ (AO Ai B4 rfl T.n_len PySem.boot_len (AF (dv 0) AJ)) AE (Ab _)) (CD (FD (G6 (AN G_is_second_end (hr.mono (by decide)) rfl (AA (Am (A3 Ah Bs (dv 0) AE)) (AA (Am (A3 Ah Bs (dv 0) AE)) (AA (C0 (EN 1)) (AA (C0 (EN 2)) AR)))))))))) (AI (AW AE)) An)
 (AG (Bg (DTW.dt (Cb (Ae (Gn hr) KJ (AO Ai B4 rfl T.n_len PySem.boot_len (AF (dv 0) AJ)) AE (Ab _)) (CD (FD (G6 (AN G_is_length (hr.mono (by decide)) rfl (AA (Am (A3 Ah Bs (dv 0) AE)) AR))))))) (AI (AW AE)) An)
 (AI (AW (Mu (Ae Gp KL (AO Ai B4 rfl T.n_len PySem.boot_len (AF (dv 0) AJ)) AE (Ab _)) AE JR)))))))) (fun ss n Pd hl hw=>Eo hw)
theorem FS:AY ["words","places","ties"] ["words","places","ties"] (AC BH):=by constructor <;> first | rfl | decide +kernel
theorem FW{f:Addr}{fd:FuncData}(T:Txt K mg)(G_place_fault:Got P w K mg base "place_fault" 2 ["words","places","ties"] .sh GQ)(G_tie_fault:Got P w K mg base "tie_fault" 4 ["words","places","ties"] .sh GO)(F:Fun K "line_fault" "line_fault" BH f fd):BE P w K mg base Cq 5 f fd ["words","places","ties"] (EY K .sh Ic 3):=by
 exact IG F FS (by decide) (fun cdv A outer s H E hr=>(AG (Bg (Ae DV HE (A3 Ah Bs (dv 0) AE) AQ (Ab _)) (AI (AW (AN G_place_fault (hr.mono (by decide)) rfl (AA (Am (dv 0)) (AA (C0 (EN 1)) (AA (C0 (EN 2)) AR)))))) An)
 (AI (AW (Mu (Ae DV HE (A3 Ah Bs (dv 0) AE) AQ (Ab _)) (AN G_tie_fault (hr.mono (by decide)) rfl (AA (Am (dv 0)) (AA (C0 (EN 1)) (AA (C0 (EN 2)) AR)))) AE))))) (fun ss n Pd hl hw=>EV hw)
theorem sc_read_net:AY ["lines","places","ties","row","line","words","fault"] ["lines"] (AC Bk):=by constructor <;> first | rfl | decide +kernel
theorem Hl{f:Addr}{fd:FuncData}(T:Txt K mg)(G_line_fault:Got P w K mg base "line_fault" 5 ["words","places","ties"] .sh Ic)(F:Fun K "read_net" "read_net" Bk f fd):BE P w K mg base Cq 6 f fd ["lines"] (EY K .sh GP 1):=by
 exact IG F sc_read_net (by decide) (fun cdv A outer s H E hr=>(AG (Cv (i:=1) sc_read_net.nd rfl (Or.inl rfl) (Cc Ac))
 (AG (Cv (i:=2) sc_read_net.nd rfl (Or.inl rfl) (Cc Ac))
 (AG (Mn PassesOwn.never rfl rfl T.n_enumerate (pv 0) (JN rfl (Bq (Ao (i:=3) sc_read_net.nd rfl (Or.inl rfl)) (Bq (Ao (i:=4) sc_read_net.nd rfl (Or.inl rfl)) G7))) (AG (Bo (i:=5) sc_read_net.nd rfl (Or.inl rfl) (Rf PySem.F.plainAttrs_str PySem.F.slot_str_split PySem.F.type_str_split L8 OS (dv 4) (AF AQ AJ)))
 (AG (Bo (i:=6) sc_read_net.nd rfl (Or.inl rfl) (AN G_line_fault (hr.mono (by decide)) rfl (AA (Am (dv 5)) (AA (C0 (EN 1)) (AA (C0 (EN 2)) AR)))))
 (AG (Bg (Ae Nx QP (dv 6) JR (Ab _)) (AI Mm) An)
 (AI (Bg (Ae DV HE (A3 Ah Bs (dv 5) AE) AQ (Ab _)) (AI (IM 1 PySem.F.plainAttrs_list PySem.F.slot_list_append PySem.F.type_list_append CL KO (pv 1) (AB (A3 Ah Bs (dv 5) AE) Ac))) (AI (IM 2 PySem.F.plainAttrs_list PySem.F.slot_list_append PySem.F.type_list_append CL KO (pv 2) (AB (CF (AB (A3 Ah Bs (dv 5) AE) (AB (A3 Ah Bs (dv 5) AE) (AB (BK GE NC rfl T.n_int boot_int (AF (A3 Ah Bs (dv 5) AE) AJ)) Ac)))) Ac)))))))))
 (AI (AW (CF (AB (BK Bp Dt rfl T.n_tuple boot_tuple (AF (EN 1) AJ)) (AB (BK Bp Dt rfl T.n_tuple boot_tuple (AF (EN 2) AJ)) Ac))))))))) (fun ss n Pd hl hw=>FT hw)
theorem sc__law_names:AY ["_law_names_here"] [] (AC BI):=by constructor <;> first | rfl | decide +kernel
theorem FX{f:Addr}{fd:FuncData}(T:Txt K mg)(F:Fun K "_law_names" "_law_names" BI f fd):BE P w K mg base Cq 1 f fd [] (EY K .sh Dv 0):=by
 exact IG F sc__law_names (by decide) (fun cdv A outer s H E hr=>(AG (Bo (i:=0) sc__law_names.nd rfl (Or.inl rfl) (Cc (AB AQ (AB AQ (AB AQ (AB AQ (AB AQ (AB AQ (AB AQ (AB AQ (AB AQ (AB AQ (AB AQ (AB AQ (AB AQ (AB AQ (AB AQ (AB AQ (AB AQ Ac)))))))))))))))))))
 (AI (AW (A4 Ay BL (dv 0) (Cc (AB AQ (AB AQ (AB AQ (AB AQ (AB AQ (AB AQ (AB AQ (AB AQ (AB AQ Ac))))))))))))))) (fun ss n Pd hl hw=>FU hw)
theorem sc__law_places:AY ["_law_feed_here","_law_many","_law_names_here","_law_at","_law_step"] ["_law_feed_here","_law_many"] (AC A7):=by constructor <;> first | rfl | decide +kernel
theorem Ez{f:Addr}{fd:FuncData}(T:Txt K mg)(G__law_names:Got P w K mg base "_law_names" 1 [] .sh Dv)(G__law_next:Got P w K mg base "_law_next" 1 ["_law_feed_here","_law_many"] .sh Bt)(F:Fun K "_law_places" "_law_places" A7 f fd):BE P w K mg base Cq 2 f fd ["_law_feed_here","_law_many"] (EY K .sh B5 2):=by
 exact IG F sc__law_places (by decide) (fun cdv A outer s H E hr=>(AG (Bo (i:=2) sc__law_places.nd rfl (Or.inr rfl) (K9 G__law_names (hr.mono (by decide)) rfl))
 (AG (Bo (i:=3) sc__law_places.nd rfl (Or.inr rfl) (AN G__law_next (hr.mono (by decide)) rfl (AA (Br 0) (AA (Am AE) AR))))
 (AG (Bo (i:=4) sc__law_places.nd rfl (Or.inr rfl) (A3 Ah Bs (Cc (AB AE (AB AE (AB AE (AB AE Ac))))) (AN G__law_next (hr.mono (by decide)) rfl (AA (Br 0) (AA (Am AE) AR)))))
 (AI (AW (BK Bp Dt rfl T.n_tuple boot_tuple (AF (AO JU OU rfl T.n_sorted boot_sorted (AF (B8 rfl [("_law_names_here" : Str),("_law_at" : Str),("_law_step" : Str),("_law_k" : Str)] [some 2,some 3,some 4,none] (DI.c (D_ rfl T.n_range (AF (dv 1) AJ))) (fun _ _ _ _ _=>(Ao (i:=3) (show List.Nodup [("_law_names_here" : Str),("_law_at" : Str),("_law_step" : Str),("_law_k" : Str)] by decide +kernel) rfl (Or.inl rfl))) (fun _ _ _ _ _=>Bx) (fun _ _ _ _ _=>(A3 Ah Bs (dv 0) (A4 CB EA (A4 Ay BL (dv 1) (A4 Ny QQ (dv 2) (dv 3))) AE))) (by kernel_rfl)) AJ)) AJ)))))))) (fun ss n Pd hl hw=>Ep hw)
theorem El:AY ["_law_feed_here","_law_sort"] ["_law_feed_here","_law_sort"] (AC A8):=by constructor <;> first | rfl | decide +kernel
theorem E1{f:Addr}{fd:FuncData}(T:Txt K mg)(G__law_next:Got P w K mg base "_law_next" 1 ["_law_feed_here","_law_many"] .sh Bt)(F:Fun K "_law_length" "_law_length" A8 f fd):BE P w K mg base Cq 2 f fd ["_law_feed_here","_law_sort"] (EY K .sh Id 2):=by
 exact IG F El (by decide) (fun cdv A outer s H E hr=>(AG (Bg (Ae DV HE (dv 1) AE (Ab _)) (AI (AW (A4 Jq M_ (A4 Ly EA AE AE) (AN G__law_next (hr.mono (by decide)) rfl (AA (Br 0) (AA (Am AE) AR)))))) An)
 (AI (AW (A4 Ay BL AE (AN G__law_next (hr.mono (by decide)) rfl (AA (Br 0) (AA (Am (A3 Ah Bs (Cc (AB AE (AB AE (AB AE Ac)))) (dv 1))) AR)))))))) (fun ss n Pd hl hw=>Es hw)
theorem sc__law_ties:AY ["_law_feed_here","_law_places_here","_law_most","_law_found","_law_sort","_law_k","_law_a","_law_b"] ["_law_feed_here","_law_places_here","_law_most"] (AC BR):=by constructor <;> first | rfl | decide +kernel
theorem Gv{f:Addr}{fd:FuncData}(T:Txt K mg)(G__law_length:Got P w K mg base "_law_length" 2 ["_law_feed_here","_law_sort"] .sh Id)(G__law_next:Got P w K mg base "_law_next" 1 ["_law_feed_here","_law_many"] .sh Bt)(F:Fun K "_law_ties" "_law_ties" BR f fd):BE P w K mg base Cq 3 f fd ["_law_feed_here","_law_places_here","_law_most"] (EY K .sh DC 3):=by
 exact IG F sc__law_ties (by decide) (fun cdv A outer s H E hr=>(AG (Cv (i:=3) sc__law_ties.nd rfl (Or.inr rfl) Mv)
 (AG (Bo (i:=4) sc__law_ties.nd rfl (Or.inl rfl) (AN G__law_next (hr.mono (by decide)) rfl (AA (Br 0) (AA (Am AE) AR))))
 (AG (Mo PassesOwn.never rfl (D_ rfl T.n_range (AF (AN G__law_next (hr.mono (by decide)) rfl (AA (Br 0) (AA (Am (A4 Ay BL (dv 2) AE)) AR))) AJ)) (Ao (i:=5) sc__law_ties.nd rfl (Or.inl rfl)) (AI (Bg (Ae Gp KL (AO Ai B4 rfl T.n_len PySem.boot_len (AF (dv 1) AJ)) AE (Ab _)) (AG (Bo (i:=6) sc__law_ties.nd rfl (Or.inl rfl) (AN G__law_next (hr.mono (by decide)) rfl (AA (Br 0) (AA (Am (AO Ai B4 rfl T.n_len PySem.boot_len (AF (dv 1) AJ))) AR))))
 (AG (Bo (i:=7) sc__law_ties.nd rfl (Or.inl rfl) (A4 CB EA (A4 Ay BL (A4 Ay BL (dv 6) AE) (AN G__law_next (hr.mono (by decide)) rfl (AA (Br 0) (AA (Am (A4 Jq M_ (AO Ai B4 rfl T.n_len PySem.boot_len (AF (dv 1) AJ)) AE)) AR)))) (AO Ai B4 rfl T.n_len PySem.boot_len (AF (dv 1) AJ))))
 (AI (OG (i:=3) hr (pv 3) (CF (AB (A3 Ah Bs (dv 1) (AO (LB rfl) QR rfl T.n_min boot_min (AF (dv 6) (AF (dv 7) AJ)))) (AB (A3 Ah Bs (dv 1) (AO (LC rfl) QS rfl T.n_max boot_max (AF (dv 6) (AF (dv 7) AJ)))) Ac))) (AN G__law_length (hr.mono (by decide)) rfl (AA (Br 0) (AA (Am (A3 Ah Bs (Cc (AB (dv 4) (AB (A4 CB EA (dv 5) AE) Ac))) (A4 EZ EA (dv 4) AE))) AR))))))) An)))
 (AI (AW (BK Bp Dt rfl T.n_tuple boot_tuple (AF (B8 rfl [("_law_found" : Str),("_law_pair" : Str)] [some 3,none] (B7 (AO (JT rfl) OT rfl T.n_sorted boot_sorted (AF (EN 3) AJ))) (fun _ _ _ _ _=>(Ao (i:=1) (show List.Nodup [("_law_found" : Str),("_law_pair" : Str)] by decide +kernel) rfl (Or.inl rfl))) (fun _ _ _ _ _=>Bx) (fun _ _ _ _ _=>(A4 Ay BL (dv 1) (CF (AB (OM hr (EN 0) (dv 1)) Ac)))) (by kernel_rfl)) AJ)))))))) (fun ss n Pd hl hw=>Gi hw)
theorem sc__law_net:AY ["_law_feed_here","_law_most","_law_ties_here","_law_places_here"] ["_law_feed_here","_law_most","_law_ties_here"] (AC Bm):=by constructor <;> first | rfl | decide +kernel
theorem Hn{f:Addr}{fd:FuncData}(T:Txt K mg)(G__law_next:Got P w K mg base "_law_next" 1 ["_law_feed_here","_law_many"] .sh Bt)(G__law_places:Got P w K mg base "_law_places" 2 ["_law_feed_here","_law_many"] .sh B5)(G__law_ties:Got P w K mg base "_law_ties" 3 ["_law_feed_here","_law_places_here","_law_most"] .sh DC)(F:Fun K "_law_net" "_law_net" Bm f fd):BE P w K mg base Cq 4 f fd ["_law_feed_here","_law_most","_law_ties_here"] (EY K .sh GR 3):=by
 exact IG F sc__law_net (by decide) (fun cdv A outer s H E hr=>(AG (Bo (i:=3) sc__law_net.nd rfl (Or.inl rfl) (AN G__law_places (hr.mono (by decide)) rfl (AA (Br 0) (AA (Am (AN G__law_next (hr.mono (by decide)) rfl (AA (Br 0) (AA (Am (A4 Ay BL (dv 1) AE)) AR)))) AR))))
 (AI (AW (CF (AB (dv 3) (AB (AN G__law_ties (hr.mono (by decide)) rfl (AA (Br 0) (AA (Am (dv 3)) (AA (Am (dv 2)) AR)))) Ac))))))) (fun ss n Pd hl hw=>HZ hw)
theorem sc__law_lines:AY ["_law_net_here","_law_lines_here"] ["_law_net_here"] (AC BJ):=by constructor <;> first | rfl | decide +kernel
theorem FY{f:Addr}{fd:FuncData}(T:Txt K mg)(F:Fun K "_law_lines" "_law_lines" BJ f fd):BE P w K mg base Cq 1 f fd ["_law_net_here"] (EY K .fr CG 1):=by
 exact IG F sc__law_lines (by decide) (fun cdv A outer s H E hr=>(AG (Mj (i:=1) sc__law_lines.nd rfl (Or.inl rfl) rfl [("_law_name" : Str)] [none] (B7 (A3 Ah Bs (dv 0) AE)) (fun _ _ _ _ _=>(Ao (i:=0) (show List.Nodup [("_law_name" : Str)] by decide +kernel) rfl (Or.inl rfl))) (fun _ _ _ _ _=>Bx) (fun _ _ _ _ _=>(A4 Ay BL AQ (dv 0))) (by kernel_rfl))
 (AG (IM 1 PySem.F.plainAttrs_list PySem.F.slot_list_extend PySem.F.type_list_extend Ks Rl (pv 1) (AB (B8 rfl [("_law_a" : Str),("_law_b" : Str),("_law_length_here" : Str)] [none,none,none] (B7 (A3 Ah Bs (dv 0) AE)) (fun _ _ _ _ _=>(JN rfl (Bq (Ao (i:=0) (show List.Nodup [("_law_a" : Str),("_law_b" : Str),("_law_length_here" : Str)] by decide +kernel) rfl (Or.inl rfl)) (Bq (Ao (i:=1) (show List.Nodup [("_law_a" : Str),("_law_b" : Str),("_law_length_here" : Str)] by decide +kernel) rfl (Or.inl rfl)) (Bq (Ao (i:=2) (show List.Nodup [("_law_a" : Str),("_law_b" : Str),("_law_length_here" : Str)] by decide +kernel) rfl (Or.inl rfl)) G7))))) (fun _ _ _ _ _=>Bx) (fun _ _ _ _ _=>(A4 Ay BL (A4 Ay BL (A4 Ay BL (A4 Ay BL (A4 Ay BL AQ (dv 0)) AQ) (dv 1)) AQ) (BK GD NA rfl T.n_str boot_str (AF (dv 2) AJ)))) (by kernel_rfl)) Ac))
 (AI (OH 1 (pv 1)))))) (fun ss n Pd hl hw=>Er hw)
end
section
variable {P:Program}{w:World}{K:Frag}{mg:Str->Option Value}{base:Heap}
theorem Gh:AY ["_law_script"] ["_law_script"] (AC BS):=by constructor <;> first | rfl | decide +kernel
theorem Gw{f:Addr}{fd:FuncData}(T:Txt K mg)(F:Fun K "_law_feed" "_law_feed" BS f fd):BE P w K mg base Cq 1 f fd ["_law_script"] (GX K):=by
 refine F.ok Gh (fun vs H Q E h=>?_) (fun cdv A outer s H vs Q E hr h=>?_)
 ·obtain⟨a,ns,rfl,_⟩:=h
  rfl
 ·obtain⟨a,ns,rfl,⟨hl,hS⟩,q⟩:=h
  refine⟨_,DR (D4 (Iz (BM (Fq Dq rfl T.n_list boot_list (BM (Hi sl_list (pv 0) Jo (Jn Aa)) CA)) (BM Aa (BM Aa CA))))),?_⟩
  refine⟨_,rfl,63,rfl,a,_,rfl,hS,fun p hp=>⟨p,_,rfl,.inl (SqL.of AM),fun c hc=>⟨by show 3<=sizeLine; decide,fun g hg=>?_⟩⟩⟩
  rw [Rg hl] at hg ⊢
  have ncg:c≠g:=fun z=>by rw [← z,AM] at hg; cases hg
  exact q c g _ ncg (by rw [AL ncg,AM]) AM
theorem sc_law:AY ["_law_script","_law_feed_here","_law_nets","_law_places_here","_law_net_here","_law_lines_here","_law_turn","_law_found","_law_handed"] ["_law_script"] (AC DP):=by constructor <;> first | rfl | decide +kernel
theorem P1{f ff:Addr}{fd fdf:FuncData}(T:Txt K mg)(Gf:BE P w K mg base Cq 1 ff fdf ["_law_script"] (GX K))(mf:mg "_law_feed"=some (.ref ff))(kf:keepIn K (.ref ff)=true)(bf:Binds K fdf ["_law_script"] [])
  (G__law_lines:Got P w K mg base "_law_lines" 1 ["_law_net_here"] .fr CG) (G__law_net:Got P w K mg base "_law_net" 4 ["_law_feed_here","_law_most","_law_ties_here"] .sh GR) (G__law_next:Got P w K mg base "_law_next" 1 ["_law_feed_here","_law_many"] .sh Bt) (G__law_places:Got P w K mg base "_law_places" 2 ["_law_feed_here","_law_many"] .sh B5) (G__law_ties:Got P w K mg base "_law_ties" 3 ["_law_feed_here","_law_places_here","_law_most"] .sh DC) (G_read_net:Got P w K mg base "read_net" 6 ["lines"] .sh GP) (G_shown:Got P w K mg base "shown" 2 ["net"] .fr CG) (F:Fun K "law" "law" DP f fd):BE P w K mg base Cq 7 f fd ["_law_script"] (HX K):=by
 exact RQ (n0:=3000) F sc_law rfl (by decide) (fun cdv A outer s H E hr=>C_ (i:=1) sc_law.nd rfl (Or.inl rfl) (Jp Gf (hr.mono (by decide)) rfl mf kf bf .nil Lw (BM (pv 0) CA)))
  (fun cdv A outer s H E hr=>(AG (Cv (i:=2) sc_law.nd rfl (Or.inl rfl) (Cc (AB (CF (AB (CF Ac) (AB (CF Ac) Ac))) (AB (AN G__law_net (hr.mono (by decide)) rfl (AA (Br 1) (AA (Am AE) (AA (Am AE) AR)))) (AB (AN G__law_net (hr.mono (by decide)) rfl (AA (Br 1) (AA (Am AE) (AA (Am AE) AR)))) Ac)))))
 (AG (Bg (Ae DV HE (AN G__law_next (hr.mono (by decide)) rfl (AA (Br 1) (AA (Am AE) AR))) AE (Ab _)) (AG (Bo (i:=3) sc_law.nd rfl (Or.inl rfl) (AN G__law_places (hr.mono (by decide)) rfl (AA (Br 1) (AA (Am AE) AR))))
 (AI (IM 2 PySem.F.plainAttrs_list PySem.F.slot_list_append PySem.F.type_list_append CL KO (pv 2) (AB (CF (AB (dv 3) (AB (AN G__law_ties (hr.mono (by decide)) rfl (AA (Br 1) (AA (Am (dv 3)) (AA (Am AE) AR)))) Ac))) Ac)))) An)
 (AG (OI PassesOwn.never rfl (pv 2) (Ao (i:=4) sc_law.nd rfl (Or.inl rfl)) (AG (Bo (i:=5) sc_law.nd rfl (Or.inl rfl) (AN G__law_lines (hr.mono (by decide)) rfl (AA (Am (dv 4)) AR)))
 (AG (Mo PassesOwn.never rfl (D_ rfl T.n_range (AF AE AJ)) (Ao (i:=6) sc_law.nd rfl (Or.inl rfl)) (AG (Cv (i:=7) sc_law.nd rfl (Or.inl rfl) (AN G_shown (hr.mono (by decide)) rfl (AA (Am (dv 4)) AR)))
 (AG (Bg (Ae Jr OV (AO (BU hr) Cm rfl T.n_repr boot_repr (AF (EN 7) AJ)) (AO (BU hr) Cm rfl T.n_repr boot_repr (AF (dv 5) AJ)) (Ab _)) (AI (AW FE)) An)
 (AG (IM 7 PySem.F.plainAttrs_list PySem.F.slot_list_append PySem.F.type_list_append CL KO (pv 7) (AB AQ Ac))
 (AI (Ml 7 PySem.F.plainAttrs_list PySem.F.slot_list_reverse PySem.F.type_list_reverse JB QO (pv 7)))))))
 (AG (Cv (i:=8) sc_law.nd rfl (Or.inl rfl) (BK Dq OW rfl T.n_list boot_list (AF (dv 5) AJ)))
 (AG (Bo (i:=7) sc_law.nd rfl (Or.inl rfl) (AN G_read_net (hr.mono (by decide)) rfl (AA (C0 (EN 8)) AR)))
 (AG (Bg (DTW.dt (Cb (Ae Jr OV (AO (BU hr) Cm rfl T.n_repr boot_repr (AF (EN 7) AJ)) (AO (BU hr) Cm rfl T.n_repr boot_repr (AF (dv 4) AJ)) (Ab _)) (CD (Ae (Pw hr) Ri (EN 8) (dv 5) (Ab _))))) (AI (AW FE)) An)
 (AG (Ml 8 PySem.F.plainAttrs_list PySem.F.slot_list_clear PySem.F.type_list_clear L9 QT (pv 8))
 (AI (Bg (DTW.dt (Cb (Ae Jr OV (AO (BU hr) Cm rfl T.n_repr boot_repr (AF (EN 7) AJ)) (AO (BU hr) Cm rfl T.n_repr boot_repr (AF (dv 4) AJ)) (Ab _)) (CD (Ae Jr OV (AO (BU hr) Cm rfl T.n_repr boot_repr (AF (AN G_read_net (hr.mono (by decide)) rfl (AA (C0 (dv 5)) AR)) AJ)) (AO (BU hr) Cm rfl T.n_repr boot_repr (AF (dv 4) AJ)) (Ab _))))) (AI (AW FE)) An)))))))))
 (AI (AW FE)))))) Ip
end
theorem FZ{β:Type}{n:Nat}(g k:List Value->β)(us:List Value)(h:us.length=n+1)(c:∀(a:Value) (r:List Value),r.length=n->g (a::r)=k (a::r)):g us=k us:=by
 cases us with
 | nil=>cases h
 | cons a r=>exact c a r (Nat.succ.inj h)
theorem Hx{β:Type}{g k:List Value->β}(us:List Value)(h:us.length=0)(c:g []=k []):g us=k us:=by
 cases us with
 | nil=>exact c
 | cons a r=>cases h
theorem Dd{β:Type}{g k:List Value->β}(us:List Value)(h:us.length=1)(c:∀a0:Value,g [a0]=k [a0]):g us=k us:=FZ (fun r=>g (r)) (fun r=>k (r)) us h fun a0 r h=>Hx (g:=fun r=>g (a0::r)) (k:=fun r=>k (a0::r)) r h (c a0)
theorem MB{β:Type}{g k:List Value->β}(us:List Value)(h:us.length=2)(c:∀a0 a1:Value,g [a0,a1]=k [a0,a1]):g us=k us:=FZ (fun r=>g (r)) (fun r=>k (r)) us h fun a0 r h=>FZ (fun r=>g (a0::r)) (fun r=>k (a0::r)) r h fun a1 r h=>Hx (g:=fun r=>g (a0::a1::r)) (k:=fun r=>k (a0::a1::r)) r h (c a0 a1)
theorem Hw{β:Type}{g k:List Value->β}(us:List Value)(h:us.length=3)(c:∀a0 a1 a2:Value,g [a0,a1,a2]=k [a0,a1,a2]):g us=k us:=FZ (fun r=>g (r)) (fun r=>k (r)) us h fun a0 r h=>FZ (fun r=>g (a0::r)) (fun r=>k (a0::r)) r h fun a1 r h=>FZ (fun r=>g (a0::a1::r)) (fun r=>k (a0::a1::r)) r h fun a2 r h=>Hx (g:=fun r=>g (a0::a1::a2::r)) (k:=fun r=>k (a0::a1::a2::r)) r h (c a0 a1 a2)
theorem RJ{β:Type}{g k:List Value->β}(us:List Value)(h:us.length=4)(c:∀a0 a1 a2 a3:Value,g [a0,a1,a2,a3]=k [a0,a1,a2,a3]):g us=k us:=FZ (fun r=>g (r)) (fun r=>k (r)) us h fun a0 r h=>FZ (fun r=>g (a0::r)) (fun r=>k (a0::r)) r h fun a1 r h=>FZ (fun r=>g (a0::a1::r)) (fun r=>k (a0::a1::r)) r h fun a2 r h=>FZ (fun r=>g (a0::a1::a2::r)) (fun r=>k (a0::a1::a2::r)) r h fun a3 r h=>Hx (g:=fun r=>g (a0::a1::a2::a3::r)) (k:=fun r=>k (a0::a1::a2::a3::r)) r h (c a0 a1 a2 a3)
theorem all_mk{l:PySem.W.OpenLaw}{w:World}{K:Frag}{h:Heap}{mg:Str->Option Value}{fa:Addr}(X:K.In h)(G:h.Ns mainGlobals mg)(hfa:mg "law"=some (.ref fa))
  {f0 f1 f2 f3 f4 f5 f6 f7 f8 f9 f10 f11 f12 f13 f14 f15 f16 f17 f18 f19:Addr} {od0 an0 od1 an1 od2 an2 od3 an3 od4 an4 od5 an5 od6 an6 od7 an7 od8 an8 od9 an9 od10 an10 od11 an11 od12 an12 od13 an13 od14 an14 od15 an15 od16 an16 od17 an17 od18 an18 od19 an19:Option Addr} {sl0 sl1 sl2 sl3 sl4 sl5 sl6 sl7 sl8 sl9 sl10 sl11 sl12 sl13 sl14 sl15 sl16 sl17 sl18 sl19:Array (Option Value)} {oc0 kV0 dc0 pm0 cd0 ct0 oc1 kV1 dc1 pm1 cd1 ct1 oc2 kV2 dc2 pm2 cd2 ct2 oc3 kV3 dc3 pm3 cd3 ct3 oc4 kV4 dc4 pm4 cd4 ct4 oc5 kV5 dc5 pm5 cd5 ct5 oc6 kV6 dc6 pm6 cd6 ct6 oc7 kV7 dc7 pm7 cd7 ct7 oc8 kV8 dc8 pm8 cd8 ct8 oc9 kV9 dc9 pm9 cd9 ct9 oc10 kV10 dc10 pm10 cd10 ct10 oc11 kV11 dc11 pm11 cd11 ct11 oc12 kV12 dc12 pm12 cd12 ct12 oc13 kV13 dc13 pm13 cd13 ct13 oc14 kV14 dc14 pm14 cd14 ct14 oc15 kV15 dc15 pm15 cd15 ct15 oc16 kV16 dc16 pm16 cd16 ct16 oc17 kV17 dc17 pm17 cd17 ct17 oc18 kV18 dc18 pm18 cd18 ct18 oc19 kV19 dc19 pm19 cd19 ct19:Value}
  {t_MOST_SIGNS:Tok}
  {t_MOST_NUMBER:Tok}
  {t_MOST_PLACES:Tok}
  {t_MOST_TIES:Tok}
  (a0:nsIn K mainGlobals "is_whole"=some (some (.ref f0))) (l0:K.lookup f0=some ⟨oc0,od0,.func (fnOf "is_whole" "is_whole" (AX Bl) (AT Bl) (AC Bl) .none kV0 dc0 pm0 an0 cd0 ct0),sl0⟩) (c0:codeIn K cd0 "is_whole"=true) (k0:keepIn K (.ref f0)=true)
  (a1:nsIn K mainGlobals "is_number"=some (some (.ref f1))) (l1:K.lookup f1=some ⟨oc1,od1,.func (fnOf "is_number" "is_number" (AX BP) (AT BP) (AC BP) .none kV1 dc1 pm1 an1 cd1 ct1),sl1⟩) (c1:codeIn K cd1 "is_number"=true) (k1:keepIn K (.ref f1)=true)
  (a2:nsIn K mainGlobals "is_name"=some (some (.ref f2))) (l2:K.lookup f2=some ⟨oc2,od2,.func (fnOf "is_name" "is_name" (AX Bz) (AT Bz) (AC Bz) .none kV2 dc2 pm2 an2 cd2 ct2),sl2⟩) (c2:codeIn K cd2 "is_name"=true) (k2:keepIn K (.ref f2)=true)
  (a3:nsIn K mainGlobals "tie_texts"=some (some (.ref f3))) (l3:K.lookup f3=some ⟨oc3,od3,.func (fnOf "tie_texts" "tie_texts" (AX BN) (AT BN) (AC BN) .none kV3 dc3 pm3 an3 cd3 ct3),sl3⟩) (c3:codeIn K cd3 "tie_texts"=true) (k3:keepIn K (.ref f3)=true)
  (a4:nsIn K mainGlobals "shown"=some (some (.ref f4))) (l4:K.lookup f4=some ⟨oc4,od4,.func (fnOf "shown" "shown" (AX Cr) (AT Cr) (AC Cr) .none kV4 dc4 pm4 an4 cd4 ct4),sl4⟩) (c4:codeIn K cd4 "shown"=true) (k4:keepIn K (.ref f4)=true)
  (a5:nsIn K mainGlobals "is_length"=some (some (.ref f5))) (l5:K.lookup f5=some ⟨oc5,od5,.func (fnOf "is_length" "is_length" (AX BQ) (AT BQ) (AC BQ) .none kV5 dc5 pm5 an5 cd5 ct5),sl5⟩) (c5:codeIn K cd5 "is_length"=true) (k5:keepIn K (.ref f5)=true)
  (a6:nsIn K mainGlobals "place_fault"=some (some (.ref f6))) (l6:K.lookup f6=some ⟨oc6,od6,.func (fnOf "place_fault" "place_fault" (AX A6) (AT A6) (AC A6) .none kV6 dc6 pm6 an6 cd6 ct6),sl6⟩) (c6:codeIn K cd6 "place_fault"=true) (k6:keepIn K (.ref f6)=true)
  (a7:nsIn K mainGlobals "is_second_end"=some (some (.ref f7))) (l7:K.lookup f7=some ⟨oc7,od7,.func (fnOf "is_second_end" "is_second_end" (AX Ap) (AT Ap) (AC Ap) .none kV7 dc7 pm7 an7 cd7 ct7),sl7⟩) (c7:codeIn K cd7 "is_second_end"=true) (k7:keepIn K (.ref f7)=true)
  (a8:nsIn K mainGlobals "tie_fault"=some (some (.ref f8))) (l8:K.lookup f8=some ⟨oc8,od8,.func (fnOf "tie_fault" "tie_fault" (AX BO) (AT BO) (AC BO) .none kV8 dc8 pm8 an8 cd8 ct8),sl8⟩) (c8:codeIn K cd8 "tie_fault"=true) (k8:keepIn K (.ref f8)=true)
  (a9:nsIn K mainGlobals "line_fault"=some (some (.ref f9))) (l9:K.lookup f9=some ⟨oc9,od9,.func (fnOf "line_fault" "line_fault" (AX BH) (AT BH) (AC BH) .none kV9 dc9 pm9 an9 cd9 ct9),sl9⟩) (c9:codeIn K cd9 "line_fault"=true) (k9:keepIn K (.ref f9)=true)
  (a10:nsIn K mainGlobals "read_net"=some (some (.ref f10))) (l10:K.lookup f10=some ⟨oc10,od10,.func (fnOf "read_net" "read_net" (AX Bk) (AT Bk) (AC Bk) .none kV10 dc10 pm10 an10 cd10 ct10),sl10⟩) (c10:codeIn K cd10 "read_net"=true) (k10:keepIn K (.ref f10)=true)
  (a11:nsIn K mainGlobals "_law_feed"=some (some (.ref f11))) (l11:K.lookup f11=some ⟨oc11,od11,.func (fnOf "_law_feed" "_law_feed" (AX BS) (AT BS) (AC BS) .none kV11 dc11 pm11 an11 cd11 ct11),sl11⟩) (c11:codeIn K cd11 "_law_feed"=true) (k11:keepIn K (.ref f11)=true)
  (a12:nsIn K mainGlobals "_law_next"=some (some (.ref f12))) (l12:K.lookup f12=some ⟨oc12,od12,.func (fnOf "_law_next" "_law_next" (AX BB) (AT BB) (AC BB) .none kV12 dc12 pm12 an12 cd12 ct12),sl12⟩) (c12:codeIn K cd12 "_law_next"=true) (k12:keepIn K (.ref f12)=true)
  (a13:nsIn K mainGlobals "_law_names"=some (some (.ref f13))) (l13:K.lookup f13=some ⟨oc13,od13,.func (fnOf "_law_names" "_law_names" (AX BI) (AT BI) (AC BI) .none kV13 dc13 pm13 an13 cd13 ct13),sl13⟩) (c13:codeIn K cd13 "_law_names"=true) (k13:keepIn K (.ref f13)=true)
  (a14:nsIn K mainGlobals "_law_places"=some (some (.ref f14))) (l14:K.lookup f14=some ⟨oc14,od14,.func (fnOf "_law_places" "_law_places" (AX A7) (AT A7) (AC A7) .none kV14 dc14 pm14 an14 cd14 ct14),sl14⟩) (c14:codeIn K cd14 "_law_places"=true) (k14:keepIn K (.ref f14)=true)
  (a15:nsIn K mainGlobals "_law_length"=some (some (.ref f15))) (l15:K.lookup f15=some ⟨oc15,od15,.func (fnOf "_law_length" "_law_length" (AX A8) (AT A8) (AC A8) .none kV15 dc15 pm15 an15 cd15 ct15),sl15⟩) (c15:codeIn K cd15 "_law_length"=true) (k15:keepIn K (.ref f15)=true)
  (a16:nsIn K mainGlobals "_law_ties"=some (some (.ref f16))) (l16:K.lookup f16=some ⟨oc16,od16,.func (fnOf "_law_ties" "_law_ties" (AX BR) (AT BR) (AC BR) .none kV16 dc16 pm16 an16 cd16 ct16),sl16⟩) (c16:codeIn K cd16 "_law_ties"=true) (k16:keepIn K (.ref f16)=true)
  (a17:nsIn K mainGlobals "_law_net"=some (some (.ref f17))) (l17:K.lookup f17=some ⟨oc17,od17,.func (fnOf "_law_net" "_law_net" (AX Bm) (AT Bm) (AC Bm) .none kV17 dc17 pm17 an17 cd17 ct17),sl17⟩) (c17:codeIn K cd17 "_law_net"=true) (k17:keepIn K (.ref f17)=true)
  (a18:nsIn K mainGlobals "_law_lines"=some (some (.ref f18))) (l18:K.lookup f18=some ⟨oc18,od18,.func (fnOf "_law_lines" "_law_lines" (AX BJ) (AT BJ) (AC BJ) .none kV18 dc18 pm18 an18 cd18 ct18),sl18⟩) (c18:codeIn K cd18 "_law_lines"=true) (k18:keepIn K (.ref f18)=true)
  (a19:nsIn K mainGlobals "law"=some (some (.ref f19))) (l19:K.lookup f19=some ⟨oc19,od19,.func (fnOf "law" "law" (AX DP) (AT DP) (AC DP) .none kV19 dc19 pm19 an19 cd19 ct19),sl19⟩) (c19:codeIn K cd19 "law"=true) (k19:keepIn K (.ref f19)=true)
  (z_all:nsIn K mainGlobals "all"=some none)
  (z_bool:nsIn K mainGlobals "bool"=some none)
  (z_enumerate:nsIn K mainGlobals "enumerate"=some none)
  (z_int:nsIn K mainGlobals "int"=some none)
  (z_isinstance:nsIn K mainGlobals "isinstance"=some none)
  (z_len:nsIn K mainGlobals "len"=some none)
  (z_list:nsIn K mainGlobals "list"=some none)
  (z_max:nsIn K mainGlobals "max"=some none)
  (z_min:nsIn K mainGlobals "min"=some none)
  (z_range:nsIn K mainGlobals "range"=some none)
  (z_repr:nsIn K mainGlobals "repr"=some none)
  (z_sorted:nsIn K mainGlobals "sorted"=some none)
  (z_str:nsIn K mainGlobals "str"=some none)
  (z_tuple:nsIn K mainGlobals "tuple"=some none)
  (v_MOST_SIGNS:nsIn K mainGlobals "MOST_SIGNS"=some (some (.int 8 t_MOST_SIGNS)))
  (v_MOST_NUMBER:nsIn K mainGlobals "MOST_NUMBER"=some (some (.int 1000000 t_MOST_NUMBER)))
  (v_MOST_PLACES:nsIn K mainGlobals "MOST_PLACES"=some (some (.int 24 t_MOST_PLACES)))
  (v_MOST_TIES:nsIn K mainGlobals "MOST_TIES"=some (some (.int 60 t_MOST_TIES)))
  : ∃fd:FuncData,(∀(s:Shared) (v:Value),BindsTo s fd ⟨[v],[]⟩ [("_law_script",v)])/\∀base:Heap,K.In base->base.Ns mainGlobals mg->BE l.prog w K mg base Cq 7 fa fd ["_law_script"] (HX K):=by
 have e:=hfa.symm.trans (mg_of X G a19)
 cases e
 have T:Txt K mg:=⟨mg_none_of X G z_all,mg_none_of X G z_bool,mg_none_of X G z_enumerate,mg_none_of X G z_int,mg_none_of X G z_isinstance,mg_none_of X G z_len,mg_none_of X G z_list,mg_none_of X G z_max,mg_none_of X G z_min,mg_none_of X G z_range,mg_none_of X G z_repr,mg_none_of X G z_sorted,mg_none_of X G z_str,mg_none_of X G z_tuple,⟨_,mg_of X G v_MOST_SIGNS⟩,⟨_,mg_of X G v_MOST_NUMBER⟩,⟨_,mg_of X G v_MOST_PLACES⟩,⟨_,mg_of X G v_MOST_TIES⟩⟩
 have F0:=A0 (st:=Bl) l0 c0 k0
 have b0:=F0.binds (ps:=["thing"]) fun _ _ _ _ _ _ us hl=>by revert hl; revert us; exact fun us hl=>Dd (g:=fun us=>bindArgs _ ⟨us,[]⟩) (k:=fun us=>pure (List.zip _ us)) us hl fun _=>rfl
 have F1:=A0 (st:=BP) l1 c1 k1
 have b1:=F1.binds (ps:=["thing"]) fun _ _ _ _ _ _ us hl=>by revert hl; revert us; exact fun us hl=>Dd (g:=fun us=>bindArgs _ ⟨us,[]⟩) (k:=fun us=>pure (List.zip _ us)) us hl fun _=>rfl
 have F2:=A0 (st:=Bz) l2 c2 k2
 have b2:=F2.binds (ps:=["thing"]) fun _ _ _ _ _ _ us hl=>by revert hl; revert us; exact fun us hl=>Dd (g:=fun us=>bindArgs _ ⟨us,[]⟩) (k:=fun us=>pure (List.zip _ us)) us hl fun _=>rfl
 have F3:=A0 (st:=BN) l3 c3 k3
 have b3:=F3.binds (ps:=["ties"]) fun _ _ _ _ _ _ us hl=>by revert hl; revert us; exact fun us hl=>Dd (g:=fun us=>bindArgs _ ⟨us,[]⟩) (k:=fun us=>pure (List.zip _ us)) us hl fun _=>rfl
 have F4:=A0 (st:=Cr) l4 c4 k4
 have b4:=F4.binds (ps:=["net"]) fun _ _ _ _ _ _ us hl=>by revert hl; revert us; exact fun us hl=>Dd (g:=fun us=>bindArgs _ ⟨us,[]⟩) (k:=fun us=>pure (List.zip _ us)) us hl fun _=>rfl
 have F5:=A0 (st:=BQ) l5 c5 k5
 have b5:=F5.binds (ps:=["word"]) fun _ _ _ _ _ _ us hl=>by revert hl; revert us; exact fun us hl=>Dd (g:=fun us=>bindArgs _ ⟨us,[]⟩) (k:=fun us=>pure (List.zip _ us)) us hl fun _=>rfl
 have F6:=A0 (st:=A6) l6 c6 k6
 have b6:=F6.binds (ps:=["words","places","ties"]) fun _ _ _ _ _ _ us hl=>by revert hl; revert us; exact fun us hl=>Hw (g:=fun us=>bindArgs _ ⟨us,[]⟩) (k:=fun us=>pure (List.zip _ us)) us hl fun _ _ _=>rfl
 have F7:=A0 (st:=Ap) l7 c7 k7
 have b7:=F7.binds (ps:=["a","b","places","ties"]) fun _ _ _ _ _ _ us hl=>by revert hl; revert us; exact fun us hl=>RJ (g:=fun us=>bindArgs _ ⟨us,[]⟩) (k:=fun us=>pure (List.zip _ us)) us hl fun _ _ _ _=>rfl
 have F8:=A0 (st:=BO) l8 c8 k8
 have b8:=F8.binds (ps:=["words","places","ties"]) fun _ _ _ _ _ _ us hl=>by revert hl; revert us; exact fun us hl=>Hw (g:=fun us=>bindArgs _ ⟨us,[]⟩) (k:=fun us=>pure (List.zip _ us)) us hl fun _ _ _=>rfl
 have F9:=A0 (st:=BH) l9 c9 k9
 have b9:=F9.binds (ps:=["words","places","ties"]) fun _ _ _ _ _ _ us hl=>by revert hl; revert us; exact fun us hl=>Hw (g:=fun us=>bindArgs _ ⟨us,[]⟩) (k:=fun us=>pure (List.zip _ us)) us hl fun _ _ _=>rfl
 have F10:=A0 (st:=Bk) l10 c10 k10
 have b10:=F10.binds (ps:=["lines"]) fun _ _ _ _ _ _ us hl=>by revert hl; revert us; exact fun us hl=>Dd (g:=fun us=>bindArgs _ ⟨us,[]⟩) (k:=fun us=>pure (List.zip _ us)) us hl fun _=>rfl
 have F11:=A0 (st:=BS) l11 c11 k11
 have b11:=F11.binds (ps:=["_law_script"]) fun _ _ _ _ _ _ us hl=>by revert hl; revert us; exact fun us hl=>Dd (g:=fun us=>bindArgs _ ⟨us,[]⟩) (k:=fun us=>pure (List.zip _ us)) us hl fun _=>rfl
 have F12:=A0 (st:=BB) l12 c12 k12
 have b12:=F12.binds (ps:=["_law_feed_here","_law_many"]) fun _ _ _ _ _ _ us hl=>by revert hl; revert us; exact fun us hl=>MB (g:=fun us=>bindArgs _ ⟨us,[]⟩) (k:=fun us=>pure (List.zip _ us)) us hl fun _ _=>rfl
 have F13:=A0 (st:=BI) l13 c13 k13
 have b13:=F13.binds (ps:=[]) fun _ _ _ _ _ _ us hl=>by revert hl; revert us; exact fun us hl=>Hx (g:=fun us=>bindArgs _ ⟨us,[]⟩) (k:=fun us=>pure (List.zip _ us)) us hl rfl
 have F14:=A0 (st:=A7) l14 c14 k14
 have b14:=F14.binds (ps:=["_law_feed_here","_law_many"]) fun _ _ _ _ _ _ us hl=>by revert hl; revert us; exact fun us hl=>MB (g:=fun us=>bindArgs _ ⟨us,[]⟩) (k:=fun us=>pure (List.zip _ us)) us hl fun _ _=>rfl
 have F15:=A0 (st:=A8) l15 c15 k15
 have b15:=F15.binds (ps:=["_law_feed_here","_law_sort"]) fun _ _ _ _ _ _ us hl=>by revert hl; revert us; exact fun us hl=>MB (g:=fun us=>bindArgs _ ⟨us,[]⟩) (k:=fun us=>pure (List.zip _ us)) us hl fun _ _=>rfl
 have F16:=A0 (st:=BR) l16 c16 k16
 have b16:=F16.binds (ps:=["_law_feed_here","_law_places_here","_law_most"]) fun _ _ _ _ _ _ us hl=>by revert hl; revert us; exact fun us hl=>Hw (g:=fun us=>bindArgs _ ⟨us,[]⟩) (k:=fun us=>pure (List.zip _ us)) us hl fun _ _ _=>rfl
 have F17:=A0 (st:=Bm) l17 c17 k17
 have b17:=F17.binds (ps:=["_law_feed_here","_law_most","_law_ties_here"]) fun _ _ _ _ _ _ us hl=>by revert hl; revert us; exact fun us hl=>Hw (g:=fun us=>bindArgs _ ⟨us,[]⟩) (k:=fun us=>pure (List.zip _ us)) us hl fun _ _ _=>rfl
 have F18:=A0 (st:=BJ) l18 c18 k18
 have b18:=F18.binds (ps:=["_law_net_here"]) fun _ _ _ _ _ _ us hl=>by revert hl; revert us; exact fun us hl=>Dd (g:=fun us=>bindArgs _ ⟨us,[]⟩) (k:=fun us=>pure (List.zip _ us)) us hl fun _=>rfl
 have F19:=A0 (st:=DP) l19 c19 k19
 refine⟨fnOf "law" "law" (AX DP) (AT DP) (AC DP) .none kV19 dc19 pm19 an19 cd19 ct19,fun s v=>.of_eq rfl,fun base _ _=>?_⟩
 have G_is_whole:Got l.prog w K mg base "is_whole" 1 ["thing"] .sh FJ:=A_ F0 (mg_of X G a0) b0 (fun _ _ _ h=>D1 h) (Hm T  F0)
 have G_is_number:Got l.prog w K mg base "is_number" 2 ["thing"] .sh Du:=A_ F1 (mg_of X G a1) b1 (fun _ _ _ h=>D1 h) (Gs T G_is_whole F1)
 have G_is_name:Got l.prog w K mg base "is_name" 1 ["thing"] .sh Ib:=A_ F2 (mg_of X G a2) b2 (fun _ _ _ h=>D1 h) (I_ T  F2)
 have G_tie_texts:Got l.prog w K mg base "tie_texts" 1 ["ties"] .fr IY:=A_ F3 (mg_of X G a3) b3 (fun _ _ _ h=>by obtain⟨_,e,_⟩:=h; rw [e]; rfl) (Gq T  F3)
 have G_shown:Got l.prog w K mg base "shown" 2 ["net"] .fr CG:=A_ F4 (mg_of X G a4) b4 (fun _ _ _ h=>by obtain⟨_,e,_⟩:=h; rw [e]; rfl) (L0 T G_tie_texts F4)
 have G_is_length:Got l.prog w K mg base "is_length" 3 ["word"] .sh FK:=A_ F5 (mg_of X G a5) b5 (fun _ _ _ h=>by obtain⟨_,e,_⟩:=h; rw [e]; rfl) (Gu T G_is_number F5)
 have G_place_fault:Got l.prog w K mg base "place_fault" 2 ["words","places","ties"] .sh GQ:=A_ F6 (mg_of X G a6) b6 (fun _ _ _ h=>by obtain⟨_,_,e,_⟩:=h; rw [e]; rfl) (Ey T G_is_name F6)
 have G_is_second_end:Got l.prog w K mg base "is_second_end" 1 ["a","b","places","ties"] .sh IZ:=A_ F7 (mg_of X G a7) b7 (fun _ _ _ h=>by obtain⟨_,_,_,e,_⟩:=h; rw [e]; rfl) (D5 T  F7)
 have G_tie_fault:Got l.prog w K mg base "tie_fault" 4 ["words","places","ties"] .sh GO:=A_ F8 (mg_of X G a8) b8 (fun _ _ _ h=>by obtain⟨_,_,_,e,_⟩:=h; rw [e]; rfl) (Gr T G_is_length G_is_second_end F8)
 have G_line_fault:Got l.prog w K mg base "line_fault" 5 ["words","places","ties"] .sh Ic:=A_ F9 (mg_of X G a9) b9 (fun _ _ _ h=>by rcases h with ⟨_,_,e,_⟩ | ⟨_,_,_,e,_⟩ <;> (rw [e]; rfl)) (FW T G_place_fault G_tie_fault F9)
 have G_read_net:Got l.prog w K mg base "read_net" 6 ["lines"] .sh GP:=A_ F10 (mg_of X G a10) b10 (fun _ _ _ h=>by obtain⟨_,e,_⟩:=h; rw [e]; rfl) (Hl T G_line_fault F10)
 have Gf:=Gw (P:=l.prog) (w:=w) (base:=base) T F11
 have G__law_next:Got l.prog w K mg base "_law_next" 1 ["_law_feed_here","_law_many"] .sh Bt:=A_ F12 (mg_of X G a12) b12 (fun _ _ _ h=>by obtain⟨_,e,_⟩:=h; rw [e]; rfl) (N0 F12 T.n_len)
 have G__law_names:Got l.prog w K mg base "_law_names" 1 [] .sh Dv:=A_ F13 (mg_of X G a13) b13 (fun _ _ _ h=>by obtain⟨e,_⟩:=h; rw [e]; rfl) (FX T  F13)
 have G__law_places:Got l.prog w K mg base "_law_places" 2 ["_law_feed_here","_law_many"] .sh B5:=A_ F14 (mg_of X G a14) b14 (fun _ _ _ h=>by obtain⟨_,e,_⟩:=h; rw [e]; rfl) (Ez T G__law_names G__law_next F14)
 have G__law_length:Got l.prog w K mg base "_law_length" 2 ["_law_feed_here","_law_sort"] .sh Id:=A_ F15 (mg_of X G a15) b15 (fun _ _ _ h=>by obtain⟨_,e,_⟩:=h; rw [e]; rfl) (E1 T G__law_next F15)
 have G__law_ties:Got l.prog w K mg base "_law_ties" 3 ["_law_feed_here","_law_places_here","_law_most"] .sh DC:=A_ F16 (mg_of X G a16) b16 (fun _ _ _ h=>by obtain⟨_,_,e,_⟩:=h; rw [e]; rfl) (Gv T G__law_length G__law_next F16)
 have G__law_net:Got l.prog w K mg base "_law_net" 4 ["_law_feed_here","_law_most","_law_ties_here"] .sh GR:=A_ F17 (mg_of X G a17) b17 (fun _ _ _ h=>by obtain⟨_,_,e,_⟩:=h; rw [e]; rfl) (Hn T G__law_next G__law_places G__law_ties F17)
 have G__law_lines:Got l.prog w K mg base "_law_lines" 1 ["_law_net_here"] .fr CG:=A_ F18 (mg_of X G a18) b18 (fun _ _ _ h=>by obtain⟨_,e,_⟩:=h; rw [e]; rfl) (FY T  F18)
 exact P1 T Gf (mg_of X G a11) F11.kp b11 G__law_lines G__law_net G__law_next G__law_places G__law_ties G_read_net G_shown F19
theorem walk{l:PySem.W.OpenLaw}{q:Program}{loose:List Str}{XP:(Str->Option Value)->Heap->Prop}{YP:World->Heap->Prop}{d:DefRec}{K:Params->Frag}(hn:l.most=some 63)(hdf:d.params.defaults=[])
  (hY:∀(w:World) (h:Heap),YP w h->(K w.params).In h)
  (F:∀(w:World) (mg:Str->Option Value) (fa:Addr) (h:Heap),(K w.params).In h->h.Ns mainGlobals mg->mg d.name=some (.ref fa) ->
   ∃fd:FuncData,(∀(s:Shared) (u:Value),BindsTo s fd ⟨[u],[]⟩ [("_law_script",u)])/\∀base:Heap,(K w.params).In base->base.Ns mainGlobals mg->BE l.prog w (K w.params) mg base Cq 7 fa fd ["_law_script"] (HX (K w.params))) :
  PySem.W.WalkO q loose XP YP l.row.toRowW d [] (fun f vs=>PySem.call f vs) :=
 L2.Ja (n:=63) (k:=7) (x := "_law_script") (CX:=fun _=>Cq) (sp:=fun w=>HX (K w.params)) hn (by decide) hdf ⟨rfl,by decide,by decide,rfl⟩ hY F (fun _ _ a ns hl _ hS=>⟨a,ns,rfl,⟨hl,hS⟩,fun _=>rfl⟩) fun _ _ _ _ _ z=>z
end K71
end _p
open _p
open PySem PySem.W PyProof.Rows
set_option maxRecDepth 100000 in
set_option maxHeartbeats 0 in
theorem PySem.Challenge.cw_thinnet_k71_lines_there_and_back_holds : PySem.Challenge.rw_thinnet_k71_lines_there_and_back.Holds := by
 w_on; o_law; k_head; (case hw=>w_witness2)
 k_fill
 refine K71.walk (l:=PySem.Challenge.rw_thinnet_k71_lines_there_and_back) rfl rfl (fun w h Y=>PySem.W.kIn_of Y) ?F
 case F =>
  intro w mg fa h KX G hmg
  refine' K71.all_mk KX G hmg ?a0 ?l0 ?c0 ?k0 ?a1 ?l1 ?c1 ?k1 ?a2 ?l2 ?c2 ?k2 ?a3 ?l3 ?c3 ?k3 ?a4 ?l4 ?c4 ?k4 ?a5 ?l5 ?c5 ?k5 ?a6 ?l6 ?c6 ?k6 ?a7 ?l7 ?c7 ?k7 ?a8 ?l8 ?c8 ?k8 ?a9 ?l9 ?c9 ?k9 ?a10 ?l10 ?c10 ?k10 ?a11 ?l11 ?c11 ?k11 ?a12 ?l12 ?c12 ?k12 ?a13 ?l13 ?c13 ?k13 ?a14 ?l14 ?c14 ?k14 ?a15 ?l15 ?c15 ?k15 ?a16 ?l16 ?c16 ?k16 ?a17 ?l17 ?c17 ?k17 ?a18 ?l18 ?c18 ?k18 ?a19 ?l19 ?c19 ?k19 ?z_all ?z_bool ?z_enumerate ?z_int ?z_isinstance ?z_len ?z_list ?z_max ?z_min ?z_range ?z_repr ?z_sorted ?z_str ?z_tuple ?v_MOST_SIGNS ?v_MOST_NUMBER ?v_MOST_PLACES ?v_MOST_TIES
  case a0=>k_is
  case l0=>k_is
  case c0=>k_is
  case k0=>k_is
  case a1=>k_is
  case l1=>k_is
  case c1=>k_is
  case k1=>k_is
  case a2=>k_is
  case l2=>k_is
  case c2=>k_is
  case k2=>k_is
  case a3=>k_is
  case l3=>k_is
  case c3=>k_is
  case k3=>k_is
  case a4=>k_is
  case l4=>k_is
  case c4=>k_is
  case k4=>k_is
  case a5=>k_is
  case l5=>k_is
  case c5=>k_is
  case k5=>k_is
  case a6=>k_is
  case l6=>k_is
  case c6=>k_is
  case k6=>k_is
  case a7=>k_is
  case l7=>k_is
  case c7=>k_is
  case k7=>k_is
  case a8=>k_is
  case l8=>k_is
  case c8=>k_is
  case k8=>k_is
  case a9=>k_is
  case l9=>k_is
  case c9=>k_is
  case k9=>k_is
  case a10=>k_is
  case l10=>k_is
  case c10=>k_is
  case k10=>k_is
  case a11=>k_is
  case l11=>k_is
  case c11=>k_is
  case k11=>k_is
  case a12=>k_is
  case l12=>k_is
  case c12=>k_is
  case k12=>k_is
  case a13=>k_is
  case l13=>k_is
  case c13=>k_is
  case k13=>k_is
  case a14=>k_is
  case l14=>k_is
  case c14=>k_is
  case k14=>k_is
  case a15=>k_is
  case l15=>k_is
  case c15=>k_is
  case k15=>k_is
  case a16=>k_is
  case l16=>k_is
  case c16=>k_is
  case k16=>k_is
  case a17=>k_is
  case l17=>k_is
  case c17=>k_is
  case k17=>k_is
  case a18=>k_is
  case l18=>k_is
  case c18=>k_is
  case k18=>k_is
  case a19=>k_is
  case l19=>k_is
  case c19=>k_is
  case k19=>k_is
  case z_all=>k_is
  case z_bool=>k_is
  case z_enumerate=>k_is
  case z_int=>k_is
  case z_isinstance=>k_is
  case z_len=>k_is
  case z_list=>k_is
  case z_max=>k_is
  case z_min=>k_is
  case z_range=>k_is
  case z_repr=>k_is
  case z_sorted=>k_is
  case z_str=>k_is
  case z_tuple=>k_is
  case v_MOST_SIGNS=>k_is
  case v_MOST_NUMBER=>k_is
  case v_MOST_PLACES=>k_is
  case v_MOST_TIES=>k_is
#print axioms PySem.Challenge.cw_thinnet_k71_lines_there_and_back_holds

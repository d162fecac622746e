import PyProof.Rows.All
import Wide.All
import OpenK.AllK
import Wide.FinOn
import Lean
import PyProof.EqAt
import PyProof.EqKinds
import PyProof.TupleCall
import PyProof.P3In
import PyProof.NeData
import PyProof.ReprLen
import PyProof.CompUse
import KE.KSortTup
import PyProof.SumAny
import PyProof.Rows.SeqCalls
import KE.KRevIter
import PyProof.TupleOfGen
import PyProof.CollectIter
import PyProof.Draws
import PyProof.EnumMake
import PyProof.ConsumeS
import PyProof.WalkInts
import PySem.SetOps
import PyProof.TupleKey
import PyProof.SetKind
import PyProof.IsRules
import PyProof.Rows.SetFrom
import PyProof.WalksMore
import PyProof.TupleIter
import KE.KDictSum
import PySem.Challenge.RW_thinnet_k08_rounds
open PySem.W (Frag nsIn keepIn fnOf codeIn mg_of mg_none_of)
set_option genSizeOf false
set_option Elab.async false
set_option linter.all false
set_option maxRecDepth 100000
namespace L2
open PySem PySem.Spec PyProof.Rows
noncomputable abbrev Key:=Sum Int Str
noncomputable def HN:Key->Value->Bool
 | .inl k,v=>Value.isInt k v
 | .inr x,v=>Value.isStrOf x v
noncomputable def Um(w:World):Key->Int
 | .inl k=>hashInt k
 | .inr x=>hashStr w x
theorem Aw:∀{k:Key} {v:Value},HN k v=true->(∃i t,k=Sum.inl i/\v=Value.int i t)\/(∃x t,k=Sum.inr x/\v=Value.str x t)
 | .inl i,v,h=>by
  obtain⟨t,e⟩:=Value.isInt_shape (k:=i) (v:=v) h
  exact .inl ⟨i,t,rfl,e⟩
 | .inr x,v,h=>by
  obtain⟨t,e⟩:=Value.isStrOf_shape (x:=x) (v:=v) h
  exact .inr ⟨x,t,rfl,e⟩
theorem Ms(i:Int)(t:Tok):HN (.inl i) (.int i t)=true:=by simp [HN,Value.isInt]
theorem Mr(x:Str)(t:Tok):HN (.inr x) (.str x t)=true:=by simp [HN,Value.isStrOf]
theorem SE(a b:Int):decide ((Sum.inl a:Key)=Sum.inl b)=(a==b):=by
 by_cases e:a=b
 ·subst e; simp
 ·have h:¬(Sum.inl a:Key)=Sum.inl b:=fun q=>e (Sum.inl.inj q)
  rw [decide_eq_false h]
  exact(beq_eq_false_iff_ne.mpr e).symm
theorem R_(a b:Str):decide ((Sum.inr a:Key)=Sum.inr b)=decide (a=b):=by
 by_cases e:a=b
 ·subst e; simp
 ·have h:¬(Sum.inr a:Key)=Sum.inr b:=fun q=>e (Sum.inr.inj q)
  rw [decide_eq_false h,decide_eq_false e]
theorem SD(a:Int)(b:Str):decide ((Sum.inl a:Key)=Sum.inr b)=false:=decide_eq_false (fun q=>nomatch q)
theorem SA(a:Str)(b:Int):decide ((Sum.inr a:Key)=Sum.inl b)=false:=decide_eq_false (fun q=>nomatch q)
noncomputable def AR(prog:Program)(w:World):PySem.KeyKind prog w Key where
 is:=HN
 hash:=Um w
 inj:=fun v a b ha hb=>by
  rcases Aw ha with ⟨i,t,rfl,rfl⟩ | ⟨x,t,rfl,rfl⟩
  ·rcases Aw hb with ⟨j,u,rfl,e⟩ | ⟨y,u,rfl,e⟩
   ·injection e with e1 _; rw [e1]
   ·exact nomatch e
  ·rcases Aw hb with ⟨j,u,rfl,e⟩ | ⟨y,u,rfl,e⟩
   ·exact nomatch e
   ·injection e with e1 _; rw [e1]
 byValue:=fun k v h=>by
  rcases Aw h with ⟨i,t,rfl,rfl⟩ | ⟨x,t,rfl,rfl⟩ <;> rfl
 pyHash:=fun hv h=>by
  rcases Aw hv with ⟨i,t,rfl,rfl⟩ | ⟨x,t,rfl,rfl⟩
  ·exact wpAny_pyHash_int h
  ·exact wpAny_pyHash_str h
 eqBool:=fun hu hv h=>by
  rcases Aw hu with ⟨i,t,rfl,rfl⟩ | ⟨x,t,rfl,rfl⟩
  ·rcases Aw hv with ⟨j,u,rfl,rfl⟩ | ⟨y,u,rfl,rfl⟩
   ·rw [SE] at h; exact wpAny_eqBool_int h
   ·rw [SD] at h; exact SeqAt.EqAt.int_str i t y u _ _ _ _ h
  ·rcases Aw hv with ⟨j,u,rfl,rfl⟩ | ⟨y,u,rfl,rfl⟩
   ·rw [SA] at h; exact SeqAt.EqAt.str_int x t j u _ _ _ _ h
   ·rw [R_] at h; exact wpAny_eqBool_str h
 «strs»:=fun k x t v h=>by
  rcases Aw h with ⟨i,u,rfl,e⟩ | ⟨y,u,rfl,e⟩
  ·exact nomatch e
  ·injection e with e1 _
   subst e1
   cases v <;> rfl
theorem JV(prog:Program)(w:World)(i:Int)(t:Tok):(AR prog w).is (.inl i) (.int i t)=true:=Ms i t
theorem JU(prog:Program)(w:World)(x:Str)(t:Tok):(AR prog w).is (.inr x) (.str x t)=true:=Mr x t
inductive V where
 | non | bl (b:Bool) | int (i:Int) | str (x:Str) | byt (b:Array UInt8) | flt (b:UInt64) | ref (a:Addr) | ty (n:String)
 deriving DecidableEq
noncomputable def RelV:V->Value->Prop
 | .non,u=>u=Value.none
 | .bl b,u=>u=Value.bool b
 | .int i,u=>∃t,u=Value.int i t
 | .str x,u=>∃t,u=Value.str x t
 | .byt b,u=>∃t,u=Value.bytes b t
 | .flt b,u=>∃t,u=Value.float b t
 | .ref a,u=>u=Value.ref a
 | .ty n,u=>u=Value.type n
noncomputable abbrev Vals:List V->List Value->Prop:=Paired RelV
theorem Vals.length{xs:List V}{us:List Value}(r:Vals xs us):xs.length=us.length:=Paired.length r
theorem Vals.get:∀{xs:List V} {us:List Value} {i:Nat} {x:V},Vals xs us->xs[i]?=some x->∃u,us[i]?=some u/\RelV x u
 | _,_,_,_,.nil,e=>by simp at e
 | _,_,0,_,.cons r _,e=>by simp at e; subst e; exact⟨_,rfl,r⟩
 | _,_,i+1,x,.cons _ t,e=>by
  obtain⟨u,h1,h2⟩:=Vals.get (i:=i) (x:=x) t (by simpa using e)
  exact⟨u,by simpa using h1,h2⟩
theorem Vals.set{x:V}{u:Value}(r:RelV x u):∀{xs:List V} {us:List Value} (i:Nat),Vals xs us->Vals (xs.set i x) (us.set i u)
 | _,_,_,.nil=>.nil
 | _,_,0,.cons _ t=>.cons r t
 | _,_,i+1,.cons q t=>.cons q (Vals.set r i t)
theorem Vals.append:∀{xs ys:List V} {us ws:List Value},Vals xs us->Vals ys ws->Vals (xs++ys) (us++ws)
 | _,_,_,_,.nil,s=>s
 | _,_,_,_,.cons r t,s=>.cons r (Vals.append t s)
theorem Vals.take:∀{xs:List V} {us:List Value} (n:Nat),Vals xs us->Vals (xs.take n) (us.take n)
 | _,_,0,_=>.nil
 | _,_,_+1,.nil=>.nil
 | _,_,n+1,.cons r t=>.cons r (Vals.take n t)
theorem Vals.drop:∀{xs:List V} {us:List Value} (n:Nat),Vals xs us->Vals (xs.drop n) (us.drop n)
 | _,_,0,r=>r
 | _,_,_+1,.nil=>.nil
 | _,_,n+1,.cons _ t=>Vals.drop n t
noncomputable def RelO:Option V->Option Value->Prop
 | some v,some u=>RelV v u
 | none,none=>True
 | _,_=>False
noncomputable def KV{κ:Type}:List (κ×V)->List (κ×Value)->Prop:=Paired fun(p:κ×V) (q:κ×Value)=>p.1=q.1/\RelV p.2 q.2
noncomputable def kV:Key->V
 | .inl i=>.int i
 | .inr x=>.str x
inductive HO where
 | lst (xs:List V)
 | tup (xs:List V)
 | dK (kvs:List (Key×V)) | dT (kvs:List (List Key×V))
 | set (S:Int->Bool) (n:Nat)
 | ins (C dx:Addr) (fs:List (Str×V))
 | own (x:Addr)
 | xd (fs:List (Str×V))
 | met (f x:Addr)
 | rng (lo hi:Int)
 | frz (o:Obj) (u:HO)
 | tbl (ps:Array Value)
 | ext (φ:Heap->Prop)
noncomputable abbrev Hp:=Addr->Option HO
noncomputable def Ax(H:Hp)(a:Addr)(o:HO):Hp:=fun b=>if b=a then some o else H b
theorem AM{H:Hp}{a:Addr}{o:HO}:Ax H a o a=some o:=by unfold Ax; rw [if_pos rfl]
theorem AI{H:Hp}{a b:Addr}{o:HO}(h:b≠a):Ax H a o b=H b:=by unfold Ax; rw [if_neg h]
theorem Tg{H:Hp}{a b:Addr}{o u:HO}(h:H a=some o)(h':H b=some u)(d:o≠u):a≠b:=by
 intro e; subst e; rw [h] at h'; exact d (Option.some.inj h')
theorem Ay{H:Hp}{a b:Addr}{o:HO}(h:H a=some o)(h':H b=none):a≠b:=by
 intro e; subst e; rw [h] at h'; cases h'
noncomputable def IsTupN(h:Heap)(a:Addr)(items:Array Value):Prop:=∃o,h.get? a=some o/\o.cls=.type "tuple"/\∃n,o.data=.seq items n/\o.dict=none/\o.slots=#[]
theorem IsTupN.tup{h:Heap}{a:Addr}{items:Array Value}(x:IsTupN h a items):IsTup h a items:=let ⟨o,h1,h2,n,h3,_⟩:=x; ⟨o,h1,h2,n,h3⟩
theorem IsTupN.new(h:Heap)(items:Array Value):IsTupN (h.push { cls:=.type "tuple",data:=.seq items }) h.objs.size items:=⟨_,Heap.get?_push_size _ rfl,rfl,_,rfl,rfl,rfl⟩
section
variable (P:Program)(w:World)
noncomputable def ObjOk(H:Hp)(h:Heap)(a:Addr):HO->Prop
 | .lst xs=>xs.length<=sizeLine/\∃(its:List Value) (n:Nat),Vals xs its/\h.get? a=some { cls:=.type "list",data:=.seq its.toArray n }
 | .tup xs=>xs.length<=sizeLine/\∃its:List Value,Vals xs its/\IsTupN h a its.toArray
 | .dK kvs=>kvs.length<=sizeLine/\(a==sysModules)=false/\∃vs,KV kvs vs/\h.DictOf (AR P w) a vs
 | .dT kvs=>kvs.length<=sizeLine/\(a==sysModules)=false/\∃xs:List (List Key×Addr×Value),
   Paired (fun(p:List Key×V) (q:List Key×Addr×Value)=>p.1=q.1/\H q.2.1=some (.tup (p.1.map kV))/\RelV p.2 q.2.2) kvs xs /\
   ∃o es ep,h.get? a=some o/\o.ExactDict/\o.data=.dict es ep/\es.toList=xs.map (entryOfKey (tupleKind (AR P w)))/\(xs.map (·.1)).Nodup
 | .set S n=>h.SetOf (intKind P w) a S n
 | .ins C dx fs=>H dx=some (.own a)/\fs.length<=1000/\dx≠a/\h.get? a=some (PySem.W.instObj C dx) /\
   ∃mA,h.Ns1 dx mA/\(∀f,RelO (fs.lookup f) (mA f))/\PySem.Within mA (fs.map (·.1))
 | .own _=>∃o,h.get? a=some o
 | .xd fs=>∃mA,h.Ns1 a mA/\∀f,RelO (fs.lookup f) (mA f)
 | .rng lo hi=>∃t u v,h.get? a=some { cls:=.type "range",data:=.fields #[.int lo t,.int hi u,.int 1 v] }
 | .frz o u=>h.get? a=some o/\ObjOk H h a u
 | .tbl ps=>h.get? a=some { cls:=.none,data:=.fields ps }
 | .met f x=>h.get? a=some (PySem.W.methodObj (.ref f) (.ref x))
 | .ext φ=>φ h/\(∃o,h.get? a=some o)/\∀h1 h2:Heap,φ h1->(∀o,h1.get? a=some o->h2.get? a=some o)->φ h2
noncomputable def HOk(H:Hp)(h:Heap):Prop:=∀a o,H a=some o->ObjOk P w H h a o
end
section
variable {P:Program}{w:World}{H H':Hp}{h h':Heap}{a:Addr}{o:HO}
theorem ObjOk.lt(x:ObjOk P w H h a o):a<h.objs.size:=by
 cases o with
 | lst xs=>obtain⟨_,_,_,_,e⟩:=x; exact Heap.lt_size e
 | tup xs=>obtain⟨_,_,_,p⟩:=x; exact p.tup.lt
 | dK kvs=>obtain⟨_,_,_,_,o,_,_,e,_⟩:=x; exact Heap.lt_size e
 | dT kvs=>obtain⟨_,_,_,_,o,_,_,e,_⟩:=x; exact Heap.lt_size e
 | set S n=>obtain⟨o,_,_,_,e,_⟩:=x; exact Heap.lt_size e
 | ins C dx fs=>obtain⟨_,_,_,e,_⟩:=x; exact Heap.lt_size e
 | own y=>obtain⟨_,e⟩:=x; exact Heap.lt_size e
 | xd fs=>obtain⟨_,⟨_,_,_,e,_⟩,_⟩:=x; exact Heap.lt_size e
 | rng lo hi=>obtain⟨_,_,_,e⟩:=x; exact Heap.lt_size e
 | frz ob u=>obtain⟨e,_⟩:=x; exact Heap.lt_size e
 | tbl ps=>exact Heap.lt_size (show h.get? a=some _ from x)
 | met f y=>exact Heap.lt_size (show h.get? a=some _ from x)
 | ext φ=>obtain⟨_,⟨_,e⟩,_⟩:=x; exact Heap.lt_size e
theorem Paired.mapP{α β:Type}{F G:α->β->Prop}:∀{l₁:List α} {l₂:List β},Paired F l₁ l₂->(∀a b,F a b->G a b)->Paired G l₁ l₂
 | _,_,.nil,_=>.nil
 | _,_,.cons r t,f=>.cons (f _ _ r) (Paired.mapP t f)
theorem ObjOk.stay(x:ObjOk P w H h a o)(k:∀b u,(b=a\/H b=some (.own a))->h.get? b=some u->h'.get? b=some u)
  (ho:∀b,H b=some (.own a)->H' b=some (.own a)) (ht:∀b xs,H b=some (.tup xs)->H' b=some (.tup xs)):ObjOk P w H' h' a o:=by
 induction o with
 | lst xs=>obtain⟨z,its,n,r,e⟩:=x; exact⟨z,its,n,r,k _ _ (.inl rfl) e⟩
 | tup xs=>obtain⟨z,its,r,ob,e,c⟩:=x; exact⟨z,its,r,ob,k _ _ (.inl rfl) e,c⟩
 | dK kvs=>obtain⟨z,y,vs,r,ob,es,ep,e,c⟩:=x; exact⟨z,y,vs,r,ob,es,ep,k _ _ (.inl rfl) e,c⟩
 | dT kvs =>
  obtain⟨z,y,xs,r,ob,es,ep,e,c⟩:=x
  exact⟨z,y,xs,Paired.mapP r fun p q z=>⟨z.1,ht _ _ z.2.1,z.2.2⟩,ob,es,ep,k _ _ (.inl rfl) e,c⟩
 | set S n=>obtain⟨ob,es,ep,t,e,c⟩:=x; exact⟨ob,es,ep,t,k _ _ (.inl rfl) e,c⟩
 | ins C dx fs =>
  obtain⟨d,z,ne,e,mA,⟨od,es,ep,e2,c⟩,r⟩:=x
  exact⟨ho _ d,z,ne,k _ _ (.inl rfl) e,mA,⟨od,es,ep,k _ _ (.inr d) e2,c⟩,r⟩
 | own y=>obtain⟨ob,e⟩:=x; exact⟨ob,k _ _ (.inl rfl) e⟩
 | xd fs=>obtain⟨mA,⟨od,es,ep,e,c⟩,r⟩:=x; exact⟨mA,⟨od,es,ep,k _ _ (.inl rfl) e,c⟩,r⟩
 | rng lo hi=>obtain⟨t,u,v,e⟩:=x; exact⟨t,u,v,k _ _ (.inl rfl) e⟩
 | frz ob u ih=>obtain⟨e,q⟩:=x; exact⟨k _ _ (.inl rfl) e,ih q⟩
 | tbl ps =>
  have e:h.get? a=some { cls:=.none,data:=.fields ps }:=x
  show h'.get? a=some { cls:=.none,data:=.fields ps }
  exact k a _ (.inl rfl) e
 | met f y =>
  have e:h.get? a=some (PySem.W.methodObj (.ref f) (.ref y)):=x
  show h'.get? a=some (PySem.W.methodObj (.ref f) (.ref y))
  exact k a _ (.inl rfl) e
 | ext φ=>obtain⟨p,⟨o,e⟩,st⟩:=x; exact⟨st _ _ p fun o q=>k _ _ (.inl rfl) q,⟨o,k _ _ (.inl rfl) e⟩,st⟩
theorem HOk.lt(x:HOk P w H h)(e:H a=some o):a<h.objs.size:=(x a o e).lt
theorem HOk.fresh(x:HOk P w H h)(e:h.objs.size<=a):H a=none:=by
 cases q:H a with
 | none=>rfl
 | some u=>exact absurd (Nat.lt_of_lt_of_le (x.lt q) e) (Nat.lt_irrefl _)
theorem HOk.kept(x:HOk P w H h)(k:∀b u,h.get? b=some u->h'.get? b=some u):HOk P w H h':=fun a o e =>
 (x a o e).stay (fun b u _ q=>k b u q) (fun _ q=>q) fun _ _ q=>q
theorem HOk.laid(x:HOk P w H h)(k:∀b u,h.get? b=some u->h'.get? b=some u)(hp:h.objs.size<=a)(new:ObjOk P w (Ax H a o) h' a o):HOk P w (Ax H a o) h':=fun b u e=>by
 have hn:=x.fresh hp
 by_cases hb:b=a
 ·subst hb; rw [AM] at e; cases e; exact new
 ·rw [AI hb] at e
  exact(x b u e).stay (fun c v _ q=>k c v q) (fun c q=>by rw [AI (Ay q hn)]; exact q) fun c xs q=>by rw [AI (Ay q hn)]; exact q
end
noncomputable def Rd(H:Hp)(a:Addr)(u:HO):Prop:=H a=some u\/∃o,H a=some (.frz o u)
theorem Rd.ok{P:Program}{w:World}{H:Hp}{h:Heap}{a:Addr}{u:HO}(r:Rd H a u)(x:HOk P w H h):ObjOk P w H h a u:=by
 rcases r with r | ⟨o,r⟩
 ·exact x a u r
 ·obtain⟨_,q⟩:=x a _ r
  exact q
noncomputable def UG:Option HO->Prop
 | some (.lst _)=>True
 | some (.dK _)=>True
 | some (.dT _)=>True
 | some (.set _ _)=>True
 | some (.ins _ _ _)=>True
 | some (.ext _)=>True
 | _=>False
section
variable {P:Program}{w:World}{H:Hp}{h h':Heap}{x e:Addr}{o':HO}
theorem HOk.write(ok:HOk P w H h)(mu:UG (H x))(he:e=x\/H e=some (.own x))(k:∀b u,b≠e->h.get? b=some u->h'.get? b=some u)(heo:∃u,h'.get? e=some u)
  (new:ObjOk P w (Ax H x o') h' x o'):HOk P w (Ax H x o') h':=fun b u q=>by
 have nown:∀c y,H c=some (.own y)->c≠x:=fun c y r z=>by subst z; rw [r] at mu; exact mu
 have ntup:∀c xs,H c=some (.tup xs)->c≠x:=fun c xs r z=>by subst z; rw [r] at mu; exact mu
 by_cases hb:b=x
 ·subst hb; rw [AM] at q; cases q; exact new
 ·rw [AI hb] at q
  by_cases hbe:b=e
  ·have q':H b=some (.own x):=by
    rcases he with z | z
    ·exact absurd (hbe.trans z) hb
    ·rw [hbe]; exact z
   rw [q] at q'; cases q'
   obtain⟨v,hv⟩:=heo
   exact⟨v,by rw [hbe]; exact hv⟩
  ·refine(ok b u q).stay (fun c v hc r=>k c v ?_ r) (fun c r=>by rw [AI (nown c b r)]; exact r) fun c xs r=>by rw [AI (ntup c xs r)]; exact r
   rcases hc with rfl | hc
   ·exact hbe
   ·rintro rfl
    rcases he with z | z
    ·exact nown c b hc z
    ·rw [hc] at z; cases z; exact hb rfl
end
structure Un (fs ex:List Addr) (H H':Hp) (h h':Heap):Prop where
 keep:∀b o,h.get? b=some o->H b=none->b∉fs->b∉ex->h'.get? b=some o
 slot:∀b o,h.get? b=some o->H b=none->b∈fs->b∉ex->∃sl,h'.get? b=some { o with slots:=sl }
 free:∀b o,h.get? b=some o->H b=none->b∉ex->H' b=none
 there:∀b o,h.get? b=some o->b∉ex->∃o',h'.get? b=some o'
 tups:∀b xs,H b=some (.tup xs)->H' b=some (.tup xs)
 frzs:∀b o u,H b=some (.frz o u)->H' b=some (.frz o u)
 tbls:∀b ps,H b=some (.tbl ps)->∃more,H' b=some (.tbl (ps++more))
section
variable {fs fs' ex ex':List Addr}{H H1 H2:Hp}{h h1 h2 h':Heap}{a x e:Addr}{o:HO}
theorem Un.any(u:Un fs ex H H1 h h1){b:Addr}{ob:Obj}(q:h.get? b=some ob)(n:H b=none)(hx:b∉ex):∃sl,h1.get? b=some { ob with slots:=sl }:=by
 by_cases hb:b∈fs
 ·exact u.slot b ob q n hb hx
 ·exact⟨ob.slots,u.keep b ob q n hb hx⟩
theorem Un.kept(k:∀b u,h.get? b=some u->h'.get? b=some u):Un fs ex H H h h' :=
 ⟨fun b ob q _ _ _=>k b ob q,fun b ob q _ _ _=>⟨ob.slots,k b ob q⟩,fun _ _ _ n _=>n,fun b ob q _=>⟨ob,k b ob q⟩,fun _ _ q=>q,fun _ _ _ q=>q,fun _ ps q=>⟨#[],by rw [q]; simp⟩⟩
theorem Un.refl:Un fs ex H H h h:=Un.kept fun _ _ q=>q
theorem Un.laid(k:∀b u,h.get? b=some u->h'.get? b=some u)(hp:h.objs.size<=a)(hn:H a=none):Un fs ex H (Ax H a o) h h' where
 keep:=fun b u q _ _ _=>k b u q
 slot:=fun b u q _ _ _=>⟨u.slots,k b u q⟩
 free:=fun b u q n _=>by rw [AI (Nat.ne_of_lt (Nat.lt_of_lt_of_le (Heap.lt_size q) hp))]; exact n
 there:=fun b u q _=>⟨u,k b u q⟩
 tups:=fun b xs q=>by rw [AI (Ay q hn)]; exact q
 frzs:=fun b u xs q=>by rw [AI (Ay q hn)]; exact q
 tbls:=fun b ps q=>⟨#[],by rw [AI (Ay q hn),q]; simp⟩
theorem Un.write(mu:UG (H x))(he:e=x\/H e=some (.own x))(k:∀b u,b≠e->h.get? b=some u->h'.get? b=some u)(heo:∃u,h'.get? e=some u):Un fs ex H (Ax H x o) h h':=by
 have hx:∀b,H b=none->b≠x:=fun b n z=>by subst z; rw [n] at mu; exact mu
 have hb:∀b,H b=none->b≠e:=fun b n z=>by
  subst z
  rcases he with r | r
  ·exact hx b n r
  ·rw [n] at r; cases r
 have hm:∀b u,H b=some u->¬UG (some u)->b≠x:=fun b u q nm z=>by subst z; rw [q] at mu; exact nm mu
 refine⟨fun b u q n _ _=>k b u (hb b n) q,fun b u q n _ _=>⟨u.slots,k b u (hb b n) q⟩,fun b u q n _=>by rw [AI (hx b n)]; exact n,fun b u q _=>?_,
  fun b xs q=>by rw [AI (hm b _ q fun z=>z)]; exact q,fun b u xs q=>by rw [AI (hm b _ q fun z=>z)]; exact q,fun b ps q=>⟨#[],by rw [AI (hm b _ q fun z=>z),q]; simp⟩⟩
 by_cases hbe:b=e
 ·subst hbe; exact heo
 ·exact⟨u,k b u hbe q⟩
end
noncomputable def UP(h:Heap)(H:Hp):List Addr:=(List.range h.objs.size).filter fun a=>(H a).isSome
noncomputable def IM(h:Heap)(H:Hp):Heap:=PySem.W.hideAll h (UP h H)
theorem Mw(h:Heap)(H:Hp):(IM h H).objs.size=h.objs.size:=PySem.W.hideAll_size _ _
theorem Of{h:Heap}{H:Hp}{b:Addr}{o:Obj}(e:h.get? b=some o)(n:H b=none):(IM h H).get? b=some o :=
 PySem.W.hideAll_get _ e fun hm=>by
  have q:(H b).isSome=true:=(List.mem_filter.mp hm).2
  rw [n] at q; simp at q
theorem QD{h:Heap}{H:Hp}{b:Addr}{o:Obj}(e:(IM h H).get? b=some o):h.get? b=some o/\H b=none:=by
 have e':h.get? b=some o:=PySem.W.of_hideAll (UP h H) e
 refine⟨e',?_⟩
 cases q:H b with
 | none=>rfl
 | some x =>
  have hm:b∈UP h H:=List.mem_filter.mpr ⟨List.mem_range.mpr (Heap.lt_size e'),by simp [q]⟩
  have z:(IM h H).get? b=none:=PySem.W.hideAll_none (UP h H) hm
  rw [z] at e; cases e
structure Mod (K:Frag) (mg:Str->Option Value) (base:Heap):Prop where
 kin:K.In base
 glob:base.Ns mainGlobals mg
 blt:∃mb,base.Ns builtinsNs mb/\∀x:Str,x ≠ "__name__"->mb x=bootBuiltins x
 nolimit:base.NoLimit
/-- the context: a def's body (or a comprehension's block) running. base: fixed through the whole law; s₀, H₀: the entry; outer: the frames whose slots others may change (a def's callers); stack: all frames that run;
   ex: iterators that were made ahead of the entry and are walked here (a comprehension's); fn: the names whose cells were made at the entry (a def: all; a comprehension's block: its own); calm: not within an except suite; pn: pins that every state bears; xe: what is wanted of an exception that leaves the code -/
structure Cx where
 prog:Program
 w:World
 K:Frag
 mg:Str->Option Value
 base:Heap
 A:Around
 N:List Str
 s₀:Shared
 H₀:Hp
 env:Env
 outer:List Env
 stack:List Env
 ex:List Addr
 fn:Str->Bool
 calm:Bool
 pn:List (Addr×Obj)
 xe:Value->Shared->Prop
noncomputable def Oh(l:List Env):List Addr:=l.filterMap (·.frame)
noncomputable abbrev Cx.fs(X:Cx):List Addr:=Oh X.outer
noncomputable def S0(sc:Scope)(x:Str):Prop:=sc.names.lookup x=some .local\/sc.names.lookup x=some .cell\/sc.names.lookup x=some .free
noncomputable def Loc(sc:Scope)(x:Str):Prop:=sc.names.lookup x=some .local\/sc.names.lookup x=some .cell
noncomputable def Look(env:Env)(h:Heap)(m:Str->Option Value)(x:Str)(u:Value):Prop :=
 (env.kindOf x=some .local/\m x=some u)\/((env.kindOf x=some .cell\/env.kindOf x=some .free)/\∃c,env.cells.lookup x=some c/\h.IsCell c (some u))
structure Cx.Ok (X:Cx):Prop where
 mod:Mod X.K X.mg X.base
 kind:X.env.scope.kind=.function
 glob:X.env.globals=mainGlobals
 blt:X.env.builtins=builtinsNs
 above:X.s₀.heap.objs.size<=X.env.locals
 inj:∀x y c,X.env.cells.lookup x=some c->X.env.cells.lookup y=some c->x=y
 has:∀x,(X.env.kindOf x=some .cell\/X.env.kindOf x=some .free)->∃c,X.env.cells.lookup x=some c
 cab:∀x c,X.fn x=true->X.env.cells.lookup x=some c->X.s₀.heap.objs.size<=c
 hd:X.calm=true->X.A.handled=none
 frames:X.A.frames=some X.stack
 stk:X.stack=X.outer\/(X.stack=X.env::X.outer/\X.env.frame=some X.env.locals)
 exf:∀b∈X.ex,b≠X.env.locals/\∀x c,X.env.cells.lookup x=some c->c≠b
 bs:∀b o,X.base.get? b=some o->X.s₀.heap.get? b=some o/\X.H₀ b=none
 bsz:X.base.objs.size<=X.s₀.heap.objs.size
 noex:∀b o,X.base.get? b=some o->b∉X.ex
 exfs:∀b∈X.ex,b∉X.fs
 funs:X.s₀.heap.FunFrames X.base X.outer
 frf:∀b∈X.fs,X.H₀ b=none
structure Inv (X:Cx) (pins:List (Addr×Obj)) (σ:List (Option V)) (H:Hp) (s:Shared):Prop where
 ok:X.Ok
 os:s.os=X.s₀.os
 bare:AllBare s.gens
 base:Un X.fs X.ex X.H₀ H X.s₀.heap s.heap
 loc:∃m,s.heap.Ns X.env.locals m/\∀(i:Nat) (x:Str) (v:V),X.N[i]?=some x->σ[i]?=some (some v)->S0 X.env.scope x->∃u,RelV v u/\Look X.env s.heap m x u
 cell:∀x c,X.env.cells.lookup x=some c->∃v,s.heap.IsCell c v
 free:H X.env.locals=none
 freeC:∀x c,X.env.cells.lookup x=some c->H c=none
 pin:∀p∈X.pn++pins,s.heap.get? p.1=some p.2/\H p.1=none/\p.1≠X.env.locals/\p.1∉X.fs/\∀v,p.2.data≠.cell v
 hok:HOk X.prog X.w H s.heap
 len:σ.length=X.N.length
section
variable {X:Cx}{pins:List (Addr×Obj)}{σ:List (Option V)}{H H':Hp}{s:Shared}{h':Heap}
theorem Cx.Ok.nofr(ok:X.Ok){b:Addr}{o:Obj}(e:X.base.get? b=some o):b∉X.fs:=fun hb=>by
 have:=(ok.funs.mem hb).1
 rw [e] at this; cases this
theorem Inv.bs(I:Inv X pins σ H s):∀b o,X.base.get? b=some o->s.heap.get? b=some o/\H b=none:=fun b o e =>
 ⟨I.base.keep b o (I.ok.bs b o e).1 (I.ok.bs b o e).2 (I.ok.nofr e) (I.ok.noex b o e),I.base.free b o (I.ok.bs b o e).1 (I.ok.bs b o e).2 (I.ok.noex b o e)⟩
theorem Inv.bk(I:Inv X pins σ H s):∀b o,X.base.get? b=some o->s.heap.get? b=some o:=fun b o e=>(I.bs b o e).1
theorem Inv.mod(I:Inv X pins σ H s):Mod X.K X.mg X.base:=I.ok.mod
theorem Inv.kIn(I:Inv X pins σ H s):X.K.In s.heap:=I.ok.mod.kin.keeps I.bk
theorem Inv.lt(I:Inv X pins σ H s):X.env.locals<s.heap.objs.size:=let ⟨_,hn,_⟩:=I.loc; hn.lt
theorem Inv.sz(I:Inv X pins σ H s):X.s₀.heap.objs.size<=s.heap.objs.size:=Nat.le_trans I.ok.above (Nat.le_of_lt I.lt)
theorem Inv.nofs(I:Inv X pins σ H s){a:Addr}(h:s.heap.objs.size<=a):a∉X.fs:=fun hb=>by
 obtain⟨_,o,ho,_⟩:=I.ok.funs.mem hb
 exact absurd (Nat.lt_of_lt_of_le (Heap.lt_size ho) (Nat.le_trans I.sz h)) (Nat.lt_irrefl _)
theorem Inv.cne(I:Inv X pins σ H s):∀x c,X.env.cells.lookup x=some c->c≠X.env.locals:=fun x c e z=>by
 obtain⟨v,o,ho,hd⟩:=I.cell x c e
 obtain⟨m,⟨o',es,ep,ho',hd',_⟩,_⟩:=I.loc
 rw [z,ho'] at ho; cases ho; rw [hd'] at hd; cases hd
theorem Inv.funs(I:Inv X pins σ H s):s.heap.FunFrames X.base X.outer:=by
 have all:∀(l:List Env),(∀b∈Oh l,b∈X.fs)->X.s₀.heap.FunFrames X.base l->s.heap.FunFrames X.base l:=by
  intro l
  induction l with
  | nil=>intro _ _; trivial
  | cons env r ih =>
   intro hs hl
   obtain⟨hk,⟨L,o,hf,hn,ho,hd⟩,hr⟩:=hl
   have hL:L∈X.fs:=hs L (by unfold Oh; rw [List.filterMap_cons,hf]; exact List.mem_cons_self)
   obtain⟨sl,e⟩:=I.base.slot L o ho (I.ok.frf L hL) hL fun z=>I.ok.exfs L z hL
   exact⟨hk,⟨L,_,hf,hn,e,hd⟩,ih (fun b hb=>hs b (by unfold Oh; rw [List.filterMap_cons,hf]; exact List.mem_cons_of_mem _ hb)) hr⟩
 exact all X.outer (fun _ hb=>hb) I.ok.funs
theorem Inv.stack(I:Inv X pins σ H s):s.heap.FunFrames X.base X.stack:=by
 rcases I.ok.stk with e | ⟨e,hf⟩
 ·rw [e]; exact I.funs
 ·rw [e]
  obtain⟨m,hn,_⟩:=I.loc
  refine .cons (by rw [I.ok.kind]; decide) hf hn ?_ I.funs
  exact Heap.get?_none_of_le (Nat.le_trans I.ok.bsz I.ok.above)
theorem Inv.stkSub(I:Inv X pins σ H s):∀b∈Oh X.stack,b∈X.env.locals::X.fs:=fun b hb=>by
 rcases I.ok.stk with e | ⟨e,hf⟩
 ·rw [e] at hb; exact List.mem_cons_of_mem _ hb
 ·rw [e] at hb
  unfold Oh at hb
  rw [List.filterMap_cons,hf] at hb
  exact hb
theorem Inv.stkFree(I:Inv X pins σ H s):∀b∈Oh X.stack,H b=none:=fun b hb=>by
 rcases List.mem_cons.mp (I.stkSub b hb) with e | hb
 ·rw [e]; exact I.free
 ·obtain⟨_,o,ho,_⟩:=I.ok.funs.mem hb
  exact I.base.free b o ho (I.ok.frf b hb) fun z=>I.ok.exfs b z hb
theorem Inv.step{g':Array GenState}{t':Nat}{d':Drawn}{ch:List Addr}(I:Inv X pins σ H s)
  (hch:∀b∈ch,(b∈X.ex\/X.s₀.heap.objs.size<=b)/\b≠X.env.locals/\(∀x c,X.env.cells.lookup x=some c->c≠b)/\∀p∈X.pn++pins,p.1≠b)
  (keep:∀b o,b≠X.env.locals->b∉X.fs->b∉ch->s.heap.get? b=some o->H b=none->h'.get? b=some o)
  (slot:∀b o,b≠X.env.locals->b∈X.fs->b∉ch->s.heap.get? b=some o->H b=none->∃sl,h'.get? b=some { o with slots:=sl }) (free:∀b o,b∉ch->s.heap.get? b=some o->H b=none->H' b=none)
  (there:∀b o,b∉ch->s.heap.get? b=some o->∃o',h'.get? b=some o')
  (tups:∀b xs,H b=some (.tup xs)->H' b=some (.tup xs)) (frzs:∀b o u,H b=some (.frz o u)->H' b=some (.frz o u)) (tbls:∀b ps,H b=some (.tbl ps)->∃more,H' b=some (.tbl (ps++more)))
  (ns:∀m,s.heap.Ns X.env.locals m->h'.Ns X.env.locals m) (hok:HOk X.prog X.w H' h') (hg:AllBare g') :
  Inv X pins σ H' { s with heap:=h',gens:=g',drawn:=d',toks:=t' }:=by
 have neL:∀b o,X.s₀.heap.get? b=some o->b≠X.env.locals:=fun b o e=>Nat.ne_of_lt (Nat.lt_of_lt_of_le (Heap.lt_size e) I.ok.above)
 have neC:∀b o,X.s₀.heap.get? b=some o->b∉X.ex->b∉ch:=fun b o e hx hb=>by
  rcases (hch b hb).1 with z | z
  ·exact hx z
  ·exact absurd (Nat.lt_of_lt_of_le (Heap.lt_size e) z) (Nat.lt_irrefl _)
 have cellK:∀x c,X.env.cells.lookup x=some c->∀v,s.heap.IsCell c v->h'.IsCell c v:=fun x c e v ⟨o,ho,hd⟩=>by
  have nch:c∉ch:=fun z=>(hch c z).2.2.1 x c e rfl
  by_cases hc:c∈X.fs
  ·obtain⟨sl,q⟩:=slot c o (I.cne x c e) hc nch ho (I.freeC x c e)
   exact⟨_,q,hd⟩
  ·exact⟨o,keep c o (I.cne x c e) hc nch ho (I.freeC x c e),hd⟩
 refine⟨I.ok,I.os,hg,⟨fun b o e n hb hx=>?_,fun b o e n hb hx=>?_,fun b o e n hx=>?_,fun b o e hx=>?_,fun b xs e=>tups b xs (I.base.tups b xs e),fun b o xs e=>frzs b o xs (I.base.frzs b o xs e),fun b ps e=>?_⟩,?_,fun x c e=>?_,?_,fun x c e=>?_,fun p hp=>?_,hok,I.len⟩
 ·exact keep b o (neL b o e) hb (neC b o e hx) (I.base.keep b o e n hb hx) (I.base.free b o e n hx)
 ·obtain⟨sl,e1⟩:=I.base.slot b o e n hb hx
  obtain⟨sl',e2⟩:=slot b _ (neL b o e) hb (neC b o e hx) e1 (I.base.free b o e n hx)
  exact⟨sl',e2⟩
 ·obtain⟨o',e1⟩:=I.base.there b o e hx
  exact free b o' (neC b o e hx) e1 (I.base.free b o e n hx)
 ·obtain⟨o',e1⟩:=I.base.there b o e hx
  exact there b o' (neC b o e hx) e1
 ·obtain⟨m1,e1⟩:=I.base.tbls b ps e
  obtain⟨m2,e2⟩:=tbls b _ e1
  exact⟨m1++m2,by rw [e2,Array.append_assoc]⟩
 ·obtain⟨m,hn,hl⟩:=I.loc
  refine⟨m,ns m hn,fun i x v e1 e2 e3=>?_⟩
  obtain⟨u,r,l⟩:=hl i x v e1 e2 e3
  refine⟨u,r,?_⟩
  rcases l with l | ⟨k,c,e,z⟩
  ·exact .inl l
  ·exact .inr ⟨k,c,e,cellK x c e _ z⟩
 ·obtain⟨v,z⟩:=I.cell x c e
  exact⟨v,cellK x c e v z⟩
 ·obtain⟨m,⟨o,_,_,ho,_⟩,_⟩:=I.loc
  exact free _ o (fun z=>(hch _ z).2.1 rfl) ho I.free
 ·obtain⟨v,o,ho,hd⟩:=I.cell x c e
  exact free c o (fun z=>(hch c z).2.2.1 x c e rfl) ho (I.freeC x c e)
 ·obtain⟨e,n,ne,nf,d⟩:=I.pin p hp
  have nch:p.1∉ch:=fun z=>(hch p.1 z).2.2.2 p hp rfl
  exact⟨keep p.1 p.2 ne nf nch e n,free p.1 p.2 nch e n,ne,nf,d⟩
theorem Inv.un{t':Nat}(I:Inv X pins σ H s)(u:Un X.fs [] H H' s.heap h')(hok:HOk X.prog X.w H' h'):Inv X pins σ H' { s with heap:=h',toks:=t' }:=by
 obtain⟨m,⟨o,es,ep,ho,r⟩,_⟩:=id I.loc
 obtain⟨sl,hL⟩:=u.any ho I.free (by simp)
 exact I.step (g':=s.gens) (d':=s.drawn) (ch:=[]) (fun _ z=>nomatch z) (fun b o _ hb _ e n=>u.keep b o e n hb (by simp)) (fun b o _ hb _ e n=>u.slot b o e n hb (by simp)) (fun b o _ e n=>u.free b o e n (by simp)) (fun b o _ e=>u.there b o e (by simp)) u.tups u.frzs u.tbls (fun m' hm=>by
  obtain⟨o',es',ep',ho',r'⟩:=hm
  rw [ho] at ho'; cases ho'
  exact⟨_,es',ep',hL,r'⟩) hok I.bare
theorem Inv.call{g':Array GenState}{t':Nat}{d':Drawn}{ch:List Addr}(I:Inv X pins σ H s)(u:Un (Oh X.stack) ch H H' s.heap h')(hok:HOk X.prog X.w H' h')(hg:AllBare g')
  (hch:∀b∈ch,(b∈X.ex\/X.s₀.heap.objs.size<=b)/\b≠X.env.locals/\(∀x c,X.env.cells.lookup x=some c->c≠b)/\∀p∈X.pn++pins,p.1≠b) :
  Inv X pins σ H' { s with heap:=h',gens:=g',drawn:=d',toks:=t' }:=by
 obtain⟨m,⟨o,es,ep,ho,r⟩,_⟩:=id I.loc
 obtain⟨sl,hL⟩:=u.any ho I.free fun z=>(hch _ z).2.1 rfl
 exact I.step (ch:=ch) hch (fun b o hL hb hc e n=>u.keep b o e n (fun z=>(List.mem_cons.mp (I.stkSub b z)).elim hL hb) hc) (fun b o _ _ hc e n=>u.any e n hc) (fun b o hc e n=>u.free b o e n hc) (fun b o hc e=>u.there b o e hc) u.tups u.frzs u.tbls (fun m' hm=>by
  obtain⟨o',es',ep',ho',r'⟩:=hm
  rw [ho] at ho'; cases ho'
  exact⟨_,es',ep',hL,r'⟩) hok hg
theorem Inv.turned{t':Nat}{it:Addr}(I:Inv X pins σ H s)(k:∀b o,b≠it->s.heap.get? b=some o->h'.get? b=some o)(hn:H it=none)(hL:it≠X.env.locals)
  (h1:it∈X.ex\/X.s₀.heap.objs.size<=it) (h2:∀x c,X.env.cells.lookup x=some c->c≠it) (h3:∀p∈X.pn++pins,p.1≠it):Inv X pins σ H { s with heap:=h',toks:=t' }:=by
 have nit:∀b u,H b=some u->b≠it:=fun b u e z=>by rw [z,hn] at e; cases e
 refine I.step (g':=s.gens) (d':=s.drawn) (ch:=[it]) (fun b hb=>?_) (fun b o _ _ hc e _=>k b o (fun z=>hc (by simp [z])) e) (fun b o _ _ hc e _=>⟨o.slots,k b o (fun z=>hc (by simp [z])) e⟩) (fun _ _ _ _ n=>n)
  (fun b o hc e=>⟨o,k b o (fun z=>hc (by simp [z])) e⟩) (fun _ _ e=>e) (fun _ _ _ e=>e) (fun b ps e=>⟨#[],by rw [e]; simp⟩) (fun m hm=>?_) (fun b u e=>?_) I.bare
 ·have e:b=it:=by simpa using hb
  subst e
  exact⟨h1,hL,h2,h3⟩
 ·obtain⟨o,es,ep,ho,r⟩:=hm
  exact⟨o,es,ep,k _ o (Ne.symm hL) ho,r⟩
 ·refine(I.hok b u e).stay (fun c v hc q=>k c v ?_ q) (fun _ q=>q) fun _ _ q=>q
  rcases hc with z | z
  ·rw [z]; exact nit b u e
  ·exact nit c _ z
theorem Inv.tok(I:Inv X pins σ H s)(t:Nat):Inv X pins σ H { s with toks:=t }:=I.un (h':=s.heap) (t':=t) Un.refl I.hok
theorem Inv.kept{t':Nat}(I:Inv X pins σ H s)(k:∀b u,s.heap.get? b=some u->h'.get? b=some u):Inv X pins σ H { s with heap:=h',toks:=t' }:=I.un (Un.kept k) (I.hok.kept k)
theorem Inv.laid{a:Addr}{o:HO}{t':Nat}(I:Inv X pins σ H s)(k:∀b u,s.heap.get? b=some u->h'.get? b=some u)(hp:s.heap.objs.size<=a)(new:ObjOk X.prog X.w (Ax H a o) h' a o) :
  Inv X pins σ (Ax H a o) { s with heap:=h',toks:=t' }:=I.un (Un.laid k hp (I.hok.fresh hp)) (I.hok.laid k hp new)
theorem Inv.write{x e:Addr}{o:HO}{t':Nat}(I:Inv X pins σ H s)(mu:UG (H x))(he:e=x\/H e=some (.own x))(k:∀b u,b≠e->s.heap.get? b=some u->h'.get? b=some u)(heo:∃u,h'.get? e=some u)
  (new:ObjOk X.prog X.w (Ax H x o) h' x o):Inv X pins σ (Ax H x o) { s with heap:=h',toks:=t' }:=I.un (Un.write mu he k heo) (I.hok.write mu he k heo new)
theorem Inv.pins_of{pins':List (Addr×Obj)}(I:Inv X pins σ H s)(h:∀p∈pins',s.heap.get? p.1=some p.2/\H p.1=none/\p.1≠X.env.locals/\p.1∉X.fs/\∀v,p.2.data≠.cell v):Inv X pins' σ H s :=
 ⟨I.ok,I.os,I.bare,I.base,I.loc,I.cell,I.free,I.freeC,fun p hp=>(List.mem_append.mp hp).elim (fun z=>I.pin p (List.mem_append_left _ z)) (h p),I.hok,I.len⟩
theorem JR{N:List Str}(hN:N.Nodup){i j:Nat}{x:Str}(a:N[i]?=some x)(b:N[j]?=some x):i=j:=by
 obtain⟨h1,e1⟩:=List.getElem?_eq_some_iff.mp a
 obtain⟨h2,e2⟩:=List.getElem?_eq_some_iff.mp b
 exact(List.getElem_inj hN).mp (e1.trans e2.symm)
theorem G_{M:Model}{A:Around}{E:Value->Shared->Prop}{i:Nat}{x:Str}{v:V}{u:Value}{Q:Unit->Shared->Prop}(I:Inv X pins σ H s)(hN:X.N.Nodup)(hi:X.N[i]?=some x)(hx:Loc X.env.scope x)(r:RelV v u)
  (h:∀s',Inv X pins (σ.set i (some v)) H s'->(∃a,Heap.SameBut a s.heap s'.heap/\(a=X.env.locals\/X.env.cells.lookup x=some a))->Q () s') (hf:X.fn x=true\/X.env.scope.names.lookup x=some .local:=by first | exact .inl rfl | exact .inr rfl | assumption):wpAny M A (storeName X.env x u) Q E s:=by
 obtain⟨m,hn,hl⟩:=id I.loc
 have hcls:(X.env.scope.kind==.class||(X.env.scope.kind==.module&&X.env.locals != X.env.globals))=false:=by rw [I.ok.kind]; rfl
 have hiσ:i<σ.length:=by rw [I.len]; exact(List.getElem?_eq_some_iff.mp hi).1
 have cne:=I.cne
 have tracked:∀{a:Addr} {h':Heap},(∃o,s.heap.get? a=some o/\H a=none)->Heap.SameBut a s.heap h'->HOk X.prog X.w H h':=fun {a h'} ha hs b ob e=>by
  obtain⟨_,_,hfree⟩:=ha
  refine(I.hok b ob e).stay (fun c w' hc q=>(hs.2 c ?_).trans q) (fun _ q=>q) fun _ _ q=>q
  rintro rfl
  rcases hc with rfl | hc
  ·rw [hfree] at e; cases e
  ·rw [hfree] at hc; cases hc
 rcases hx with hk | hk
 ·refine wpAny_storeName_local hk hn (fun h' hn' hs=>?_) hcls
  obtain⟨oL,_,_,hoL,_⟩:=id hn
  refine h _ ⟨I.ok,I.os,I.bare,⟨fun b o e n hb hx=>?_,fun b o e n hb hx=>?_,I.base.free,fun b o e hx=>?_,I.base.tups,I.base.frzs,I.base.tbls⟩,⟨_,hn',fun j y v' e1 e2 e3=>?_⟩,fun y c e=>?_,I.free,I.freeC,fun p hp=>?_,tracked ⟨oL,hoL,I.free⟩ hs,by simpa using I.len⟩ ⟨_,hs,.inl rfl⟩
  ·exact(hs.2 b (Nat.ne_of_lt (Nat.lt_of_lt_of_le (Heap.lt_size e) I.ok.above))).trans (I.base.keep b o e n hb hx)
  ·obtain⟨sl,e1⟩:=I.base.slot b o e n hb hx
   exact⟨sl,(hs.2 b (Nat.ne_of_lt (Nat.lt_of_lt_of_le (Heap.lt_size e) I.ok.above))).trans e1⟩
  ·obtain⟨o',e1⟩:=I.base.there b o e hx
   exact⟨o',(hs.2 b (Nat.ne_of_lt (Nat.lt_of_lt_of_le (Heap.lt_size e) I.ok.above))).trans e1⟩
  ·by_cases hj:j=i
   ·subst hj
    rw [hi] at e1; cases e1
    rw [List.getElem?_set_self hiσ] at e2
    cases e2
    exact⟨u,r,.inl ⟨hk,by simp⟩⟩
   ·rw [List.getElem?_set_ne (Ne.symm hj)] at e2
    obtain⟨u',r',q⟩:=hl j y v' e1 e2 e3
    refine⟨u',r',?_⟩
    rcases q with ⟨k,e⟩ | ⟨k,c,e,z⟩
    ·refine .inl ⟨k,?_⟩
     have:y≠x:=fun e=>hj (JR hN e1 (e▸hi))
     simp [this,e]
    ·exact .inr ⟨k,c,e,z.sameBut hs (cne y c e)⟩
  ·obtain⟨w',z⟩:=I.cell y c e
   exact⟨w',z.sameBut hs (cne y c e)⟩
  ·obtain⟨e,n,ne,nf,d⟩:=I.pin p hp
   exact⟨(hs.2 p.1 ne).trans e,n,ne,nf,d⟩
 ·have hfn:X.fn x=true:=by
   rcases hf with z | z
   ·exact z
   ·rw [z] at hk; cases hk
  obtain⟨c,hc⟩:=I.ok.has x (.inl hk)
  obtain⟨w',z⟩:=I.cell x c hc
  refine wpAny_storeName_cell I.ok.kind hk hc z (fun h' hc' hs=>?_)
  obtain⟨oc,hoc,hocd⟩:=id z
  refine h { s with heap:=h' } ⟨I.ok,I.os,I.bare,⟨fun b o e n hb hx=>?_,fun b o e n hb hx=>?_,I.base.free,fun b o e hx=>?_,I.base.tups,I.base.frzs,I.base.tbls⟩,⟨m,hn.sameBut hs (Ne.symm (cne x c hc)),fun j y v' e1 e2 e3=>?_⟩,fun y c' e=>?_,I.free,I.freeC,fun p hp=>?_,tracked ⟨oc,hoc,I.freeC x c hc⟩ hs,by simpa using I.len⟩ ⟨c,hs,.inr hc⟩
  ·exact(hs.2 b (Nat.ne_of_lt (Nat.lt_of_lt_of_le (Heap.lt_size e) (I.ok.cab x c hfn hc)))).trans (I.base.keep b o e n hb hx)
  ·obtain⟨sl,e1⟩:=I.base.slot b o e n hb hx
   exact⟨sl,(hs.2 b (Nat.ne_of_lt (Nat.lt_of_lt_of_le (Heap.lt_size e) (I.ok.cab x c hfn hc)))).trans e1⟩
  ·obtain⟨o',e1⟩:=I.base.there b o e hx
   exact⟨o',(hs.2 b (Nat.ne_of_lt (Nat.lt_of_lt_of_le (Heap.lt_size e) (I.ok.cab x c hfn hc)))).trans e1⟩
  ·by_cases hj:j=i
   ·subst hj
    rw [hi] at e1; cases e1
    rw [List.getElem?_set_self hiσ] at e2
    cases e2
    exact⟨u,r,.inr ⟨.inl hk,c,hc,hc'⟩⟩
   ·rw [List.getElem?_set_ne (Ne.symm hj)] at e2
    obtain⟨u',r',q⟩:=hl j y v' e1 e2 e3
    refine⟨u',r',?_⟩
    rcases q with q | ⟨k,c',e,z'⟩
    ·exact .inl q
    ·refine .inr ⟨k,c',e,z'.sameBut hs ?_⟩
     rintro rfl
     exact hj (JR hN e1 (I.ok.inj _ _ _ e hc▸hi))
  ·by_cases hcc:c'=c
   ·subst hcc; exact⟨_,hc'⟩
   ·obtain⟨w2,z2⟩:=I.cell y c' e
    exact⟨w2,z2.sameBut hs hcc⟩
  ·obtain⟨e,n,ne,nf,d⟩:=I.pin p hp
   refine⟨(hs.2 p.1 ?_).trans e,n,ne,nf,d⟩
   intro q
   rw [q,hoc] at e
   have q':oc=p.2:=Option.some.inj e
   exact d w' (by rw [← q']; exact hocd)
theorem JC{M:Model}{A:Around}{E:Value->Shared->Prop}{i:Nat}{x:Str}{v:V}{u:Value}{Q:Unit->Shared->Prop}(I:Inv X pins σ H s)(hN:X.N.Nodup)(hi:X.N[i]?=some x)(hx:Loc X.env.scope x)(r:RelV v u)
  (h:∀s',Inv X pins (σ.set i (some v)) H s'->Q () s') (hf:X.fn x=true\/X.env.scope.names.lookup x=some .local:=by first | exact .inl rfl | exact .inr rfl | assumption):wpAny M A (storeName X.env x u) Q E s :=
 G_ I hN hi hx r (fun s' I' _=>h s' I') hf
theorem Inv.call'{s':Shared}{ch:List Addr}(I:Inv X pins σ H s)(ho:s'.os=s.os)(u:Un (Oh X.stack) ch H H' s.heap s'.heap)(hok:HOk X.prog X.w H' s'.heap)(hg:AllBare s'.gens)
  (hch:∀b∈ch,(b∈X.ex\/X.s₀.heap.objs.size<=b)/\b≠X.env.locals/\(∀x c,X.env.cells.lookup x=some c->c≠b)/\∀p∈X.pn++pins,p.1≠b):Inv X pins σ H' s':=by
 obtain⟨h',g',d',t',o'⟩:=s'
 have e:o'=s.os:=ho
 subst e
 exact I.call (g':=g') (t':=t') (d':=d') u hok hg hch
end
noncomputable abbrev XK:=Value->Option Addr->Hp->Prop
noncomputable abbrev St:=List (Option V)
noncomputable abbrev VK:=V->Hp->Prop
noncomputable abbrev TE:=St->Hp->VK->Prop
noncomputable abbrev TT:=St->Hp->(Bool->Hp->Prop)->Prop
noncomputable abbrev TA:=St->Hp->(List V->Hp->Prop)->Prop
structure Ends where
 nx:St->Hp->Prop
 rt:VK
 bk:St->Hp->Prop:=fun _ _=>False
 ct:St->Hp->Prop:=fun _ _=>False
noncomputable abbrev TS:=Ends->St->Hp->Prop
noncomputable def EP(X:Cx)(pins:List (Addr×Obj))(σ:St)(Q:VK)(u:Value)(s':Shared):Prop:=∃v H',Inv X pins σ H' s'/\RelV v u/\Q v H'
noncomputable def TP(X:Cx)(pins:List (Addr×Obj))(σ:St)(Q:Bool->Hp->Prop)(b:Bool)(s':Shared):Prop:=∃H',Inv X pins σ H' s'/\Q b H'
noncomputable def AP(X:Cx)(pins:List (Addr×Obj))(σ:St)(Q:List V->Hp->Prop)(us:List Value)(s':Shared):Prop:=∃vs H',Inv X pins σ H' s'/\Vals vs us/\Q vs H'
noncomputable def SP(X:Cx)(pins:List (Addr×Obj))(D:Ends)(f:Flow)(s':Shared):Prop :=
 match f with
 | .next=>∃σ' H',Inv X pins σ' H' s'/\D.nx σ' H'
 | .brk=>∃σ' H',Inv X pins σ' H' s'/\D.bk σ' H'
 | .cont=>∃σ' H',Inv X pins σ' H' s'/\D.ct σ' H'
 | .ret u=>∃v σ' H',Inv X pins σ' H' s'/\RelV v u/\D.rt v H'
noncomputable def PE(X:Cx)(e:Expr)(t:TE):Prop :=
 ∀(pins:List (Addr×Obj)) (s:Shared) (σ:St) (H:Hp) (Q:VK),Inv X pins σ H s->t σ H Q->wpAny (model X.prog X.w) X.A (eval e X.env) (EP X pins σ Q) X.xe s
noncomputable def PT(X:Cx)(e:Expr)(t:TT):Prop :=
 ∀(pins:List (Addr×Obj)) (s:Shared) (σ:St) (H:Hp) (Q:Bool->Hp->Prop),Inv X pins σ H s->t σ H Q->wpAny (model X.prog X.w) X.A (isTrue e X.env (eval e X.env)) (TP X pins σ Q) X.xe s
noncomputable def PW(X:Cx)(e:Expr)(t:TT):Prop :=
 ∀(whole:Sem Value) (pins:List (Addr×Obj)) (s:Shared) (σ:St) (H:Hp) (Q:Bool->Hp->Prop),Inv X pins σ H s->t σ H Q->wpAny (model X.prog X.w) X.A (isTrue e X.env whole) (TP X pins σ Q) X.xe s
theorem PW.pt{X:Cx}{e:Expr}{t:TT}(h:PW X e t):PT X e t:=h _
noncomputable def PA(X:Cx)(es:List Expr)(t:TA):Prop :=
 ∀(pos:Pos) (pins:List (Addr×Obj)) (s:Shared) (σ:St) (H:Hp) (Q:List V->Hp->Prop),Inv X pins σ H s->t σ H Q->wpAny (model X.prog X.w) X.A (spliced (backTo pos (starEach es X.env))) (AP X pins σ Q) X.xe s
noncomputable def PS(X:Cx)(st:Stmt)(t:TS):Prop :=
 ∀(pins:List (Addr×Obj)) (s:Shared) (σ:St) (H:Hp) (D:Ends),Inv X pins σ H s->t D σ H->wpAny (model X.prog X.w) X.A (exec st X.env) (SP X pins D) X.xe s
noncomputable def PSs(X:Cx)(st:List Stmt)(t:TS):Prop :=
 ∀(pins:List (Addr×Obj)) (s:Shared) (σ:St) (H:Hp) (D:Ends),Inv X pins σ H s->t D σ H->wpAny (model X.prog X.w) X.A (execs st X.env) (SP X pins D) X.xe s
theorem A_{α:Type}{t:Sem α}{Q Q':α->Shared->Prop}{M:Model}{A:Around}{E:Value->Shared->Prop}{s:Shared}(h:wpAny M A t Q E s)(hQ:∀a s,Q a s->Q' a s):wpAny M A t Q' E s:=wpAny_mono h hQ fun _ _ x=>x
section
variable {X:Cx}
noncomputable def BR(i:Nat):TE:=fun σ H Q=>∃v,σ[i]?=some (some v)/\Q v H
noncomputable def tC(v:V):TE:=fun _ H Q=>Q v H
theorem IB{i:Nat}{x:Str}{pos:Pos}(hN:X.N[i]?=some x)(hv:S0 X.env.scope x)(hd:(x==("__debug__" : Str))=false:=by decide)(hcd:(x==("__classdict__" : Str))=false:=by decide):PE X (.Name x pos) (BR i):=by
 intro pins s σ H Q I h
 obtain⟨v,e,h⟩:=h
 obtain⟨m,hn,hl⟩:=I.loc
 obtain⟨u,r,l⟩:=hl i x v hN e hv
 have fin:EP X pins σ Q u s:=⟨v,H,I,r,h⟩
 rcases l with ⟨hk,hm⟩ | ⟨hk,c,hc,hcell⟩
 ·exact wpAny_Name (wpAny_loadName_local I.ok.kind hk hn hm fin) hd
 ·rcases hk with hk | hk
  ·exact wpAny_Name (wpAny_loadName_cell I.ok.kind hk hc hcell fin) hd
  ·exact wpAny_Name (wpAny_loadName_free I.ok.kind hk hc hcell fin hcd) hd
theorem Ag{i j pos}:PE X (.Constant (.int i) j pos) (tC (.int i)):=fun _ _ _ H _ I h=>wpAny_Constant_int ⟨.int i,H,I.tok _,⟨_,rfl⟩,h⟩
theorem TZ{b j pos}:PE X (.Constant (.bool b) j pos) (tC (.bl b)):=fun _ _ _ H _ I h=>Constant_bool ⟨.bl b,H,I,rfl,h⟩
theorem Ru{j pos}:PE X (.Constant .none j pos) (tC .non):=fun _ _ _ H _ I h=>Constant_none ⟨.non,H,I,rfl,h⟩
theorem Rt{x j pos}:PE X (.Constant (.str x) j pos) (tC (.str x)):=fun _ _ _ H _ I h=>Calls.Constant_str ⟨.str x,H,I.tok _,⟨_,rfl⟩,h⟩
noncomputable def Gl(X:Cx)(x:Str):Prop:=X.env.kindOf x=some .globalImplicit
theorem QH{E:Value->Shared->Prop}{pins:List (Addr×Obj)}{s:Shared}{σ:St}{H:Hp}{x:Str}{u:Value}{pos:Pos}{Q:Value->Shared->Prop}(I:Inv X pins σ H s)(hg:Gl X x)(hm:X.mg x=some u)(h:Q u s)
  (hd:(x==("__debug__" : Str))=false:=by decide):wpAny (model X.prog X.w) X.A (eval (.Name x pos) X.env) Q E s :=
 Calls.Name_function_global I.ok.kind hg (Calls.loadGlobal_global (by rw [I.ok.glob]; exact I.mod.glob.keeps I.bk) hm h) hd
theorem CN{E:Value->Shared->Prop}{pins:List (Addr×Obj)}{s:Shared}{σ:St}{H:Hp}{x:Str}{u:Value}{pos:Pos}{Q:Value->Shared->Prop}(I:Inv X pins σ H s)(hg:Gl X x)(hm:X.mg x=none)(hv:bootBuiltins x=some u)(h:Q u s)
  (hn:x ≠ "__name__":=by decide) (hd:(x==("__debug__" : Str))=false:=by decide):wpAny (model X.prog X.w) X.A (eval (.Name x pos) X.env) Q E s:=by
 obtain⟨mb,h1,h2⟩:=I.mod.blt
 exact Calls.Name_function_global I.ok.kind hg (Calls.loadGlobal_builtin (by rw [I.ok.glob]; exact I.mod.glob.keeps I.bk) hm (by rw [I.ok.blt]; exact h1.keeps I.bk) ((h2 x hn).trans hv) h) hd
theorem P2{x:Str}{v:V}{u:Value}{pos:Pos}(hg:Gl X x)(hm:X.mg x=none)(hv:bootBuiltins x=some u)(r:RelV v u)(hn:x ≠ "__name__":=by decide)(hd:(x==("__debug__" : Str))=false:=by decide):PE X (.Name x pos) (tC v) :=
 fun _ _ _ H _ I h=>CN I hg hm hv ⟨v,H,I,r,h⟩ hn hd
variable {a b:Expr}{ta tb:TE}{pos:Pos}
noncomputable def tB(t:TE):TT:=fun σ H Q=>t σ H fun x H1=>∃c,x=.bl c/\Q c H1
theorem Ro{e:Expr}{t:TE}(h:PE X e t)(he:∀whole,isTrue e X.env whole=(do let v ← whole; standAt e.pos; holding [v] (truthy v)):=by intro _; rfl):PT X e (tB t):=by
 intro pins s σ H Q I hw
 refine isTrue_plain (A_ (h pins s σ H _ I hw) fun v s1 ⟨x,H1,I1,r1,q1⟩=>?_) (he _)
 obtain⟨d,rfl,q⟩:=q1
 cases r1
 exact wpAny_truthy_bool ⟨H1,I1,q⟩
variable {tA tB':TT}{rest:List Expr}
noncomputable def TD(t u:TT):TT:=fun σ H Q=>t σ H fun c H1=>if c=true then u σ H1 Q else Q false H1
noncomputable def VO(t u:TT):TT:=fun σ H Q=>t σ H fun c H1=>if c=true then Q true H1 else u σ H1 Q
noncomputable def Ue(t:TT):TT:=fun σ H Q=>t σ H fun c H1=>Q (!c) H1
theorem LS(ha:PT X a tA):PW X (.BoolOp .And [a] pos) tA:=by
 intro wh pins s σ H Q I h
 refine isTrue_and (A_ (ha pins s σ H Q I h) fun c s1 e=>?_)
 cases c with
 | true=>exact isTrue_and_nil e
 | false=>exact e
theorem Rn(ha:PT X a tA):PW X (.BoolOp .Or [a] pos) tA:=by
 intro wh pins s σ H Q I h
 refine isTrue_or (A_ (ha pins s σ H Q I h) fun c s1 e=>?_)
 cases c with
 | false=>exact isTrue_or_nil e
 | true=>exact e
theorem N5(ha:PT X a tA)(hb:PW X (.BoolOp .And (b::rest) pos) tB'):PW X (.BoolOp .And (a::b::rest) pos) (TD tA tB'):=by
 intro wh pins s σ H Q I h
 refine isTrue_and (A_ (ha pins s σ H _ I h) fun c s1 ⟨H1,I1,q1⟩=>?_)
 cases c with
 | true=>exact hb wh pins s1 σ H1 Q I1 q1
 | false=>exact⟨H1,I1,q1⟩
theorem TY(ha:PT X a tA)(hb:PW X (.BoolOp .Or (b::rest) pos) tB'):PW X (.BoolOp .Or (a::b::rest) pos) (VO tA tB'):=by
 intro wh pins s σ H Q I h
 refine isTrue_or (A_ (ha pins s σ H _ I h) fun c s1 ⟨H1,I1,q1⟩=>?_)
 cases c with
 | true=>exact⟨H1,I1,q1⟩
 | false=>exact hb wh pins s1 σ H1 Q I1 q1
theorem Rp(ha:PT X a tA):PT X (.UnaryOp .Not a pos) (Ue tA):=by
 intro pins s σ H Q I h
 exact isTrue_not (ha pins s σ H (fun c H1=>Q (!c) H1) I h)
noncomputable def VP(t:TT)(ta tb:TE):TE:=fun σ H Q=>t σ H fun c H1=>if c=true then ta σ H1 Q else tb σ H1 Q
theorem JK{c:Expr}(hc:PT X c tA)(ha:PE X a ta)(hb:PE X b tb):PE X (.IfExp c a b pos) (VP tA ta tb):=by
 intro pins s σ H Q I h
 refine wpAny_IfExp (A_ (hc pins s σ H _ I h) fun d s1 ⟨H1,I1,q1⟩=>?_)
 cases d with
 | true=>exact ha pins s1 σ H1 Q I1 q1
 | false=>exact hb pins s1 σ H1 Q I1 q1
end
noncomputable def SqL(K:Frag)(H:Hp)(a:Addr)(xs:List V):Prop :=
 Rd H a (.lst xs) \/
  ∃(o:Obj) (its:Array Value) (n:Nat),K.lookup a=some o/\o.cls=.type "list"/\o.dict=none/\o.data=.seq its n/\its.size<=sizeLine/\Vals xs its.toList
noncomputable def SqT(K:Frag)(H:Hp)(a:Addr)(xs:List V):Prop :=
 Rd H a (.tup xs) \/
  ∃(o:Obj) (its:Array Value) (n:Nat),K.lookup a=some o/\o.cls=.type "tuple"/\o.data=.seq its n/\its.size<=sizeLine/\Vals xs its.toList
noncomputable def U1:Value->Option V
 | .none=>some .non
 | .bool b=>some (.bl b)
 | .int i _=>some (.int i)
 | .str x _=>some (.str x)
 | .bytes b _=>some (.byt b)
 | .float b _=>some (.flt b)
 | .ref a=>some (.ref a)
 | .type n=>some (.ty n)
 | _=>none
theorem RelV.abs{x:V}{u:Value}(r:RelV x u):U1 u=some x:=by
 cases x with
 | non=>cases r; rfl
 | bl _=>cases r; rfl
 | int _=>obtain⟨t,rfl⟩:=r; rfl
 | str _=>obtain⟨t,rfl⟩:=r; rfl
 | byt _=>obtain⟨t,rfl⟩:=r; rfl
 | flt _=>obtain⟨t,rfl⟩:=r; rfl
 | ref _=>cases r; rfl
 | ty _=>cases r; rfl
theorem RelV.inj{x y:V}{u:Value}(r:RelV x u)(q:RelV y u):x=y:=Option.some.inj (r.abs.symm.trans q.abs)
theorem Vals.inj:∀{xs ys:List V} {us:List Value},Vals xs us->Vals ys us->xs=ys
 | _,_,_,.nil,.nil=>rfl
 | _,_,_,.cons r t,.cons r' t'=>by rw [r.inj r',Vals.inj t t']
section
variable {X:Cx}{pins:List (Addr×Obj)}{σ:St}{H:Hp}{s:Shared}{a:Addr}{xs ys:List V}
theorem SqL.of{K:Frag}(h:H a=some (.lst xs)):SqL K H a xs:=.inl (.inl h)
theorem SqT.of{K:Frag}(h:H a=some (.tup xs)):SqT K H a xs:=.inl (.inl h)
theorem Inv.list(I:Inv X pins σ H s)(h:SqL X.K H a xs):∃its:List Value,Vals xs its/\PlainL s.heap a its.toArray/\xs.length<=sizeLine:=by
 rcases h with h | ⟨o,its,n,hk,hc,hd,hs,hz,r⟩
 ·obtain⟨z,its,n,r,e⟩:=h.ok I.hok
  exact⟨its,r,⟨_,n,e,rfl,rfl,rfl⟩,z⟩
 ·refine⟨its.toList,r,⟨o,n,I.kIn a o hk,hc,hd,by simpa using hs⟩,?_⟩
  have e:=r.length
  simp only [Array.length_toList] at e
  omega
theorem Inv.tuple(I:Inv X pins σ H s)(h:SqT X.K H a xs):∃its:List Value,Vals xs its/\IsTup s.heap a its.toArray/\xs.length<=sizeLine:=by
 rcases h with h | ⟨o,its,n,hk,hc,hs,hz,r⟩
 ·obtain⟨z,its,r,p⟩:=h.ok I.hok
  exact⟨its,r,p.tup,z⟩
 ·refine⟨its.toList,r,⟨o,I.kIn a o hk,hc,n,by simpa using hs⟩,?_⟩
  have e:=r.length
  simp only [Array.length_toList] at e
  omega
theorem Inv.list_inj(I:Inv X pins σ H s)(h:SqL X.K H a xs)(h':SqL X.K H a ys):xs=ys:=by
 obtain⟨its,r,⟨o,n,e,_,_,d⟩,_⟩:=I.list h
 obtain⟨its',r',⟨o',n',e',_,_,d'⟩,_⟩:=I.list h'
 rw [e] at e'; cases e'
 rw [d] at d'
 injection d' with d1 _
 have:its=its':=by simpa using congrArg Array.toList d1
 subst this
 exact r.inj r'
theorem Inv.tuple_inj(I:Inv X pins σ H s)(h:SqT X.K H a xs)(h':SqT X.K H a ys):xs=ys:=by
 obtain⟨its,r,⟨o,e,_,n,d⟩,_⟩:=I.tuple h
 obtain⟨its',r',⟨o',e',_,n',d'⟩,_⟩:=I.tuple h'
 rw [e] at e'; cases e'
 rw [d] at d'
 injection d' with d1 _
 have:its=its':=by simpa using congrArg Array.toList d1
 subst this
 exact r.inj r'
end
noncomputable abbrev Cx.wish(X:Cx)(E:Value->Shared->Prop):Cx:={ X with xe:=E }
noncomputable abbrev Cx.nox(X:Cx):Cx:=X.wish fun _ _=>False
theorem Cx.Ok.wish{X:Cx}(ok:X.Ok)(E:Value->Shared->Prop):(X.wish E).Ok :=
 ⟨ok.mod,ok.kind,ok.glob,ok.blt,ok.above,ok.inj,ok.has,ok.cab,ok.hd,ok.frames,ok.stk,ok.exf,ok.bs,ok.bsz,ok.noex,ok.exfs,ok.funs,ok.frf⟩
theorem Cx.Ok.unwish{X:Cx}{E:Value->Shared->Prop}(ok:(X.wish E).Ok):X.Ok :=
 ⟨ok.mod,ok.kind,ok.glob,ok.blt,ok.above,ok.inj,ok.has,ok.cab,ok.hd,ok.frames,ok.stk,ok.exf,ok.bs,ok.bsz,ok.noex,ok.exfs,ok.funs,ok.frf⟩
section
variable {X:Cx}{pins:List (Addr×Obj)}{σ:St}{H:Hp}{s:Shared}{E:Value->Shared->Prop}
theorem Inv.wish(I:Inv X pins σ H s)(E:Value->Shared->Prop):Inv (X.wish E) pins σ H s:=⟨I.ok.wish E,I.os,I.bare,I.base,I.loc,I.cell,I.free,I.freeC,I.pin,I.hok,I.len⟩
theorem Inv.unwish(I:Inv (X.wish E) pins σ H s):Inv X pins σ H s:=⟨I.ok.unwish,I.os,I.bare,I.base,I.loc,I.cell,I.free,I.freeC,I.pin,I.hok,I.len⟩
theorem SP.unwish{D:Ends}{f:Flow}{s':Shared}(h:SP (X.wish E) pins D f s'):SP X pins D f s':=by
 cases f with
 | next=>obtain⟨σ',H',I,q⟩:=h; exact⟨σ',H',I.unwish,q⟩
 | brk=>obtain⟨σ',H',I,q⟩:=h; exact⟨σ',H',I.unwish,q⟩
 | cont=>obtain⟨σ',H',I,q⟩:=h; exact⟨σ',H',I.unwish,q⟩
 | ret u=>obtain⟨v,σ',H',I,r,q⟩:=h; exact⟨v,σ',H',I.unwish,r,q⟩
theorem PSs.nox{st:List Stmt}{t:TS}(h:PSs X.nox st t):PSs X st t:=fun pins s σ H D I hw =>
 wpAny_mono (h pins s σ H D (I.wish _) hw) (fun _ _ q=>q.unwish) fun _ _ z=>False.elim z
end
section
variable {X:Cx}{st:Stmt}{rest:List Stmt}{t u:TS}{e:Expr}{te:TE}{pos:Pos}
noncomputable def Ql:TS:=fun D σ H=>D.nx σ H
noncomputable def L_(t u:TS):TS:=fun D σ H=>t { D with nx:=u D } σ H
theorem H_:PSs X [] Ql:=fun _ _ σ H _ I h=>wpAny_execs_nil ⟨σ,H,I,h⟩
theorem A1(h1:PS X st t)(h2:PSs X rest u):PSs X (st::rest) (L_ t u):=by
 intro pins s σ H D I h
 refine wpAny_execs_cons (A_ (h1 pins s σ H { D with nx:=u D } I h) fun f s1 q=>?_)
 cases f with
 | next =>
  obtain⟨σ',H',I',q⟩:=q
  exact h2 pins s1 σ' H' D I' q
 | ret v=>exact q
 | brk=>exact q
 | cont=>exact q
theorem CZ(h1:PS X st t):PSs X [st] t:=by
 intro pins s σ H D I h
 refine wpAny_execs_cons (A_ (h1 pins s σ H D I h) fun f s1 q=>?_)
 cases f with
 | next=>exact wpAny_execs_nil q
 | ret v=>exact q
 | brk=>exact q
 | cont=>exact q
theorem Inv.quiet{pins:List (Addr×Obj)}{σ:St}{H:Hp}{s:Shared}(I:Inv X pins σ H s):interactive X.env=false:=by simp [interactive,I.ok.kind]
noncomputable def S_(te:TE):TS:=fun D σ H=>te σ H fun _ H1=>D.nx σ H1
theorem LV(he:PE X e te)(hs:swapsWith e none pos.line X.env=pure false:=by rfl):PS X (.Expr e pos) (S_ te):=by
 intro pins s σ H D I h
 exact wpAny_Expr_any (A_ (he pins s σ H _ I h) fun v s1 ⟨x,H1,I1,r1,q1⟩=>⟨σ,H1,I1,q1⟩) I.quiet hs
noncomputable def Pg(te:TE):TS:=fun D σ H=>te σ H D.rt
theorem Dy(he:PE X e te):PS X (.Return (some e) pos) (Pg te):=by
 intro pins s σ H D I h
 exact wpAny_Return_some (A_ (he pins s σ H _ I h) fun v s1 ⟨x,H1,I1,r1,q1⟩=>⟨x,σ,H1,I1,r1,q1⟩)
noncomputable def S9(c:TT)(t u:TS):TS:=fun D σ H=>c σ H fun b H1=>if b=true then t D σ H1 else u D σ H1
theorem N9{c:Expr}{a b:List Stmt}{tc:TT}(hc:PT X c tc)(ha:PSs X a t)(hb:PSs X b u):PS X (.If c a b pos) (S9 tc t u):=by
 intro pins s σ H D I h
 refine wpAny_If (A_ (hc pins s σ H _ I h) fun d s1 ⟨H1,I1,q1⟩=>?_)
 cases d with
 | true=>exact ha pins s1 σ H1 D I1 q1
 | false=>exact hb pins s1 σ H1 D I1 q1
end
noncomputable abbrev TG:=V->St->Hp->(St->Hp->Prop)->Prop
noncomputable abbrev Sn:=List V->St->Hp->(St->Hp->Prop)->Prop
noncomputable def PG(X:Cx)(target:Expr)(t:TG):Prop :=
 ∀(pins:List (Addr×Obj)) (s:Shared) (σ:St) (H:Hp) (v:V) (u:Value) (Q:St->Hp->Prop),Inv X pins σ H s->RelV v u->t v σ H Q ->
  wpAny (model X.prog X.w) X.A (assign target X.env u) (fun _ s'=>∃σ' H',Inv X pins σ' H' s'/\Q σ' H') X.xe s
noncomputable def UD(X:Cx)(ts:List Expr)(t:Sn):Prop :=
 ∀(pins:List (Addr×Obj)) (s:Shared) (σ:St) (H:Hp) (vs:List V) (us:List Value) (Q:St->Hp->Prop),Inv X pins σ H s->Vals vs us->t vs σ H Q ->
  wpAny (model X.prog X.w) X.A (assignInOrder ((assignEach ts X.env).map (·.2)) us) (fun _ s'=>∃σ' H',Inv X pins σ' H' s'/\Q σ' H') X.xe s
noncomputable abbrev Sm:=V->V->V->Hp->(Hp->Prop)->Prop
noncomputable def UB(X:Cx)(t:Sm):Prop :=
 ∀(pins:List (Addr×Obj)) (s:Shared) (σ:St) (H:Hp) (o i v:V) (ov iv u:Value) (Q:Hp->Prop),Inv X pins σ H s->RelV o ov->RelV i iv->RelV v u->t o i v H Q ->
  wpAny (model X.prog X.w) X.A (setItem ov iv u) (fun _ s'=>∃H',Inv X pins σ H' s'/\Q H') X.xe s
section
variable {X:Cx}{pos:Pos}
noncomputable def E6(i:Nat):TG:=fun v σ H Q=>Q (σ.set i (some v)) H
theorem EM{i:Nat}{x:Str}(hN:X.N.Nodup)(hi:X.N[i]?=some x)(hx:Loc X.env.scope x)(hf:X.fn x=true\/X.env.scope.names.lookup x=some .local:=by first | exact .inl rfl | exact .inr rfl | assumption):PG X (.Name x pos) (E6 i):=by
 intro pins s σ H v u Q I r h
 exact wpAny_assign_Name (JC I hN hi hx r (fun s' I'=>⟨_,H,I',h⟩) hf)
noncomputable def Uu:Sn:=fun vs σ H Q=>vs=[]/\Q σ H
noncomputable def Tp(t:TG)(u:Sn):Sn:=fun vs σ H Q=>∃v r,vs=v::r/\t v σ H fun σ' H'=>u r σ' H' Q
theorem LZ:UD X [] Uu:=by
 intro pins s σ H vs us Q I r h
 obtain⟨e,h⟩:=h
 subst e
 cases r
 exact assignInOrder_nil ⟨σ,H,I,h⟩
theorem EL{e:Expr}{es:List Expr}{t:TG}{u:Sn}(h1:PG X e t)(h2:UD X es u)
  (hs:(assignEach (e::es) X.env).map (·.2)=assign e X.env::(assignEach es X.env).map (·.2):=by rfl):UD X (e::es) (Tp t u):=by
 intro pins s σ H vs us Q I r h
 obtain⟨v,vr,e1,h⟩:=h
 subst e1
 cases r with
 | cons r rr =>
  rw [hs]
  refine assignInOrder_cons (A_ (h1 pins s σ H _ _ _ I r h) fun _ s1 ⟨σ1,H1,I1,q1⟩=>?_)
  exact h2 pins s1 σ1 H1 _ _ Q I1 rr q1
noncomputable def Ut(K:Frag)(n:Nat)(t:Sn):TG:=fun v σ H Q=>∃a xs,v=.ref a/\SqT K H a xs/\xs.length=n/\t xs σ H Q
theorem OE{es:List Expr}{k:Nat}{t:Sn}{n:Nat}(hc:X.calm=true)(h:UD X es t)
  (hn:(assignEach es X.env).length=n:=by rfl) (hst:(assignEach es X.env).findIdx? (·.1)=none:=by rfl):PG X (.Tuple es k pos) (Ut X.K n t):=by
 intro pins s σ H v u Q I r hw
 obtain⟨a,xs,e1,hq,hl,hw⟩:=hw
 subst e1
 cases r
 obtain⟨its,rv,ht,hz⟩:=I.tuple hq
 refine assign_Tuple_tuple (I.ok.hd hc) ht (by simp [hn,← hl,rv.length]) hst fun h' hx=>?_
 have I1:Inv X pins σ H { s with heap:=h' }:=I.kept (t':=s.toks) fun b o e=>hx b o (Nat.ne_of_lt (Heap.lt_size e)) e
 exact h pins _ σ H xs _ Q I1 (by simpa using rv) hw
noncomputable def To(to ti:TE)(t:Sm):TG:=fun v σ H Q=>to σ H fun o H1=>ti σ H1 fun i H2=>t o i v H2 fun H3=>Q σ H3
theorem Kb{o i:Expr}{to ti:TE}{t:Sm}(ho:PE X o to)(hi:PE X i ti)(hs:UB X t)
  (ha:∀v,assign (.Subscript o i pos) X.env v=(do
   let ov ← holding [v] (eval o X.env)
   let iv ← holding [v,ov] (eval i X.env)
   standAt pos
   holding [v,ov,iv] (setItem ov iv v)
   release [v,ov,iv] []):=by intro _; rfl):PG X (.Subscript o i pos) (To to ti t):=by
 intro pins s σ H v u Q I r h
 rw [ha]
 refine wpAny_bind (wpAny_holding (A_ (ho pins s σ H _ I h) fun ov s1 ⟨x,H1,I1,r1,q1⟩=>?_))
 refine wpAny_bind (wpAny_holding (A_ (hi pins s1 σ H1 _ I1 q1) fun iv s2 ⟨y,H2,I2,r2,q2⟩=>?_))
 refine wpAny_bind (wpAny_standAt (wpAny_bind (wpAny_holding (A_ (hs pins s2 σ H2 x y v ov iv u _ I2 r1 r2 r q2) fun _ s3 ⟨H3,I3,q3⟩=>?_))))
 exact wpAny_release ⟨σ,H3,I3,q3⟩
noncomputable def I_(te:TE)(g:TG):TS:=fun D σ H=>te σ H fun x H1=>g x σ H1 D.nx
theorem KY{tg e:Expr}{te:TE}{g:TG}(he:PE X e te)(hg:PG X tg g)(hs:swapsWithSole [tg] e pos.line X.env=pure false:=by rfl)(hw:swappedStores [tg] e X.env=pure none:=by rfl)
  (h1:(assignEach [tg] X.env).map (·.2)=[assign tg X.env]:=by rfl):PS X (.Assign [tg] e pos) (I_ te g):=by
 intro pins s σ H D I h
 refine wpAny_Assign_stores (A_ (he pins s σ H _ I h) fun v s1 ⟨x,H1,I1,r1,q1⟩=>?_) hs hw
 rw [h1]
 exact A_ (hg pins s1 σ H1 x v _ I1 r1 q1) fun _ s2 q=>q
theorem C_{i:Nat}{x:Str}{e:Expr}{te:TE}{pos':Pos}(hN:X.N.Nodup)(hi:X.N[i]?=some x)(hx:Loc X.env.scope x)(he:PE X e te)(hs:swapsWith e (some (.Name x pos')) pos.line X.env=pure false:=by rfl)(hf:X.fn x=true\/X.env.scope.names.lookup x=some .local:=by first | exact .inl rfl | exact .inr rfl | assumption) :
  PS X (.Assign [.Name x pos'] e pos) (I_ te (E6 i)):=by
 intro pins s σ H D I h
 refine wpAny_Assign_Name (A_ (he pins s σ H _ I h) fun v s1 ⟨y,H1,I1,r1,q1⟩=>?_) hs
 exact JC I1 hN hi hx r1 (fun s2 I2=>⟨_,H1,I2,q1⟩) hf
end
section
variable {X:Cx}{pos:Pos}
noncomputable def RS(c:TT)(tb:TS):TS:=fun D σ H=>∃W:Nat->St->Hp->Prop,(∃m,W m σ H)/\∀m σ H,W m σ H ->
 c σ H fun b H1=>if b=true then ∃N:St->Hp->Prop,(∀σ' H',N σ' H'->∃m',m'<m/\W m' σ' H')/\tb { D with nx:=N,ct:=N,bk:=D.nx } σ H1 else D.nx σ H1
theorem N8{c:Expr}{body:List Stmt}{tc:TT}{tb:TS}(hp:PassesOwn (model X.prog X.w) X.A X.env X.xe)(hc:PT X c tc)(hb:PSs X body tb):PS X (.While c body [] pos) (RS tc tb):=by
 intro pins s σ H D I h
 obtain⟨W,⟨m0,w0⟩,turn⟩:=h
 refine wpAny_While (codeAny_whileLoop (fun n s'=>∃σ' H',Inv X pins σ' H' s'/\W n σ' H') ?_ m0 ⟨σ,H,I,w0⟩)
 rintro n s1 ⟨σ1,H1,I1,w1⟩
 refine wpAny_passesOwn hp (A_ (hc pins s1 σ1 H1 _ I1 (turn n σ1 H1 w1)) fun b s2 ⟨H2,I2,q2⟩=>?_)
 cases b with
 | true =>
  obtain⟨N,hN,q2⟩:=q2
  rw [if_pos rfl]
  refine wpAny_passesOwn hp (A_ (hb pins s2 σ1 H2 _ I2 q2) fun f s3 q3=>?_)
  cases f with
  | next =>
   obtain⟨σ3,H3,I3,n3⟩:=q3
   obtain⟨m',hm,w3⟩:=hN σ3 H3 n3
   exact⟨m',hm,σ3,H3,I3,w3⟩
  | cont =>
   obtain⟨σ3,H3,I3,n3⟩:=q3
   obtain⟨m',hm,w3⟩:=hN σ3 H3 n3
   exact⟨m',hm,σ3,H3,I3,w3⟩
  | brk=>exact q3
  | ret v=>exact q3
 | false =>
  rw [if_neg Bool.false_ne_true]
  exact wpAny_execs_nil ⟨σ1,H2,I2,q2⟩
end
structure It where
 go:Nat->Hp->Prop
 yld:Nat->Hp->V->Hp->Prop
 stop:Nat->Hp->Prop
noncomputable def Eg(X:Cx)(pins:List (Addr×Obj))(H:Hp)(b:Addr):Prop :=
 H b=none/\b≠X.env.locals/\b∉X.fs/\(b∈X.ex\/X.s₀.heap.objs.size<=b)/\(∀x c,X.env.cells.lookup x=some c->c≠b)/\∀p∈X.pn++pins,p.1≠b
theorem Inv.fpOk{X:Cx}{pins:List (Addr×Obj)}{σ:St}{H H':Hp}{s:Shared}{b:Addr}(I:Inv X pins σ H s)(hb:s.heap.objs.size<=b)(hn:H' b=none):Eg X pins H' b:=by
 refine⟨hn,Nat.ne_of_gt (Nat.lt_of_lt_of_le I.lt hb),I.nofs hb,.inr (Nat.le_trans I.sz hb),fun x c e z=>?_,fun p hp z=>?_⟩
 ·obtain⟨v,q⟩:=I.cell x c e
  exact absurd (Nat.lt_of_lt_of_le q.lt (by rw [z]; exact hb)) (Nat.lt_irrefl _)
 ·exact absurd (Nat.lt_of_lt_of_le (Heap.lt_size (I.pin p hp).1) (by rw [z]; exact hb)) (Nat.lt_irrefl _)
structure Turn (P:Program) (w:World) (K:Frag) (tg:Expr) (J:It) (fp:List Addr) (it:Addr) (tn:Nat->Heap->Prop):Prop where
 mem:it∈fp
 obj:∀i h,tn i h->∀b∈fp,∃o,h.get? b=some o/\∀v,o.data≠.cell v
 keep:∀i h h',tn i h->(∀b∈fp,∀o,h.get? b=some o->h'.get? b=some o)->tn i h'
 item:∀(X:Cx),X.prog=P->X.w=w->X.K=K->X.calm=true->∀(i:Nat) (pins:List (Addr×Obj)) (s:Shared) (σ:St) (H:Hp) (E:Value->Shared->Prop),Inv X pins σ H s->(∀b∈fp,Eg X pins H b)->tn i s.heap->J.go i H ->
  wpAny (model P w) X.A (pyNext (.ref it)) (fun r s1=>∃u,r=some u /\
   wpAny (model P w) X.A (letOwnedTupleGo tg (.ref it) u) (fun _ s2=>∃x H',Inv X pins σ H' s2/\RelV x u/\J.yld i H x H'/\tn (i+1) s2.heap/\∀b∈fp,H' b=none) E s1) E s
 done:∀(X:Cx),X.prog=P->X.w=w->X.K=K->X.calm=true->∀(i:Nat) (pins:List (Addr×Obj)) (s:Shared) (σ:St) (H:Hp) (E:Value->Shared->Prop),Inv X pins σ H s->(∀b∈fp,Eg X pins H b)->tn i s.heap->J.stop i H ->
  wpAny (model P w) X.A (pyNext (.ref it)) (fun r s1=>r=none/\Inv X pins σ H s1) E s
 self:∀(A:Around) (i:Nat) (s:Shared) (Q:Value->Shared->Prop) (E:Value->Shared->Prop),tn i s.heap->Q (.ref it) s->wpAny (model P w) A (pyIter (.ref it)) Q E s
noncomputable abbrev TI:=St->Hp->(It->Hp->Prop)->Prop
noncomputable def VI(X:Cx)(pins:List (Addr×Obj))(σ:St)(tg:Expr)(R:It->Hp->Prop)(itv:Value)(s2:Shared):Prop :=
 ∃(it:Addr) (fp:List Addr) (tn:Nat->Heap->Prop) (J:It) (H':Hp),itv=.ref it/\Inv X pins σ H' s2/\Turn X.prog X.w X.K tg J fp it tn/\tn 0 s2.heap/\(∀b∈fp,Eg X pins H' b)/\R J H'
noncomputable def PI(X:Cx)(tg iter:Expr)(wi:TI):Prop :=
 ∀(pins:List (Addr×Obj)) (s:Shared) (σ:St) (H:Hp) (R:It->Hp->Prop),Inv X pins σ H s->wi σ H R ->
  wpAny (model X.prog X.w) X.A (eval iter X.env) (fun v s1=>wpAny (model X.prog X.w) X.A (pyIter v) (VI X pins σ tg R) X.xe s1) X.xe s
theorem Ll {M : Model} {A : Around} {E : Value → Shared → Prop} {s : Shared} {tg : Expr} {it : Addr} {u : Value} {o : Obj} {n : String} {vs : Array Value} {Q : Unit → Shared → Prop} (ho : s.heap.get? it = some o) (hc : o.cls = .type n) (hd : o.data = .fields vs)
    (hn : ["enumerate", "zip", "dict_itemiterator", "dict_reverseitemiterator", "odict_iterator", "itertools.zip_longest", "itertools.pairwise"].contains n = false) (hQ : Q () s) : wpAny M A (letOwnedTupleGo tg (.ref it) u) Q E s := by
  unfold letOwnedTupleGo
  cases tg <;> first
    | exact wpAny_pure hQ
    | (cases u <;> first
        | exact wpAny_pure hQ
        | (refine wpAny_bind (wpAny_load ho ?_)
           rw [hc, hd]
           show wpAny M A (if (["enumerate", "zip", "dict_itemiterator", "dict_reverseitemiterator", "odict_iterator", "itertools.zip_longest", "itertools.pairwise"].contains n && vs[0]? == some (rawInt _)) = true then _ else _) Q E s
           rw [if_neg (by intro h; rw [hn, Bool.false_and] at h; cases h)]
           exact wpAny_pure hQ))
noncomputable def U9(K:Frag)(a:Addr):It :=
 ⟨fun i H=>∃xs x,SqL K H a xs/\xs[i]?=some x,fun i H x H'=>H'=H/\∀xs,SqL K H a xs->xs[i]?=some x,fun i H=>∃xs,SqL K H a xs/\xs.length<=i⟩
noncomputable def Sv(K:Frag)(a:Addr):It :=
 ⟨fun i H=>∃xs x,SqT K H a xs/\xs[i]?=some x,fun i H x H'=>H'=H/\∀xs,SqT K H a xs->xs[i]?=some x,fun i H=>∃xs,SqT K H a xs/\xs.length<=i⟩
noncomputable def UJ(lo:Int)(n:Nat):It:=⟨fun i _=>i<n,fun i H x H'=>H'=H/\x=.int (lo+i),fun i _=>n<=i⟩
theorem L8{P:Program}{w:World}{K:Frag}{tg:Expr}(a it:Addr):Turn P w K tg (U9 K a) [it] it (fun i h=>h.IsListIter it a i) where
 mem:=by simp
 obj:=fun i h st b hb=>by
  have e:b=it:=by simpa using hb
  subst e
  obtain⟨o,e,c,d⟩:=st
  exact⟨o,e,fun v z=>by rw [d] at z; cases z⟩
 keep:=fun i h h' st k=>st.at fun o e=>k it (by simp) o e
 item:=by
  intro X hP hw hK hc i pins s σ H E I hf st hg
  subst hP hw hK
  obtain⟨xs,x,hq,hx⟩:=hg
  obtain⟨its,rv,p,hz⟩:=I.list hq
  obtain⟨u,hu,ru⟩:=rv.get hx
  obtain⟨f0,f1,f2,f3,f4,f5⟩:=hf it (by simp)
  refine wpAny_pyNext_list_item st p.isList (x:=u) (by simpa using hu) fun h' st' sb=>?_
  have I1:Inv X pins σ H { s with heap:=h' }:=I.turned (t':=s.toks) (fun b o hb e=>(sb.2 b hb).trans e) f0 f1 f3 f4 f5
  obtain⟨o,e,c,d⟩:=id st'
  exact⟨u,rfl,Ll (s:={ s with heap:=h' }) e c d (by decide) ⟨x,H,I1,ru,⟨rfl,fun ys hy=>by rw [I.list_inj hy hq]; exact hx⟩,st',fun b hb=>(hf b hb).1⟩⟩
 done:=by
  intro X hP hw hK hc i pins s σ H E I hf st hg
  subst hP hw hK
  obtain⟨xs,hq,hx⟩:=hg
  obtain⟨its,rv,p,hz⟩:=I.list hq
  obtain⟨f0,f1,f2,f3,f4,f5⟩:=hf it (by simp)
  have hl:=rv.length
  exact wpAny_pyNext_list_end (I.ok.hd hc) st p.isList (by simp; omega) fun h' eb=>⟨rfl,I.turned (t':=s.toks) (fun b o hb e=>eb b o hb e) f0 f1 f3 f4 f5⟩
 self:=fun _ _ _ _ _ st h=>wpAny_pyIter_listiter st h
theorem Fh{P:Program}{w:World}{K:Frag}{tg:Expr}(a it:Addr):Turn P w K tg (Sv K a) [it] it (fun i h=>h.IsTupleIter it a i) where
 mem:=by simp
 obj:=fun i h st b hb=>by
  have e:b=it:=by simpa using hb
  subst e
  obtain⟨o,e,c,d⟩:=st
  exact⟨o,e,fun v z=>by rw [d] at z; cases z⟩
 keep:=fun i h h' st k=>st.at fun o e=>k it (by simp) o e
 item:=by
  intro X hP hw hK hc i pins s σ H E I hf st hg
  subst hP hw hK
  obtain⟨xs,x,hq,hx⟩:=hg
  obtain⟨its,rv,p,hz⟩:=I.tuple hq
  obtain⟨u,hu,ru⟩:=rv.get hx
  obtain⟨f0,f1,f2,f3,f4,f5⟩:=hf it (by simp)
  refine wpAny_pyNext_tuple_item st (show s.heap.IsTuple a its.toArray from p) (x:=u) (by simpa using hu) fun h' st' sb=>?_
  have I1:Inv X pins σ H { s with heap:=h' }:=I.turned (t':=s.toks) (fun b o hb e=>(sb.2 b hb).trans e) f0 f1 f3 f4 f5
  obtain⟨o,e,c,d⟩:=id st'
  exact⟨u,rfl,Ll (s:={ s with heap:=h' }) e c d (by decide) ⟨x,H,I1,ru,⟨rfl,fun ys hy=>by rw [I.tuple_inj hy hq]; exact hx⟩,st',fun b hb=>(hf b hb).1⟩⟩
 done:=by
  intro X hP hw hK hc i pins s σ H E I hf st hg
  subst hP hw hK
  obtain⟨xs,hq,hx⟩:=hg
  obtain⟨its,rv,p,hz⟩:=I.tuple hq
  obtain⟨f0,f1,f2,f3,f4,f5⟩:=hf it (by simp)
  have hl:=rv.length
  exact wpAny_pyNext_tuple_end (I.ok.hd hc) st (show s.heap.IsTuple a its.toArray from p) (by simp; omega) fun h' eb=>⟨rfl,I.turned (t':=s.toks) (fun b o hb e=>eb b o hb e) f0 f1 f3 f4 f5⟩
 self:=fun _ _ _ _ _ st h=>wpAny_pyIter_tupleiter st h
theorem KA{P:Program}{w:World}{K:Frag}{tg:Expr}(it:Addr)(lo:Int)(n:Nat):Turn P w K tg (UJ lo n) [it] it (fun i h=>IsRangeIter h it (lo+(i:Nat)*1) ((n:Int) - (i:Nat)) 1) where
 mem:=by simp
 obj:=fun i h st b hb=>by
  have e:b=it:=by simpa using hb
  subst e
  exact⟨_,st,fun v z=>by
   have z':Data.fields _=Data.cell v:=z
   cases z'⟩
 keep:=fun i h h' st k=>k it (by simp) _ st
 item:=by
  intro X hP hw hK hc i pins s σ H E I hf st hg
  subst hP hw hK
  obtain⟨f0,f1,f2,f3,f4,f5⟩:=hf it (by simp)
  have W:=Walks.range (prog:=X.prog) (w:=X.w) (I.ok.hd hc) it lo 1 n
  refine W.item i s _ _ hg st fun v h' tk hv st' kk=>?_
  obtain⟨t,rfl⟩:=hv
  have I1:Inv X pins σ H { s with heap:=h',toks:=tk }:=I.turned (fun b o hb e=>kk b o (by simpa using hb) e) f0 f1 f3 f4 f5
  refine⟨_,rfl,Ll (s:={ s with heap:=h',toks:=tk }) (n := "range_iterator") st' rfl rfl (by decide) ⟨.int (lo+i),H,I1,⟨t,?_⟩,⟨rfl,rfl⟩,st',fun b hb=>(hf b hb).1⟩⟩
  rw [Int.mul_one]
 done:=by
  intro X hP hw hK hc i pins s σ H E I hf st hg
  subst hP hw hK
  obtain⟨f0,f1,f2,f3,f4,f5⟩:=hf it (by simp)
  exact wpAny_pyNext_range_end (I.ok.hd hc) st (by have:n<=i:=hg; omega) fun h' eb=>⟨rfl,I.turned (t':=s.toks) (fun b o hb e=>eb b o hb e) f0 f1 f3 f4 f5⟩
 self:=fun _ _ _ _ _ st h=>wpAny_pyIter_rangeiter st h
section
variable {X:Cx}{tg:Expr}
noncomputable def Uq(K:Frag)(tl:TE):TI:=fun σ H R=>tl σ H fun x H1=>∃a,x=.ref a/\(∃xs,SqT K H1 a xs)/\R (Sv K a) H1
theorem OC{l:Expr}{tl:TE}(hl:PE X l tl):PI X tg l (Uq X.K tl):=by
 intro pins s σ H R I h
 refine A_ (hl pins s σ H _ I h) fun v s1 ⟨x,H1,I1,r1,q1⟩=>?_
 obtain⟨a,e,⟨xs,hq⟩,q⟩:=q1
 subst e
 cases r1
 obtain⟨its,rv,p,hz⟩:=I1.tuple hq
 refine wpAny_pyIter_tuple (show s1.heap.IsTuple a its.toArray from p) ?_
 refine⟨s1.heap.objs.size,[s1.heap.objs.size],_,_,H1,rfl,I1.kept (t':=s1.toks) fun b o e=>Heap.get?_push_of_some _ e,Fh a _,⟨_,Heap.get?_push_size _ rfl,rfl,rfl⟩,fun b hb=>?_,q⟩
 have e:b=s1.heap.objs.size:=by simpa using hb
 subst e
 exact I1.fpOk (Nat.le_refl _) (I1.hok.fresh (Nat.le_refl _))
theorem JH{pins:List (Addr×Obj)}{σ:St}{H:Hp}{s:Shared}{R:It->Hp->Prop}{E:Value->Shared->Prop}{lo hi:Int}{t u v:Tok}{tk:Nat}(I:Inv X pins σ H s)(h1:-(2 ^ 62)<=lo)(h2:lo<2 ^ 62)(h3:-(2 ^ 62)<=hi)(h4:hi<2 ^ 62)
  (q:R (UJ lo (hi - lo).toNat) H):wpAny (model X.prog X.w) X.A (pyIter (.ref s.heap.objs.size)) (VI X pins σ tg R) E { s with heap:=s.heap.push { cls:=.type "range",data:=.fields #[.int lo t,.int hi u,.int 1 v] },toks:=tk }:=by
 refine wpAny_pyIter_range (IsRange.new ..) (small_one h1 h2 h3 h4) ?_
 have I1:Inv X pins σ H { s with heap:=s.heap.push { cls:=.type "range",data:=.fields #[.int lo t,.int hi u,.int 1 v] },toks:=tk }:=I.kept fun b o e=>Heap.get?_push_of_some _ e
 refine⟨(s.heap.push { cls:=.type "range",data:=.fields #[.int lo t,.int hi u,.int 1 v] }).objs.size,[(s.heap.push { cls:=.type "range",data:=.fields #[.int lo t,.int hi u,.int 1 v] }).objs.size],_,_,H,rfl,
  I1.kept (t':=tk) fun b o e=>Heap.get?_push_of_some _ e,KA _ lo (hi - lo).toNat,?_,fun b hb=>?_,q⟩
 ·have e1:lo+((0:Nat):Int)*1=lo:=by simp
  have e2:(((hi - lo).toNat:Nat):Int) - ((0:Nat):Int)=Builtin.Range.rangeSize lo hi 1:=by rw [rangeSize_one]; split <;> omega
  show IsRangeIter _ _ (lo+((0:Nat):Int)*1) ((((hi - lo).toNat:Nat):Int) - ((0:Nat):Int)) 1
  rw [e1,e2]
  exact Heap.get?_push_size _ rfl
 ·have e:b=(s.heap.push { cls:=.type "range",data:=.fields #[.int lo t,.int hi u,.int 1 v] }).objs.size:=by simpa using hb
  subst e
  exact I1.fpOk (Nat.le_refl _) (I1.hok.fresh (Nat.le_refl _))
noncomputable def Tl(ta:TA):TI:=fun σ H R=>ta σ H fun vs H1=>∃j:Int,vs=[.int j]/\-(2 ^ 62)<=j/\j<2 ^ 62/\R (UJ 0 j.toNat) H1
noncomputable def Tj(ta:TA):TI:=fun σ H R=>ta σ H fun vs H1=>∃i j:Int,vs=[.int i,.int j]/\(-(2 ^ 62)<=i/\i<2 ^ 62/\-(2 ^ 62)<=j/\j<2 ^ 62)/\R (UJ i (j - i).toNat) H1
theorem MQ{a:Expr}{ta:TA}{p pos:Pos}(hg:Gl X "range")(hm:X.mg "range"=none)(ha:PA X [a] ta)(hs:starEach [a] X.env=[(false,eval a X.env)]:=by rfl):PI X tg (.Call (.Name "range" p) [a] [] pos) (Tl ta):=by
 intro pins s σ H R I h
 refine Call_ (CN I hg hm boot_range (PyProof.Rows.callWith_type1 (A_ (ha pos pins s σ H _ I h) fun us s1 ⟨vs,H1,I1,r1,q1⟩=>?_) hs rfl))
 obtain⟨j,e,q1,q2,q⟩:=q1
 subst e
 cases r1 with
 | cons r rr =>
  cases rr
  obtain⟨t,rfl⟩:=r
  exact call_range_1 (JH I1 (by omega) (by omega) q1 q2 (by simpa using q))
theorem MP{a b:Expr}{ta:TA}{p pos:Pos}(hg:Gl X "range")(hm:X.mg "range"=none)(ha:PA X [a,b] ta)(hs:starEach [a,b] X.env=[(false,eval a X.env),(false,eval b X.env)]:=by rfl)(hs2:starEach [b] X.env=[(false,eval b X.env)]:=by rfl) :
  PI X tg (.Call (.Name "range" p) [a,b] [] pos) (Tj ta):=by
 intro pins s σ H R I h
 refine Call_ (CN I hg hm boot_range (PyProof.Rows.callWith_type1 (A_ (ha pos pins s σ H _ I h) fun us s1 ⟨vs,H1,I1,r1,q1⟩=>?_) (by rw [hs,hs2]) (by rw [hs2]; rfl)))
 obtain⟨i,j,e,⟨q1,q2,q3,q4⟩,q⟩:=q1
 subst e
 cases r1 with
 | cons r rr =>
  cases rr with
  | cons r' rr =>
   cases rr
   obtain⟨t,rfl⟩:=r
   obtain⟨t',rfl⟩:=r'
   exact call_range_2 (JH I1 q1 q2 q3 q4 q)
noncomputable def Ui(wi:TI)(g:TG)(tb:TS):TS:=fun D σ H=>wi σ H fun J H1=>∃W:Nat->Nat->St->Hp->Prop,(∃m,W 0 m σ H1)/\∀i m σ H,W i m σ H ->
 (J.stop i H/\D.nx σ H)\/(J.go i H/\∃N:St->Hp->Prop,(∀σ' H',N σ' H'->∃m',m'<m/\W (i+1) m' σ' H')/\∀x H',J.yld i H x H'->g x σ H' fun σ2 H2=>tb { D with nx:=N,ct:=N,bk:=D.nx } σ2 H2)
noncomputable def Fw(fp:List Addr)(h:Heap):List (Addr×Obj):=fp.filterMap fun b=>(h.get? b).map fun o=>(b,o)
theorem Cv{fp:List Addr}{h:Heap}{b:Addr}{o:Obj}(hb:b∈fp)(e:h.get? b=some o):(b,o)∈Fw fp h:=List.mem_filterMap.mpr ⟨b,hb,by rw [e]; rfl⟩
theorem MY{fp:List Addr}{h:Heap}{p:Addr×Obj}(hp:p∈Fw fp h):p.1∈fp/\h.get? p.1=some p.2:=by
 obtain⟨b,hb,e⟩:=List.mem_filterMap.mp hp
 cases q:h.get? b with
 | none=>rw [q] at e; cases e
 | some o =>
  rw [q] at e
  have e':(b,o)=p:=Option.some.inj e
  subst e'
  exact⟨hb,q⟩
theorem Inv.pinned{pins:List (Addr×Obj)}{σ:St}{H:Hp}{s:Shared}{fp:List Addr}(I:Inv X pins σ H s)(hf:∀b∈fp,Eg X pins H b)(ho:∀b∈fp,∃o,s.heap.get? b=some o/\∀v,o.data≠.cell v):Inv X (pins++Fw fp s.heap) σ H s :=
 I.pins_of fun p hp=>(List.mem_append.mp hp).elim (fun z=>I.pin p (List.mem_append_right _ z)) fun z=>by
  obtain⟨hb,e⟩:=MY z
  obtain⟨f0,f1,f2,_⟩:=hf p.1 hb
  obtain⟨o,e',d⟩:=ho p.1 hb
  rw [e] at e'; cases e'
  exact⟨e,f0,f1,f2,d⟩
theorem Inv.unpinned{pins pl:List (Addr×Obj)}{σ:St}{H:Hp}{s:Shared}(I:Inv X (pins++pl) σ H s):Inv X pins σ H s:=I.pins_of fun p hp=>I.pin p (List.mem_append_right _ (List.mem_append_left _ hp))
theorem IA{iter:Expr}{body:List Stmt}{wi:TI}{g:TG}{tb:TS}{pos:Pos}(hp:PassesOwn (model X.prog X.w) X.A X.env X.xe)(hc:X.calm=true)(hi:PI X tg iter wi)(hg:PG X tg g)(hb:PSs X body tb)
  (hs:∀x,foldedSetIterable iter X.env x=pure x:=by intro _; rfl):PS X (.For tg iter body [] pos) (Ui wi g tb):=by
 intro pins s σ H D I h
 refine wpAny_For (A_ (hi pins s σ H _ I h) fun v s1 h1=>A_ h1 fun itv s2 h2=>?_) hs
 obtain⟨it,fp,tn,J,H2,e,I2,T,st2,f2,W,⟨m0,w0⟩,turn⟩:=h2
 subst e
 have stat:∀{H':Hp},(∀b∈fp,H' b=none)->∀b∈fp,Eg X pins H' b:=fun hn b hb=>⟨hn b hb,(f2 b hb).2⟩
 refine codeAny_forLoop_any (fun n s'=>∃i σ' H',Inv X pins σ' H' s'/\tn i s'.heap/\(∀b∈fp,H' b=none)/\W i n σ' H') ?_ m0 ⟨0,σ,H2,I2,st2,fun b hb=>(f2 b hb).1,w0⟩
 rintro n s3 ⟨i,σ3,H3,I3,st3,fr3,w3⟩
 rcases turn i n σ3 H3 w3 with ⟨stop,qn⟩ | ⟨go,N,hN,step⟩
 ·refine wpAny_passesOwn hp (A_ (T.done X rfl rfl rfl hc i pins s3 σ3 H3 X.xe I3 (stat fr3) st3 stop) fun r s4 ⟨hr,I4⟩=>?_)
  subst hr
  exact wpAny_execs_nil ⟨σ3,H3,I4,qn⟩
 ·refine wpAny_passesOwn hp (A_ (T.item X rfl rfl rfl hc i pins s3 σ3 H3 X.xe I3 (stat fr3) st3 go) fun r s4 ⟨u,hr,h4⟩=>?_)
  subst hr
  refine wpAny_passesOwn hp (A_ h4 fun _ s5 ⟨x,H5,I5,r5,y5,st5,fr5⟩=>?_)
  have I5':=I5.pinned (stat fr5) (T.obj _ _ st5)
  refine wpAny_passesOwn hp (A_ (hg _ s5 σ3 H5 x u _ I5' r5 (step x H5 y5)) fun _ s6 ⟨σ6,H6,I6,q6⟩=>?_)
  refine wpAny_passesOwn hp (A_ (hb _ s6 σ6 H6 _ I6 q6) fun f s7 q7=>?_)
  have again:∀{σ7:St} {H7:Hp},Inv X (pins++Fw fp s5.heap) σ7 H7 s7->N σ7 H7->∃m,m<n/\∃i σ' H',Inv X pins σ' H' s7/\tn i s7.heap/\(∀b∈fp,H' b=none)/\W i m σ' H':=fun {σ7 H7} I7 n7=>by
   obtain⟨m',hm,w7⟩:=hN σ7 H7 n7
   refine⟨m',hm,i+1,σ7,H7,I7.unpinned,T.keep _ _ _ st5 fun b hb o e=>(I7.pin (b,o) (List.mem_append_right _ (List.mem_append_right _ (Cv hb e)))).1,fun b hb=>?_,w7⟩
   obtain⟨o,e,d⟩:=T.obj _ _ st5 b hb
   exact(I7.pin (b,o) (List.mem_append_right _ (List.mem_append_right _ (Cv hb e)))).2.1
  cases f with
  | next=>obtain⟨σ7,H7,I7,n7⟩:=q7; exact again I7 n7
  | cont=>obtain⟨σ7,H7,I7,n7⟩:=q7; exact again I7 n7
  | brk=>obtain⟨σ7,H7,I7,q7⟩:=q7; exact⟨σ7,H7,I7.unpinned,q7⟩
  | ret v=>obtain⟨x7,σ7,H7,I7,r7,q7⟩:=q7; exact⟨x7,σ7,H7,I7.unpinned,r7,q7⟩
end
theorem Lo{K:Frag}{a:Addr}{xs:List V}{g:TG}{tb:TS}{D:Ends}{σ:St}{H:Hp}(Pv:Nat->St->Hp->Prop)(h0:Pv 0 σ H)(hl:∀i σ H,i<=xs.length->Pv i σ H->SqT K H a xs)
  (hs:∀i x σ H,xs[i]?=some x->Pv i σ H->g x σ H fun σ2 H2=>tb { D with nx:=Pv (i+1),ct:=Pv (i+1),bk:=D.nx } σ2 H2) (hd:∀σ H,Pv xs.length σ H->D.nx σ H) :
  ∃W:Nat->Nat->St->Hp->Prop,(∃m,W 0 m σ H)/\∀i m σ H,W i m σ H ->
   ((Sv K a).stop i H/\D.nx σ H)\/((Sv K a).go i H/\∃N:St->Hp->Prop,(∀σ' H',N σ' H'->∃m',m'<m/\W (i+1) m' σ' H')/\∀x H',(Sv K a).yld i H x H'->g x σ H' fun σ2 H2=>tb { D with nx:=N,ct:=N,bk:=D.nx } σ2 H2):=by
 refine⟨fun i m σ H=>m=xs.length - i/\i<=xs.length/\Pv i σ H,⟨xs.length,by simp,Nat.zero_le _,h0⟩,?_⟩
 rintro i m σ H ⟨rfl,hi,p⟩
 have q:=hl i σ H hi p
 by_cases hlt:i<xs.length
 ·refine .inr ⟨⟨xs,xs[i],q,by simp [hlt]⟩,Pv (i+1),fun σ' H' p'=>⟨xs.length - (i+1),by omega,rfl,hlt,p'⟩,fun x H' y=>?_⟩
  obtain⟨e,y⟩:=y
  subst e
  exact hs i x σ _ (y xs q) p
 ·have e:i=xs.length:=by omega
  subst e
  exact .inl ⟨⟨xs,q,Nat.le_refl _⟩,hd σ H p⟩
noncomputable abbrev R2:=V->V->Hp->VK->Prop
noncomputable def OpR(X:Cx)(f:Value->Value->Sem Value)(r:R2):Prop :=
 ∀(pins:List (Addr×Obj)) (s:Shared) (σ:St) (H:Hp) (x y:V) (v u:Value) (Q:VK),Inv X pins σ H s->RelV x v->RelV y u->r x y H Q ->
  wpAny (model X.prog X.w) X.A (f v u) (EP X pins σ Q) X.xe s
noncomputable def B6(X:Cx)(f:Value)(r:List V->Hp->VK->Prop):Prop :=
 ∀(pins:List (Addr×Obj)) (s:Shared) (σ:St) (H:Hp) (xs:List V) (us:List Value) (Q:VK),Inv X pins σ H s->Vals xs us->r xs H Q ->
  wpAny (model X.prog X.w) X.A (call f us) (EP X pins σ Q) X.xe s
noncomputable def U2(X:Cx)(r:V->Hp->(Bool->Hp->Prop)->Prop):Prop :=
 ∀(pins:List (Addr×Obj)) (s:Shared) (σ:St) (H:Hp) (x:V) (v:Value) (Q:Bool->Hp->Prop),Inv X pins σ H s->RelV x v->r x H Q ->
  wpAny (model X.prog X.w) X.A (truthy v) (TP X pins σ Q) X.xe s
noncomputable def Ci(r:R2)(ta tb:TE):TE:=fun σ H Q=>ta σ H fun x H1=>tb σ H1 fun y H2=>r x y H2 Q
noncomputable def rI(C:Int->Int->Prop)(g:Int->Int->V):R2:=fun x y H Q=>∃i j,x=.int i/\y=.int j/\C i j/\Q (g i j) H
noncomputable def FQ(g:Int->Int->V):R2:=fun x y H Q=>∃i j,x=.int i/\y=.int j/\Q (g i j) H
section
variable {X:Cx}{a b c:Expr}{ta tb tc:TE}{pos:Pos}
theorem SY(ha:PE X a ta)(hb:PE X b tb){pins:List (Addr×Obj)}{s:Shared}{σ:St}{H:Hp}{R:V->V->Hp->Prop}(I:Inv X pins σ H s)
  (h:ta σ H fun x H1=>tb σ H1 fun y H2=>R x y H2) {Q:Value->Shared->Prop} {f:Value->Value->Sem Value}
  (hf:∀v u s2 x y H2,Inv X pins σ H2 s2->RelV x v->RelV y u->R x y H2->wpAny (model X.prog X.w) X.A (f v u) Q X.xe s2) :
  wpAny (model X.prog X.w) X.A (eval a X.env) (fun v s₁=>wpAny (model X.prog X.w) X.A (eval b X.env) (fun u s₂=>wpAny (model X.prog X.w) X.A (f v u) Q X.xe s₂) X.xe s₁) X.xe s:=by
 refine A_ (ha pins s σ H _ I h) fun v s1 ⟨x,H1,I1,r1,q1⟩=>?_
 refine A_ (hb pins s1 σ H1 _ I1 q1) fun u s2 ⟨y,H2,I2,r2,q2⟩=>?_
 exact hf v u s2 x y H2 I2 r1 r2 q2
theorem BO{op:Operator}{r:R2}(ho:OpR X (binaryOp op) r)(ha:PE X a ta)(hb:PE X b tb):PE X (.BinOp a op b pos) (Ci r ta tb):=by
 intro pins s σ H Q I h
 exact wpAny_BinOp (SY ha hb I h fun v u s2 x y H2 I2 rx ry q=>ho pins s2 σ H2 x y v u Q I2 rx ry q)
theorem US{f:Value->Value->Sem Value}{C:Int->Int->Prop}{g:Int->Int->Int}
  (rule:∀(i j:Int) (t u:Tok) (s:Shared) (Q:Value->Shared->Prop) (E:Value->Shared->Prop),C i j->Q (.int (g i j) s.toks) { s with toks:=s.toks+1 }->wpAny (model X.prog X.w) X.A (f (.int i t) (.int j u)) Q E s) :
  OpR X f (rI C fun i j=>.int (g i j)):=by
 intro pins s σ H x y v u Q I rx ry h
 obtain⟨i,j,rfl,rfl,hc,q⟩:=h
 obtain⟨t,rfl⟩:=rx
 obtain⟨t',rfl⟩:=ry
 exact rule i j t t' s _ _ hc ⟨.int (g i j),H,I.tok _,⟨_,rfl⟩,q⟩
theorem Td{f:Value->Value->Sem Value}{g:Int->Int->Int}
  (rule:∀(i j:Int) (t u:Tok) (s:Shared) (Q:Value->Shared->Prop) (E:Value->Shared->Prop),Q (.int (g i j) s.toks) { s with toks:=s.toks+1 }->wpAny (model X.prog X.w) X.A (f (.int i t) (.int j u)) Q E s) :
  OpR X f (FQ fun i j=>.int (g i j)):=by
 intro pins s σ H x y v u Q I rx ry h
 obtain⟨i,j,rfl,rfl,q⟩:=h
 obtain⟨t,rfl⟩:=rx
 obtain⟨t',rfl⟩:=ry
 exact rule i j t t' s _ _ ⟨.int (g i j),H,I.tok _,⟨_,rfl⟩,q⟩
theorem QA{f:Value->Value->Sem Value}{g:Int->Int->Bool}
  (rule:∀(i j:Int) (t u:Tok) (s:Shared) (Q:Value->Shared->Prop) (E:Value->Shared->Prop),Q (.bool (g i j)) s->wpAny (model X.prog X.w) X.A (f (.int i t) (.int j u)) Q E s) :
  OpR X f (FQ fun i j=>.bl (g i j)):=by
 intro pins s σ H x y v u Q I rx ry h
 obtain⟨i,j,rfl,rfl,q⟩:=h
 obtain⟨t,rfl⟩:=rx
 obtain⟨t',rfl⟩:=ry
 exact rule i j t t' s _ _ ⟨.bl (g i j),H,I,rfl,q⟩
noncomputable def PR(i j:Int):Prop:=0<j/\j<1073741824
noncomputable def Qh(i j:Int):Prop:=0<=j/\j<=1000000/\i.natAbs<2 ^ 64
noncomputable def CMul(i j:Int):Prop:=(-(2 ^ 64)<i/\i<2 ^ 64)\/(-(2 ^ 64)<j/\j<2 ^ 64)
theorem CMul.ok{i j:Int}(h:CMul i j):IntMulOk i j:=by
 rcases h with ⟨h1,h2⟩ | ⟨h1,h2⟩
 ·exact .of_left (intBits_le_64 h1 h2)
 ·exact .of_right (intBits_le_64 h1 h2)
theorem op_add:OpR X (binaryOp .Add) (FQ fun i j=>.int (i+j)):=Td fun _ _ _ _ _ _ _ q=>add_int q
theorem op_sub:OpR X (binaryOp .Sub) (FQ fun i j=>.int (i - j)):=Td fun _ _ _ _ _ _ _ q=>sub_int q
theorem op_mul:OpR X (binaryOp .Mult) (rI CMul fun i j=>.int (i*j)):=US fun _ _ _ _ _ _ _ hc q=>mul_int q hc.ok
theorem FU:OpR X (binaryOp .FloorDiv) (rI PR fun i j=>.int (i / j)):=US fun i j _ _ _ _ _ hc q=>by
 have h1:(0:Int)<j:=hc.1
 have h2:j<1073741824:=hc.2
 exact floordiv_int (by omega) (by rw [Int.fdiv_eq_ediv_of_nonneg i (by omega)]; exact q) (.inl (PyProof.noPylong_small (by omega)))
theorem Cd:OpR X (binaryOp .Mod) (rI (fun _ j=>0<j) fun i j=>.int (i % j)):=US fun i j _ _ _ _ _ hc q=>by
 have h1:(0:Int)<j:=hc
 exact mod_int' (by omega) (by rw [Int.fmod_eq_emod_of_nonneg i (by omega)]; exact q)
theorem Kf:OpR X (binaryOp .Pow) (rI Qh fun i j=>.int (i ^ j.toNat)):=US fun _ _ _ _ _ _ _ hc q=>pow_int_small hc.1 hc.2.1 hc.2.2 q
end
noncomputable def TF:V->V->Bool
 | .non,.non=>true | .non,.int _=>true | .int _,.non=>true | .non,.bl _=>true | .bl _,.non=>true | .non,.str _=>true | .str _,.non=>true
 | .int _,.int _=>true | .bl _,.bl _=>true | .str _,.str _=>true | .byt _,.byt _=>true
 | .int _,.str _=>true | .str _,.int _=>true | .bl _,.str _=>true | .str _,.bl _=>true
 | _,_=>false
noncomputable def VG:R2:=fun x y H Q=>TF x y=true/\Q (.bl (decide (x=y))) H
noncomputable def VD:R2:=fun x y H Q=>TF x y=true/\Q (.bl (!decide (x=y))) H
theorem FZ{i j:Int}:decide (V.int i=V.int j)=(i==j):=by
 rw [Bool.eq_iff_iff]
 simp
theorem IY{i j:Bool}:decide (V.bl i=V.bl j)=(i==j):=by
 rw [Bool.eq_iff_iff]
 simp
theorem FY{i j:Str}:decide (V.str i=V.str j)=(i==j):=by
 rw [Bool.eq_iff_iff]
 simp
theorem Ls{i j:Array UInt8}:decide (V.byt i=V.byt j)=(i.toList==j.toList):=by
 rw [Bool.eq_iff_iff]
 cases i
 cases j
 simp
section
variable {X:Cx}{a b c:Expr}{ta tb tc:TE}{pos:Pos}
theorem Ae{pins:List (Addr×Obj)}{σ:St}{H:Hp}{s:Shared}{Q:VK}{k k':Bool}(I:Inv X pins σ H s)(q:Q (.bl k) H)(e:k=k'):EP X pins σ Q (.bool k') s:=by
 subst e
 exact⟨.bl k,H,I,rfl,q⟩
theorem Fx:OpR X (compareOp .Eq) VG:=by
 intro pins s σ H x y v u Q I rx ry h
 obtain⟨hs,q⟩:=h
 cases x with
 | non =>
  cases rx
  cases y with
  | non=>cases ry; exact PySem.EqNone.eq_none_none (Ae I q (by simp))
  | bl j=>cases ry; exact PySem.EqNone.eq_none_bool (Ae I q (by simp))
  | int j=>obtain⟨t',rfl⟩:=ry; exact PySem.EqNone.eq_none_int (Ae I q (by simp))
  | str j=>obtain⟨t',rfl⟩:=ry; exact PySem.EqNone.eq_none_str (Ae I q (by simp))
  | _=>exact absurd (show false=true from hs) Bool.false_ne_true
 | bl i =>
  cases rx
  cases y with
  | non=>cases ry; exact PySem.EqNone.eq_bool_none (Ae I q (by simp))
  | bl j=>cases ry; exact eq_bool (Ae I q IY)
  | str j=>obtain⟨t',rfl⟩:=ry; exact PySem.EqMixed.eq_bool_str (Ae I q (by simp))
  | _=>exact absurd (show false=true from hs) Bool.false_ne_true
 | int i =>
  obtain⟨t,rfl⟩:=rx
  cases y with
  | non=>cases ry; exact PySem.EqNone.eq_int_none (Ae I q (by simp))
  | int j=>obtain⟨t',rfl⟩:=ry; exact eq_int (Ae I q FZ)
  | str j=>obtain⟨t',rfl⟩:=ry; exact PySem.EqMixed.eq_int_str (Ae I q (by simp))
  | _=>exact absurd (show false=true from hs) Bool.false_ne_true
 | str i =>
  obtain⟨t,rfl⟩:=rx
  cases y with
  | non=>cases ry; exact PySem.EqNone.eq_str_none (Ae I q (by simp))
  | bl j=>cases ry; exact PySem.EqMixed.eq_str_bool (Ae I q (by simp))
  | int j=>obtain⟨t',rfl⟩:=ry; exact PySem.EqMixed.eq_str_int (Ae I q (by simp))
  | str j=>obtain⟨t',rfl⟩:=ry; exact eq_str (Ae I q FY)
  | _=>exact absurd (show false=true from hs) Bool.false_ne_true
 | byt i =>
  obtain⟨t,rfl⟩:=rx
  cases y with
  | byt j=>obtain⟨t',rfl⟩:=ry; exact PySem.W.eq_bytes (Ae I q Ls)
  | _=>exact absurd (show false=true from hs) Bool.false_ne_true
 | _=>cases y <;> exact absurd (show false=true from hs) Bool.false_ne_true
theorem OG:OpR X (compareOp .NotEq) VD:=by
 intro pins s σ H x y v u Q I rx ry h
 obtain⟨hs,q⟩:=h
 cases x with
 | non =>
  cases rx
  cases y with
  | non=>cases ry; exact PySem.EqNone.ne_none_none (Ae I q (by simp))
  | bl j=>cases ry; exact PySem.EqNone.ne_none_bool (Ae I q (by simp))
  | int j=>obtain⟨t',rfl⟩:=ry; exact PySem.EqNone.ne_none_int (Ae I q (by simp))
  | str j=>obtain⟨t',rfl⟩:=ry; exact PySem.EqNone.ne_none_str (Ae I q (by simp))
  | _=>exact absurd (show false=true from hs) Bool.false_ne_true
 | bl i =>
  cases rx
  cases y with
  | non=>cases ry; exact PySem.EqNone.ne_bool_none (Ae I q (by simp))
  | bl j=>cases ry; exact ne_bool (Ae I q (congrArg not IY))
  | str j=>obtain⟨t',rfl⟩:=ry; exact PySem.EqMixed.ne_bool_str (Ae I q (by simp))
  | _=>exact absurd (show false=true from hs) Bool.false_ne_true
 | int i =>
  obtain⟨t,rfl⟩:=rx
  cases y with
  | non=>cases ry; exact PySem.EqNone.ne_int_none (Ae I q (by simp))
  | int j=>obtain⟨t',rfl⟩:=ry; exact ne_int (Ae I q (congrArg not FZ))
  | str j=>obtain⟨t',rfl⟩:=ry; exact PySem.EqMixed.ne_int_str (Ae I q (by simp))
  | _=>exact absurd (show false=true from hs) Bool.false_ne_true
 | str i =>
  obtain⟨t,rfl⟩:=rx
  cases y with
  | non=>cases ry; exact PySem.EqNone.ne_str_none (Ae I q (by simp))
  | bl j=>cases ry; exact PySem.EqMixed.ne_str_bool (Ae I q (by simp))
  | int j=>obtain⟨t',rfl⟩:=ry; exact PySem.EqMixed.ne_str_int (Ae I q (by simp))
  | str j=>obtain⟨t',rfl⟩:=ry; exact ne_str (Ae I q (congrArg not FY))
  | _=>exact absurd (show false=true from hs) Bool.false_ne_true
 | byt i =>
  obtain⟨t,rfl⟩:=rx
  cases y with
  | byt j=>obtain⟨t',rfl⟩:=ry; exact PySem.W.ne_bytes (Ae I q (congrArg not Ls))
  | _=>exact absurd (show false=true from hs) Bool.false_ne_true
 | _=>cases y <;> exact absurd (show false=true from hs) Bool.false_ne_true
theorem op_lt:OpR X (compareOp .Lt) (FQ fun i j=>.bl (decide (i<j))):=QA fun _ _ _ _ _ _ _ q=>lt_int q
theorem op_le:OpR X (compareOp .LtE) (FQ fun i j=>.bl (decide (i<=j))):=QA fun _ _ _ _ _ _ _ q=>le_int q
theorem Tb:OpR X (compareOp .Gt) (FQ fun i j=>.bl (decide (j<i))):=QA fun _ _ _ _ _ _ _ q=>gt_int q
theorem Tc:OpR X (compareOp .GtE) (FQ fun i j=>.bl (decide (j<=i))):=QA fun _ _ _ _ _ _ _ q=>ge_int q
theorem MV:OpR X (compareOp .Lt) (fun x y H Q=>∃i j,x=.str i/\y=.str j/\Q (.bl (decide (i.cps.toList<j.cps.toList))) H):=by
 intro pins s σ H x y v u Q I rx ry h
 obtain⟨i,j,rfl,rfl,q⟩:=h
 obtain⟨t,rfl⟩:=rx
 obtain⟨t',rfl⟩:=ry
 exact lt_str (Ae I q rfl)
theorem IE:OpR X (compareOp .Is) (fun x y H Q=>y=.non/\Q (.bl (decide (x=.non))) H):=by
 intro pins s σ H x y v u Q I rx ry h
 obtain⟨rfl,q⟩:=h
 cases ry
 refine is_none_gen (Ae I q ?_)
 cases x <;> first
  | (cases rx; rfl)
  | (obtain⟨t,rfl⟩:=rx; rfl)
theorem ID:OpR X (compareOp .IsNot) (fun x y H Q=>y=.non/\Q (.bl (!decide (x=.non))) H):=by
 intro pins s σ H x y v u Q I rx ry h
 obtain⟨rfl,q⟩:=h
 cases ry
 refine isnot_none_gen (Ae I q ?_)
 cases x <;> first
  | (cases rx; rfl)
  | (obtain⟨t,rfl⟩:=rx; rfl)
theorem OpR.or{f:Value->Value->Sem Value}{r r':R2}(h:OpR X f r)(h':OpR X f r'):OpR X f (fun x y H Q=>r x y H Q\/r' x y H Q):=by
 intro pins s σ H x y v u Q I rx ry q
 rcases q with q | q
 ·exact h pins s σ H x y v u Q I rx ry q
 ·exact h' pins s σ H x y v u Q I rx ry q
theorem Ah(b:Expr){op:CmpOp}(h:op≠.In:=by decide)(h2:op≠.NotIn:=by decide):behindInMarks op b=false:=by
 have e1:(op==CmpOp.In)=false:=by cases op <;> first | rfl | exact absurd rfl h
 have e2:(op==CmpOp.NotIn)=false:=by cases op <;> first | rfl | exact absurd rfl h2
 cases b <;> simp [behindInMarks,e1,e2]
theorem P1{op:CmpOp}{r:R2}(ho:OpR X (compareOp op) r)(ha:PE X a ta)(hb:PE X b tb)(hm:behindInMarks op b=false):PE X (.Compare a [op] [b] pos) (Ci r ta tb):=by
 intro pins s σ H Q I h
 exact wpAny_Compare1 (SY ha hb I h fun v u s2 x y H2 I2 rx ry q=>ho pins s2 σ H2 x y v u Q I2 rx ry q) hm
noncomputable def NY(t:TE):TT:=fun σ H Q=>t σ H fun x H'=>∃k,x=.bl k/\Q k H'
theorem EK{op:CmpOp}{r:R2}(ho:OpR X (compareOp op) r)(ha:PE X a ta)(hb:PE X b tb)(hm:behindInMarks op b=false):PT X (.Compare a [op] [b] pos) (NY (Ci r ta tb)):=by
 intro pins s σ H Q I h
 refine wpAny_isTrue_Compare1 (A_ (ha pins s σ H _ I h) fun v s1 ⟨x,H1,I1,r1,q1⟩=>A_ (hb pins s1 σ H1 _ I1 q1) fun u s2 ⟨y,H2,I2,r2,q2⟩ =>
  A_ (ho pins s2 σ H2 x y v u _ I2 r1 r2 q2) fun c s3 ⟨z,H3,I3,r3,k,e,q3⟩=>?_) hm
 subst e
 cases r3
 exact wpAny_truthy_bool ⟨H3,I3,q3⟩
noncomputable def Sl(K:Frag)(x:V)(H:Hp)(k:Bool):Prop :=
 match x with
 | .non=>k=false
 | .bl b=>k=b
 | .int i=>k=(i != 0)
 | .str y=>y.length<=sizeLine/\k=((y.length:Int) != 0)
 | .byt y=>y.size<=sizeLine/\k=((y.size:Int) != 0)
 | .ref p=>(∃xs,SqL K H p xs/\k=!xs.isEmpty)\/(∃xs,SqT K H p xs/\k=!xs.isEmpty)\/∃kvs,H p=some (.dK kvs)/\k=!kvs.isEmpty
 | _=>False
theorem Kr{κ:Type}{kvs:List (κ×V)}{vs:List (κ×Value)}(r:KV kvs vs):(!vs.isEmpty)=!kvs.isEmpty:=by
 cases r <;> rfl
theorem GK{xs:List V}{its:List Value}(r:Vals xs its):(!its.toArray.isEmpty)=!xs.isEmpty:=by
 cases r <;> simp
theorem Es:(sizeLine:Nat)<2 ^ 63:=by rw [sizeLine_eq]; decide
theorem RQ:U2 X (fun x H Q=>∃k,Sl X.K x H k/\Q k H):=by
 intro pins s σ H x v Q I rx h
 obtain⟨k,e,q⟩:=h
 have hl:=Es
 have hs:sizeLine=16777216:=sizeLine_eq
 cases x with
 | non =>
  cases rx
  have e':k=false:=e
  subst e'
  exact truthy_none ⟨H,I,q⟩
 | bl b =>
  cases rx
  have e':k=b:=e
  subst e'
  exact wpAny_truthy_bool ⟨H,I,q⟩
 | int i =>
  obtain⟨t,rfl⟩:=rx
  have e':k=(i != 0):=e
  subst e'
  exact PySem.P.truthy_int ⟨H,I,q⟩
 | str y =>
  obtain⟨t,rfl⟩:=rx
  obtain⟨hy,e'⟩:y.length<=sizeLine/\k=((y.length:Int) != 0):=e
  subst e'
  exact PySem.P.truthy_str (by omega) ⟨H,I.tok _,q⟩
 | byt y =>
  obtain⟨t,rfl⟩:=rx
  obtain⟨hy,e'⟩:y.size<=sizeLine/\k=((y.size:Int) != 0):=e
  subst e'
  exact PySem.W.truthy_bytes (by omega) ⟨H,I.tok _,q⟩
 | ref p =>
  cases rx
  have e':(∃xs,SqL X.K H p xs/\k=!xs.isEmpty)\/(∃xs,SqT X.K H p xs/\k=!xs.isEmpty)\/∃kvs,H p=some (.dK kvs)/\k=!kvs.isEmpty:=e
  rcases e' with ⟨xs,hx,e'⟩ | ⟨xs,hx,e'⟩ | ⟨kvs,hx,e'⟩
  ·subst e'
   obtain⟨its,r,pl,hz⟩:=I.list hx
   have hlen:=r.length
   exact wpAny_truthy_list pl.isList (by simp only [List.size_toArray]; omega) ⟨H,I.tok _,by rw [GK r]; exact q⟩
  ·subst e'
   obtain⟨its,r,pl,hz⟩:=I.tuple hx
   have hlen:=r.length
   exact truthy_tuple pl (by simp only [List.size_toArray]; omega) ⟨H,I.tok _,by rw [GK r]; exact q⟩
  ·subst e'
   obtain⟨hz,hS,vs,r,m⟩:kvs.length<=sizeLine/\(p==sysModules)=false/\∃vs,KV kvs vs/\s.heap.DictOf (AR X.prog X.w) p vs:=I.hok p _ hx
   have hlen:kvs.length=vs.length:=Paired.length r
   exact wpAny_truthy_dict hS m (by omega) ⟨H,I.tok _,by rw [Kr r]; exact q⟩
 | _=>exact(show False from e).elim
theorem N7(ha:PE X a ta)(he:∀whole,isTrue a X.env whole=(do let v ← whole; standAt a.pos; holding [v] (truthy v))) :
  PT X a (fun σ H Q=>ta σ H fun x H'=>∃k,Sl X.K x H' k/\Q k H'):=by
 intro pins s σ H Q I h
 exact isTrue_plain (A_ (ha pins s σ H _ I h) fun v s1 ⟨x,H1,I1,r1,q1⟩=>RQ pins s1 σ H1 x v Q I1 r1 q1) (he _)
theorem Kh:OpR X (binaryOp .Add) (fun x y H Q=>∃i j,x=.str i/\y=.str j/\i.length+j.length<=sizeLine/\Q (.str (i++j)) H):=by
 intro pins s σ H x y v u Q I rx ry h
 obtain⟨i,j,rfl,rfl,hz,q⟩:=h
 obtain⟨t,rfl⟩:=rx
 obtain⟨t',rfl⟩:=ry
 exact add_str (fun t' tk=>⟨.str (i++j),H,I.tok _,⟨_,rfl⟩,q⟩) hz
theorem vals1{x:V}{us:List Value}(r:Vals [x] us):∃u,us=[u]/\RelV x u:=by
 cases r with
 | cons r1 r2=>cases r2; exact⟨_,rfl,r1⟩
theorem vals2{x y:V}{us:List Value}(r:Vals [x,y] us):∃u w',us=[u,w']/\RelV x u/\RelV y w':=by
 cases r with
 | cons r1 r2 =>
  cases r2 with
  | cons r3 r4=>cases r4; exact⟨_,_,rfl,r1,r3⟩
noncomputable def Su(K:Frag)(x:V)(H:Hp)(n:Nat):Prop :=
 match x with
 | .str y=>y.length<=sizeLine/\n=y.length
 | .byt y=>y.size<=sizeLine/\n=y.size
 | .ref p=>(∃xs,SqL K H p xs/\n=xs.length)\/∃xs,SqT K H p xs/\n=xs.length
 | _=>False
theorem A8:B6 X (.builtin "len") (fun xs H Q=>∃x n,xs=[x]/\Su X.K x H n/\Q (.int n) H):=by
 intro pins s σ H xs us Q I r h
 obtain⟨x,n,rfl,e,q⟩:=h
 obtain⟨u,rfl,rx⟩:=vals1 r
 have hl:=Es
 have hs:sizeLine=16777216:=sizeLine_eq
 cases x with
 | str y =>
  obtain⟨t,rfl⟩:=rx
  obtain⟨hy,e'⟩:y.length<=sizeLine/\n=y.length:=e
  subst e'
  exact len_str (by omega) ⟨.int _,H,I.tok _,⟨_,rfl⟩,q⟩
 | byt y =>
  obtain⟨t,rfl⟩:=rx
  obtain⟨hy,e'⟩:y.size<=sizeLine/\n=y.size:=e
  subst e'
  exact PySem.W.len_bytes (by omega) ⟨.int _,H,I.tok _,⟨_,rfl⟩,q⟩
 | ref p =>
  cases rx
  have e':(∃xs,SqL X.K H p xs/\n=xs.length)\/∃xs,SqT X.K H p xs/\n=xs.length:=e
  rcases e' with ⟨xs,hx,e'⟩ | ⟨xs,hx,e'⟩
  ·subst e'
   obtain⟨its,r',pl,hz⟩:=I.list hx
   have hlen:=r'.length
   exact Calls.call_len_list pl.isList (by simp only [List.size_toArray]; omega) ⟨.int xs.length,H,I.tok _,⟨_,by simp only [List.size_toArray]; rw [hlen]⟩,q⟩
  ·subst e'
   obtain⟨its,r',pl,hz⟩:=I.tuple hx
   have hlen:=r'.length
   exact len_tuple pl (by simp only [List.size_toArray]; omega) ⟨.int xs.length,H,I.tok _,⟨_,by simp only [List.size_toArray]; rw [hlen]⟩,q⟩
 | _=>exact(show False from e).elim
end
structure ObjM (h:Heap) (x dx C:Addr) (mA:Str->Option Value):Prop where
 obj:h.get? x=some (PySem.W.instObj C dx)
 ns:h.Ns1 dx mA
 ne:dx≠x
theorem Mm{h:Heap}{dx:Addr}{mA:Str->Option Value}(n:h.Ns1 dx mA):∃od,h.get? dx=some od/\∀name,PySem.W.lookIn name od=some (mA name):=by
 obtain⟨o,es,ep,ho,hd,hk,_,hm⟩:=n
 refine⟨o,ho,fun name=>?_⟩
 have e:=hm name
 unfold nsFind findBy at e
 rw [← Array.find?_toList] at e
 unfold PySem.W.lookIn
 rw [hd]
 dsimp only
 split
 ·rename_i y q
  rw [q] at e
  exact congrArg some e
 ·rename_i q
  rw [q] at e
  have a:es.toList.any (·.refKey)=false:=by
   rw [List.any_eq_false]
   intro y hy
   obtain⟨z,t,hkey⟩:=hk y (Array.mem_toList_iff.mp hy)
   simp [DictEntry.refKey,hkey]
  have a':¬es.toList.any (·.refKey)=true:=by rw [a]; exact Bool.false_ne_true
  rw [if_neg a']
  exact congrArg some e
theorem ObjM.look{h:Heap}{x dx C:Addr}{mA:Str->Option Value}(I:ObjM h x dx C mA):∃od,PySem.W.InstAt h x (PySem.W.instObj C dx) C (some od)/\∀name,PySem.W.lookIn name od=some (mA name) :=
 let ⟨od,ho,hl⟩:=Mm I.ns
 ⟨od,⟨I.obj,rfl,rfl,ho⟩,hl⟩
section
variable {prog:Program}{w:World}{A:Around}{E:Value->Shared->Prop}{s:Shared}{K:Frag}{x dx C f:Addr}{mA:Str->Option Value}{name:Str}{v:Value}
end
theorem RelO.some_of{v:V}{o:Option Value}(r:RelO (some v) o):∃u,o=some u/\RelV v u:=by
 cases o with
 | none=>exact(show False from r).elim
 | some u=>exact⟨u,rfl,r⟩
section
variable {P:Program}{w:World}{H H':Hp}{h h':Heap}{a C dx:Addr}{fs fs':List (Str×V)}
theorem FV(hok:HOk P w H h)(e:H a=some (.ins C dx fs)):∃mA,ObjM h a dx C mA/\(∀f,RelO (fs.lookup f) (mA f))/\PySem.Within mA (fs.map (·.1))/\fs.length<=1000/\H dx=some (.own a):=by
 obtain⟨d,z,ne,ob,mA,n,r,q⟩:=(show ObjOk P w H h a (.ins C dx fs) from hok a _ e)
 exact⟨mA,⟨ob,n,ne⟩,r,q,z,d⟩
end
structure Cls (K:Frag) (C:Addr):Prop where
 pg:PySem.W.plainGet K C Str.empty=true
 hd:PySem.W.hasDictIn K C=true
 po:PySem.W.plainOver K C=true
 sa:PySem.W.findIn K (.ref C) "__setattr__"=some (some (.builtin "object.__setattr__"))
theorem Cls.get{K:Frag}{C:Addr}(c:Cls K C)(f:Str):PySem.W.plainGet K C f=true:=c.pg
structure VZ (K:Frag) (C:Addr) (f:Str) (v:V) (u:Value):Prop where
 at_:PySem.W.findIn K (.ref C) f=some (some u)
 rel:RelV v u
 get:PySem.W.specialIn K u "__get__"=some none
 cp:PySem.W.copiedNames.contains f=false
structure VU (K:Frag) (C:Addr) (m:Str) (f:Addr):Prop where
 at_:PySem.W.findIn K (.ref C) m=some (some (.ref f))
 fn:PySem.W.isFn K (.ref f)=true
 kp:keepIn K (.ref f)=true
section
variable {X:Cx}{pins:List (Addr×Obj)}{σ:St}{H:Hp}{s:Shared}{a C dx:Addr}{fs:List (Str×V)}{f:Str}{v:V}{A:Around}{E:Value->Shared->Prop}
end
section
variable {X:Cx}{o e value:Expr}{f:Str}{pos pos' tpos:Pos}{ta tv:TE}
end
section
variable {X:Cx}{pins:List (Addr×Obj)}{σ:St}{H:Hp}{s:Shared}{A:Around}{E:Value->Shared->Prop}{Q:Value->Shared->Prop}{c:Value}{b:Bool}
inductive D9 (K:Frag) (H:Hp):V->Value->Prop where
 | non:D9 K H .non (.type "NoneType")
 | bl (x:Bool):D9 K H (.bl x) (.type "bool")
 | int (i:Int):D9 K H (.int i) (.type "int")
 | str (x:Str):D9 K H (.str x) (.type "str")
 | flt (x:UInt64):D9 K H (.flt x) (.type "float")
 | lst {a:Addr} {xs:List V} (e:H a=some (.lst xs)):D9 K H (.ref a) (.type "list")
 | frz {a:Addr} {o:Obj} {xs:List V} (e:H a=some (.frz o (.lst xs))):D9 K H (.ref a) (.type "list")
 | tup {a:Addr} {xs:List V} (e:H a=some (.tup xs)):D9 K H (.ref a) (.type "tuple")
 | dF {a:Addr} {o:Obj} {kvs:List (Key×V)} (e:H a=some (.frz o (.dK kvs))):D9 K H (.ref a) (.type "dict")
 | dK {a:Addr} {kvs:List (Key×V)} (e:H a=some (.dK kvs)):D9 K H (.ref a) (.type "dict")
 | dT {a:Addr} {kvs:List (List Key×V)} (e:H a=some (.dT kvs)):D9 K H (.ref a) (.type "dict")
 | ins {a C dx:Addr} {fs:List (Str×V)} (e:H a=some (.ins C dx fs)) (cl:Cls K C) (ha:PySem.W.findIn K (.ref C) "__class__"=some (some (.builtin "object.__class__")))
   (hn:PySem.W.specialIn K (.builtin "object.__class__") "__get__"=some (some (.builtin "getset_descriptor.__get__"))) (htk:PySem.W.takesIn K (.builtin "object.__class__")=some true)
   (hm:PySem.W.mroIn K C (.type "object")=some true):D9 K H (.ref a) (.ref C)
theorem Mt{x:V}{u t:Value}(I:Inv X pins σ H s)(rx:RelV x u)(ty:D9 X.K H x t)(e:PySem.W.kitOne X.K t c=some b)(h:∀tk,Q (.bool b) { s with toks:=tk }) :
  wpAny (model X.prog X.w) A (call (.builtin "isinstance") [u,c]) Q E s:=by
 cases ty with
 | non=>cases (show u=Value.none from rx); exact PySem.W.kia_one PySem.W.kitx_none I.kIn True.intro e (fun z=>nomatch z) h
 | bl y=>cases (show u=Value.bool y from rx); exact PySem.W.kia_one PySem.W.kitx_bool I.kIn True.intro e (fun z=>nomatch z) h
 | int i=>obtain⟨t,q⟩:=(show ∃t,u=Value.int i t from rx); cases q; exact PySem.W.kia_one PySem.W.kitx_int I.kIn True.intro e (fun z=>nomatch z) h
 | str y=>obtain⟨t,q⟩:=(show ∃t,u=Value.str y t from rx); cases q; exact PySem.W.kia_one PySem.W.kitx_str I.kIn True.intro e (fun z=>nomatch z) h
 | flt y=>obtain⟨t,q⟩:=(show ∃t,u=Value.float y t from rx); cases q; exact PySem.W.kia_one PySem.W.kitx_float I.kIn True.intro e (fun z=>nomatch z) h
 | @lst a xs ea =>
  cases (show u=Value.ref a from rx)
  obtain⟨_,_,n,_,h1⟩:=(show ObjOk X.prog X.w H s.heap a (.lst xs) from I.hok a _ ea)
  exact PySem.W.kia_one PySem.W.kitx_list I.kIn ⟨_,h1,rfl⟩ e (fun z=>nomatch z) h
 | @frz a ob xs ea =>
  cases (show u=Value.ref a from rx)
  obtain⟨_,_,_,n,_,h1⟩:=(show ObjOk X.prog X.w H s.heap a (.frz ob (.lst xs)) from I.hok a _ ea)
  exact PySem.W.kia_one PySem.W.kitx_list I.kIn ⟨_,h1,rfl⟩ e (fun z=>nomatch z) h
 | @tup a xs ea =>
  cases (show u=Value.ref a from rx)
  obtain⟨_,_,_,p⟩:=(show ObjOk X.prog X.w H s.heap a (.tup xs) from I.hok a _ ea)
  obtain⟨o,h1,h2,_⟩:=p
  exact PySem.W.kia_one PySem.W.kitx_tuple I.kIn ⟨o,h1,h2⟩ e (fun z=>nomatch z) h
 | @dF a ob kvs ea =>
  cases (show u=Value.ref a from rx)
  obtain⟨_,_,_,vs,_,p⟩:=(show ObjOk X.prog X.w H s.heap a (.frz ob (.dK kvs)) from I.hok a _ ea)
  obtain⟨o,es,ep,h1,h2,_⟩:=p
  exact PySem.W.kia_one PySem.W.kitx_dict I.kIn ⟨o,h1,h2.1⟩ e (fun z=>nomatch z) h
 | @dK a kvs ea =>
  cases (show u=Value.ref a from rx)
  obtain⟨_,_,vs,_,p⟩:=(show ObjOk X.prog X.w H s.heap a (.dK kvs) from I.hok a _ ea)
  obtain⟨o,es,ep,h1,h2,_⟩:=p
  exact PySem.W.kia_one PySem.W.kitx_dict I.kIn ⟨o,h1,h2.1⟩ e (fun z=>nomatch z) h
 | @dT a kvs ea =>
  cases (show u=Value.ref a from rx)
  obtain⟨_,_,xs,_,o,es,ep,h1,h2,_⟩:=(show ObjOk X.prog X.w H s.heap a (.dT kvs) from I.hok a _ ea)
  exact PySem.W.kia_one PySem.W.kitx_dict I.kIn ⟨o,h1,h2.1⟩ e (fun z=>nomatch z) h
 | @ins a C dx fs ea cl ha hn htk hm =>
  cases (show u=Value.ref a from rx)
  obtain⟨mA,O,_⟩:=FV I.hok ea
  obtain⟨od,J,_⟩:=O.look
  exact PySem.W.kia_one (PySem.W.kitx_own (cl.get _) cl.hd ha hn htk hm) I.kIn J e (fun z=>nomatch z) h
end
structure Room (k:Nat) (A:Around):Prop where
 hd:A.handled=none
 dp:A.depth+3*k+5<recursionLimit
 un:A.units+16*k+200<cLine
 gd:A.guards=some []
theorem Room.mono{j k:Nat}{A:Around}(r:Room k A)(h:j<=k):Room j A:=⟨r.hd,by have:=r.dp; omega,by have:=r.un; omega,by first | exact r.gd | (show pushGuards _ _=_; rw [r.gd]; rfl) | (simp [Around.under,pushGuards,Code.guards,Code.isGuard,r.gd])⟩
theorem Room.deeper{k:Nat}{A:Around}(r:Room (k+1) A)(env:Env):Room k (A.deeper env) :=
 ⟨r.hd,by have:=r.dp; show A.depth+1+3*k+5<_; omega,by have:=r.un; show A.units+3+16*k+200<_; omega,by first | exact r.gd | (show pushGuards _ _=_; rw [r.gd]; rfl) | (simp [Around.under,pushGuards,Code.guards,Code.isGuard,r.gd])⟩
theorem Room.depth{k:Nat}{A:Around}(r:Room k A):A.depth<recursionLimit:=by have:=r.dp; omega
theorem Room.units{k:Nat}{A:Around}(r:Room k A):A.units+64<cLine:=by have:=r.un; omega
theorem Room.units0{k:Nat}{A:Around}(r:Room k A):A.units<cLine:=by have:=r.un; omega
noncomputable def Pi:TA:=fun _ H Q=>Q [] H
noncomputable def LM(ta:TE)(tr:TA):TA:=fun σ H Q=>ta σ H fun x H1=>tr σ H1 fun xs H2=>Q (x::xs) H2
section
variable {X:Cx}{e:Expr}{es:List Expr}{te:TE}{t:TA}{pos:Pos}
theorem B8:PA X [] Pi:=fun _ _ _ _ H Q I h=>Calls.spliced_nil ⟨[],H,I,.nil,h⟩
theorem BL(ha:PE X e te)(hr:PA X es t)(hs:starEach (e::es) X.env=(false,eval e X.env)::starEach es X.env:=by rfl):PA X (e::es) (LM te t):=by
 intro pos pins s σ H Q I h
 rw [hs]
 show wpAny _ _ (spliced ((false,eval e X.env)::backTo pos (starEach es X.env))) _ _ s
 refine Calls.spliced_cons (A_ (ha pins s σ H _ I h) fun u s1 ⟨x,H1,I1,r1,q1⟩=>?_)
 exact A_ (hr pos pins s1 σ H1 _ I1 q1) fun us s2 ⟨xs,H2,I2,r2,q2⟩=>⟨x::xs,H2,I2,.cons r1 r2,q2⟩
noncomputable def Ud(t:TA):TE:=fun σ H Q=>t σ H fun xs H1=>xs.length<=sizeLine/\∀p,H1 p=none->Q (.ref p) (Ax H1 p (.tup xs))
noncomputable def Ug(t:TA):TE:=fun σ H Q=>t σ H fun xs H1=>xs.length<=sizeLine/\∀p,H1 p=none->Q (.ref p) (Ax H1 p (.lst xs))
theorem Rq{x1}(h:PA X es t):PE X (.Tuple es x1 pos) (Ud t):=by
 intro pins s σ H Q I hq
 refine wpAny_Tuple_spliced (A_ (h pos pins s σ H _ I hq) fun us s1 ⟨xs,H1,I1,r,z,q⟩=>⟨by rw [← r.length]; exact z,?_⟩)
 have hf:H1 s1.heap.objs.size=none:=I1.hok.fresh (Nat.le_refl _)
 refine⟨.ref s1.heap.objs.size,Ax H1 s1.heap.objs.size (.tup xs),I1.laid (t':=s1.toks) (fun b u e=>Heap.get?_push_of_some _ e) (Nat.le_refl _) ?_,rfl,q _ hf⟩
 exact⟨z,us,r,IsTupN.new _ _⟩
theorem Ke(h:PA X es t):PE X (.List es pos) (Ug t):=by
 intro pins s σ H Q I hq
 refine wpAny_List_spliced (A_ (h pos pins s σ H _ I hq) fun us s1 ⟨xs,H1,I1,r,z,q⟩=>⟨by rw [← r.length]; exact z,?_⟩)
 have hf:H1 s1.heap.objs.size=none:=I1.hok.fresh (Nat.le_refl _)
 refine⟨.ref s1.heap.objs.size,Ax H1 s1.heap.objs.size (.lst xs),I1.laid (t':=s1.toks) (fun b u e=>Heap.get?_push_of_some _ e) (Nat.le_refl _) ?_,rfl,q _ hf⟩
 exact⟨z,us,0,r,Heap.get?_push_size _ rfl⟩
end
noncomputable abbrev Sp:=List V->Hp->VK->XK->Prop
noncomputable abbrev PQ:=List Env->Hp->Shared->XK->Value->Shared->Prop
structure Qg (P:Program) (w:World) (K:Frag) (mg:Str->Option Value) (base:Heap) (A:Around) (outer:List Env) (s:Shared) (H:Hp):Prop where
 frames:A.frames=some outer
 mod:Mod K mg base
 bs:∀b o,base.get? b=some o->s.heap.get? b=some o/\H b=none
 bsz:base.objs.size<=s.heap.objs.size
 funs:s.heap.FunFrames base outer
 frf:∀b∈Oh outer,H b=none
 hok:HOk P w H s.heap
 bare:AllBare s.gens
noncomputable def CE(outer:List Env)(P:Program)(w:World)(H:Hp)(s:Shared)(Q:VK)(u:Value)(s':Shared):Prop :=
 ∃v H',s'.os=s.os/\AllBare s'.gens/\Un (Oh outer) [] H H' s.heap s'.heap/\HOk P w H' s'.heap/\RelV v u/\Q v H'
noncomputable def CR(CX:PQ)(outer:List Env)(P:Program)(w:World)(H:Hp)(s:Shared)(Q:VK)(E:XK)(r:Result)(s':Shared):Prop :=
 match r with
 | .ok (.ret u)=>CE outer P w H s Q u s'
 | .ok _=>False
 | .error e=>CX outer H s E e s'
structure Bi (P:Program) (w:World) (K:Frag) (mg:Str->Option Value) (base:Heap) (CX:PQ) (k:Nat) (f:Addr) (fd:FuncData) (ps:List Str) (sp:Sp):Prop where
 len:∀vs H Q E,sp vs H Q E->vs.length=ps.length
 run:∀(A:Around) (outer:List Env) (s:Shared) (H:Hp) (args:Args) (us:List Value) (vs:List V) (Q:VK) (E:XK),Room k A->Qg P w K mg base A outer s H->BindsTo s fd args (ps.zip us)->Vals vs us->sp vs H Q E ->
  codeAny (model P w) A (.call (.ref f) args) (CR CX outer P w H s Q E) s
section
variable {X:Cx}{pins:List (Addr×Obj)}{σ:St}{H:Hp}{s s':Shared}
theorem Inv.env0(I:Inv X pins σ H s):Qg X.prog X.w X.K X.mg X.base X.A X.stack s H :=
 ⟨I.ok.frames,I.ok.mod,I.bs,Nat.le_trans I.ok.bsz I.sz,I.stack,I.stkFree,I.hok,I.bare⟩
theorem Inv.after{Q:VK}{u:Value}(I:Inv X pins σ H s)(h:CE X.stack X.prog X.w H s Q u s'):EP X pins σ Q u s':=by
 obtain⟨v,H',os,bare,un,hok,r,q⟩:=h
 obtain⟨hh,g,d,t,os'⟩:=s'
 obtain rfl:os'=s.os:=os
 exact⟨v,H',I.call (h':=hh) (g':=g) (d':=d) (t':=t) (ch:=[]) un hok bare (fun b z=>absurd z (by simp)),r,q⟩
end
noncomputable def Nb(sp:Sp)(dvs:List V)(E:XK)(t:TA):TE:=fun σ H Q=>t σ H fun vs H1=>sp (vs++dvs) H1 Q E
noncomputable def Binds(K:Frag)(fd:FuncData)(ps:List Str)(ds:List Value):Prop :=
 ∀(s:Shared) (us:List Value),K.In s.heap->(us++ds).length=ps.length->BindsTo s fd ⟨us,[]⟩ (ps.zip (us++ds))
theorem Binds.all{K:Frag}{fd:FuncData}{ps:List Str}(h:∀us:List Value,us.length=ps.length->bindArgs fd ⟨us,[]⟩=pure (ps.zip us)):Binds K fd ps []:=fun s us _ hl=>by
 rw [List.append_nil] at hl ⊢
 exact .of_eq (h us hl)
noncomputable def K9(CX:PQ)(X:Cx)(E:XK):Prop:=∀(pins:List (Addr×Obj)) (σ:St) (H:Hp) (s:Shared) (e:Value) (s':Shared),Inv X pins σ H s->CX X.stack H s E e s'->X.xe e s'
section
variable {X:Cx}{CX:PQ}{k:Nat}{f C:Addr}{fd:FuncData}{ps:List Str}{sp:Sp}{dvs:List V}{ds:List Value}{E:XK}{x m:Str}{p pos apos:Pos}{e o:Expr}{es:List Expr}{ta:TE}{t:TA}
theorem Rf{pins:List (Addr×Obj)}{σ:St}{H:Hp}{s:Shared}{Q:VK}{us:List Value}{vs:List V}(F:Bi X.prog X.w X.K X.mg X.base CX k f fd ps sp)(hr:Room k X.A)(hb:Binds X.K fd ps ds)(hd:Vals dvs ds)(hx:K9 CX X E)
  (I:Inv X pins σ H s) (r:Vals vs us) (h:sp (vs++dvs) H Q E):wpAny (model X.prog X.w) X.A (call (.ref f) us) (EP X pins σ Q) X.xe s:=by
 have r2:Vals (vs++dvs) (us++ds):=r.append hd
 have hl:(us++ds).length=ps.length:=by rw [← r2.length]; exact F.len _ _ _ _ h
 refine wpAny_call (codeAny_mono (F.run X.A X.stack s H ⟨us,[]⟩ (us++ds) (vs++dvs) Q E hr I.env0 (hb s us I.kIn hl) r2 h) fun r s' hq=>?_)
 cases r with
 | error e=>exact hx pins σ H s e s' I hq
 | ok fl =>
  cases fl with
  | ret u=>exact I.after hq
  | next=>exact False.elim hq
  | brk=>exact False.elim hq
  | cont=>exact False.elim hq
theorem Lb(F:Bi X.prog X.w X.K X.mg X.base CX k f fd ps sp)(hr:Room k X.A)(hg:Gl X x)(hm:X.mg x=some (.ref f))(hk:keepIn X.K (.ref f)=true)(hb:Binds X.K fd ps ds)(hd:Vals dvs ds)(hx:K9 CX X E)
  (ha:PA X (e::es) t) (hdb:(x==("__debug__" : Str))=false:=by decide) (he:starEach (e::es) X.env=(false,eval e X.env)::starEach es X.env:=by rfl) (hpl:(backTo pos (starEach es X.env)).any (·.1)=false:=by rfl) :
  PE X (.Call (.Name x p) (e::es) [] pos) (Nb sp dvs E t):=by
 intro pins s σ H Q I h
 refine wpAny_Call_Name_kw (QH I hg hm ?_ hdb)
 refine PySem.W.callWith_K (h₀:=X.base) I.ok.mod.kin hk (A_ (ha pos pins s σ H _ I h) fun us s1 ⟨vs,H1,I1,r,q⟩=>⟨I1.kIn,?_⟩) he hpl
 exact Rf F hr hb hd hx I1 r q
structure Mk (K:Frag) (C f:Addr):Prop where
 makes:PySem.W.makesIn K C=true
 init:PySem.W.findIn K (.ref C) "__init__"=some (some (.ref f))
 fn:PySem.W.isFn K (.ref f)=true
 kp:keepIn K (.ref C)=true
end
section
variable {X:Cx}{CX:PQ}{k:Nat}{f C:Addr}{fd:FuncData}{ps ks:List Str}{sp:Sp}{E:XK}{x m:Str}{p pos apos kpos:Pos}{e o:Expr}{es:List Expr}{kws:List Keyword}{te ta:TE}{t tk:TA}{nm:Option Str}
structure U7 (K:Frag) (fd:FuncData) (ps ks:List Str) (g:List Value->List Value->List Value) (gV:List V->List V->List V):Prop where
 to:∀(s:Shared) (us ws:List Value),K.In s.heap->(g us ws).length=ps.length->BindsTo s fd ⟨us,ks.zip ws⟩ (ps.zip (g us ws))
 rel:∀{vs:List V} {us:List Value} {zs:List V} {ws:List Value},Vals vs us->Vals zs ws->Vals (gV vs zs) (g us ws)
variable {g:List Value->List Value->List Value}{gV:List V->List V->List V}
end
structure Ar (N P:List Str) (sc:Scope):Prop where
 kind:sc.kind=.function
 co:sc.isCoroutine=false
 gen:sc.isGenerator=false
 nd:N.Nodup
 pre:N.take P.length=P
 par:∀x∈P,sc.names.lookup x=some .local\/sc.names.lookup x=some .cell
 nofree:∀y∈sc.names,y.2≠.free
theorem Hd{kindOf:Str->Option NameKind}{x:Str}:∀{binds:List (Str×Value)} {m:Str->Option Value},(∀v,(x,v)∉binds)->bindL kindOf binds m x=m x
 | [],_,_=>rfl
 | (n,v)::r,m,h=>by
  unfold bindL
  rw [Hd fun w hw=>h w (List.mem_cons_of_mem _ hw)]
  split
  ·have:x≠n:=by rintro rfl; exact h v List.mem_cons_self
   simp [this]
  ·rfl
theorem Hf{kindOf:Str->Option NameKind}{x:Str}:∀{binds:List (Str×Value)} {m:Str->Option Value},(∀v,(x,v)∉binds)->bindC kindOf binds m x=m x
 | [],_,_=>rfl
 | (n,v)::r,m,h=>by
  unfold bindC
  rw [Hf fun w hw=>h w (List.mem_cons_of_mem _ hw)]
  split
  ·rfl
  ·have:x≠n:=by rintro rfl; exact h v List.mem_cons_self
   simp [this]
theorem He{kindOf:Str->Option NameKind}{x:Str}{v:Value}:∀{P:List Str} {vs:List Value} {i:Nat} {m:Str->Option Value},P.Nodup->P[i]?=some x->vs[i]?=some v->kindOf x=some .local ->
  bindL kindOf (P.zip vs) m x=some v
 | [],_,_,_,_,h,_,_=>by simp at h
 | _::_,[],_,_,_,_,h,_=>by simp at h
 | p::P,w::vs,0,m,nd,h1,h2,hk=>by
  simp at h1 h2; subst h1; subst h2
  show bindL kindOf ((p,w)::P.zip vs) m p=_
  unfold bindL
  rw [Hd fun v hv=>(List.nodup_cons.mp nd).1 (List.of_mem_zip hv).1,if_pos hk]
  simp
 | p::P,w::vs,i+1,m,nd,h1,h2,hk=>by
  show bindL kindOf ((p,w)::P.zip vs) m x=_
  unfold bindL
  exact He (i:=i) (List.nodup_cons.mp nd).2 (by simpa using h1) (by simpa using h2) hk
theorem Hg{kindOf:Str->Option NameKind}{x:Str}{v:Value}:∀{P:List Str} {vs:List Value} {i:Nat} {m:Str->Option Value},P.Nodup->P[i]?=some x->vs[i]?=some v->kindOf x≠some .local ->
  bindC kindOf (P.zip vs) m x=some v
 | [],_,_,_,_,h,_,_=>by simp at h
 | _::_,[],_,_,_,_,h,_=>by simp at h
 | p::P,w::vs,0,m,nd,h1,h2,hk=>by
  simp at h1 h2; subst h1; subst h2
  show bindC kindOf ((p,w)::P.zip vs) m p=_
  unfold bindC
  rw [Hf fun v hv=>(List.nodup_cons.mp nd).1 (List.of_mem_zip hv).1,if_neg hk]
  simp
 | p::P,w::vs,i+1,m,nd,h1,h2,hk=>by
  show bindC kindOf ((p,w)::P.zip vs) m x=_
  unfold bindC
  exact Hg (i:=i) (List.nodup_cons.mp nd).2 (by simpa using h1) (by simpa using h2) hk
noncomputable def start(N:List Str)(vs:List V):St:=vs.map some++List.replicate (N.length - vs.length) none
noncomputable def Ib(CX:PQ)(P:Program)(w:World)(K:Frag)(mg:Str->Option Value)(base:Heap)(N:List Str)(qual:Str)(scope:Scope)(f:Addr)(cd:Value)(A:Around)(outer:List Env)(s:Shared)(H:Hp)(E:XK):Cx where
 prog:=P
 w:=w
 K:=K
 mg:=mg
 base:=base
 A:=A.deeper (envOfC qual scope s.heap.objs.size f cd)
 N:=N
 s₀:=s
 H₀:=H
 env:=envOfC qual scope s.heap.objs.size f cd
 outer:=outer
 stack:=envOfC qual scope s.heap.objs.size f cd::outer
 ex:=[]
 calm:=true
 fn:=fun _=>true
 pn:=[]
 xe:=fun e s'=>wpAny (model P w) (A.deeper (envOfC qual scope s.heap.objs.size f cd)) (leaving (envOfC qual scope s.heap.objs.size f cd) e) (fun _ s''=>CX outer H s E e s'') (fun e' s''=>CX outer H s E e' s'') s'
theorem Js{sc:Scope}{n:Nat}{x:Str}(h:sc.names.lookup x=some .cell):∃c,(cellsFrom n sc.names []).lookup x=some c:=by
 have q:=PySem.W.cellsFrom_some sc.names n [] (.inl h)
 exact Option.isSome_iff_exists.mp q
theorem Mv{CX:PQ}{P:Program}{w:World}{K:Frag}{mg:Str->Option Value}{base:Heap}{N ps:List Str}{qual:Str}{scope:Scope}{f:Addr}{cd:Value}{A:Around}{outer:List Env}{s s1:Shared}{H:Hp}{E:XK}{us:List Value}{vs:List V}
  (S:Ar N ps scope) (hd:A.handled=none) (e0:Qg P w K mg base A outer s H) (hl:vs.length=ps.length) (r:Vals vs us)
  (x:InCallC s s.heap.objs.size (bindL (envOfC qual scope s.heap.objs.size f cd).kindOf (ps.zip us) fun _=>none) (cellsFrom (s.heap.objs.size+1) scope.names []) (bindC (envOfC qual scope s.heap.objs.size f cd).kindOf (ps.zip us) fun _=>none) s1) :
  Inv (Ib CX P w K mg base N qual scope f cd A outer s H E) [] (start N vs) H s1:=by
 have hpl:ps.length<=N.length:=by have:=congrArg List.length S.pre; rw [List.length_take] at this; omega
 obtain⟨h1,tk,rfl,hk⟩:=x.done
 have noA:∀b:Addr,b∉(Ib CX P w K mg base N qual scope f cd A outer s H E).ex:=fun b z=>absurd (show b∈([]:List Addr) from z) (by simp)
 refine⟨⟨e0.mod,S.kind,rfl,rfl,Nat.le_refl _,fun y z c h1 h2=>?_,fun y hy=>?_,fun y c _ h=>?_,fun _=>hd,Around.frames_deeper e0.frames,.inr ⟨rfl,rfl⟩,fun b z=>absurd z (noA b),e0.bs,e0.bsz,fun b _ _=>noA b,fun b z=>absurd z (noA b),e0.funs,e0.frf⟩,
  rfl,e0.bare,Un.kept hk,⟨_,x.toInCall.ns,fun i y v h1 h2 h3=>?_⟩,fun y c h=>⟨_,x.cell y c h⟩,e0.hok.fresh (Nat.le_refl _),fun y c h=>?_,fun p hp=>absurd (show p∈([]:List (Addr×Obj)) from hp) (by simp),e0.hok.kept hk,?_⟩
 ·exact name_of_addr x.apart (PySem.mem_of_lookup h1) (PySem.mem_of_lookup h2)
 ·have hy:scope.names.lookup y=some .cell\/scope.names.lookup y=some .free:=hy
  rcases hy with hy | hy
  ·exact Js hy
  ·exact absurd rfl (S.nofree _ (PySem.mem_of_lookup hy))
 ·exact Nat.le_of_lt (x.above y c (PySem.mem_of_lookup h))
 ·have hi:i<vs.length:=by
   unfold start at h2
   by_cases hi:i<vs.length
   ·exact hi
   ·rw [List.getElem?_append_right (by simpa using hi)] at h2
    rw [List.getElem?_replicate] at h2
    split at h2 <;> cases h2
  have ha:vs[i]?=some v:=by
   unfold start at h2
   rw [List.getElem?_append_left (by simpa using hi),List.getElem?_map] at h2
   cases e:vs[i]? with
   | none=>rw [e] at h2; cases h2
   | some a=>rw [e] at h2; cases h2; rfl
  obtain⟨u,hu,rv⟩:=r.get ha
  have hp:ps[i]?=some y:=by
   rw [← S.pre,List.getElem?_take_of_lt (by omega)]; exact h1
  have ndP:ps.Nodup:=by rw [← S.pre]; exact S.nd.sublist (List.take_sublist _ _)
  refine⟨u,rv,?_⟩
  rcases S.par y (List.mem_of_getElem? hp) with k | k
  ·exact .inl ⟨k,He ndP hp hu k⟩
  ·obtain⟨c,e⟩:=Js (n:=s.heap.objs.size+1) k
   refine .inr ⟨.inl k,c,e,?_⟩
   have q:=x.cell y c e
   rw [Hg ndP hp hu (by show scope.names.lookup y≠_; rw [k]; decide)] at q
   exact q
 ·exact e0.hok.fresh (Nat.le_of_lt (x.above y c (PySem.mem_of_lookup h)))
 ·unfold start
  show _=N.length
  rw [List.length_append,List.length_map,List.length_replicate]
  omega
theorem Tq{CX:PQ}{P:Program}{w:World}{K:Frag}{mg:Str->Option Value}{base:Heap}{k:Nat}{f:Addr}{name qual:Str}{params:Arguments}{body:List Stmt}{scope:Scope}{dV kV doc pm cdv ct oc:Value}{an od:Option Addr}
  {osl:Array (Option Value)} {N ps:List Str} {sp:Sp} (lk:K.lookup f=some ⟨oc,od,.func (fnOf name qual params body scope dV kV doc pm an cdv ct),osl⟩) (hcd:codeIn K cdv qual=true) (S:Ar N ps scope)
  (len:∀vs H Q E,sp vs H Q E->vs.length=ps.length)
  (hbody:∀(A:Around) (outer:List Env) (s:Shared) (H:Hp) (vs:List V) (Q:VK) (E:XK),Room k (A.deeper (envOfC qual scope s.heap.objs.size f cdv))->sp vs H Q E ->
   ∃t,PSs (Ib CX P w K mg base N qual scope f cdv A outer s H E) body t/\t { nx:=fun _ H'=>Q .non H',rt:=Q } (start N vs) H) :
  Bi P w K mg base CX (k+1) f (fnOf name qual params body scope dV kV doc pm an cdv ct) ps sp:=by
 refine⟨len,fun A outer s H args us vs Q E hr e0 hb r hsp=>?_⟩
 have hl:=len _ _ _ _ hsp
 have KX:K.In s.heap:=e0.mod.kin.keeps fun b o e=>(e0.bs b o e).1
 have lim:s.heap.NoLimit:=e0.mod.nolimit.keeps fun b o e=>(e0.bs b o e).1
 have hkind:∀y∈ps.zip us,scope.names.lookup y.1=some .local\/(scope.names.lookup y.1=some .cell/\((cellsFrom (s.heap.objs.size+1) scope.names []).lookup y.1).isSome=true):=fun⟨n,v⟩ hy=>by
  rcases S.par n (List.of_mem_zip hy).1 with q | q
  ·exact .inl q
  ·exact .inr ⟨q,PySem.W.cellsFrom_some _ _ _ (.inl q)⟩
 refine codeAny_call_function hr.depth (KX _ _ lk) rfl S.co S.gen rfl (PySem.W.codeRec_of KX hcd) (hb _ _ _ _ ?_)
 refine wpAny_newFunctionEnv_cells S.kind hkind fun env he s1 x=>?_
 subst he
 refine⟨lim.keeps x.toInCall.keep,codeAny_func ?_⟩
 obtain⟨t,ht,hq⟩:=hbody A outer s H vs Q E (hr.deeper _) hsp
 have I:Inv (Ib CX P w K mg base N qual scope f cdv A outer s H E) [] (start N vs) H s1:=Mv S hr.hd e0 hl r x
 refine wpAny_mono (ht [] s1 (start N vs) H _ I hq) (fun fl s' hs=>?_) fun e s' hs=>hs
 have fin:∀{σ':St} {H':Hp} {v:V} {u:Value},Inv (Ib CX P w K mg base N qual scope f cdv A outer s H E) [] σ' H' s'->RelV v u->Q v H'->CE outer P w H s Q u s' :=
  fun {σ' H' v u} J rv q=>⟨v,H',J.os,J.bare,J.base,J.hok,rv,q⟩
 cases fl with
 | ret u =>
  obtain⟨v,σ',H',J,rv,q⟩:=hs
  exact fin J rv q
 | next =>
  obtain⟨σ',H',J,q⟩:=hs
  exact fin (v:=V.non) (u:=Value.none) J rfl q
 | brk =>
  obtain⟨_,_,_,q⟩:=hs
  exact False.elim q
 | cont =>
  obtain⟨_,_,_,q⟩:=hs
  exact False.elim q
section
variable {X:Cx}{x:Str}{p pos:Pos}{e:Expr}{es:List Expr}{t:TA}{id T:String}{r:List V->Hp->VK->Prop}
noncomputable def UQ(r:List V->Hp->VK->Prop)(t:TA):TE:=fun σ H Q=>t σ H fun vs H1=>r vs H1 Q
theorem EN(hc:B6 X (.builtin id) r)(hg:Gl X x)(hm:X.mg x=none)(hv:bootBuiltins x=some (.builtin id))(ha:PA X (e::es) t)(hn:x ≠ "__name__":=by decide)(hdb:(x==("__debug__" : Str))=false:=by decide)
  (he:starEach (e::es) X.env=(false,eval e X.env)::starEach es X.env:=by rfl) (hpl:(backTo pos (starEach es X.env)).any (·.1)=false:=by rfl):PE X (.Call (.Name x p) (e::es) [] pos) (UQ r t):=by
 intro pins s σ H Q I h
 refine wpAny_Call_Name_kw (CN I hg hm hv ?_ hn hdb)
 exact PyProof.Rows.callWith_builtin1 (A_ (ha pos pins s σ H _ I h) fun us s1 ⟨vs,H1,I1,r1,q1⟩=>hc pins s1 σ H1 vs us Q I1 r1 q1) he hpl
theorem HF(hc:B6 X (.type T) r)(hg:Gl X x)(hm:X.mg x=none)(hv:bootBuiltins x=some (.type T))(ha:PA X (e::es) t)(hn:x ≠ "__name__":=by decide)(hdb:(x==("__debug__" : Str))=false:=by decide)
  (he:starEach (e::es) X.env=(false,eval e X.env)::starEach es X.env:=by rfl) (hpl:(backTo pos (starEach es X.env)).any (·.1)=false:=by rfl):PE X (.Call (.Name x p) (e::es) [] pos) (UQ r t):=by
 intro pins s σ H Q I h
 refine wpAny_Call_Name_kw (CN I hg hm hv ?_ hn hdb)
 exact PyProof.Rows.callWith_type1 (A_ (ha pos pins s σ H _ I h) fun us s1 ⟨vs,H1,I1,r1,q1⟩=>hc pins s1 σ H1 vs us Q I1 r1 q1) he hpl
end
end L2
namespace HT
open PySem PyProof.Rows
section
open PySem.SeqAt
open PySem.AutoSeq1 (wpAny_loadPart')
open PySem.MeetsSeq PySem.MeetsSeq2 PySem.MeetsSeq3
end
section
variable {prog:Program}{w:World}{A:Around}{E:Value->Shared->Prop}{s:Shared}
theorem cat_tup{t b:Addr}{vs ws:List Value}{Q:Value->Shared->Prop}(ht:IsTup s.heap t vs.toArray)(hb:IsTup s.heap b ws.toArray)(hv:vs≠[])
  (h1:ws=[]->Q (.ref t) s) (h2:ws≠[]->Q (.ref s.heap.objs.size) { s with heap:=s.heap.push { cls:=.type "tuple",data:=.seq (vs++ws).toArray } })
  (hsz:vs.length+ws.length<=sizeLine):wpAny (model prog w) A (binaryOp .Add (.ref t) (.ref b)) Q E s:=by
 obtain⟨⟨cls,dd,data,sl⟩,ho,hc,n,hd⟩:=id ht
 obtain⟨⟨cls2,dd2,data2,sl2⟩,ho2,hc2,n2,hd2⟩:=id hb
 simp only at hc hd hc2 hd2
 subst hc hd hc2 hd2
 have e:vs.toArray++ws.toArray=(vs++ws).toArray:=by simp
 by_cases hw:ws=[]
 ·exact concat_meets ⟨_,ho,rfl⟩ ⟨_,ho2,rfl⟩ noFill_tuple_add seq_tuple_add PySem.F.slot_tuple_add PySem.F.entry_tuple_add (PySem.F.args_tuple_add_2 _ _)
   (tuple_addW1 t b vs.toArray ws.toArray n n2 dd dd2 sl sl2 (by simpa using hv) (by simp [hw])) ⟨ho,ho2,h1 hw⟩
 ·refine concat_meets ⟨_,ho,rfl⟩ ⟨_,ho2,rfl⟩ noFill_tuple_add seq_tuple_add PySem.F.slot_tuple_add PySem.F.entry_tuple_add (PySem.F.args_tuple_add_2 _ _)
   (tuple_addW2 t b vs.toArray ws.toArray n n2 dd dd2 sl sl2 (by simpa using hv) (by simpa using hw) (by rw [List.size_toArray,List.size_toArray]; exact hsz)) ⟨ho,ho2,?_⟩
  rw [e]
  exact h2 hw
noncomputable def sIx(n d:Nat):Option Int->Nat
 | none=>d
 | some v=>if v<0 then (v+(n:Int)).toNat else min v.toNat n
theorem sIx_none(n d:Nat):sIx n d none=d:=rfl
theorem sIx_nat(n d k:Nat):sIx n d (some (k:Int))=min k n:=by
 show (if (k:Int)<0 then ((k:Int)+(n:Int)).toNat else min (k:Int).toNat n)=min k n
 rw [if_neg (by omega),Int.toNat_natCast]
theorem Rc(n d:Nat)(hd:d<=n)(o:Option Int):sIx n d o<=n:=by
 cases o with
 | none=>exact hd
 | some v =>
  show (if v<0 then (v+(n:Int)).toNat else min v.toNat n)<=n
  by_cases hv:v<0
  ·rw [if_pos hv]; omega
  ·rw [if_neg hv]; exact Nat.min_le_right _ _
theorem Lu(v:Int)(n d:Nat):(if v<0 then max (v+(n:Int)) 0 else min v (n:Int))=((sIx n d (some v):Nat):Int):=by
 show (if v<0 then max (v+(n:Int)) 0 else min v (n:Int))=(((if v<0 then (v+(n:Int)).toNat else min v.toNat n):Nat):Int)
 by_cases hv:v<0
 ·simp only [if_pos hv]; omega
 ·simp only [if_neg hv]; omega
theorem K5(lo hi:Option Int)(n:Nat):Builtin.Slice.sliceAdjust lo hi 1 (n:Int)=(((sIx n 0 lo:Nat):Int),((sIx n n hi:Nat):Int)):=by
 have h1:¬((1:Int)<0):=by omega
 unfold Builtin.Slice.sliceAdjust
 simp only [h1,if_false]
 refine Prod.ext ?_ ?_
 ·cases lo with
  | none=>rfl
  | some v=>exact Lu v n 0
 ·cases hi with
  | none=>rfl
  | some v=>exact Lu v n n
theorem KZ(i j:Nat):Builtin.Slice.slicePlaces (i:Int) (j:Int) 1=j - i:=by
 unfold Builtin.Slice.slicePlaces
 have h1:(1:Int) > 0:=by omega
 simp only [h1,if_true,Int.ediv_one]
 split <;> omega
theorem Fo{v:Value}{o:Option Int}{Q:Option Int->Shared->Prop}(p:IsPart v o)(h:Q o s):wpAny (model prog w) A (Builtin.Slice.slicePartIndex v) Q E s:=by
 cases p with
 | none=>exact slicePart_none h
 | int i t=>exact slicePart_int h
theorem sliceApplied_gen{sl:Addr}{vl vu:Value}{lo hi:Option Int}{n:Nat}{Q:Int×Int×Nat->Shared->Prop}(hs:s.heap.IsSliceOf sl vl vu .none)(pl:IsPart vl lo)(pu:IsPart vu hi)
  (h:Q (((sIx n 0 lo:Nat):Int),1,sIx n n hi - sIx n 0 lo) s):wpAny (model prog w) A (Builtin.Slice.sliceApplied (.ref sl) (pure (n:Int))) Q E s:=by
 obtain⟨os,hos,hcs,hds⟩:=id hs
 unfold Builtin.Slice.sliceApplied Builtin.Slice.sliceFields
 refine wpAny_bind (wpAny_bind (wpAny_field hos hds (x:=vl) rfl (wpAny_bind (wpAny_field hos hds (x:=vu) rfl (wpAny_bind (wpAny_field hos hds (x:=.none) rfl (wpAny_pure ?_)))))))
 refine wpAny_bind (slicePart_none ?_)
 show wpAny _ _ (if ((1:Int)==0)=true then _ else _) _ _ s
 rw [if_neg (by decide)]
 refine wpAny_bind (Fo pl (wpAny_bind (Fo pu (wpAny_bind (wpAny_pure ?_)))))
 show wpAny _ _ (match Builtin.Slice.sliceAdjust lo hi 1 (n:Int) with | (lo,hi)=>pure (lo,(1:Int),Builtin.Slice.slicePlaces lo hi 1)) _ _ s
 rw [K5 lo hi n]
 show wpAny _ _ (pure (((sIx n 0 lo:Nat):Int),(1:Int),Builtin.Slice.slicePlaces ((sIx n 0 lo:Nat):Int) ((sIx n n hi:Nat):Int) 1)) _ _ s
 rw [KZ]
 exact wpAny_pure h
theorem OB(xs:Array Value)(i k:Nat):((List.range k).filterMap fun(m:Nat)=>xs[((i:Int)+(m:Int)*1).toNat]?).toArray=((xs.toList.drop i).take k).toArray:=by
 have e:(fun(m:Nat)=>xs[((i:Int)+(m:Int)*1).toNat]?)=fun m=>xs[i+m]?:=by
  funext m
  have:((i:Int)+(m:Int)*1).toNat=i+m:=by omega
  rw [this]
 rw [e]
 have:=pick_run xs i k
 rw [List.filterMap_map] at this
 have e2:((fun x=>xs[x]?)∘fun x=>i+x)=fun m=>xs[i+m]?:=rfl
 rw [e2] at this
 rw [this]
theorem getItem_tuple_cut{t sl:Addr}{items:Array Value}{vl vu:Value}{lo hi:Option Int}{Q:Value->Shared->Prop}(ht:IsTup s.heap t items)(hs:s.heap.IsSliceOf sl vl vu .none)(pl:IsPart vl lo)(pu:IsPart vu hi)
  (hw:¬(sIx items.size 0 lo=0/\sIx items.size items.size hi=items.size))
  (h:Q (.ref s.heap.objs.size) { s with heap:=s.heap.push { cls:=.type "tuple",data:=.seq ((items.toList.drop (sIx items.size 0 lo)).take (sIx items.size items.size hi - sIx items.size 0 lo)).toArray } })
  (hsz:items.size<=sizeLine):wpAny (model prog w) A (getItem (.ref t) (.ref sl)) Q E s:=by
 have htake:sizeOk (.seq ((items.toList.drop (sIx items.size 0 lo)).take (sIx items.size items.size hi - sIx items.size 0 lo)).toArray):=by
  show ((items.toList.drop (sIx items.size 0 lo)).take (sIx items.size items.size hi - sIx items.size 0 lo)).toArray.size<=sizeLine
  rw [List.size_toArray,List.length_take,List.length_drop,Array.length_toList]
  omega
 have hj:sIx items.size items.size hi<=items.size:=Rc _ _ (Nat.le_refl _) hi
 obtain⟨os,hos,hcs,hds⟩:=id hs
 have hTs:s.TypeIs (.ref sl) "slice":=⟨os,hos,hcs⟩
 unfold getItem
 try with_reducible refine wpAny_holding ?_
 first | refine wpAny_bind (wpAny_pure ?_) | skip
 refine wpAny_bind (wpAny_sequenceKey ht.typeIs (by decide) ?_)
 refine wpAny_bind (wpAny_callSpecial?_slot (name:=Str.ofString "__getitem__") ht.typeIs PyProof.Rows.slot_tuple_getitem
  (wpAny_call_entry PyProof.Rows.slot_tuple_getitem ht.typeIs entry_tuple_getitem ?_ (args_tuple_getitem _ _)))
 show wpAny _ _ (Builtin.Tuple.tupleItemsOf (.ref t) >>= _) _ _ s
 refine wpAny_bind (tupleItemsOf_ ht ?_)
 refine wpAny_bind (wpAny_typeOf hTs ?_)
 rw [if_pos (by decide)]
 refine wpAny_bind (sliceApplied_gen hs pl pu ?_)
 have hno:¬((((sIx items.size 0 lo:Nat):Int)==0&&(1:Int)==1&&(sIx items.size items.size hi - sIx items.size 0 lo)==items.size)=true):=by
  intro q
  rw [Bool.and_eq_true,Bool.and_eq_true] at q
  have q1:((sIx items.size 0 lo:Nat):Int)=0:=eq_of_beq q.1.1
  have q2:sIx items.size items.size hi - sIx items.size 0 lo=items.size:=eq_of_beq q.2
  exact hw ⟨by omega,by omega⟩
 show wpAny _ _ (if (((sIx items.size 0 lo:Nat):Int)==0&&(1:Int)==1&&(sIx items.size items.size hi - sIx items.size 0 lo)==items.size)=true then _ else _) _ _ s
 rw [if_neg hno,OB]
 first
  | exact wpAny_bind (m:=Builtin.Tuple.tupleExact _) (wpAny_newObj_type (wpAny_pure ⟨_,rfl,wpAny_pure h⟩) htake)
  | exact wpAny_bind (m:=Builtin.Tuple.tupleExact _) (wpAny_newObj_type (wpAny_bind (wpAny_pure (wpAny_pure ⟨_,rfl,wpAny_pure h⟩))) htake)
  | exact wpAny_bind (wpAny_bind (m:=Builtin.Tuple.tupleExact _) (wpAny_newObj_type (wpAny_pure (wpAny_pure ⟨_,rfl,wpAny_pure h⟩)) htake))
  | exact wpAny_bind (wpAny_bind (m:=Builtin.Tuple.tupleExact _) (wpAny_newObj_type (wpAny_pure ⟨_,rfl,wpAny_pure h⟩) htake))
end
end HT
namespace L2
open PySem PySem.Spec PyProof.Rows
noncomputable abbrev TO:=St->Hp->(Option Int->Hp->Prop)->Prop
noncomputable def PO(X:Cx)(e:Option Expr)(t:TO):Prop :=
 ∀(pins:List (Addr×Obj)) (s:Shared) (σ:St) (H:Hp) (Q:Option Int->Hp->Prop),Inv X pins σ H s->t σ H Q ->
  wpAny (model X.prog X.w) X.A (evalPart e X.env) (fun u s'=>∃o H',Inv X pins σ H' s'/\IsPart u o/\Q o H') X.xe s
noncomputable def Ph:TO:=fun _ H Q=>Q none H
noncomputable def S8(t:TE):TO:=fun σ H Q=>t σ H fun x H1=>∃i,x=.int i/\Q (some i) H1
section
variable {X:Cx}{e:Expr}{te:TE}{lo hi:Option Expr}{tl th:TO}{pos p2:Pos}
theorem LX:PO X none Ph:=by
 intro pins s σ H Q I h
 rw [evalPart_none]
 exact wpAny_pure ⟨none,H,I,.none,h⟩
theorem LW(h:PE X e te):PO X (some e) (S8 te):=by
 intro pins s σ H Q I hw
 rw [evalPart_some]
 refine A_ (h pins s σ H _ I hw) fun u s1 ⟨x,H1,I1,r1,q1⟩=>?_
 obtain⟨i,rfl,q⟩:=q1
 obtain⟨t,rfl⟩:=r1
 exact⟨some i,H1,I1,.int i t,q⟩
noncomputable def SlR(X:Cx)(r:V->Option Int->Option Int->Hp->VK->Prop):Prop :=
 ∀(pins:List (Addr×Obj)) (s:Shared) (σ:St) (H:Hp) (x:V) (v vl vu:Value) (lo hi:Option Int) (sl:Addr) (Q:VK),Inv X pins σ H s->RelV x v->s.heap.IsSliceOf sl vl vu .none->IsPart vl lo->IsPart vu hi->r x lo hi H Q ->
  ∃T id,typeLookup (.type T) "__getitem__"=pure (some (.builtin id))/\s.TypeIs v T/\wpAny (model X.prog X.w) X.A (getItem v (.ref sl)) (EP X pins σ Q) X.xe s
theorem SlR.or{r r':V->Option Int->Option Int->Hp->VK->Prop}(h:SlR X r)(h':SlR X r'):SlR X (fun x lo hi H Q=>r x lo hi H Q\/r' x lo hi H Q):=by
 intro pins s σ H x v vl vu lo hi sl Q I rx hs pl pu q
 rcases q with q | q
 ·exact h pins s σ H x v vl vu lo hi sl Q I rx hs pl pu q
 ·exact h' pins s σ H x v vl vu lo hi sl Q I rx hs pl pu q
noncomputable def VN(r:V->Option Int->Option Int->Hp->VK->Prop)(te:TE)(tl th:TO):TE:=fun σ H Q=>te σ H fun x H1=>tl σ H1 fun l H2=>th σ H2 fun u H3=>r x l u H3 Q
theorem JJ{r:V->Option Int->Option Int->Hp->VK->Prop}(hr:SlR X r)(he:PE X e te)(hl:PO X lo tl)(hu:PO X hi th):PE X (.Subscript e (.Slice lo hi none p2) pos) (VN r te tl th):=by
 intro pins s σ H Q I h
 refine Subscript_ (A_ (he pins s σ H _ I h) fun v s1 ⟨x,H1,I1,r1,q1⟩=>?_)
 refine wpAny_Slice (A_ (hl pins s1 σ H1 _ I1 q1) fun vl s2 ⟨l,H2,I2,pl,q2⟩=>A_ (hu pins s2 σ H2 _ I2 q2) fun vu s3 ⟨u,H3,I3,pu,q3⟩=>?_)
 rw [evalPart_none]
 refine wpAny_pure ?_
 have I4:Inv X pins σ H3 { s3 with heap:=s3.heap.push { cls:=.type "slice",data:=.fields #[vl,vu,.none] } }:=I3.kept (t':=s3.toks) fun b ob q=>Heap.get?_push_of_some _ q
 obtain⟨T,id,hT,ht,hg⟩:=hr pins { s3 with heap:=s3.heap.push { cls:=.type "slice",data:=.fields #[vl,vu,.none] } } σ H3 x v vl vu l u s3.heap.objs.size Q I4 r1 (Heap.IsSliceOf.new ..) pl pu q3
 show wpAny (model X.prog X.w) X.A (subscriptTail e (.Slice lo hi none p2) v (.ref s3.heap.objs.size)) (EP X pins σ Q) X.xe { s3 with heap:=s3.heap.push { cls:=.type "slice",data:=.fields #[vl,vu,.none] } }
 exact tail_any (ops:=[.ref s3.heap.objs.size,v]) ht hT hg (by with_unfolding_all rfl)
noncomputable def G6(xs:List V)(lo hi:Option Int):List V:=(xs.drop (HT.sIx xs.length 0 lo)).take (HT.sIx xs.length xs.length hi - HT.sIx xs.length 0 lo)
theorem E_(xs:List V)(lo hi:Option Int):(G6 xs lo hi).length<=xs.length:=by
 unfold G6
 rw [List.length_take,List.length_drop]
 omega
noncomputable def TK(K:Frag):V->Option Int->Option Int->Hp->VK->Prop:=fun x lo hi H Q=>∃a xs,x=.ref a/\SqT K H a xs /\
 ¬(HT.sIx xs.length 0 lo=0/\HT.sIx xs.length xs.length hi=xs.length)/\∀p,H p=none->Q (.ref p) (Ax H p (.tup (G6 xs lo hi)))
theorem sl_tup:SlR X (TK X.K):=by
 intro pins s σ H x v vl vu lo hi sl Q I rx hs pl pu h
 obtain⟨a,xs,rfl,hx,hw,q⟩:=h
 cases rx
 obtain⟨its,r,ht,hz⟩:=I.tuple hx
 have hlen:its.toArray.size=xs.length:=by rw [List.size_toArray]; exact r.length.symm
 refine⟨"tuple",_,PyProof.Rows.slot_tuple_getitem.lookup,ht.typeIs,?_⟩
 refine HT.getItem_tuple_cut ht hs pl pu (by rw [hlen]; exact hw) ?_ (by rw [hlen]; exact hz)
 rw [hlen]
 refine⟨.ref s.heap.objs.size,_,I.laid (t':=s.toks) (o:=.tup (G6 xs lo hi)) (fun b ob q=>Heap.get?_push_of_some _ q) (Nat.le_refl _) ?_,rfl,q _ (I.hok.fresh (Nat.le_refl _))⟩
 exact⟨Nat.le_trans (E_ xs lo hi) hz,_,(r.drop (HT.sIx xs.length 0 lo)).take (HT.sIx xs.length xs.length hi - HT.sIx xs.length 0 lo),IsTupN.new _ _⟩
noncomputable def N3(K:Frag):R2:=fun x y H Q=>∃a b xs ys,x=.ref a/\y=.ref b/\SqT K H a xs/\SqT K H b ys/\xs≠[]/\xs.length+ys.length<=sizeLine /\
 (ys=[]->Q (.ref a) H)/\(ys≠[]->∀p,H p=none->Q (.ref p) (Ax H p (.tup (xs++ys))))
theorem Vals.nil_iff{xs:List V}{us:List Value}(r:Vals xs us):us=[]↔xs=[]:=by
 cases r with
 | nil=>simp
 | cons _ _=>simp
theorem op_catT:OpR X (binaryOp .Add) (N3 X.K):=by
 intro pins s σ H x y v u Q I rx ry h
 obtain⟨a,b,xs,ys,rfl,rfl,ha,hb,hx,hz,q1,q2⟩:=h
 cases rx
 cases ry
 obtain⟨its,r1,p1,_⟩:=I.tuple ha
 obtain⟨its2,r2,p2,_⟩:=I.tuple hb
 refine HT.cat_tup p1 p2 (fun z=>hx (r1.nil_iff.mp z)) (fun z=>⟨.ref a,H,I,rfl,q1 (r2.nil_iff.mp z)⟩) (fun z=>?_) (by rw [← r1.length,← r2.length]; exact hz)
 refine⟨.ref s.heap.objs.size,_,I.laid (t':=s.toks) (o:=.tup (xs++ys)) (fun b ob q=>Heap.get?_push_of_some _ q) (Nat.le_refl _) ?_,rfl,q2 (fun w=>z (r2.nil_iff.mpr w)) _ (I.hok.fresh (Nat.le_refl _))⟩
 exact⟨by rw [List.length_append]; exact hz,_,r1.append r2,IsTupN.new _ _⟩
end
noncomputable def OX(n:Nat)(i:Int):Option Nat:=if 0<=i then (if i<n then some i.toNat else none) else if -(n:Int)<=i then some (i+n).toNat else none
noncomputable def atI{α:Type}(xs:List α)(i:Int):Option α:=(OX xs.length i).bind fun j=>xs[j]?
theorem IK{n:Nat}{i:Int}{j:Nat}(h:OX n i=some j):seqIndex? i n=some j/\j<n/\-(n:Int)<=i/\i<n:=by
 unfold OX at h
 by_cases h0:0<=i
 ·rw [if_pos h0] at h
  by_cases h1:i<n
  ·rw [if_pos h1] at h
   have e:i.toNat=j:=Option.some.inj h
   exact⟨by rw [seqIndex_of h0 h1,e],by omega,by omega,h1⟩
  ·rw [if_neg h1] at h; cases h
 ·rw [if_neg h0] at h
  by_cases h1:-(n:Int)<=i
  ·rw [if_pos h1] at h
   have e:(i+n).toNat=j:=Option.some.inj h
   exact⟨by rw [seqIndex_neg (by omega) h1,e],by omega,h1,by omega⟩
  ·rw [if_neg h1] at h; cases h
theorem Fa{α:Type}{xs:List α}{i:Int}{v:α}(h:atI xs i=some v):∃j,seqIndex? i xs.length=some j/\xs[j]?=some v/\j<xs.length/\-(xs.length:Int)<=i/\i<xs.length:=by
 unfold atI at h
 cases e:OX xs.length i with
 | none=>rw [e] at h; cases h
 | some j =>
  rw [e] at h
  obtain⟨h1,h2,h3,h4⟩:=IK e
  exact⟨j,h1,h,h2,h3,h4⟩
theorem AV{α:Type}{xs:List α}{j:Nat}{v:α}(h:xs[j]?=some v):atI xs (j:Int)=some v:=by
 have hj:j<xs.length:=(List.getElem?_eq_some_iff.mp h).1
 have e:OX xs.length (j:Int)=some j:=by
  unfold OX
  rw [if_pos (by omega),if_pos (by omega)]; simp
 unfold atI; rw [e]; exact h
theorem Jx{α:Type}(xs:List α)(v:α):atI (xs++[v]) (-1)=some v:=by
 have hl:(xs++[v]).length=xs.length+1:=by simp
 have e:OX (xs++[v]).length (-1)=some xs.length:=by
  unfold OX
  rw [hl,if_neg (by decide),if_pos (by omega)]
  congr 1
  omega
 unfold atI
 rw [e]
 show (xs++[v])[xs.length]?=some v
 simp
noncomputable def L3(b:Expr):Prop:=∀o i,subscripted b false o i=operate [o,i] (getItem o i)
noncomputable def IxR(X:Cx)(r:R2):Prop :=
 ∀(value slice:Expr) (pins:List (Addr×Obj)) (s:Shared) (σ:St) (H:Hp) (x y:V) (v u:Value) (Q:VK),Inv X pins σ H s->RelV x v->RelV y u->r x y H Q ->
  subscripted slice false v u=operate [v,u] (getItem v u)->wpAny (model X.prog X.w) X.A (subscriptTail value slice v u) (EP X pins σ Q) X.xe s
noncomputable def UH(X:Cx)(id:String)(r:V->List V->Hp->VK->Prop):Prop :=
 ∀(pins:List (Addr×Obj)) (s:Shared) (σ:St) (H:Hp) (x:V) (xs:List V) (v:Value) (us:List Value) (Q:VK),Inv X pins σ H s->RelV x v->Vals xs us->r x xs H Q ->
  wpAny (model X.prog X.w) X.A (call (.builtin id) (v::us)) (EP X pins σ Q) X.xe s
section
variable {X:Cx}{a b:Expr}{ta tb:TE}{pos:Pos}
theorem IxR.or{r r':R2}(h:IxR X r)(h':IxR X r'):IxR X (fun x y H Q=>r x y H Q\/r' x y H Q):=by
 intro value slice pins s σ H x y v u Q I rx ry q hs
 rcases q with q | q
 ·exact h value slice pins s σ H x y v u Q I rx ry q hs
 ·exact h' value slice pins s σ H x y v u Q I rx ry q hs
theorem C6{r:R2}(hr:IxR X r)(ha:PE X a ta)(hb:PE X b tb)(hs:L3 b):PE X (.Subscript a b pos) (Ci r ta tb):=by
 intro pins s σ H Q I h
 exact Subscript_ (SY ha hb I h fun v u s2 x y H2 I2 rx ry q=>hr a b pins s2 σ H2 x y v u Q I2 rx ry q (hs _ _))
noncomputable def Rl(K:Frag):R2:=fun x y H Q=>∃p xs i v,x=.ref p/\y=.int i/\SqL K H p xs/\atI xs i=some v/\Q v H
noncomputable def TV(K:Frag):R2:=fun x y H Q=>∃p xs i v,x=.ref p/\y=.int i/\SqT K H p xs/\atI xs i=some v/\Q v H
noncomputable def TX:R2:=fun x y H Q=>∃z i c,x=.str z/\y=.int i/\z.length<=sizeLine/\atI z.cps.toList i=some c/\Q (.str ⟨#[c]⟩) H
theorem ix_list:IxR X (Rl X.K):=by
 intro value slice pins s σ H x y v u Q I rx ry h hs
 obtain⟨p,xs,i,z,rfl,rfl,hq,he,q⟩:=h
 cases rx
 obtain⟨t,rfl⟩:=ry
 obtain⟨its,r,pl,hz⟩:=I.list hq
 obtain⟨j,h1,h2,h3,h4,h5⟩:=Fa he
 obtain⟨w,ew,rw'⟩:=r.get h2
 have hl:=r.length
 have hn:=Es
 have fin:EP X pins σ Q w s:=⟨z,H,I,rw',q⟩
 by_cases h0:0<=i
 ·have hj:i.toNat=j:=by
   rw [seqIndex_of h0 h5] at h1
   exact Option.some.inj h1
  exact item_listR pl.isList h0 (by omega) (by rw [hj]; simpa using ew) fin hs
 ·have hj:(i+(its.toArray.size:Int)).toNat=j:=by
   rw [seqIndex_neg (by omega) h4] at h1
   rw [List.size_toArray,← hl]
   exact Option.some.inj h1
  exact subscriptTail_builtinR (x:=w) pl.isList.typeIs slot_list_getitem.lookup
   (wpAny_getItem_list_neg (Q:=fun r s'=>r=w/\EP X pins σ Q r s') pl.isList (by omega) (by rw [List.size_toArray] <;> omega) (by omega) (by rw [hj]; simpa using ew) ⟨rfl,fin⟩) hs
theorem ix_tup:IxR X (TV X.K):=by
 intro value slice pins s σ H x y v u Q I rx ry h hs
 obtain⟨p,xs,i,z,rfl,rfl,hq,he,q⟩:=h
 cases rx
 obtain⟨t,rfl⟩:=ry
 obtain⟨its,r,pl,hz⟩:=I.tuple hq
 obtain⟨j,h1,h2,h3,h4,h5⟩:=Fa he
 obtain⟨w,ew,rw'⟩:=r.get h2
 have hl:=r.length
 have hn:=Es
 have fin:EP X pins σ Q w s:=⟨z,H,I,rw',q⟩
 exact subscriptTail_builtinR (x:=w) pl.typeIs slot_tuple_getitem.lookup
  (getItem_tuple (j:=j) (Q:=fun r s'=>r=w/\EP X pins σ Q r s') pl (by omega) (by omega) (by rw [List.size_toArray,← hl]; exact h1) (by simpa using ew) ⟨rfl,fin⟩) hs
theorem SI:IxR X TX:=by
 intro value slice pins s σ H x y v u Q I rx ry h hs
 obtain⟨z,i,c,rfl,rfl,hz,he,q⟩:=h
 obtain⟨t,rfl⟩:=rx
 obtain⟨t',rfl⟩:=ry
 obtain⟨j,h1,h2,h3,h4,h5⟩:=Fa he
 have hl:z.cps.toList.length=z.length:=by simp [Str.length]
 rw [hl] at h1 h4 h5
 have hn:=Es
 exact tail_any (typeIs_str s z t) slot_str_getitem.lookup (getItem_str (c:=c) (by
  have e1:decide (i < -(2 ^ 63:Int))=false:=decide_eq_false (by omega)
  have e2:decide (i≥2 ^ 63)=false:=decide_eq_false (by omega)
  rw [e1,e2,Bool.or_false]) (by rw [h1]; simpa using h2) ⟨.str ⟨#[c]⟩,H,I.tok _,⟨_,rfl⟩,q⟩) hs
noncomputable def VE(K:Frag):R2:=fun x y H Q=>Rl K x y H Q\/TV K x y H Q\/TX x y H Q
theorem AY:IxR X (VE X.K):=ix_list.or (ix_tup.or SI)
theorem Km(its:List Value)(n j:Nat)(u:Value):Obj.mapSeq (·.setIfInBounds j u) { cls:=.type "list",data:=.seq its.toArray n }={ cls:=.type "list",data:=.seq (its.set j u).toArray n }:=by
 simp [Obj.mapSeq]
theorem Inv.lst{pins:List (Addr×Obj)}{σ:St}{H:Hp}{s:Shared}{p:Addr}{xs:List V}(I:Inv X pins σ H s)(h:H p=some (.lst xs)) :
  ∃(its:List Value) (n:Nat),Vals xs its/\s.heap.get? p=some { cls:=.type "list",data:=.seq its.toArray n }/\xs.length<=sizeLine:=by
 obtain⟨z,its,n,r,e⟩:=I.hok p _ h
 exact⟨its,n,r,e,z⟩
theorem Inv.lstUpd{pins:List (Addr×Obj)}{σ:St}{H:Hp}{s:Shared}{p:Addr}{xs ys:List V}{its its':List Value}{n n':Nat}{f:Obj->Obj}(I:Inv X pins σ H s)(h:H p=some (.lst xs))
  (ho:s.heap.get? p=some { cls:=.type "list",data:=.seq its.toArray n }) (hf:f { cls:=.type "list",data:=.seq its.toArray n }={ cls:=.type "list",data:=.seq its'.toArray n' }) (r:Vals ys its') (hz:ys.length<=sizeLine) (t:Nat) :
  Inv X pins σ (Ax H p (.lst ys)) { s with heap:=s.heap.update p f,toks:=t }:=by
 have e:(s.heap.update p f).get? p=some { cls:=.type "list",data:=.seq its'.toArray n' }:=by
  rw [Heap.get?_update_self f ho (by rw [hf] <;> rfl),hf]
 refine I.write (x:=p) (e:=p) (by rw [h]; trivial) (.inl rfl) (fun b u hb q=>(Heap.get?_update_other _ _ (Ne.symm hb)).trans q) ⟨_,e⟩ ?_
 exact⟨hz,its',n',r,e⟩
noncomputable def Qr:V->V->V->Hp->(Hp->Prop)->Prop:=fun o i v H Q=>∃p xs k j,o=.ref p/\i=.int k/\H p=some (.lst xs)/\OX xs.length k=some j/\Q (Ax H p (.lst (xs.set j v)))
theorem set_list:UB X Qr:=by
 intro pins s σ H o i v ov iv u Q I ro ri rv h
 obtain⟨p,xs,k,j,rfl,rfl,hp,hj,q⟩:=h
 cases ro
 obtain⟨t,rfl⟩:=ri
 obtain⟨its,n,r,ho,hz⟩:=I.lst hp
 obtain⟨h1,h2,h3,h4⟩:=IK hj
 have hl:=r.length
 have hn:=Es
 have I':Inv X pins σ (Ax H p (.lst (xs.set j v))) { s with heap:=s.heap.update p (Obj.mapSeq (·.setIfInBounds j u)) } :=
  I.lstUpd hp ho (Km its n j u) (r.set rv j) (by rw [List.length_set]; exact hz) s.toks
 by_cases h0:0<=k
 ·have hk:k.toNat=j:=by
   rw [seqIndex_of h0 h4] at h1
   exact Option.some.inj h1
  exact PySem.W.ki_setAt ho h0 (by omega) (by rw [List.size_toArray,← hl]; exact h4) (by rw [hk]; exact⟨_,I',q⟩)
 ·have hk:(k+(its.toArray.size:Int)).toNat=j:=by
   rw [seqIndex_neg (by omega) h3] at h1
   rw [List.size_toArray,← hl]
   exact Option.some.inj h1
  exact PySem.W.ki_setBack ho (by omega) (by rw [List.size_toArray,← hl]; exact h3) (by omega) (by rw [hk]; exact⟨_,I',q⟩)
theorem Hq(lo hi:Option Int)(n:Nat):(sliceBounds lo hi none n).1=((HT.sIx n 0 lo:Nat):Int)/\(sliceBounds lo hi none n).2.1=((HT.sIx n n hi:Nat):Int)/\(sliceBounds lo hi none n).2.2=1:=by
 refine⟨?_,?_,rfl⟩
 ·cases lo with
  | none=>simp [sliceBounds,HT.sIx]
  | some i =>
   simp only [sliceBounds,HT.sIx,Option.getD_none,show (1:Int) > 0 by decide,if_true]
   by_cases h:i<0
   ·simp only [h,if_true] <;> omega
   ·simp only [h,if_false] <;> omega
 ·cases hi with
  | none=>simp [sliceBounds,HT.sIx]
  | some i =>
   simp only [sliceBounds,HT.sIx,Option.getD_none,show (1:Int) > 0 by decide,if_true]
   by_cases h:i<0
   ·simp only [h,if_true] <;> omega
   ·simp only [h,if_false] <;> omega
theorem Gp(its:List Value)(lo hi:Option Int):slicePick its.toArray lo hi none=((its.drop (HT.sIx its.length 0 lo)).take (HT.sIx its.length its.length hi - HT.sIx its.length 0 lo)).toArray:=by
 obtain⟨h1,h2,h3⟩:=Hq lo hi its.toArray.size
 unfold slicePick
 rw [h1,h2,h3]
 simp only [sliceRange_one,pick_run,List.size_toArray] <;> rfl
noncomputable def Ri(K:Frag):V->Option Int->Option Int->Hp->VK->Prop:=fun x lo hi H Q=>∃a xs,x=.ref a/\SqL K H a xs/\∀p,H p=none->Q (.ref p) (Ax H p (.lst (G6 xs lo hi)))
theorem sl_list:SlR X (Ri X.K):=by
 intro pins s σ H x v vl vu lo hi sl Q I rx hs pl pu h
 obtain⟨a,xs,rfl,hx,q⟩:=h
 cases rx
 obtain⟨its,r,ht,hz⟩:=I.list hx
 have hlen:=r.length
 refine⟨"list",_,slot_list_getitem.lookup,ht.isList.typeIs,?_⟩
 refine wpAny_getItem_list_slice ht.isList hs pl pu .none (by simp) ?_ (by rw [List.size_toArray] <;> omega)
 rw [Gp,← hlen]
 refine⟨.ref s.heap.objs.size,_,I.laid (t':=s.toks) (o:=.lst (G6 xs lo hi)) (fun b ob q=>Heap.get?_push_of_some _ q) (Nat.le_refl _) ?_,rfl,q _ (I.hok.fresh (Nat.le_refl _))⟩
 exact⟨Nat.le_trans (E_ xs lo hi) hz,_,0,(r.drop (HT.sIx xs.length 0 lo)).take (HT.sIx xs.length xs.length hi - HT.sIx xs.length 0 lo),Heap.get?_push_size _ rfl⟩
noncomputable def Q8:V->Bool
 | .non=>true
 | .bl _=>true
 | .int _=>true
 | .str _=>true
 | _=>false
noncomputable def Tv:V->V->Bool
 | .non,.non=>true
 | .bl a,.bl b=>a==b
 | .bl a,.int b=>(if a then 1 else 0)==b
 | .int a,.bl b=>a==(if b then 1 else 0)
 | .int a,.int b=>a==b
 | .str a,.str b=>a==b
 | _,_=>false
theorem IQ{A:Around}{s:Shared}{y x:V}{u v:Value}(ry:RelV y u)(rx:RelV x v)(fy:Q8 y=true)(fx:Q8 x=true):SeqAt.EqAt A s u v (Tv y x):=by
 cases y with
 | non =>
  cases ry
  cases x with
  | non=>cases rx; exact SeqAt.EqAt.same _
  | bl b=>cases rx; exact SeqAt.EqAt.none_bool b
  | int b=>obtain⟨t,rfl⟩:=rx; exact SeqAt.EqAt.none_int b t
  | str b=>obtain⟨t,rfl⟩:=rx; exact SeqAt.EqAt.none_str b t
  | _=>exact absurd (show false=true from fx) Bool.false_ne_true
 | bl a =>
  cases ry
  cases x with
  | non=>cases rx; exact SeqAt.EqAt.bool_none a
  | bl b=>cases rx; exact SeqAt.EqAt.bool_bool a b
  | int b=>obtain⟨t,rfl⟩:=rx; exact SeqAt.EqAt.bool_int a b t
  | str b=>obtain⟨t,rfl⟩:=rx; exact SeqAt.EqAt.bool_str a b t
  | _=>exact absurd (show false=true from fx) Bool.false_ne_true
 | int a =>
  obtain⟨t',rfl⟩:=ry
  cases x with
  | non=>cases rx; exact SeqAt.EqAt.int_none a t'
  | bl b=>cases rx; exact SeqAt.EqAt.int_bool a t' b
  | int b=>obtain⟨t,rfl⟩:=rx; exact SeqAt.EqAt.int_int a t' b t
  | str b=>obtain⟨t,rfl⟩:=rx; exact SeqAt.EqAt.int_str a t' b t
  | _=>exact absurd (show false=true from fx) Bool.false_ne_true
 | str a =>
  obtain⟨t',rfl⟩:=ry
  cases x with
  | non=>cases rx; exact SeqAt.EqAt.str_none a t'
  | bl b=>cases rx; exact SeqAt.EqAt.str_bool a t' b
  | int b=>obtain⟨t,rfl⟩:=rx; exact SeqAt.EqAt.str_int a t' b t
  | str b=>obtain⟨t,rfl⟩:=rx; exact SeqAt.EqAt.str_str a t' b t
  | _=>exact absurd (show false=true from fx) Bool.false_ne_true
 | _=>exact absurd (show false=true from fy) Bool.false_ne_true
theorem EZ:B6 X (.type "list") (fun xs H Q=>∃p ys,xs=[.ref p]/\(SqL X.K H p ys\/SqT X.K H p ys)/\∀l,H l=none->Q (.ref l) (Ax H l (.lst ys))):=by
 intro pins s σ H xs us Q I r h
 obtain⟨p,ys,rfl,hq,q⟩:=h
 obtain⟨u,rfl,rx⟩:=vals1 r
 cases rx
 have fin:∀(its:List Value),Vals ys its->ys.length<=sizeLine->∀(h':Heap) (c':Nat),(∀b o',s.heap.get? b=some o'->h'.get? b=some o') ->
   h'.get? s.heap.objs.size=some { cls:=.type "list",dict:=none,data:=.seq its.toArray c',slots:=#[] }->EP X pins σ Q (.ref s.heap.objs.size) { s with heap:=h' }:=fun its r' hz h' c' kp e =>
  ⟨.ref s.heap.objs.size,_,I.laid (t':=s.toks) kp (Nat.le_refl _) (show ObjOk X.prog X.w _ h' _ (.lst ys) from⟨hz,its,c',r',e⟩),rfl,q _ (I.hok.fresh (Nat.le_refl _))⟩
 rcases hq with hq | hq
 ·obtain⟨its,r',pl,hz⟩:=I.list hq
  have hlen:=r'.length
  obtain⟨o,ho,hc,n,hd⟩:=pl.isList
  exact call_list_seq p (.inl rfl) ho hc hd (fun h' c' kp e=>fin its r' hz h' c' kp e) (by simp only [List.size_toArray] <;> omega)
 ·obtain⟨its,r',pl,hz⟩:=I.tuple hq
  have hlen:=r'.length
  obtain⟨o,ho,hc,n,hd⟩:=pl
  exact call_list_seq p (.inr rfl) ho hc hd (fun h' c' kp e=>fin its r' hz h' c' kp e) (by simp only [List.size_toArray] <;> omega)
theorem Be:B6 X (.type "tuple") (fun xs H Q=>∃p ys,xs=[.ref p]/\((SqL X.K H p ys/\∀l,H l=none->Q (.ref l) (Ax H l (.tup ys)))\/(SqT X.K H p ys/\Q (.ref p) H))):=by
 intro pins s σ H xs us Q I r h
 obtain⟨p,ys,rfl,h⟩:=h
 obtain⟨u,rfl,rx⟩:=vals1 r
 cases rx
 rcases h with ⟨hq,q⟩ | ⟨hq,q⟩
 ·obtain⟨its,r',pl,hz⟩:=I.list hq
  have hlen:=r'.length
  refine call_tuple_list pl.isList (fun h' kp=>?_) (by simp only [List.size_toArray] <;> omega)
  have I1:Inv X pins σ H { s with heap:=h' }:=I.kept (t':=s.toks) kp
  have I2:Inv X pins σ (Ax H h'.objs.size (.tup ys)) { s with heap:=h'.push { cls:=.type "tuple",data:=.seq its.toArray } } :=
   I1.laid (t':=s.toks) (fun b o e=>Heap.get?_push_of_some _ e) (Nat.le_refl _) (show ObjOk X.prog X.w _ _ _ (.tup ys) from⟨hz,its,r',IsTupN.new _ _⟩)
  exact⟨.ref h'.objs.size,_,I2,rfl,q _ (I1.hok.fresh (Nat.le_refl _))⟩
 ·obtain⟨its,r',pl,hz⟩:=I.tuple hq
  exact call_tuple_same pl ⟨.ref p,H,I,rfl,q⟩
noncomputable def Ub(K:Frag)(T:String)(x:V)(H:Hp):Prop:=match x with
 | .str _=>T = "str"
 | .int _=>T = "int"
 | .ref p=>(T = "list"/\∃xs,SqL K H p xs)\/(T = "tuple"/\∃o,K.lookup p=some o/\o.cls=.type "tuple"/\o.dict=none) \/
   (T = "dict"/\((∃kvs,H p=some (.dK kvs))\/∃kvs,H p=some (.dT kvs)))\/(T = "set"/\∃S n,H p=some (.set S n))
 | _=>False
theorem RO{pins:List (Addr×Obj)}{σ:St}{H:Hp}{s:Shared}{T:String}{x:V}{v:Value}(I:Inv X pins σ H s)(r:RelV x v)(ty:Ub X.K T x H) :
  s.TypeIs v T/\∀a,v=.ref a->∃ob,s.heap.get? a=some ob/\ob.dict=none:=by
 cases x with
 | str z =>
  obtain⟨t,rfl⟩:=r
  cases (show T = "str" from ty)
  exact⟨typeIs_str s z t,fun _ e=>nomatch e⟩
 | int i =>
  obtain⟨t,rfl⟩:=r
  cases (show T = "int" from ty)
  exact⟨typeIs_int s i t,fun _ e=>nomatch e⟩
 | ref p =>
  cases r
  rcases ty with ⟨rfl,xs,hq⟩ | ⟨rfl,o,hk,hc,hd⟩ | ⟨rfl,hk⟩ | ⟨rfl,S,n,hk⟩
  ·obtain⟨its,_,pl,_⟩:=I.list hq
   refine⟨pl.isList.typeIs,fun a e=>?_⟩
   cases e
   obtain⟨o,n,e,c,hd,_⟩:=pl
   exact⟨o,e,hd⟩
  ·refine⟨⟨o,I.kIn p o hk,hc⟩,fun a e=>?_⟩
   cases e
   exact⟨o,I.kIn _ o hk,hd⟩
  ·have z:∃o,s.heap.get? p=some o/\o.ExactDict:=by
    rcases hk with ⟨kvs,hk⟩ | ⟨kvs,hk⟩
    ·obtain⟨_,_,_,_,o,_,_,e,ex,_⟩:=I.hok p _ hk
     exact⟨o,e,ex⟩
    ·obtain⟨_,_,_,_,o,_,_,e,ex,_⟩:=I.hok p _ hk
     exact⟨o,e,ex⟩
   obtain⟨o,e,ex⟩:=z
   refine⟨⟨o,e,ex.1⟩,fun a e2=>?_⟩
   cases e2
   exact⟨o,e,ex.2.1⟩
  ·obtain⟨o,_,_,_,e,ex,_⟩:=I.hok p _ hk
   refine⟨⟨o,e,ex.1⟩,fun a e2=>?_⟩
   cases e2
   exact⟨o,e,ex.2.1⟩
 | _=>exact False.elim ty
noncomputable def VQ(K:Frag)(T:String)(r:V->List V->Hp->VK->Prop)(to:TE)(t:TA):TE:=fun σ H Q=>to σ H fun x H1=>Ub K T x H1/\t σ H1 fun xs H2=>r x xs H2 Q
variable {o e:Expr}{es:List Expr}{to:TE}{t:TA}{name:Str}{apos cpos:Pos}{T id:String}{r:V->List V->Hp->VK->Prop}
theorem Lc(pa:PlainAttrs T)(slot:Slot T name id)(hty:typeOf (.builtin id)=pure (.type "method_descriptor"))(hm:UH X id r)(ho:PE X o to)(ha:PA X (e::es) t)
  (hbase:attributeBase o name X.env (eval o X.env)=eval o X.env:=by rfl)
  (hfew:((backTo cpos (starEach (e::es) X.env)).all (fun x=>!x.1)&&(backToKw cpos (keywordEach [] X.env)).all (fun x=>x.1.isSome)
   && decide ((e::es).length+([]:List Keyword).length+(if ([]:List Keyword).isEmpty then 0 else 1)<30))=true:=by rfl)
  (hline:(apos.endLine==cpos.line)=true:=by rfl) (hs:starEach (e::es) X.env=(false,eval e X.env)::starEach es X.env:=by rfl) (hplain:(backTo cpos (starEach es X.env)).any (·.1)=false:=by rfl) :
  PE X (.Call (.Attribute o name apos) (e::es) [] cpos) (VQ X.K T r to t):=by
 intro pins s σ H Q I h
 refine wpAny_Call_method_late hbase hfew hline rfl (A_ (ho pins s σ H _ I h) fun v s1 ⟨x,H1,I1,r1,ty,q1⟩=>?_)
 obtain⟨h1,h2⟩:=RO I1 r1 ty
 refine⟨T,id,pa,slot,hty,h1,h2,?_⟩
 have hA:=ha cpos pins s1 σ H1 _ I1 q1
 rw [hs] at hA ⊢
 refine Calls.callWith_builtin (by show (false||(backTo cpos (starEach es X.env)).any (·.1))=false; rw [hplain] <;> rfl) (Calls.evalArgs_plain ?_)
 exact A_ hA fun us s2 ⟨vs,H2,I2,r2,q2⟩=>hm pins s2 σ H2 x vs v us Q I2 r1 r2 q2
end
noncomputable def VJ(X:Cx)(id:String)(r:V->List V->Hp->VK->Prop):Prop :=
 ∀(pins:List (Addr×Obj)) (s:Shared) (σ:St) (H:Hp) (x:V) (xs:List V) (v:Value) (us:List Value) (Q:VK),Inv X pins σ H s->RelV x v->Vals xs us->r x xs H Q ->
  wpAny (model X.prog X.w) X.A (call (.builtin id) (v::us)) (EP X pins σ Q) X.xe s
theorem Vals.one:∀{x:V} {us:List Value},Vals [x] us->∃u,us=[u]/\RelV x u
 | _,_,.cons r .nil=>⟨_,rfl,r⟩
theorem Vals.eraseIdx:∀{xs:List V} {us:List Value} (i:Nat),Vals xs us->Vals (xs.eraseIdx i) (us.eraseIdx i)
 | _,_,_,.nil=>.nil
 | _,_,0,.cons _ t=>t
 | _,_,i+1,.cons r t=>.cons r (Vals.eraseIdx i t)
theorem Vals.reverse{xs:List V}{us:List Value}(h:Vals xs us):Vals xs.reverse us.reverse:=by
 induction h with
 | nil=>exact .nil
 | cons r t ih=>rw [List.reverse_cons,List.reverse_cons]; exact Vals.append ih (.cons r .nil)
theorem Et{α:Type}:∀(l:List α) (i:Nat),(l.eraseIdx i).length<=l.length
 | [],_=>Nat.le_refl _
 | _::_,0=>Nat.le_succ _
 | _::r,i+1=>Nat.succ_le_succ (Et r i)
section
variable {X:Cx}{pins:List (Addr×Obj)}{σ:St}{H:Hp}{s:Shared}{l b:Addr}{xs ys zs:List V}
theorem Inv.lset{its its':List Value}{n:Nat}{f:Array Value->Array Value}{t':Nat}(I:Inv X pins σ H s)(hH:H l=some (.lst xs))
  (e:s.heap.get? l=some { cls:=.type "list",data:=.seq its.toArray n }) (hf:f its.toArray=its'.toArray) (hv:Vals ys its') (hz:ys.length<=sizeLine) :
  Inv X pins σ (Ax H l (.lst ys)) { s with heap:=s.heap.update l (Obj.mapSeq f),toks:=t' }:=by
 have q:=PySem.IsL.update e f
 rw [hf] at q
 refine I.write (x:=l) (e:=l) (by rw [hH]; exact trivial) (.inl rfl) (fun b' u hb hu=>(Heap.get?_update_other s.heap (Obj.mapSeq f) (Ne.symm hb)).trans hu) ⟨_,q⟩ ?_
 exact⟨hz,its',_,hv,q⟩
theorem Inv.lnew{its:List Value}{t':Nat}(I:Inv X pins σ H s)(hv:Vals ys its)(hz:ys.length<=sizeLine) :
  Inv X pins σ (Ax H s.heap.objs.size (.lst ys)) { s with heap:=s.heap.push { cls:=.type "list",data:=.seq its.toArray },toks:=t' } :=
 I.laid (fun _ _ q=>Heap.get?_push_of_some _ q) (Nat.le_refl _) ⟨hz,its,0,hv,Heap.get?_push_size _ rfl⟩
theorem Inv.fresh(I:Inv X pins σ H s):H s.heap.objs.size=none:=I.hok.fresh (Nat.le_refl _)
theorem Inv.lstM(I:Inv X pins σ H s)(hH:H l=some (.lst xs)):xs.length<=sizeLine/\∃(its:List Value) (n:Nat),Vals xs its/\xs.length=its.length/\s.heap.get? l=some { cls:=.type "list",data:=.seq its.toArray n }:=by
 obtain⟨z,its,n,r,e⟩:=I.hok l _ hH
 exact⟨z,its,n,r,r.length,e⟩
end
section
variable {X:Cx}
noncomputable def LR:V->List V->Hp->VK->Prop:=fun x vs H Q=>∃l xs y,x=.ref l/\vs=[y]/\H l=some (.lst xs)/\xs.length<sizeLine/\Q .non (Ax H l (.lst (xs++[y])))
theorem BY:VJ X "list.append" LR:=by
 intro pins s σ H x vs v us Q I rx rv h
 obtain⟨l,xs,y,rfl,rfl,hH,hz,q⟩:=h
 cases rx
 obtain⟨u,rfl,ru⟩:=rv.one
 obtain⟨z,its,n,r,hl,e⟩:=I.lstM hH
 refine call_meets F.slot_list_append ⟨_,e,rfl⟩ F.entry_list_append (F.args_list_append_2 _ _) (PySem.list_append l its.toArray n u (by rw [List.size_toArray]; omega)) ⟨e,?_⟩
 refine⟨.non,_,I.lset (its':=its++[u]) hH e (by simp) (r.append (.cons ru .nil)) ?_,rfl,q⟩
 rw [List.length_append,List.length_singleton]
 omega
noncomputable def Rj:V->List V->Hp->VK->Prop:=fun x vs H Q=>∃l xs i k y,x=.ref l/\vs=[.int i]/\H l=some (.lst xs)/\-(2 ^ 63)<=i/\i<2 ^ 63/\seqIndex? i xs.length=some k/\xs[k]?=some y/\Q y (Ax H l (.lst (xs.eraseIdx k)))
theorem OL:VJ X "list.pop" Rj:=by
 intro pins s σ H x vs v us Q I rx rv h
 obtain⟨l,xs,i,k,y,rfl,rfl,hH,h1,h2,hk,hy,q⟩:=h
 cases rx
 obtain⟨u,rfl,ru⟩:=rv.one
 obtain⟨t,rfl⟩:=ru
 obtain⟨z,its,n,r,hl,e⟩:=I.lstM hH
 obtain⟨w,hw,rw'⟩:=r.get hy
 refine call_meets F.slot_list_pop ⟨_,e,rfl⟩ F.entry_list_pop (F.args_list_pop_2 _ _)
  (MeetsSeq.list_pop_at l its.toArray n i t k w (fitsIndex_both h1 h2) (by rw [List.size_toArray,← hl]; exact hk) (by rw [← Array.getElem?_toList]; exact hw) (by rw [List.size_toArray]; omega)) ⟨e,?_⟩
 refine⟨y,_,I.lset (its':=its.eraseIdx k) hH e ?_ (r.eraseIdx k) ?_,rw',q⟩
 ·show its.toArray.eraseIdxIfInBounds k=(its.eraseIdx k).toArray
  rw [List.eraseIdxIfInBounds_toArray]
 ·have:=Et xs k
  omega
end
section
variable {prog:Program}{w:World}{A:Around}{E:Value->Shared->Prop}{s:Shared}
end
section
variable {X:Cx}
end
end L2
namespace Att
open PySem PySem.W PySem.Calls PyProof.Rows
theorem FH{P:Params}{h:Heap}:∀(ns:List Int) (vs:List Value),WellAll P h vs (ns.map WData.int)->IntsAre vs ns:=by
 intro ns
 induction ns with
 | nil =>
  intro vs w
  rw [List.map_nil] at w
  cases w
  exact .nil
 | cons n ns ih =>
  intro vs w
  rw [List.map_cons] at w
  cases w with
  | cons a b =>
   cases a
   exact .cons _ _ (ih _ b)
theorem MI{l:OpenLaw}{n:Nat}(hn:l.most=some n){P:Params}{h:Heap}{args:List WData}{vals:List Value}
  (hpre:l.row.toRowW.claim.pre args=true) (hwl:WellAll P h vals args) :
  ∃a vs ns,vals=[Value.ref a]/\args=[WData.list (ns.map WData.int)]/\h.get? a=some { cls:=.type "list",data:=.seq vs.toArray }/\IntsAre vs ns/\ns.length<=n:=by
 have hsh:WShape.hasAll [] args [.list .int]=true:=(pre_splitW hpre).1
 have hc:l.pre.holds [] { args:=args }=true:=(pre_splitW hpre).2
 obtain⟨d,r,rfl,h1,h2⟩:=hasAllW_cons hsh
 obtain rfl:=hasAllW_nil h2
 obtain⟨xs,rfl,h3⟩:=hasW_list h1
 obtain⟨ns,rfl⟩:=items_int h3
 have hlen:ns.length<=n:=by
  unfold OpenLaw.pre at hc
  have h4:(WTm.not (.lt (.lit (.int (n:Int))) (.len (.arg 0)))).holds [] { args:=[.list (ns.map .int)] }=true:=by
   have h4:=(holds_andW hc).1
   rw [hn] at h4
   exact h4
  have h5:=condW_of h4 (w_not (w_lt w_lit (w_len_list (w_arg rfl))))
  rw [List.length_map] at h5
  refine Nat.le_of_not_lt fun q=>?_
  have q':(n:Int)<((ns.length:Nat):Int):=by omega
  first
   | (rw [decide_eq_true q'] at h5; exact absurd h5 (by decide))
   | (simp at h5; omega)
 cases hwl with
 | cons w1 w2 =>
  cases w2
  cases w1 with
  | list ho hall=>exact⟨_,_,ns,rfl,rfl,ho,FH ns _ hall,hlen⟩
theorem MO(l:OpenLaw)(args:List WData):l.row.toRowW.claim.post args (.bool true) args=true :=
 postW_of (r:=l.row.toRowW) (X:=(true==true))
  (show WShape.has [] (.bool true) .bool=true by first | rfl | decide | simp [WShape.has,WShape.arms,WShape.armsAll])
  (show (WTm.eq .res (.lit (.bool true))).value [] { args:=args,res:=some (.bool true),after:=args }=some (.bool (true==true)) from w_eq_bool (w_res rfl) w_lit) rfl
theorem attach_call{l:OpenLaw}{n:Nat}{q:Program}{loose:List Str}{XP:(Str->Option Value)->Heap->Prop}{YP:World->Heap->Prop}{d:DefRec}
  (hn:l.most=some n) (hdf:d.params.defaults=[])
  (call:∀(w:World) (s₀ s₁:Shared) (mg mb:Str->Option Value) (fa:Addr) (o:Obj) (pm cd doc:Value) (a:Addr) (vs:List Value) (ns:List Int),
   Ground q loose [] XP w s₀ mg mb s₁.heap->YP w s₁.heap ->
   s₁.heap.get? fa=some o->o.data=.func (docDef d.name d.params d.body d.scope pm cd doc)->s₁.heap.CodeRec cd d.name->mg d.name=some (.ref fa) ->
   s₁.heap.get? a=some { cls:=.type "list",data:=.seq vs.toArray }->IntsAre vs ns->ns.length<=n->s₁.gens=#[] ->
   codeAny (model l.prog w) callerA (.call (.ref fa) ⟨[.ref a],[]⟩) (fun r s'=>r=.ok (.ret (.bool true))/\OldK s₁.heap s'.heap/\s'.os=s₁.os/\AllBare s'.gens) s₁) :
  WalkO q loose XP YP l.row.toRowW d [] (fun f vs=>PySem.call f vs):=by
 intro w s₀ s₁ mg mb G Y fa o pm cd doc dV kV ho hd hcd hD hmg hg args vals as hpre hlay hrd hwl hlo
 obtain rfl:dV=.none:=Dflts.none hD hdf
 obtain rfl:kV=.none:=Dflts.noKw hD
 obtain⟨a,vs,ns,rfl,rfl,hobj,hints,hlen⟩:=MI hn hpre hwl
 refine enter_call (codeAny_mono (call w s₀ s₁ mg mb fa o pm cd doc a vs ns G Y ho (fd_plain hd) hcd hmg hobj hints hlen hg) fun r s' hq=>?_)
 obtain⟨rfl,h2,h3,h4⟩:=hq
 exact⟨.inl ⟨.bool true,.bool true,[],rfl,fun _=>rfl,.bool true,MO l _,fun _=>⟨List.Pairwise.nil,fun _ hm=>(nomatch hm)⟩⟩,h2,h3,h4⟩
section
variable {prog:Program}{w:World}{A:Around}{E:Value->Shared->Prop}{s:Shared}{K:Frag}
end
end Att
namespace L2
open PySem PySem.Spec PyProof.Rows
theorem G7:∀{vs:List Value} {ns:List Int},IntsAre vs ns->Vals (ns.map V.int) vs
 | _,_,.nil=>.nil
 | _,_,.cons n t h=>.cons ⟨t,rfl⟩ (G7 h)
noncomputable def Sq(H:Hp):Prop:=∀b,H b=none\/∃o xs,H b=some (.frz o (.lst xs))
theorem OU{P:Program}{w:World}{K:Frag}{mg mb:Str->Option Value}{CX:PQ}{k:Nat}{fa a:Addr}{fd:FuncData}{x:Str}{sp:Sp}{s₁:Shared}{vs:List Value}{ns:List Int}
  (KX:K.In s₁.heap) (hns:s₁.heap.Ns mainGlobals mg) (hb:s₁.heap.Ns builtinsNs mb) (hbb:∀x:Str,x ≠ "__name__"->mb x=bootBuiltins x) (hlim:s₁.heap.NoLimit) (hg:s₁.gens=#[])
  (ha:s₁.heap.get? a=some { cls:=.type "list",data:=.seq vs.toArray }) (hi:IntsAre vs ns) (hl:ns.length<=sizeLine) (hr:Room k callerA)
  (F:∀base:Heap,K.In base->base.Ns mainGlobals mg->Bi P w K mg base CX k fa fd [x] sp) (hbind:∀(s:Shared) (u:Value),BindsTo s fd ⟨[u],[]⟩ [(x,u)])
  (hsp:∀H:Hp,Sq H->SqL K H a (ns.map V.int)->sp [.ref a] H (fun v _=>v=.bl true) fun _ _ _=>False)
  (hCX:∀H e s',CX [] H s₁ (fun _ _ _=>False) e s'->False) :
  codeAny (model P w) callerA (.call (.ref fa) ⟨[.ref a],[]⟩) (fun r s'=>r=.ok (.ret (.bool true))/\OldK s₁.heap s'.heap/\s'.os=s₁.os/\AllBare s'.gens) s₁:=by
 have rv:=G7 hi
 have lenV:=hi.length
 have core:∀H:Hp,Sq H->SqL K H a (ns.map V.int)->HOk P w H s₁.heap->(∀b,H b≠none->b=a)->(H a≠none->K.lookup a=none) ->
   codeAny (model P w) callerA (.call (.ref fa) ⟨[.ref a],[]⟩) (fun r s'=>r=.ok (.ret (.bool true))/\OldK s₁.heap s'.heap/\s'.os=s₁.os/\AllBare s'.gens) s₁:=by
  intro H hO hS hok hA hK
  have base_of:∀{b:Addr} {o:Obj},s₁.heap.get? b=some o->H b=none->(IM s₁.heap H).get? b=some o:=fun e n=>Of e n
  have noA:∀{b:Addr} {o:Obj} {es:Array DictEntry} {ep:Nat},s₁.heap.get? b=some o->o.data=.dict es ep->H b=none:=fun {b o es ep} e d=>by
   cases q:H b with
   | none=>rfl
   | some u =>
    have e':b=a:=hA b (by rw [q]; simp)
    subst e'
    rw [ha] at e; cases e
    have d':Data.seq vs.toArray _=Data.dict es ep:=d
    cases d'
  have nsK:∀{b:Addr} {m:Str->Option Value},s₁.heap.Ns b m->(IM s₁.heap H).Ns b m:=fun {b m} ⟨o,es,ep,e,d,r⟩=>⟨o,es,ep,base_of e (noA e d),d,r⟩
  have hKb:K.In (IM s₁.heap H):=fun b o e=>base_of (KX b o e) (by
   cases q:H b with
   | none=>rfl
   | some u =>
    have e':b=a:=hA b (by rw [q]; simp)
    subst e'
    rw [hK (by rw [q]; simp)] at e; cases e)
  have hM:Mod K mg (IM s₁.heap H):=⟨hKb,nsK hns,⟨mb,nsK hb,hbb⟩,let ⟨mc,h1,h2⟩:=hlim; ⟨mc,nsK h1,h2⟩⟩
  have e0:Qg P w K mg (IM s₁.heap H) callerA [] s₁ H:=⟨rfl,hM,fun b o e=>QD e,Nat.le_of_eq (Mw _ _),trivial,fun b hb=>absurd (show b∈([]:List Addr) from hb) (by simp),hok,.of_eq hg⟩
  refine codeAny_mono ((F _ hKb (nsK hns)).run callerA [] s₁ H ⟨[.ref a],[]⟩ [.ref a] [.ref a] _ _ hr e0 (hbind s₁ (.ref a)) (.cons rfl .nil) (hsp H hO hS)) fun r s' h=>?_
  cases r with
  | error e=>exact(hCX H e s' h).elim
  | ok fl =>
   cases fl with
   | next=>exact False.elim h
   | brk=>exact False.elim h
   | cont=>exact False.elim h
   | ret u =>
    obtain⟨v,H',os,bare,un,hok',r',q⟩:=h
    have q':v=.bl true:=q
    subst q'
    obtain rfl:u=Value.bool true:=r'
    refine⟨rfl,OldK.of_keep fun b o e=>?_,os,bare⟩
    cases q:H b with
    | none=>exact un.keep b o e q (by intro z; exact absurd (show b∈([]:List Addr) from z) (by simp)) (by simp)
    | some u =>
     rcases hO b with z | ⟨ob,xs,z⟩
     ·rw [q] at z; cases z
     ·have z2:=un.frzs b ob _ z
      obtain⟨e1,_⟩:=hok b _ z
      obtain⟨e2,_⟩:=hok' b _ z2
      rw [e] at e1; cases e1
      exact e2
 cases hk:K.lookup a with
 | some o =>
  have e:=KX a o hk
  rw [ha] at e
  cases e
  refine core (fun _=>none) (fun _=>.inl rfl) (.inr ⟨_,vs.toArray,_,hk,rfl,rfl,rfl,by rw [List.size_toArray,lenV]; exact hl,by simpa using rv⟩) (fun b u z=>by have z':(none:Option HO)=some u:=z; cases z') (fun b z=>absurd rfl z) fun z=>absurd rfl z
 | none =>
  refine core (fun b=>if b=a then some (.frz { cls:=.type "list",data:=.seq vs.toArray } (.lst (ns.map V.int))) else none) (fun b=>?_) (.inl (.inr ⟨{ cls:=.type "list",data:=.seq vs.toArray },if_pos rfl⟩)) (fun b u z=>?_) (fun b z=>?_) fun _=>hk
  ·by_cases hb:b=a
   ·exact .inr ⟨_,_,if_pos hb⟩
   ·exact .inl (if_neg hb)
  ·by_cases hb:b=a
   ·have z':=(if_pos hb).symm.trans z
    cases z'
    subst hb
    exact⟨ha,by rw [List.length_map]; exact hl,vs,_,rv,ha⟩
   ·have z':=(if_neg hb).symm.trans z
    cases z'
  ·by_cases hb:b=a
   ·exact hb
   ·exact absurd (if_neg hb) z
theorem LB{l:PySem.W.OpenLaw}{n k:Nat}{q:Program}{loose:List Str}{XP:(Str->Option Value)->Heap->Prop}{YP:World->Heap->Prop}{d:DefRec}{K:Params->Frag}{CX:World->PQ}{sp:World->Sp}{x:Str}
  (hn:l.most=some n) (hn2:n<=sizeLine) (hdf:d.params.defaults=[]) (hr:Room k callerA)
  (hY:∀(w:World) (h:Heap),YP w h->(K w.params).In h)
  (F:∀(w:World) (mg:Str->Option Value) (fa:Addr) (h:Heap),(K w.params).In h->h.Ns mainGlobals mg->mg d.name=some (.ref fa) ->
   ∃fd:FuncData,(∀(s:Shared) (u:Value),BindsTo s fd ⟨[u],[]⟩ [(x,u)]) /\
    ∀base:Heap,(K w.params).In base->base.Ns mainGlobals mg->Bi l.prog w (K w.params) mg base (CX w) k fa fd [x] (sp w))
  (hsp:∀(w:World) (H:Hp) (a:Addr) (ns:List Int),ns.length<=n->Sq H->SqL (K w.params) H a (ns.map V.int)->sp w [.ref a] H (fun v _=>v=.bl true) fun _ _ _=>False)
  (hCX:∀(w:World) (H:Hp) (s:Shared) (e:Value) (s':Shared),CX w [] H s (fun _ _ _=>False) e s'->False) :
  PySem.W.WalkO q loose XP YP l.row.toRowW d [] (fun f vs=>PySem.call f vs):=by
 refine Att.attach_call hn hdf fun w s₀ s₁ mg mb fa o pm cd doc a vs ns G Y ho hd hcd hmg hobj hints hlen hg=>?_
 have KX:=hY w _ Y
 obtain⟨fd,hb,hF⟩:=F w mg fa _ KX G.T.g hmg
 exact OU KX G.T.g G.T.b G.T.builtins G.T.nolimit hg hobj hints (Nat.le_trans hlen hn2) hr hF hb (fun H hO hS=>hsp w H a ns hlen hO hS) fun H e s'=>hCX w H s₁ e s'
end L2
/- THE LAST THEOREM (shape; LID, My.* are yours):
   My.Adr: a structure of the addresses that your layer names (classes, functions); My.Txt K t: a structure (Prop) of the equations over K;
   My.txt_mk : {K} {implicit addresses ..} (e1 : nsIn K mainGlobals "law" = some (some (.ref f))) (e2 : K.lookup f = some ⟨oc, od, .func (fnOf "law" "law" params body scope dV kV doc pm an cdv ct), sl⟩) (e3 : codeIn K cdv "law" = true) .. : ∃ t, My.Txt K t
set_option maxRecDepth 100000 in
set_option maxHeartbeats 0 in
theorem PySem.Challenge.cw_LID_holds : PySem.Challenge.rw_LID.Holds := by
 w_on; o_law; k_head; (case hw=>w_witness2)
 k_fill
 refine L2.LB (l:=PySem.Challenge.rw_LID) (n:=63) (k:=40) (x := "script") (CX:=fun w=>..) (sp:=fun _=>My.sp_law) rfl (by decide) rfl ⟨rfl,by decide,by decide⟩ (fun w h Y=>PySem.W.kIn_of Y) ?F ?S ?C
 case F =>
  intro w mg fa h KX G hmg
  have T:∃t,My.Txt (L2.KOf KX) t:=by
   dsimp only [L2.KOf]                          -- K must stand as «<heap const> w.params» for k_is
   refine' My.txt_mk ?e1 ?e2 ?e3 ..
   (case e1=>PySem.W.k_is)                    -- in the order: a name -> its address -> its object -> its parts
   (case e2=>PySem.W.k_is)
   ..
  obtain⟨t,T⟩:=T
  have e0:=hmg.symm.trans (mg_of KX G T.law)
  cases e0                                       -- fa is the law's own address
  exact⟨_,fun s u=>.of_eq rfl,fun base kb nb=>My.law_fn T kb nb⟩     -- if «.of_eq rfl» comes too early: refine' ⟨_,?b,fun base kb nb=>My.law_fn T kb nb⟩; exact fun s u=>.of_eq rfl
 case S=>exact fun w H a ns hl hO hS=>..
 case C=>exact ..
(the tactic k_is has no namespace: write k_is) -/
namespace L2
open PySem PySem.Spec PyProof.Rows
noncomputable def Aq(s:Stmt):Arguments:=match s with
 | .FunctionDef _ a _ _ _ _ _ _ _ _=>a
 | _=>{ posonlyargs:=[],args:=[],vararg:=none,kwonlyargs:=[],kw_defaults:=[],kwarg:=none,defaults:=[] }
noncomputable def Aj(s:Stmt):List Stmt:=match s with
 | .FunctionDef _ _ b _ _ _ _ _ _ _=>b
 | _=>[]
noncomputable def AH(s:Stmt):Scope:=match s with
 | .FunctionDef _ _ _ _ _ _ sc _ _ _=>sc
 | _=>{ kind:=.function,names:=[],isGenerator:=false,isCoroutine:=false }
noncomputable abbrev Dw:PQ:=fun _ _ _ _ _ _=>False
noncomputable abbrev E0:XK:=fun _ _ _=>False
theorem Q6{X:Cx}:K9 Dw X E0:=fun _ _ _ _ _ _ _ h=>h.elim
structure Fun (K:Frag) (x qual:Str) (st:Stmt) (f:Addr) (fd:FuncData):Prop where
 ex:∃(oc:Value) (od:Option Addr) (kV doc pm:Value) (an:Option Addr) (cdv ct:Value) (osl:Array (Option Value)),
  fd=fnOf x qual (Aq st) (Aj st) (AH st) .none kV doc pm an cdv ct/\K.lookup f=some ⟨oc,od,.func fd,osl⟩/\codeIn K cdv qual=true
 kp:keepIn K (.ref f)=true
section
variable {P:Program}{w:World}{K:Frag}{mg:Str->Option Value}{base:Heap}
theorem Fun.ok{x qual:Str}{st:Stmt}{f:Addr}{fd:FuncData}{N ps:List Str}{k:Nat}{sp:Sp}(F:Fun K x qual st f fd)(S:Ar N ps (AH st))(len:∀vs H Q E,sp vs H Q E->vs.length=ps.length)
  (hbody:∀(cdv:Value) (A:Around) (outer:List Env) (s:Shared) (H:Hp) (vs:List V) (Q:VK) (E:XK),Room k (A.deeper (envOfC qual (AH st) s.heap.objs.size f cdv))->sp vs H Q E ->
   ∃t,PSs (Ib Dw P w K mg base N qual (AH st) f cdv A outer s H E).nox (Aj st) t/\t { nx:=fun _ H'=>Q .non H',rt:=Q } (start N vs) H):Bi P w K mg base Dw (k+1) f fd ps sp:=by
 obtain⟨oc,od,kV,doc,pm,an,cdv,ct,osl,rfl,lk,hcd⟩:=F.ex
 refine Tq lk hcd S len fun A outer s H vs Q E hr hsp=>?_
 obtain⟨t,h,q⟩:=hbody cdv A outer s H vs Q E hr hsp
 exact⟨t,h.nox,q⟩
theorem Fun.binds{x qual:Str}{st:Stmt}{f:Addr}{fd:FuncData}{ps:List Str}(F:Fun K x qual st f fd)
  (h:∀(kV doc pm:Value) (an:Option Addr) (cdv ct:Value) (us:List Value),us.length=ps.length->bindArgs (fnOf x qual (Aq st) (Aj st) (AH st) .none kV doc pm an cdv ct) ⟨us,[]⟩=pure (ps.zip us)):Binds K fd ps []:=by
 obtain⟨oc,od,kV,doc,pm,an,cdv,ct,osl,rfl,lk,hcd⟩:=F.ex
 exact .all (h kV doc pm an cdv ct)
theorem BP{x qual:Str}{st:Stmt}{f:Addr}{oc:Value}{od an:Option Addr}{osl:Array (Option Value)}{kV doc pm cdv ct:Value}(l:K.lookup f=some ⟨oc,od,.func (fnOf x qual (Aq st) (Aj st) (AH st) .none kV doc pm an cdv ct),osl⟩)
  (c:codeIn K cdv qual=true) (k:keepIn K (.ref f)=true):Fun K x qual st f (fnOf x qual (Aq st) (Aj st) (AH st) .none kV doc pm an cdv ct):=⟨⟨oc,od,kV,doc,pm,an,cdv,ct,osl,rfl,l,c⟩,k⟩
end
theorem Jh{A:Around}{k:Nat}(hr:Room k A):A.units+1<cLine:=Nat.lt_of_le_of_lt (Nat.add_le_add_left (by decide:1<=64) _) hr.units
section
variable {X:Cx}
theorem pv(i:Nat){x:Str}{pos:Pos}(hN:X.N[i]?=some x:=by rfl)(hv:S0 X.env.scope x:=by first | exact Or.inl rfl | exact Or.inr (Or.inl rfl) | exact Or.inr (Or.inr rfl))(hd:(x==("__debug__" : Str))=false:=by decide)
  (hcd:(x==("__classdict__" : Str))=false:=by decide):PE X (.Name x pos) (BR i):=IB hN hv hd hcd
end
theorem FG{A B:Prop}(h:B):if false=true then A else B:=by
 rw [if_neg Bool.false_ne_true]
 exact h
theorem Jd{A B:Prop}(h:A):if true=true then A else B:=by
 rw [if_pos rfl]
 exact h
theorem CD{c A B:Prop}[Decidable c](h1:c->A)(h2:¬c->B):if c then A else B:=by
 by_cases h:c
 ·rw [if_pos h]
  exact h1 h
 ·rw [if_neg h]
  exact h2 h
section
variable {κ:Type}[DecidableEq κ]
noncomputable def CV(kvs:List (κ×V))(k:κ):Option V:=(kvs.find? fun kv=>decide (kv.1=k)).map (·.2)
noncomputable def putK(kvs:List (κ×V))(k:κ)(v:V):List (κ×V) :=
 if (kvs.any fun kv=>decide (kv.1=k))=true then kvs.map (fun kv=>if kv.1=k then (kv.1,v) else kv) else kvs++[(k,v)]
theorem C8{p:κ×V}{r:List (κ×V)}{k:κ}(e:p.1=k):CV (p::r) k=some p.2:=by simp [CV,List.find?_cons,e]
theorem C9{p:κ×V}{r:List (κ×V)}{k:κ}(e:¬p.1=k):CV (p::r) k=CV r k:=by simp [CV,List.find?_cons,e]
theorem Iu(k:κ):∀kvs:List (κ×V),(kvs.any fun kv=>decide (kv.1=k))=(CV kvs k).isSome
 | []=>rfl
 | p::r=>by
  rw [List.any_cons]
  by_cases e:p.1=k
  ·simp only [C8 e,decide_eq_true e,Bool.true_or,Option.isSome_some]
  ·rw [C9 e,decide_eq_false e,Bool.false_or]; exact Iu k r
theorem DB(kvs:List (κ×V))(k:κ)(v:V):(putK kvs k v).length<=kvs.length+1:=by
 unfold putK
 split
 ·rw [List.length_map]; omega
 ·rw [List.length_append,List.length_cons,List.length_nil]; omega
theorem RelO.isSome_eq{o:Option V}{u:Option Value}(r:RelO o u):o.isSome=u.isSome:=by
 cases o with
 | none=>cases u with
  | none=>rfl
  | some _=>exact(show False from r).elim
 | some _=>cases u with
  | none=>exact(show False from r).elim
  | some _=>rfl
theorem RelO.getD{o:Option V}{u:Option Value}{d:V}{d':Value}(r:RelO o u)(rd:RelV d d'):RelV (o.getD d) (u.getD d'):=by
 cases o with
 | none=>cases u with
  | none=>exact rd
  | some _=>exact(show False from r).elim
 | some _=>cases u with
  | none=>exact(show False from r).elim
  | some _=>exact r
theorem KV.val{kvs:List (κ×V)}{vs:List (κ×Value)}(r:KV kvs vs)(k:κ):RelO (CV kvs k) (valueAt vs k):=by
 unfold KV at r
 induction r with
 | nil=>exact True.intro
 | @cons p q ps qs h t ih =>
  obtain⟨h1,h2⟩:=h
  by_cases e:p.1=k
  ·have e':q.1=k:=h1.symm.trans e
   have b:valueAt (q::qs) k=some q.2:=by simp [valueAt,List.find?_cons,e']
   rw [C8 e,b]; exact h2
  ·have e':¬q.1=k:=fun z=>e (h1.trans z)
   have b:valueAt (q::qs) k=valueAt qs k:=by simp [valueAt,List.find?_cons,e']
   rw [C9 e,b]; exact ih
theorem KV.any{kvs:List (κ×V)}{vs:List (κ×Value)}(r:KV kvs vs)(k:κ):(kvs.any fun kv=>decide (kv.1=k))=vs.any fun kv=>decide (kv.1=k):=by
 unfold KV at r
 induction r with
 | nil=>rfl
 | cons h t ih=>rw [List.any_cons,List.any_cons,ih,h.1]
theorem KV.repl{kvs:List (κ×V)}{vs:List (κ×Value)}(r:KV kvs vs)(k:κ){y:V}{u:Value}(ry:RelV y u) :
  KV (kvs.map fun kv=>if kv.1=k then (kv.1,y) else kv) (vs.map fun kv=>if kv.1=k then (kv.1,u) else kv):=by
 unfold KV at r ⊢
 induction r with
 | nil=>exact .nil
 | @cons p q ps qs h t ih =>
  rw [List.map_cons,List.map_cons]
  refine .cons ?_ ih
  obtain⟨h1,h2⟩:=h
  by_cases e:p.1=k
  ·rw [if_pos e,if_pos (h1.symm.trans e)]; exact⟨h1,ry⟩
  ·rw [if_neg e,if_neg (fun z=>e (h1.trans z))]; exact⟨h1,h2⟩
theorem KV.put{kvs:List (κ×V)}{vs:List (κ×Value)}(r:KV kvs vs)(k:κ){y:V}{u:Value}(ry:RelV y u):KV (putK kvs k y) (stored vs k u):=by
 unfold putK stored
 rw [r.any k]
 by_cases e:(vs.any fun kv=>decide (kv.1=k))=true
 ·rw [if_pos e,if_pos e]; exact r.repl k ry
 ·rw [if_neg e,if_neg e]; exact Paired.snoc r ⟨rfl,ry⟩
theorem KV.length{kvs:List (κ×V)}{vs:List (κ×Value)}(r:KV kvs vs):kvs.length=vs.length:=Paired.length r
end
theorem GJ{P:Program}{w:World}{k:Key}{u:Value}(r:RelV (kV k) u):(AR P w).is k u=true:=by
 cases k with
 | inl i=>obtain⟨t,e⟩:=(show ∃t,u=Value.int i t from r); subst e; exact JV P w i t
 | inr x=>obtain⟨t,e⟩:=(show ∃t,u=Value.str x t from r); subst e; exact JU P w x t
theorem Ex{P:Program}{w:World}:∀{ks:List Key} {us:List Value},Vals (ks.map kV) us->ItemsAre (AR P w) ks us
 | [],_,r=>by rw [List.map_nil] at r; cases r; exact .nil
 | k::ks,_,r=>by
  rw [List.map_cons] at r
  cases r with
  | cons h t=>exact .cons (GJ h) (Ex t)
noncomputable abbrev KT(H:Hp):List (List Key×V)->List (List Key×Addr×Value)->Prop:=Paired fun p q=>p.1=q.1/\H q.2.1=some (.tup (p.1.map kV))/\RelV p.2 q.2.2
theorem KT.val{H:Hp}{kvs:List (List Key×V)}{xs:List (List Key×Addr×Value)}(r:KT H kvs xs)(k:List Key):RelO (CV kvs k) ((atKey xs k).map (·.2)):=by
 induction r with
 | nil=>exact True.intro
 | @cons p q ps qs h t ih =>
  obtain⟨h1,_,h2⟩:=h
  by_cases e:p.1=k
  ·have e':q.1=k:=h1.symm.trans e
   have b:atKey (q::qs) k=some q.2:=by simp [atKey,List.find?_cons,e']
   rw [C8 e,b]; exact h2
  ·have e':¬q.1=k:=fun z=>e (h1.trans z)
   have b:atKey (q::qs) k=atKey qs k:=by simp [atKey,List.find?_cons,e']
   rw [C9 e,b]; exact ih
theorem KT.repl{H:Hp}{kvs:List (List Key×V)}{xs:List (List Key×Addr×Value)}(r:KT H kvs xs)(k:List Key){y:V}{u:Value}(ry:RelV y u) :
  KT H (kvs.map fun kv=>if kv.1=k then (kv.1,y) else kv) (xs.map (putAt k u)):=by
 induction r with
 | nil=>exact .nil
 | @cons p q ps qs h t ih =>
  rw [List.map_cons,List.map_cons]
  refine .cons ?_ ih
  obtain⟨h1,h2,h3⟩:=h
  unfold putAt
  by_cases e:p.1=k
  ·rw [if_pos e,if_pos (h1.symm.trans e)]; exact⟨h1,h2,ry⟩
  ·rw [if_neg e,if_neg (fun z=>e (h1.trans z))]; exact⟨h1,h2,h3⟩
theorem KT.put{H:Hp}{kvs:List (List Key×V)}{xs:List (List Key×Addr×Value)}(r:KT H kvs xs)(k:List Key){b:Addr}{y:V}{u:Value}(hb:H b=some (.tup (k.map kV)))(ry:RelV y u) :
  KT H (putK kvs k y) (storedH xs k b u):=by
 have e:(kvs.any fun kv=>decide (kv.1=k))=(atKey xs k).isSome:=by
  rw [Iu,(r.val k).isSome_eq,Option.isSome_map]
 unfold putK storedH
 rw [e]
 by_cases q:(atKey xs k).isSome=true
 ·rw [if_pos q,if_pos q]; exact r.repl k ry
 ·rw [if_neg q,if_neg q]; exact Paired.snoc r ⟨rfl,hb,ry⟩
theorem KT.keeps{H H':Hp}{kvs:List (List Key×V)}{xs:List (List Key×Addr×Value)}(r:KT H kvs xs)(ht:∀b ys,H b=some (.tup ys)->H' b=some (.tup ys)):KT H' kvs xs :=
 Paired.mapP r fun _ _ z=>⟨z.1,ht _ _ z.2.1,z.2.2⟩
section
variable {P:Program}{w:World}{H:Hp}{h:Heap}{a:Addr}
theorem Qn{u:HO}(ok:HOk P w H h)(e:Rd H a u):ObjOk P w H h a u:=e.ok ok
theorem GV{kvs:List (Key×V)}(ok:HOk P w H h)(e:Rd H a (.dK kvs)):kvs.length<=sizeLine/\(a==sysModules)=false/\∃vs,KV kvs vs/\h.DictOf (AR P w) a vs :=
 show ObjOk P w H h a (.dK kvs) from Qn ok e
theorem RD{kvs:List (Key×V)}(ok:HOk P w H h)(e:H a=some (.dK kvs)):kvs.length<=sizeLine/\(a==sysModules)=false/\∃vs,KV kvs vs/\h.DictOf (AR P w) a vs:=GV ok (.inl e)
theorem GI{ks:List Key}(ok:HOk P w H h)(e:H a=some (.tup (ks.map kV))):(tupleKind (AR P w)).is h ks a:=by
 obtain⟨_,its,r,o,h1,h2,n,h3,_⟩:=(show ObjOk P w H h a (.tup (ks.map kV)) from ok a _ e)
 exact⟨o,its.toArray,n,h1,h2,h3,by simpa using Ex r⟩
theorem HS{kvs:List (List Key×V)}(ok:HOk P w H h)(e:Rd H a (.dT kvs)):kvs.length<=sizeLine/\(a==sysModules)=false /\
  ∃xs,KT H kvs xs/\h.DictOfH (tupleKind (AR P w)) a xs:=by
 obtain⟨z,y,xs,r,o,es,ep,h1,h2,h3,h4,h5⟩:=(show ObjOk P w H h a (.dT kvs) from Qn ok e)
 refine⟨z,y,xs,r,o,es,ep,h1,h2,h3,h4,fun x hx=>?_,h5⟩
 have all:∀{l:List (List Key×V)} {m:List (List Key×Addr×Value)},KT H l m->∀x∈m,(tupleKind (AR P w)).is h x.1 x.2.1:=by
  intro l m q
  induction q with
  | nil=>intro x hx; exact nomatch hx
  | @cons p q ps qs hq t ih =>
   intro x hx
   rcases List.mem_cons.mp hx with e | hx
   ·subst e
    exact GI ok (by rw [← hq.1]; exact hq.2.1)
   ·exact ih x hx
 exact all r x hx
theorem Tx{kvs:List (List Key×V)}(ok:HOk P w H h)(e:H a=some (.dT kvs)):kvs.length<=sizeLine/\(a==sysModules)=false /\
  ∃xs,KT H kvs xs/\h.DictOfH (tupleKind (AR P w)) a xs:=HS ok (.inl e)
end
noncomputable def DGet(H:Hp)(a:Addr)(y:V)(r:Option V):Prop :=
 (∃kvs k,Rd H a (.dK kvs)/\y=kV k/\r=CV kvs k)\/∃kvs k b,Rd H a (.dT kvs)/\y=.ref b/\H b=some (.tup (k.map kV))/\r=CV kvs k
noncomputable def DPut(H:Hp)(a:Addr)(y v:V)(H':Hp):Prop :=
 (∃kvs k,H a=some (.dK kvs)/\y=kV k/\kvs.length<sizeLine/\H'=Ax H a (.dK (putK kvs k v))) \/
 ∃kvs k b,H a=some (.dT kvs)/\y=.ref b/\H b=some (.tup (k.map kV))/\kvs.length<sizeLine/\H'=Ax H a (.dT (putK kvs k v))
theorem DGet.k{H:Hp}{a:Addr}{kvs:List (Key×V)}{k:Key}(e:H a=some (.dK kvs)):DGet H a (kV k) (CV kvs k):=.inl ⟨kvs,k,.inl e,rfl,rfl⟩
theorem DPut.k{H:Hp}{a:Addr}{kvs:List (Key×V)}{k:Key}{v:V}(e:H a=some (.dK kvs))(hl:kvs.length<sizeLine):DPut H a (kV k) v (Ax H a (.dK (putK kvs k v))):=.inl ⟨kvs,k,e,rfl,hl,rfl⟩
section
variable {X:Cx}{pins:List (Addr×Obj)}{σ:St}{H:Hp}{s:Shared}{a:Addr}{y v:V}{u r:Value}{o:Option V}{A:Around}{E:Value->Shared->Prop}
theorem Inv.big(I:Inv X pins σ H s):sysModules<s.heap.objs.size:=by
 have h:mainGlobals<s.heap.objs.size:=(I.mod.glob.keeps I.bk).lt
 exact Nat.lt_trans (by decide) h
theorem NC{Q:Value->Shared->Prop}(hu:A.units+1<cLine)(I:Inv X pins σ H s)(g:DGet H a y (some v))(ry:RelV y u)(h:∀w' s',Inv X pins σ H s'->RelV v w'->Q w' s') :
  wpAny (model X.prog X.w) A (getItem (.ref a) u) Q E s:=by
 rcases g with ⟨kvs,k,e,ey,l⟩ | ⟨kvs,k,b,e,ey,eb,l⟩
 ·subst ey
  obtain⟨z,hd,vs,rel,dd⟩:=GV I.hok e
  obtain⟨w',hw,rw'⟩:=RelO.some_of (v:=v) (o:=valueAt vs k) (by rw [l]; exact rel.val k)
  exact wpAny_getItem_of (GJ ry) dd.mapOf hw (h w' _ (I.tok _) rw')
 ·subst ey
  cases (show u=Value.ref b from ry)
  obtain⟨z,hd,xs,rel,dd⟩:=HS I.hok e
  obtain⟨w',hw,rw'⟩:=RelO.some_of (v:=v) (o:=(atKey xs k).map (·.2)) (by rw [l]; exact rel.val k)
  obtain⟨p,hp,hp2⟩:=Option.map_eq_some_iff.mp hw
  refine wpAny_getItem_heap (tupleKind_room_in1 hu) (GI I.hok eb) dd hp ?_
  rw [hp2]
  exact h w' _ (I.tok _) rw'
theorem Qa{Q:Value->Shared->Prop}(hu:A.units+1<cLine)(I:Inv X pins σ H s)(g:DGet H a y o)(ry:RelV y u)(h:∀s',Inv X pins σ H s'->Q (.bool (!o.isSome)) s') :
  wpAny (model X.prog X.w) A (compareOp .NotIn u (.ref a)) Q E s:=by
 rcases g with ⟨kvs,k,e,ey,l⟩ | ⟨kvs,k,b,e,ey,eb,l⟩
 ·subst ey
  obtain⟨z,hd,vs,rel,dd⟩:=GV I.hok e
  refine wpAny_notIn_of (GJ ry) hd dd.mapOf ?_
  rw [← (rel.val k).isSome_eq,← l]
  exact h _ (I.tok _)
 ·subst ey
  cases (show u=Value.ref b from ry)
  obtain⟨z,hd,xs,rel,dd⟩:=HS I.hok e
  refine wpAny_notIn_heap (tupleKind_room_in1 hu) (GI I.hok eb) hd dd ?_
  have q:=(rel.val k).isSome_eq
  rw [Option.isSome_map] at q
  rw [← q,← l]
  exact h _ (I.tok _)
theorem IZ{h':Heap}{t':Nat}{ob:HO}(I:Inv X pins σ H s)(mu:UG (H a))(hs:Heap.SameBut a s.heap h')(he:∃q,h'.get? a=some q)(new:ObjOk X.prog X.w (Ax H a ob) h' a ob) :
  Inv X pins σ (Ax H a ob) { s with heap:=h',toks:=t' } :=
 I.write (x:=a) (e:=a) mu (.inl rfl) (fun b q hb z=>(hs.2 b hb).trans z) he new
theorem Ox{P:Program}{w:World}{H':Hp}{h':Heap}{kvs:List (Key×V)}{vs:List (Key×Value)}(z:kvs.length<=sizeLine)(hd:(a==sysModules)=false)(rel:KV kvs vs)(dd:h'.DictOf (AR P w) a vs) :
  ObjOk P w H' h' a (.dK kvs):=⟨z,hd,vs,rel,dd⟩
theorem NB{H':Hp}{Q:Unit->Shared->Prop}(hu:A.units+1<cLine)(I:Inv X pins σ H s)(g:DPut H a y v H')(ry:RelV y u)(rv:RelV v r)(h:∀s',Inv X pins σ H' s'->Q () s') :
  wpAny (model X.prog X.w) A (setItem (.ref a) u r) Q E s:=by
 rcases g with ⟨kvs,k,e,ey,l,eH⟩ | ⟨kvs,k,b,e,ey,eb,l,eH⟩
 ·subst ey eH
  obtain⟨z,hd,vs,rel,dd⟩:=RD I.hok e
  have hz:vs.length<=sizeLine:=by rw [← rel.length]; exact z
  have hl:(putK kvs k v).length<=sizeLine:=by have:=DB kvs k v; omega
  refine wpAny_setItem_pairs (hsz:=hz) (GJ ry) dd fun h' dd' hs=>h _ ?_
  have he:∃q,h'.get? a=some q:=let ⟨q,_,_,hq,_⟩:=dd'; ⟨q,hq⟩
  exact IZ I (by rw [e]; exact True.intro) hs he (Ox hl hd (rel.put k rv) dd')
 ·subst ey eH
  cases (show u=Value.ref b from ry)
  obtain⟨z,hd,xs,rel,dd⟩:=Tx I.hok e
  have hz:xs.length<=sizeLine:=by rw [← Paired.length rel]; exact z
  have hl:(putK kvs k v).length<=sizeLine:=by have:=DB kvs k v; omega
  refine wpAny_setItem_heap (hsz:=hz) (tupleKind_room_in1 hu) (GI I.hok eb) dd fun h' dd' hs=>h _ ?_
  obtain⟨q,es,ep,hq,h2,h3,h4,_,h5⟩:=dd'
  refine IZ I (by rw [e]; exact True.intro) hs ⟨q,hq⟩ ⟨hl,hd,_,(rel.put k eb rv).keeps fun c ys ec=>?_,q,es,ep,hq,h2,h3,h4,h5⟩
  rw [AI (Tg ec e (fun z=>nomatch z))]
  exact ec
end
section
variable {X:Cx}{pins:List (Addr×Obj)}{σ:St}{H:Hp}{s:Shared}{a:Addr}{kvs:List (Key×V)}{k:Key}{u:Value}{A:Around}{E:Value->Shared->Prop}
end
noncomputable def Sr(i:Expr):Prop:=∀ov iv,subscripted i false ov iv=operate [ov,iv] (getItem ov iv)
theorem Pm{prog:Program}{w:World}{A:Around}{E:Value->Shared->Prop}{s:Shared}{env:Env}{value slice:Expr}{pos:Pos}{T id:String}{Q:Value->Shared->Prop}
  (hl:typeLookup (.type T) "__getitem__"=pure (some (.builtin id))) (hs:Sr slice)
  (h:wpAny (model prog w) A (eval value env) (fun o s₁=>wpAny (model prog w) A (eval slice env) (fun i s₂=>s₂.TypeIs o T/\wpAny (model prog w) A (getItem o i) Q E s₂) E s₁) E s) :
  wpAny (model prog w) A (eval (.Subscript value slice pos) env) Q E s:=by
 refine Subscript_ (wpAny_mono h (fun o s₁ h₁=>wpAny_mono h₁ (fun i s₂ h₂=>?_) fun _ _ x=>x) fun _ _ x=>x)
 obtain⟨hT,h₂⟩:=h₂
 unfold subscriptTail
 refine wpAny_bind ?_
 rw [getitemInPython_of_ne hT.not_modules]
 refine wpAny_bind (wpAny_specialOf hT hl ?_)
 have fin:wpAny (model prog w) A (subscripted slice false o i) (fun r s₃=>wpAny (model prog w) A (letTemporaryGo value o r >>= fun _=>pure r) Q E s₃) E s₂:=by
  rw [hs o i]
  exact wpAny_operating (wpAny_mono h₂ (fun r s₃ h₃=>wpAny_bind (wpAny_letTemporaryGo (wpAny_pure h₃))) fun _ _ x=>x)
 first
  | exact wpAny_pure (wpAny_bind fin)
  | exact wpAny_bind (wpAny_pure (wpAny_bind fin))
  | exact wpAny_bind fin
theorem Jm{X:Cx}{pins:List (Addr×Obj)}{σ:St}{H:Hp}{s:Shared}{a:Addr}{y:V}{o:Option V}(I:Inv X pins σ H s)(g:DGet H a y o):s.TypeIs (.ref a) "dict":=by
 rcases g with ⟨kvs,k,e,_,_⟩ | ⟨kvs,k,b,e,_,_,_⟩
 ·obtain⟨_,_,vs,_,dd⟩:=GV I.hok e
  exact dd.typeIs
 ·obtain⟨_,_,xs,_,dd⟩:=HS I.hok e
  exact dd.typeIs
noncomputable def TC(td ty:TE):TE:=fun σ H Q=>td σ H fun x H1=>ty σ H1 fun y H2=>∃a v,x=.ref a/\DGet H2 a y (some v)/\Q v H2
noncomputable def TH(td ty tv:TE):TS:=fun D σ H=>tv σ H fun v H1=>td σ H1 fun x H2=>ty σ H2 fun y H3=>∃a H4,x=.ref a/\DPut H3 a y v H4/\D.nx σ H4
section
variable {X:Cx}{o i e value:Expr}{pos pos' tpos:Pos}{td ty tv:TE}
theorem IC(hu:X.A.units+1<cLine)(ho:PE X o td)(hi:PE X i ty)(hs:Sr i):PE X (.Subscript o i pos) (TC td ty):=by
 intro pins s σ H Q I h
 refine Pm PySem.F.slot_dict_getitem.lookup hs (A_ (ho pins s σ H _ I h) fun u s1 ⟨x,H1,I1,rx,q1⟩=>A_ (hi pins s1 σ H1 _ I1 q1) fun iv s2 ⟨y,H2,I2,ry,a,v,ex,g,q2⟩=>?_)
 subst ex
 obtain rfl:u=Value.ref a:=rx
 exact⟨Jm I2 g,NC hu I2 g ry fun w' s3 I3 rw'=>⟨v,H2,I3,rw',q2⟩⟩
theorem FR(hu:X.A.units+1<cLine)(ho:PE X o td)(hi:PE X i ty)(hv:PE X value tv)(hs:swapsWith value (some (.Subscript o i pos')) pos.line X.env=pure false) :
  PS X (.Assign [.Subscript o i pos'] value pos) (TH td ty tv):=by
 intro pins s σ H D I h
 refine wpAny_Assign_Subscript (A_ (hv pins s σ H _ I h) fun r s1 ⟨v,H1,I1,rv,q1⟩=>A_ (ho pins s1 σ H1 _ I1 q1) fun u s2 ⟨x,H2,I2,rx,q2⟩=>A_ (hi pins s2 σ H2 _ I2 q2) fun iv s3 ⟨y,H3,I3,ry,a,H4,ex,g,q3⟩=>?_) hs
 subst ex
 obtain rfl:u=Value.ref a:=rx
 exact NB hu I3 g ry rv fun s4 I4=>⟨σ,H4,I4,q3⟩
end
theorem Jl{P:Program}{w:World}{H:Hp}(h:Heap)(hb:sysModules<h.objs.size):ObjOk P w H (h.push { cls:=.type "dict",data:=.dict #[] }) h.objs.size (.dK []) :=
 ⟨Nat.zero_le _,beq_eq_false_iff_ne.mpr (Ne.symm (Nat.ne_of_lt hb)),[],.nil,Heap.DictOf.new h⟩
noncomputable def RT:TE:=fun _ H Q=>∀p,H p=none->Q (.ref p) (Ax H p (.dK []))
section
variable {X:Cx}{pos:Pos}
theorem JL:PE X (.Dict [] [] pos) RT:=fun pins s σ H Q I h =>
 wpAny_Dict_empty ⟨.ref s.heap.objs.size,_,I.laid (a:=s.heap.objs.size) (o:=.dK []) (t':=s.toks) (fun _ _ q=>Heap.get?_push_of_some _ q) (Nat.le_refl _) (Jl s.heap I.big),rfl,h _ (I.hok.fresh (Nat.le_refl _))⟩
end
noncomputable def KH:List (TE×TE)->St->Hp->(List (V×V)->Hp->Prop)->Prop
 | [],_,H,Q=>Q [] H
 | (tk,tv)::r,σ,H,Q=>tk σ H fun x H1=>tv σ H1 fun y H2=>KH r σ H2 fun ps H3=>Q ((x,y)::ps) H3
noncomputable abbrev VV:List (V×V)->List (Value×Value)->Prop:=Paired fun p q=>RelV p.1 q.1/\RelV p.2 q.2
noncomputable def UX(X:Cx)(pos:Pos)(keys:List (Option Expr))(values:List Expr)(trs:List (TE×TE)):Prop :=
 ∀(pins:List (Addr×Obj)) (s:Shared) (σ:St) (H:Hp) (Q:List (V×V)->Hp->Prop),Inv X pins σ H s->KH trs σ H Q ->
  wpAny (model X.prog X.w) X.A (evalPairs (pairTrees keys values X.env pos)) (fun vs s'=>∃ps H',Inv X pins σ H' s'/\VV ps vs/\Q ps H') X.xe s
theorem Pu{X:Cx}{pos:Pos}:UX X pos [] [] []:=fun pins s σ H Q I h=>pairTrees_nil_walk ⟨[],H,I,.nil,h⟩
theorem OA{X:Cx}{pos:Pos}{k v:Expr}{ks:List (Option Expr)}{vs:List Expr}{tk tv:TE}{trs:List (TE×TE)}(hk:PE X k tk)(hv:PE X v tv)(hr:UX X pos ks vs trs) :
  UX X pos (some k::ks) (v::vs) ((tk,tv)::trs):=fun pins s σ H Q I h =>
 pairTrees_cons_walk (A_ (hk pins s σ H _ I h) fun u s1 ⟨x,H1,I1,rx,q1⟩=>A_ (hv pins s1 σ H1 _ I1 q1) fun w2 s2 ⟨y,H2,I2,ry,q2⟩ =>
  A_ (hr pins s2 σ H2 _ I2 q2) fun ws s3 ⟨ps,H3,I3,rel,q3⟩=>⟨(x,y)::ps,H3,I3,.cons ⟨rx,ry⟩ rel,q3⟩)
noncomputable def GA(kvs more:List (Key×V)):List (Key×V):=more.foldl (fun acc kv=>putK acc kv.1 kv.2) kvs
theorem KV.merge:∀{more:List (Key×V)} {rs:List (Key×Value)} {kvs:List (Key×V)} {vs:List (Key×Value)},KV more rs->KV kvs vs->KV (GA kvs more) (merged vs rs):=by
 intro more rs kvs vs r
 unfold KV at r
 induction r generalizing kvs vs with
 | nil=>intro q; exact q
 | @cons p q ps qs h t ih =>
  intro r0
  have e:KV (putK kvs p.1 p.2) (stored vs q.1 q.2):=by
   have:=r0.put p.1 h.2
   rw [← h.1]; exact this
  exact ih e
theorem Dq:∀(more kvs:List (Key×V)),(GA kvs more).length<=kvs.length+more.length
 | [],kvs=>by show kvs.length<=kvs.length+0; omega
 | p::r,kvs=>by
  have h1:=Dq r (putK kvs p.1 p.2)
  have h2:=DB kvs p.1 p.2
  show (GA (putK kvs p.1 p.2) r).length<=_
  rw [List.length_cons]; omega
theorem Ga{P:Program}{w:World}:∀{kvs:List (Key×V)} {ws:List (Value×Value)},VV (kvs.map fun kv=>(kV kv.1,kv.2)) ws->∃rs,Carries (AR P w) ws rs/\KV kvs rs
 | [],_,r=>by rw [List.map_nil] at r; cases r; exact⟨[],True.intro,.nil⟩
 | p::kvs,_,r=>by
  rw [List.map_cons] at r
  cases r with
  | @cons a b as bs h t =>
   obtain⟨rs,c,q⟩:=Ga (P:=P) (w:=w) t
   obtain⟨b1,b2⟩:=b
   exact⟨(p.1,b2)::rs,⟨GJ h.1,rfl,c⟩,.cons ⟨rfl,h.2⟩ q⟩
noncomputable def TB(trs:List (TE×TE)):TE:=fun σ H Q=>∀p,H p=none->KH trs σ (Ax H p (.dK [])) fun ps H2=>H2 p=some (.dK [])/\∃kvs:List (Key×V),ps=kvs.map (fun kv=>(kV kv.1,kv.2))/\kvs.length<=15/\Q (.ref p) (Ax H2 p (.dK (GA [] kvs)))
theorem Pz{X:Cx}{pos:Pos}{keys:List (Option Expr)}{values:List Expr}{trs:List (TE×TE)}(h:UX X pos keys values trs)(hall:keys.all (·.isSome)=true)(hl:keys.length=values.length)(h0:keys≠[])
  (h15:keys.length<=15):PE X (.Dict keys values pos) (TB trs):=by
 intro pins s σ H Q I q
 have hn:=I.hok.fresh (Nat.le_refl s.heap.objs.size)
 have I1:=I.laid (a:=s.heap.objs.size) (o:=.dK []) (h':=s.heap.push { cls:=.type "dict",data:=.dict #[] }) (t':=s.toks) (fun _ _ q=>Heap.get?_push_of_some _ q) (Nat.le_refl _) (Jl s.heap I.big)
 refine wpAny_Dict_walk (knd:=AR X.prog X.w) hall hl h0 h15 (A_ (h pins _ σ _ _ I1 (q _ hn)) fun ws s2 ⟨ps,H2,I2,rel,e,kvs,ep,lk,q2⟩=>?_)
 subst ep
 obtain⟨rs,c,rk⟩:=Ga (P:=X.prog) (w:=X.w) rel
 obtain⟨z,hd,vs0,r0,dd⟩:=RD I2.hok e
 cases r0
 refine⟨rs,c,dd,fun h' dd' hs=>⟨.ref s.heap.objs.size,_,?_,rfl,q2⟩⟩
 have hz:(GA [] kvs).length<=sizeLine:=by
  have h1:=Dq kvs []
  rw [List.length_nil] at h1
  rw [sizeLine_eq]; omega
 have he:∃q,h'.get? s.heap.objs.size=some q:=let ⟨q,_,_,hq,_⟩:=dd'; ⟨q,hq⟩
 exact IZ I2 (by rw [e]; exact True.intro) hs he (Ox hz hd (rk.merge .nil) dd')
structure M1 (X:Cx) (o:Expr) (m:Str) (apos:Pos) (e:Expr) (cpos:Pos):Prop where
 base:attributeBase o m X.env (eval o X.env)=eval o X.env
 few:((backTo cpos (starEach [e] X.env)).all (fun x=>!x.1)&&(backToKw cpos (keywordEach [] X.env)).all (fun x=>x.1.isSome)
  && decide (([e]:List Expr).length+([]:List Keyword).length+(if ([]:List Keyword).isEmpty then 0 else 1)<30))=true
 line:(apos.endLine==cpos.line)=true
 trees:backTo cpos (starEach [e] X.env)=[(false,eval e X.env)]
structure M2 (X:Cx) (o:Expr) (m:Str) (apos:Pos) (e f:Expr) (cpos:Pos):Prop where
 base:attributeBase o m X.env (eval o X.env)=eval o X.env
 few:((backTo cpos (starEach [e,f] X.env)).all (fun x=>!x.1)&&(backToKw cpos (keywordEach [] X.env)).all (fun x=>x.1.isSome)
  && decide (([e,f]:List Expr).length+([]:List Keyword).length+(if ([]:List Keyword).isEmpty then 0 else 1)<30))=true
 line:(apos.endLine==cpos.line)=true
 trees:backTo cpos (starEach [e,f] X.env)=[(false,eval e X.env),(false,eval f X.env)]
noncomputable def VA(H:Hp)(a:Addr):Prop:=(∃kvs,Rd H a (.dK kvs))\/∃kvs,Rd H a (.dT kvs)
theorem Oc{X:Cx}{pins:List (Addr×Obj)}{σ:St}{H:Hp}{s:Shared}{a:Addr}(I:Inv X pins σ H s)(d:VA H a) :
  s.TypeIs (.ref a) "dict"/\(∀b,Value.ref a=.ref b->∃ob,s.heap.get? b=some ob/\ob.dict=none)/\(a==sysModules)=false:=by
 rcases d with ⟨kvs,e⟩ | ⟨kvs,e⟩
 ·obtain⟨_,hd,vs,_,dd⟩:=GV I.hok e
  refine⟨dd.typeIs,fun b q=>?_,hd⟩
  cases q
  obtain⟨ob,_,_,h1,h2,_⟩:=dd
  exact⟨ob,h1,h2.2.1⟩
 ·obtain⟨_,hd,xs,_,dd⟩:=HS I.hok e
  refine⟨dd.typeIs,fun b q=>?_,hd⟩
  cases q
  obtain⟨ob,_,_,h1,h2,_⟩:=dd
  exact⟨ob,h1,h2.2.1⟩
section
variable {X:Cx}{pins:List (Addr×Obj)}{σ:St}{H:Hp}{s:Shared}{a:Addr}{y d:V}{u r:Value}{o:Option V}{A:Around}{E:Value->Shared->Prop}
theorem SU{Q:Value->Shared->Prop}(hu:A.units+1<cLine)(I:Inv X pins σ H s)(g:DGet H a y o)(ry:RelV y u)(h:∀w' s',Inv X pins σ H s'->RelV (o.getD .non) w'->Q w' s') :
  wpAny (model X.prog X.w) A (call (.builtin "dict.get") [.ref a,u]) Q E s:=by
 rcases g with ⟨kvs,k,e,ey,l⟩ | ⟨kvs,k,b,e,ey,eb,l⟩
 ·subst ey
  obtain⟨z,hd,vs,rel,dd⟩:=GV I.hok e
  refine call_meetsIn PySem.F.slot_dict_get dd.typeIs PySem.F.entry_dict_get (PySem.F.args_dict_get_2 _ _) (meets_dict_get (AR X.prog X.w) a (GJ ry) hd) ⟨_,dd.mapOf,h _ _ (I.tok _) ?_⟩
  rw [l]
  exact(rel.val k).getD rfl
 ·subst ey
  cases (show u=Value.ref b from ry)
  obtain⟨z,hd,xs,rel,dd⟩:=HS I.hok e
  refine call_meetsIn PySem.F.slot_dict_get dd.typeIs PySem.F.entry_dict_get (PySem.F.args_dict_get_2 _ _) (meetsH_dict_get (tupleKind (AR X.prog X.w)) a b hd) ⟨tupleKind_room_in1 hu,k,xs,GI I.hok eb,dd,h _ _ (I.tok _) ?_⟩
  rw [l]
  exact(rel.val k).getD rfl
end
noncomputable def RU(td ty:TE):TE:=fun σ H Q=>td σ H fun x H1=>∃a,x=.ref a/\VA H1 a/\ty σ H1 fun y H2=>∃o,DGet H2 a y o/\Q (o.getD .non) H2
section
variable {X:Cx}{o e f:Expr}{apos cpos:Pos}{td ty tx:TE}
theorem OF(hu:X.A.units+1<cLine)(ho:PE X o td)(he:PE X e ty)(m:M1 X o "get" apos e cpos):PE X (.Call (.Attribute o "get" apos) [e] [] cpos) (RU td ty):=by
 intro pins s σ H Q I h
 refine wpAny_Call_method m.base m.few m.line PySem.F.plainAttrs_dict PySem.F.slot_dict_get PySem.F.type_dict_get (A_ (ho pins s σ H _ I h) fun u s1 ⟨x,H1,I1,rx,a,ex,d,q1⟩=>?_)
 subst ex
 obtain rfl:u=Value.ref a:=rx
 obtain⟨t1,t2,_⟩:=Oc I1 d
 refine⟨t1,t2,?_⟩
 rw [m.trees]
 refine Calls.callWith_builtin rfl (Calls.evalArgs_plain (Calls.spliced_cons (A_ (he pins s1 σ H1 _ I1 q1) fun iv s2 ⟨y,H2,I2,ry,ov,g,q2⟩=>Calls.spliced_nil ?_)))
 exact SU hu I2 g ry fun w' s3 I3 rw'=>⟨_,H2,I3,rw',q2⟩
end
section
variable {X:Cx}{pins:List (Addr×Obj)}{σ:St}{H:Hp}{s:Shared}{a:Addr}{kvs:List (Key×V)}{A:Around}{E:Value->Shared->Prop}
end
section
variable {X:Cx}{pins:List (Addr×Obj)}{σ:St}{H:Hp}{s:Shared}{a:Addr}{y:V}{u:Value}{A:Around}{E:Value->Shared->Prop}
end
end L2
set_option maxHeartbeats 4000000
namespace L2
open PySem PySem.Spec PyProof.Rows
section
theorem K0{env:Env}:∀(names:List (Str×NameKind)) (cs:List (Str×Addr)),(∀x,(x,NameKind.free)∈names->∃c,env.cells.lookup x=some c)->(∀x c,cs.lookup x=some c->env.cells.lookup x=some c) ->
  ∃cl,(forIn names cs fun(x:Str×NameKind) (r:List (Str×Addr))=>(if (x.2==NameKind.free)=true then do let a ← cellOf env x.1; pure (ForInStep.yield ((x.1,a)::r)) else pure (ForInStep.yield r):Sem (ForInStep (List (Str×Addr)))))=(pure cl:Sem _) /\
   (∀x c,cl.lookup x=some c->env.cells.lookup x=some c)/\(∀x,((x,NameKind.free)∈names\/∃c,cs.lookup x=some c)->∃c,cl.lookup x=some c):=by
 intro names
 induction names with
 | nil =>
  intro cs _ h2
  exact⟨cs,rfl,h2,fun x hx=>hx.elim (fun z=>absurd z (by simp)) fun z=>z⟩
 | cons p r ih =>
  intro cs h1 h2
  obtain⟨n,k⟩:=p
  by_cases hk:k=NameKind.free
  ·subst hk
   obtain⟨c,hc⟩:=h1 n List.mem_cons_self
   have hcell:cellOf env n=pure c:=by simp only [cellOf,hc]
   obtain⟨cl,e,a,b⟩:=ih ((n,c)::cs) (fun x hx=>h1 x (List.mem_cons_of_mem _ hx)) (fun x c' hx=>by
    rw [List.lookup_cons] at hx
    cases hb:x==n with
    | true =>
     rw [hb] at hx
     have hx':some c=some c':=hx
     cases hx'
     have:x=n:=by simpa using hb
     rw [this]; exact hc
    | false=>rw [hb] at hx; exact h2 x c' hx)
   refine⟨cl,?_,a,fun x hx=>b x ?_⟩
   ·rw [List.forIn_cons]
    simp only [beq_self_eq_true,if_true,hcell,pure_bind]
    exact e
   ·by_cases hxn:x=n
    ·subst hxn
     exact .inr ⟨c,by simp [List.lookup_cons]⟩
    ·rcases hx with hx | ⟨c',hx⟩
     ·rcases List.mem_cons.mp hx with hx | hx
      ·cases hx; exact absurd rfl hxn
      ·exact .inl hx
     ·refine .inr ⟨c',?_⟩
      have:(x==n)=false:=by simpa using hxn
      rw [List.lookup_cons,this]
      exact hx
  ·have hk':(k==NameKind.free)=false:=by simpa using hk
   obtain⟨cl,e,a,b⟩:=ih cs (fun x hx=>h1 x (List.mem_cons_of_mem _ hx)) h2
   refine⟨cl,?_,a,fun x hx=>b x ?_⟩
   ·rw [List.forIn_cons]
    simp only [hk',Bool.false_eq_true,if_false,pure_bind]
    exact e
   ·rcases hx with hx | hx
    ·rcases List.mem_cons.mp hx with hx | hx
     ·cases hx; exact absurd rfl hk
     ·exact .inl hx
    ·exact .inr hx
theorem GZ{scope:Scope}{env:Env}(h:∀x,(x,NameKind.free)∈scope.names->∃c,env.cells.lookup x=some c) :
  ∃cl,closureFor scope env=pure cl/\(∀x c,cl.lookup x=some c->env.cells.lookup x=some c)/\(∀x,(x,NameKind.free)∈scope.names->∃c,cl.lookup x=some c):=by
 obtain⟨cl,e,a,b⟩:=K0 scope.names [] h (fun x c hx=>by simp at hx)
 refine⟨cl,?_,a,fun x hx=>b x (.inl hx)⟩
 simp only [closureFor]
 rw [e,pure_bind]
variable {prog:Program}{w:World}{A:Around}{E:Value->Shared->Prop}{R:Result->Shared->Prop}{s:Shared}
theorem Id{elt target iter:Expr}{ifs:List Expr}{scope:Scope}{pos:Pos}{it acc:Value}{env:Env}(I:Nat->Shared->Prop)
  (turn:∀n s,I n s->wpAny (model prog w) A (pyNext it) (fun r s₁=>match r with
   | none=>R (.ok .next) s₁
   | some v=>wpAny (model prog w) A (letOwnedTupleGo target it v) (fun _ s₁'=>wpAny (model prog w) A (assign target env v) (fun _ s₂ =>
     wpAny (model prog w) A (forIn ifs true fun c r=>if r=true then do let ok ← isTrue c env (eval c env); pure (ForInStep.yield ok) else pure (ForInStep.yield r)) (fun ok s₃ =>
      if ok=true then wpAny (model prog w) A (eval elt env) (fun x s₄ =>
       wpAny (model prog w) A (call (.builtin "list.append") [acc,x]) (fun _ s₅=>∃m,m<n/\I m s₅) (fun _ _=>False) s₄) (fun _ _=>False) s₃
      else ∃m,m<n/\I m s₃) (fun _ _=>False) s₂) (fun _ _=>False) s₁') (fun _ _=>False) s₁) (fun _ _=>False) s)
  (n:Nat) (h:I n s) :
  codeAny (model prog w) A (.compLoop (.ListComp elt [⟨target,iter,ifs,0⟩] scope pos) 0 it acc env) R s:=by
 refine codeAny_loop rfl I (fun n s hI=>?_) n h
 show wpAny _ A ((compTurn (.ListComp elt [⟨target,iter,ifs,0⟩] scope pos) 0 it acc env).onRaise (fun x=>do noteFrame x env; theTreesLotGoes x)) _ _ s
 refine wpAny_noted ?_
 rw [compTurn_list]
 refine wpAny_bind (wpAny_standAt (wpAny_bind (wpAny_mono (turn n s hI) (fun r s₁ h₁=>?_) fun _ _ h'=>h'.elim)))
 cases r with
 | none=>exact wpAny_pure h₁
 | some v =>
  refine wpAny_bind (wpAny_mono h₁ (fun _ s₁' h₁'=>?_) fun _ _ h'=>h'.elim)
  refine wpAny_bind (wpAny_mono h₁' (fun _ s₂ h₂=>wpAny_bind (wpAny_mono h₂ (fun ok s₃ h₃=>?_) fun _ _ h'=>h'.elim)) fun _ _ h'=>h'.elim)
  cases ok with
  | false=>exact wpAny_pure ⟨rfl,h₃⟩
  | true =>
   exact wpAny_bind (wpAny_bind (wpAny_mono h₃ (fun x s₄ h₄=>wpAny_bind (wpAny_mono h₄ (fun _ s₅ h₅=>wpAny_pure (wpAny_pure ⟨rfl,h₅⟩)) fun _ _ h'=>h'.elim)) fun _ _ h'=>h'.elim))
end
noncomputable def Ap(X:Cx)(sc:Scope)(N':List Str)(cl:List (Str×Addr))(C:Addr)(s:Shared)(H:Hp)(ex:List Addr):Cx where
 prog:=X.prog
 w:=X.w
 K:=X.K
 mg:=X.mg
 base:=X.base
 A:=X.A
 N:=N'
 s₀:=s
 H₀:=H
 env:=compEnvC sc cl C X.env
 outer:=X.stack
 stack:=X.stack
 ex:=ex
 fn:=fun _=>false
 calm:=true
 pn:=[]
 xe:=fun _ _=>False
noncomputable def B0(js:List (Option Nat))(σ:St):St:=js.map fun o=>match o with
 | some i=>(σ[i]?).getD none
 | none=>none
noncomputable def QN(o:Option NameKind):Bool:=match o with
 | some .cell=>true
 | some .free=>true
 | _=>false
theorem Lk{o:Option NameKind}(h:QN o=true):o=some .cell\/o=some .free:=by
 unfold QN at h
 split at h
 ·exact .inl rfl
 ·exact .inr rfl
 ·cases h
noncomputable def isFree(o:Option NameKind):Bool:=match o with
 | some .free=>true
 | _=>false
theorem Mu{o:Option NameKind}(h:isFree o=true):o=some .free:=by
 unfold isFree at h
 split at h
 ·rfl
 ·cases h
noncomputable def OZ(o:Option NameKind):Bool:=match o with
 | some .local=>true
 | _=>false
theorem OY{o:Option NameKind}(h:OZ o=true):o=some .local:=by
 unfold OZ at h
 split at h
 ·rfl
 ·cases h
noncomputable def Ob(k:ScopeKind):Bool:=match k with
 | .function=>true
 | _=>false
theorem Oa{k:ScopeKind}(h:Ob k=true):k=.function:=by
 unfold Ob at h
 split at h
 ·rfl
 ·cases h
noncomputable def Uj(sc esc:Scope)(p:Str×NameKind):Bool:=match p.2 with
 | .cell=>false
 | .free=>QN (esc.names.lookup p.1)
 | .local=>OZ (sc.names.lookup p.1)
 | _=>true
noncomputable def Ux(x:Option Str)(y:Str):Bool:=match x with
 | some z=>z==y
 | none=>false
theorem SR{x:Option Str}{y:Str}(h:Ux x y=true):x=some y:=by
 unfold Ux at h
 split at h
 ·exact congrArg some (by simpa using h)
 ·cases h
noncomputable def EY(sc esc:Scope)(N:List Str):List Str->List (Option Nat)->Bool
 | [],[]=>true
 | x::xs,some j::js=>isFree (sc.names.lookup x)&&Ux (N[j]?) x&&QN (esc.names.lookup x)&&EY sc esc N xs js
 | _::xs,none::js=>EY sc esc N xs js
 | _,_=>false
noncomputable def GX(sc esc:Scope)(N N':List Str)(js:List (Option Nat)):Bool:=Ob sc.kind&&sc.names.all (Uj sc esc)&&EY sc esc N N' js
theorem DL{sc esc:Scope}{N:List Str}:∀{N':List Str} {js:List (Option Nat)},EY sc esc N N' js=true->js.length=N'.length
 | [],[],_=>rfl
 | x::xs,some j::js,h=>by
  unfold EY at h
  rw [Bool.and_eq_true] at h
  rw [List.length_cons,List.length_cons,DL h.2]
 | x::xs,none::js,h=>by
  unfold EY at h
  rw [List.length_cons,List.length_cons,DL h]
 | [],some _::_,h=>by unfold EY at h; cases h
 | [],none::_,h=>by unfold EY at h; cases h
 | _::_,[],h=>by unfold EY at h; cases h
theorem Ig{sc esc:Scope}{N:List Str}:∀{N':List Str} {js:List (Option Nat)},EY sc esc N N' js=true->∀{k:Nat} {x:Str} {j:Nat},N'[k]?=some x->js[k]?=some (some j) ->
  sc.names.lookup x=some .free/\N[j]?=some x/\(esc.names.lookup x=some .cell\/esc.names.lookup x=some .free)
 | [],_,_,k,x,j,h1,_=>by simp at h1
 | _::_,[],h,_,_,_,_,_=>by unfold EY at h; cases h
 | y::ys,some i::js,h,k,x,j,h1,h2=>by
  unfold EY at h
  rw [Bool.and_eq_true,Bool.and_eq_true,Bool.and_eq_true] at h
  cases k with
  | zero =>
   simp at h1 h2
   subst h1 h2
   exact⟨Mu h.1.1.1,SR h.1.1.2,Lk h.1.2⟩
  | succ k=>exact Ig h.2 (k:=k) (by simpa using h1) (by simpa using h2)
 | y::ys,none::js,h,k,x,j,h1,h2=>by
  unfold EY at h
  cases k with
  | zero=>simp at h2
  | succ k=>exact Ig h (k:=k) (by simpa using h1) (by simpa using h2)
theorem Mn{js:List (Option Nat)}{σ:St}{k:Nat}{v:V}(h:(B0 js σ)[k]?=some (some v)):∃j,js[k]?=some (some j)/\σ[j]?=some (some v):=by
 unfold B0 at h
 rw [List.getElem?_map] at h
 cases e:js[k]? with
 | none=>rw [e] at h; cases h
 | some o =>
  rw [e] at h
  cases o with
  | none=>cases h
  | some j =>
   refine⟨j,rfl,?_⟩
   have h':some ((σ[j]?).getD none)=some (some v):=h
   have h2:=Option.some.inj h'
   cases q:σ[j]? with
   | none=>rw [q] at h2; cases h2
   | some w=>rw [q] at h2; exact congrArg some h2
theorem B_{env:Env}:∀{names:List (Str×NameKind)} {x:Str},names.lookup x=some .free ->
  (names.map fun(n,k)=>if (k==NameKind.free&&env.scope.kind==.function&&env.kindOf n==some .cell) then (n,NameKind.cell) else (n,k)).lookup x=some .cell \/
  (names.map fun(n,k)=>if (k==NameKind.free&&env.scope.kind==.function&&env.kindOf n==some .cell) then (n,NameKind.cell) else (n,k)).lookup x=some .free
 | [],_,h=>by simp at h
 | (n,k)::r,x,h=>by
  have ih:=@B_ env r x
  show List.lookup x ((if (k==NameKind.free&&env.scope.kind==.function&&env.kindOf n==some .cell)=true then (n,NameKind.cell) else (n,k))::_)=_\/List.lookup x ((if (k==NameKind.free&&env.scope.kind==.function&&env.kindOf n==some .cell)=true then (n,NameKind.cell) else (n,k))::_)=_
  by_cases hc:(k==NameKind.free&&env.scope.kind==.function&&env.kindOf n==some .cell)=true
  ·rw [if_pos hc]
   cases hx:x==n with
   | true=>exact .inl (by simp only [List.lookup_cons,hx])
   | false =>
    simp only [List.lookup_cons,hx] at h ⊢
    exact ih h
  ·rw [if_neg hc]
   cases hx:x==n with
   | true =>
    simp only [List.lookup_cons,hx] at h ⊢
    exact .inr h
   | false =>
    simp only [List.lookup_cons,hx] at h ⊢
    exact ih h
theorem KS{env:Env}{sc:Scope}(hcell:∀y∈sc.names,y.2≠.cell){x:Str}(h:(relabel sc env).names.lookup x=some .cell\/(relabel sc env).names.lookup x=some .free):(x,NameKind.free)∈sc.names:=by
 have hm:(x,NameKind.cell)∈(relabel sc env).names\/(x,NameKind.free)∈(relabel sc env).names:=h.elim (fun z=>.inl (PySem.mem_of_lookup z)) fun z=>.inr (PySem.mem_of_lookup z)
 have go:∀k:NameKind,(k=.cell\/k=.free)->(x,k)∈(relabel sc env).names->(x,NameKind.free)∈sc.names:=by
  intro k hk hmem
  unfold relabel at hmem
  obtain⟨⟨n,k0⟩,hn,e⟩:=List.mem_map.mp hmem
  by_cases hc:(k0==NameKind.free&&env.scope.kind==.function&&env.kindOf n==some .cell)=true
  ·have e':(n,NameKind.cell)=(x,k):=by
    have:=e
    simp only [hc,if_true] at this
    exact this
   have hk0:k0=.free:=by
    rw [Bool.and_eq_true,Bool.and_eq_true] at hc
    simpa using hc.1.1
   cases e'
   subst hk0
   exact hn
  ·have e':(n,k0)=(x,k):=by
    have:=e
    simp only [hc,if_false] at this
    exact this
   cases e'
   rcases hk with rfl | rfl
   ·exact absurd rfl (hcell _ hn)
   ·exact hn
 exact hm.elim (go _ (.inl rfl)) (go _ (.inr rfl))
section
variable {X:Cx}{pins:List (Addr×Obj)}{σ:St}{H:Hp}{s:Shared}
structure CompOk (X:Cx) (sc:Scope) (N':List Str) (js:List (Option Nat)):Prop where
 kind:sc.kind=.function
 cell:∀y∈sc.names,y.2≠.cell
 free:∀x,(x,NameKind.free)∈sc.names->X.env.scope.names.lookup x=some .cell\/X.env.scope.names.lookup x=some .free
 names:∀y∈sc.names,y.2=.local->sc.names.lookup y.1=some .local
 cap:EY sc X.env.scope X.N N' js=true
theorem CompOk.of{sc:Scope}{N':List Str}{js:List (Option Nat)}(h:GX sc X.env.scope X.N N' js=true):CompOk X sc N' js:=by
 unfold GX at h
 rw [Bool.and_eq_true,Bool.and_eq_true,List.all_eq_true] at h
 obtain⟨⟨h1,h2⟩,h3⟩:=h
 refine⟨Oa h1,fun y hy e=>?_,fun x hx=>?_,fun y hy e=>?_,h3⟩
 ·have q:=h2 y hy
  unfold Uj at q
  rw [e] at q
  cases q
 ·have q:=h2 _ hx
  exact Lk q
 ·have q:=h2 y hy
  unfold Uj at q
  rw [e] at q
  exact OY q
theorem Jg{sc:Scope}{N':List Str}{js:List (Option Nat)}{cl:List (Str×Addr)}{fp:List Addr}{h₁:Heap}{tk:Nat}(I:Inv X pins σ H s)(hc:X.calm=true)(O:CompOk X sc N' js)
  (hcl:∀x c,cl.lookup x=some c->X.env.cells.lookup x=some c) (hcl2:∀x,(x,NameKind.free)∈sc.names->∃c,cl.lookup x=some c)
  (hf:∀b∈fp,Eg X pins H b) (ho:∀b∈fp,∃o,s.heap.get? b=some o)
  (hns:h₁.Ns (s.heap.objs.size+1) (fun _=>none)) (hk:∀b o,s.heap.get? b=some o->h₁.get? b=some o) (hD:∃n,h₁.get? s.heap.objs.size=some { cls:=.type "list",data:=.seq #[] n }) :
  Inv (Ap X sc N' cl (s.heap.objs.size+1) s H fp) [] (B0 js σ) (Ax H s.heap.objs.size (.lst [])) { s with heap:=h₁,toks:=tk }:=by
 have fr:∀a,s.heap.objs.size<=a->H a=none:=fun a ha=>I.hok.fresh ha
 have cellLt:∀x c,cl.lookup x=some c->c<s.heap.objs.size:=fun x c e=>by
  obtain⟨v,q⟩:=I.cell x c (hcl x c e)
  exact q.lt
 have ok:(Ap X sc N' cl (s.heap.objs.size+1) s H fp).Ok:=by
  refine⟨I.ok.mod,O.kind,I.ok.glob,I.ok.blt,Nat.le_succ _,fun x y c h1 h2=>I.ok.inj x y c (hcl x c h1) (hcl y c h2),fun x hx=>?_,fun x c hx=>?_,fun _=>I.ok.hd hc,I.ok.frames,.inl rfl,fun b hb=>⟨?_,fun x c e=>?_⟩,I.bs,Nat.le_trans I.ok.bsz I.sz,fun b o e hb=>?_,fun b hb hb2=>?_,I.stack,I.stkFree⟩
  ·exact hcl2 x (KS (env:=X.env) O.cell hx)
  ·exact absurd (show false=true from hx) Bool.false_ne_true
  ·obtain⟨o,e⟩:=ho b hb
   exact Nat.ne_of_lt (Nat.lt_succ_of_lt (Heap.lt_size e))
  ·exact(hf b hb).2.2.2.2.1 x c (hcl x c e)
  ·rcases (hf b hb).2.2.2.1 with z | z
   ·exact I.ok.noex b o e z
   ·have h1:b<X.base.objs.size:=Heap.lt_size e
    exact absurd (Nat.lt_of_lt_of_le h1 (Nat.le_trans I.ok.bsz z)) (Nat.lt_irrefl _)
  ·rcases List.mem_cons.mp (I.stkSub b hb2) with z | z
   ·exact(hf b hb).2.1 z
   ·exact(hf b hb).2.2.1 z
 refine⟨ok,rfl,I.bare,?_,⟨_,hns,fun i x v h1 h2 h3=>?_⟩,fun x c e=>?_,?_,fun x c e=>?_,fun p hp=>absurd (show p∈([]:List (Addr×Obj)) from hp) (by simp),?_,?_⟩
 ·exact Un.laid hk (Nat.le_refl _) (fr _ (Nat.le_refl _))
 ·obtain⟨j,e1,e2⟩:=Mn h2
  obtain⟨c1,c2,c3⟩:=Ig O.cap h1 e1
  obtain⟨m,_,hl⟩:=I.loc
  obtain⟨u,r,l⟩:=hl j x v c2 e2 (.inr c3)
  refine⟨u,r,.inr ⟨B_ c1,?_⟩⟩
  rcases l with ⟨l1,_⟩ | ⟨_,c,l2,l3⟩
  ·have l1':X.env.scope.names.lookup x=some .local:=l1
   rcases c3 with c3 | c3 <;> (rw [l1'] at c3; cases c3)
  ·obtain⟨c',e'⟩:=hcl2 x (PySem.mem_of_lookup c1)
   have:c'=c:=Option.some.inj ((hcl x c' e').symm.trans l2)
   subst this
   obtain⟨oc,hoc,hocd⟩:=id l3
   exact⟨c',e',oc,hk _ _ hoc,hocd⟩
 ·obtain⟨v,oc,hoc,hocd⟩:=I.cell x c (hcl x c e)
  exact⟨v,oc,hk _ _ hoc,hocd⟩
 ·show Ax H s.heap.objs.size (.lst []) (s.heap.objs.size+1)=none
  rw [AI (Nat.succ_ne_self _)]
  exact fr _ (Nat.le_succ _)
 ·show Ax H s.heap.objs.size (.lst []) c=none
  rw [AI (Nat.ne_of_lt (cellLt x c e))]
  exact I.freeC x c (hcl x c e)
 ·refine I.hok.laid hk (Nat.le_refl _) ?_
  obtain⟨n,e⟩:=hD
  exact⟨Nat.zero_le _,[],n,.nil,e⟩
 ·unfold B0
  show (js.map _).length=N'.length
  rw [List.length_map]
  exact DL O.cap
theorem Un.but{fs ex:List Addr}{H H1:Hp}{h h1 h':Heap}{C:Addr}(u:Un fs ex H H1 h h1)(hC:h.get? C=none)(hs:∀b,b≠C->h'.get? b=h1.get? b):Un fs ex H H1 h h':=by
 have ne:∀{b:Addr} {o:Obj},h.get? b=some o->b≠C:=fun {b o} e z=>by rw [z,hC] at e; cases e
 refine⟨fun b o e n h1 h2=>(hs b (ne e)).trans (u.keep b o e n h1 h2),fun b o e n h1 h2=>?_,u.free,fun b o e h1=>?_,u.tups,u.frzs,u.tbls⟩
 ·obtain⟨sl,q⟩:=u.slot b o e n h1 h2
  exact⟨sl,(hs b (ne e)).trans q⟩
 ·obtain⟨o',q⟩:=u.there b o e h1
  exact⟨o',(hs b (ne e)).trans q⟩
theorem GL{sc:Scope}{N':List Str}{cl:List (Str×Addr)}{C:Addr}{fp:List Addr}{pins':List (Addr×Obj)}{σ':St}{H':Hp}{s':Shared}{h':Heap}(I:Inv X pins σ H s)(hf:∀b∈fp,Eg X pins H b)(hC:s.heap.objs.size<=C)
  (J:Inv (Ap X sc N' cl C s H fp) pins' σ' H' s') (hs:∀b,b≠C->h'.get? b=s'.heap.get? b):Inv X pins σ H' { s' with heap:=h' }:=by
 have nC:s.heap.get? C=none:=by
  cases e:s.heap.get? C with
  | none=>rfl
  | some o=>exact absurd (Heap.lt_size e) (Nat.not_lt.mpr hC)
 have hC':H' C=none:=J.free
 refine I.call' (s':={ s' with heap:=h' }) (ch:=fp) J.os (Un.but J.base nC hs) (fun a o e=>?_) J.bare fun b hb=>?_
 ·exact(J.hok a o e).stay (fun b u hb q=>(hs b (fun z=>by
   rw [z] at hb
   rcases hb with z2 | z2
   ·rw [← z2,hC'] at e; cases e
   ·rw [hC'] at z2; cases z2)).trans q) (fun _ q=>q) fun _ _ q=>q
 ·obtain⟨f0,f1,f2,f3,f4,f5⟩:=hf b hb
  exact⟨f3,f1,f4,f5⟩
end
noncomputable def UC(X:Cx)(ifs:List Expr)(t:TT):Prop :=
 ∀(pins:List (Addr×Obj)) (s:Shared) (σ:St) (H:Hp) (Q:Bool->Hp->Prop),Inv X pins σ H s->t σ H Q ->
  wpAny (model X.prog X.w) X.A (forIn ifs true fun c r=>if r=true then do let ok ← isTrue c X.env (eval c X.env); pure (ForInStep.yield ok) else pure (ForInStep.yield r)) (TP X pins σ Q) X.xe s
noncomputable def Uc:TT:=fun _ H Q=>Q true H
theorem Px{X:Cx}:UC X [] Uc:=fun pins s σ H Q I h=>wpAny_tests_nil ⟨H,I,h⟩
theorem Pw{X:Cx}{c:Expr}{t:TT}(h:PT X c t):UC X [c] t:=fun pins s σ H Q I q=>wpAny_tests_one (h pins s σ H Q I q)
noncomputable def Na(X:Cx)(sc:Scope)(N':List Str)(js:List (Option Nat))(tg elt:Expr)(ifs:List Expr)(wi:TI):TE:=fun σ H Q=>wi σ H fun J H1=>∀l,H1 l=none->X.K.lookup l=none->∀cl C s H0 fp,∃(g:TG) (tt:TT) (te:TE) (W:Nat->Nat->St->Hp->Prop),
 PG (Ap X sc N' cl C s H0 fp) tg g/\UC (Ap X sc N' cl C s H0 fp) ifs tt/\PE (Ap X sc N' cl C s H0 fp) elt te/\(∃m,W 0 m (B0 js σ) (Ax H1 l (.lst [])))/\∀i m σ' H',W i m σ' H' ->
 (J.stop i H'/\Q (.ref l) H')\/(J.go i H'/\∀x H2,J.yld i H' x H2->g x σ' H2 fun σ3 H3=>tt σ3 H3 fun b H4=>if b=true then te σ3 H4 fun y H5=>∃ys,H5 l=some (.lst ys)/\ys.length<sizeLine/\∃m',m'<m/\W (i+1) m' σ3 (Ax H5 l (.lst (ys++[y]))) else ∃m',m'<m/\W (i+1) m' σ3 H4)
section
variable {X:Cx}{tg elt iter:Expr}{ifs:List Expr}{sc:Scope}{pos:Pos}{N':List Str}{js:List (Option Nat)}{wi:TI}{g:TG}{tt:TT}{te:TE}
theorem HW{pins:List (Addr×Obj)}{σ:St}{H:Hp}{s:Shared}{cl:List (Str×Addr)}{C l it:Addr}{fp:List Addr}{tn:Nat->Heap->Prop}{J:It}{s3:Shared}{Q:VK}{R:Result->Shared->Prop}{W:Nat->Nat->St->Hp->Prop}{m0:Nat}{σ0:St}{H0:Hp}
  (I:Inv X pins σ H s) (hf:∀b∈fp,Eg X pins H b) (hlt:∀b∈fp,b<s.heap.objs.size) (hC:s.heap.objs.size<=C)
  (T:Turn X.prog X.w X.K tg J fp it tn)
  (hg:PG (Ap X sc N' cl C s H fp) tg g) (ht:UC (Ap X sc N' cl C s H fp) ifs tt) (he:PE (Ap X sc N' cl C s H fp) elt te)
  (hW:∀i m σ' H',W i m σ' H' ->
   (J.stop i H'/\Q (.ref l) H')\/(J.go i H'/\∀x H2,J.yld i H' x H2->g x σ' H2 fun σ3 H3=>tt σ3 H3 fun b H4=>if b=true then te σ3 H4 fun y H5=>∃ys,H5 l=some (.lst ys)/\ys.length<sizeLine/\∃m',m'<m/\W (i+1) m' σ3 (Ax H5 l (.lst (ys++[y]))) else ∃m',m'<m/\W (i+1) m' σ3 H4))
  (hR:∀σ' H' s',Inv (Ap X sc N' cl C s H fp) [] σ' H' s'->Q (.ref l) H'->R (.ok .next) s')
  (I3:Inv (Ap X sc N' cl C s H fp) [] σ0 H0 s3) (t3:tn 0 s3.heap) (f3:∀b∈fp,H0 b=none) (w0:W 0 m0 σ0 H0) :
  codeAny (model X.prog X.w) X.A (.compLoop (.ListComp elt [⟨tg,iter,ifs,0⟩] sc pos) 0 (.ref it) (.ref l) (compEnvC sc cl C X.env)) R s3:=by
 have stat:∀{H':Hp},(∀b∈fp,H' b=none)->∀b∈fp,Eg (Ap X sc N' cl C s H fp) [] H' b:=fun hn b hb=>by
  have q:=I3.ok.exf b hb
  refine⟨hn b hb,q.1,I3.ok.exfs b hb,.inl hb,q.2,fun p hp=>absurd (show p∈([]:List (Addr×Obj)) from hp) (by simp)⟩
 refine Id (fun n s'=>∃i σ' H',Inv (Ap X sc N' cl C s H fp) [] σ' H' s'/\tn i s'.heap/\(∀b∈fp,H' b=none)/\W i n σ' H') ?_ m0 ⟨0,σ0,H0,I3,t3,f3,w0⟩
 rintro n s4 ⟨i,σ4,H4,I4,st4,fr4,w4⟩
 rcases hW i n σ4 H4 w4 with ⟨stop,qn⟩ | ⟨go,step⟩
 ·refine A_ (T.done (Ap X sc N' cl C s H fp) rfl rfl rfl rfl i [] s4 σ4 H4 (fun _ _=>False) I4 (stat fr4) st4 stop) fun r s5 ⟨hr,I5⟩=>?_
  subst hr
  exact hR σ4 H4 s5 I5 qn
 ·refine A_ (T.item (Ap X sc N' cl C s H fp) rfl rfl rfl rfl i [] s4 σ4 H4 (fun _ _=>False) I4 (stat fr4) st4 go) fun r s5 ⟨u,hr,h5⟩=>?_
  subst hr
  refine A_ h5 fun _ s6 ⟨x,H6,I6,r6,y6,st6,fr6⟩=>?_
  have I6':=I6.pinned (stat fr6) (T.obj _ _ st6)
  refine A_ (hg _ s6 σ4 H6 x u _ I6' r6 (step x H6 y6)) fun _ s7 ⟨σ7,H7,I7,q7⟩=>?_
  have again:∀{σ9:St} {H9:Hp} {s9:Shared} {m':Nat},Inv (Ap X sc N' cl C s H fp) ([]++Fw fp s6.heap) σ9 H9 s9->m'<n->W (i+1) m' σ9 H9->∃m,m<n/\∃i σ' H',Inv (Ap X sc N' cl C s H fp) [] σ' H' s9/\tn i s9.heap/\(∀b∈fp,H' b=none)/\W i m σ' H':=fun {σ9 H9 s9 m'} I9 hm w9=>by
   refine⟨m',hm,i+1,σ9,H9,I9.unpinned,T.keep _ _ _ st6 fun b hb o e=>(I9.pin (b,o) (List.mem_append_right _ (List.mem_append_right _ (Cv hb e)))).1,fun b hb=>?_,w9⟩
   obtain⟨o,e,d⟩:=T.obj _ _ st6 b hb
   exact(I9.pin (b,o) (List.mem_append_right _ (List.mem_append_right _ (Cv hb e)))).2.1
  refine A_ (ht _ s7 σ7 H7 _ I7 q7) fun ok s8 ⟨H8,I8,q8⟩=>?_
  cases ok with
  | false =>
   have q8':∃m',m'<n/\W (i+1) m' σ7 H8:=q8
   obtain⟨m',hm,w8⟩:=q8'
   show ∃m,m<n/\_
   exact again I8 hm w8
  | true =>
   refine A_ (he _ s8 σ7 H8 _ I8 q8) fun y s9 ⟨yv,H9,I9,ry,q9⟩=>?_
   obtain⟨ys,hl,hz,m',hm,w9⟩:=q9
   refine A_ (BY (X:=Ap X sc N' cl C s H fp) _ s9 σ7 H9 (.ref l) [yv] (.ref l) [y] (fun v H'=>v=.non/\H'=Ax H9 l (.lst (ys++[yv]))) I9 rfl (.cons ry .nil) ⟨l,ys,yv,rfl,rfl,hl,hz,rfl,rfl⟩) fun _ sa ⟨v,Ha,Ia,_,_,eH⟩=>?_
   subst eH
   exact again Ia hm w9
theorem P0(hc:X.calm=true)(N':List Str)(js:List (Option Nat))(hi:PI X tg iter wi)
  (hB:GX sc X.env.scope X.N N' js=true)
  (hs:∀x,foldedSetIterable iter X.env x=pure x:=by intro _; rfl) :
  PE X (.ListComp elt [⟨tg,iter,ifs,0⟩] sc pos) (Na X sc N' js tg elt ifs wi):=by
 intro pins s σ H Q I h
 have O:CompOk X sc N' js:=CompOk.of hB
 obtain⟨cl,hclos,hcl,hcl2⟩:=GZ (scope:=sc) (env:=X.env) fun x hx=>I.ok.has x (O.free x hx)
 rw [eval_ListComp]
 refine wpAny_comprehension_free (use:=none) rfl hs hclos O.kind O.names (A_ (hi pins s σ H _ I h) fun v s1 h1=>A_ h1 fun itv s2 h2=>?_)
 obtain⟨it,fp,tn,J,H2,e,I2,T,st2,f2,hq⟩:=h2
 subst e
 have kfree:X.K.lookup s2.heap.objs.size=none:=by
  cases q:X.K.lookup s2.heap.objs.size with
  | none=>rfl
  | some o=>exact absurd (Heap.lt_size (I2.kIn _ _ q)) (Nat.lt_irrefl _)
 obtain⟨g,tt,te,W,hg,ht,he,⟨m0,w0⟩,hW⟩:=hq s2.heap.objs.size (I2.hok.fresh (Nat.le_refl _)) kfree cl (s2.heap.objs.size+1) s2 H2 fp
 refine wpAny_newObj_type (wpAny_newFunctionEnv O.cell (by intro y hy; simp at hy) (fun h₁ hns₁ hsb₁=>?_) O.kind)
 dsimp only at hns₁ hsb₁ ⊢
 generalize hH2:s2.heap.push { cls:=.type "list",dict:=none,data:=.seq ([]:List Value).toArray }=Hh at hns₁ hsb₁ ⊢
 have hCe:Hh.objs.size=s2.heap.objs.size+1:=by rw [← hH2,Heap.size_push]
 have hlt:∀b∈fp,b<s2.heap.objs.size:=fun b hb=>by
  obtain⟨o,e,_⟩:=T.obj _ _ st2 b hb
  exact Heap.lt_size e
 have old:∀b o,s2.heap.get? b=some o->h₁.get? b=some o:=fun b o e=>hsb₁.extBut b o (by rw [hCe]; exact Nat.ne_of_lt (Nat.lt_succ_of_lt (Heap.lt_size e))) (Heap.get?_push_of_some _ (hH2▸Heap.get?_push_of_some _ e))
 have hD:∃n,h₁.get? s2.heap.objs.size=some { cls:=.type "list",data:=.seq #[] n }:=⟨_,hsb₁.extBut _ _ (by rw [hCe]; exact Nat.ne_of_lt (Nat.lt_succ_self _)) (Heap.get?_push_of_some _ (hH2▸Heap.get?_push_size _ rfl))⟩
 have I3:∀tk,Inv (Ap X sc N' cl (s2.heap.objs.size+1) s2 H2 fp) [] (B0 js σ) (Ax H2 s2.heap.objs.size (.lst [])) { s2 with heap:=h₁,toks:=tk }:=fun tk =>
  Jg I2 hc O hcl hcl2 f2 (fun b hb=>let ⟨o,e,_⟩:=T.obj _ _ st2 b hb; ⟨o,e⟩) (by rw [← hCe]; exact hns₁) old hD
 have st3:tn 0 h₁:=T.keep _ _ _ st2 fun b hb o e=>old b o e
 have fr3:∀b∈fp,Ax H2 s2.heap.objs.size (.lst []) b=none:=fun b hb=>by
  rw [AI (Nat.ne_of_lt (hlt b hb))]
  exact(f2 b hb).1
 have loop:∀tk,codeAny (model X.prog X.w) X.A (.compLoop (.ListComp elt [⟨tg,iter,ifs,0⟩] sc pos) 0 (.ref it) (.ref s2.heap.objs.size) (compEnvC sc cl (s2.heap.objs.size+1) X.env))
   (compPost (model X.prog X.w) X.A X.xe none (EP X pins σ Q) (.ref s2.heap.objs.size) (s2.heap.objs.size+1)) { s2 with heap:=h₁,toks:=tk }:=fun tk=>by
  refine HW (W:=W) (m0:=m0) (Q:=Q) I2 f2 hlt (Nat.le_succ _) T hg ht he hW (fun σ' H' s' J' q'=>?_) (I3 tk) st3 fr3 w0
  obtain⟨m,hn,_⟩:=J'.loc
  exact⟨m,hn,fun h' hs'=>⟨.ref _,H',GL I2 f2 (Nat.le_succ _) J' fun b hb=>hs'.2 b hb,rfl,q'⟩⟩
 rw [show (newEnv sc Hh.objs.size X.env.globals cl X.env.qual none .none (some X.env) builtinsNs).locals=s2.heap.objs.size+1 from hCe]
 show codeAny (model X.prog X.w) X.A (.compStart (.ListComp elt [⟨tg,iter,ifs,0⟩] sc pos) 0 (.ref it) (.ref s2.heap.objs.size) (compEnvC sc cl (s2.heap.objs.size+1) X.env)) _ _
 exact codeAny_compStart_list (loop _) (T.self _ 0 _ _ _ st3 (loop _))
end
end L2
namespace Dp
open PySem PySem.Spec PyProof.Rows L2
inductive D where
 | non | bl (b:Bool) | int (i:Int) | str (x:Str) | tup (xs:List D) | lst (xs:List D) | dic (ks:List Key) (xs:List D) | fdi (ks:List Key) (xs:List D)
 deriving Inhabited
noncomputable def NdT(M:Addr->Prop)(H:Hp)(a:Addr)(vs:List V):Prop:=¬M a/\H a=some (.tup vs)
noncomputable def NdL(M:Addr->Prop)(H:Hp)(a:Addr)(vs:List V):Prop:=¬M a/\H a=some (.lst vs)
noncomputable def NdD(M:Addr->Prop)(H:Hp)(a:Addr)(ks:List Key)(vs:List V):Prop:=¬M a/\H a=some (.dK (ks.zip vs))
noncomputable def NdF(M:Addr->Prop)(H:Hp)(a:Addr)(ks:List Key)(vs:List V):Prop:=∃o,¬M a/\H a=some (.frz o (.dK (ks.zip vs)))
mutual
noncomputable def At(K:Frag)(M:Addr->Prop)(H:Hp):D->V->Prop
 | .non,v=>v=.non
 | .bl b,v=>v=.bl b
 | .int i,v=>v=.int i
 | .str x,v=>v=.str x/\x.length<=sizeLine
 | .tup ds,v=>∃a vs,v=.ref a/\NdT M H a vs/\Ats K M H ds vs
 | .lst ds,v=>∃a vs,v=.ref a/\NdL M H a vs/\Ats K M H ds vs
 | .dic ks ds,v=>∃a vs,v=.ref a/\NdD M H a ks vs/\ks.length=ds.length/\Ats K M H ds vs
 | .fdi ks ds,v=>∃a vs,v=.ref a/\NdF M H a ks vs/\ks.length=ds.length/\Ats K M H ds vs
noncomputable def Ats(K:Frag)(M:Addr->Prop)(H:Hp):List D->List V->Prop
 | [],vs=>vs=[]
 | d::ds,vs=>∃v r,vs=v::r/\At K M H d v/\Ats K M H ds r
end
section
variable {K:Frag}{M M':Addr->Prop}{H H':Hp}{a:Addr}{vs:List V}{ks:List Key}
theorem NdT.sq(h:NdT M H a vs):SqT K H a vs:=.inl (.inl h.2)
theorem NdL.sq(h:NdL M H a vs):SqL K H a vs:=.inl (.inl h.2)
noncomputable def Pres(M:Addr->Prop)(H:Hp)(M':Addr->Prop)(H':Hp):Prop:=(∀b o,H b=some o->¬M b->H' b=some o)/\∀b,M' b->M b\/H b=none
theorem Pres.nd{u:HO}(p:Pres M H M' H')(n:¬M a)(h:H a=some u):¬M' a/\H' a=some u:=by
 refine⟨fun z=>?_,p.1 _ _ h n⟩
 rcases p.2 a z with z | z
 ·exact n z
 ·rw [z] at h; cases h
theorem NdT.pres(p:Pres M H M' H')(h:NdT M H a vs):NdT M' H' a vs:=p.nd h.1 h.2
theorem NdL.pres(p:Pres M H M' H')(h:NdL M H a vs):NdL M' H' a vs:=p.nd h.1 h.2
theorem NdD.pres(p:Pres M H M' H')(h:NdD M H a ks vs):NdD M' H' a ks vs:=p.nd h.1 h.2
theorem NdF.pres(p:Pres M H M' H')(h:NdF M H a ks vs):NdF M' H' a ks vs:=let ⟨o,h1,h2⟩:=h; ⟨o,p.nd h1 h2⟩
mutual
theorem At.pres(p:Pres M H M' H'):∀{d:D} {v:V},At K M H d v->At K M' H' d v
 | .non,v,h=>h
 | .bl b,v,h=>h
 | .int i,v,h=>h
 | .str x,v,h=>h
 | .tup ds,v,h=>by
  obtain⟨a,vs,e,hn,hs⟩:=h
  exact⟨a,vs,e,hn.pres p,Ats.pres p hs⟩
 | .lst ds,v,h=>by
  obtain⟨a,vs,e,hn,hs⟩:=h
  exact⟨a,vs,e,hn.pres p,Ats.pres p hs⟩
 | .dic ks ds,v,h=>by
  obtain⟨a,vs,e,hn,hl,hs⟩:=h
  exact⟨a,vs,e,hn.pres p,hl,Ats.pres p hs⟩
 | .fdi ks ds,v,h=>by
  obtain⟨a,vs,e,hn,hl,hs⟩:=h
  exact⟨a,vs,e,hn.pres p,hl,Ats.pres p hs⟩
theorem Ats.pres(p:Pres M H M' H'):∀{ds:List D} {vs:List V},Ats K M H ds vs->Ats K M' H' ds vs
 | [],vs,h=>h
 | d::ds,vs,h=>by
  obtain⟨v,r,e,h1,h2⟩:=h
  exact⟨v,r,e,At.pres p h1,Ats.pres p h2⟩
end
theorem Pres.trans{M1 M2 M3:Addr->Prop}{H1 H2 H3:Hp}(p:Pres M1 H1 M2 H2)(q:Pres M2 H2 M3 H3):Pres M1 H1 M3 H3:=by
 refine⟨fun b o e n=>?_,fun b z=>?_⟩
 ·refine q.1 b o (p.1 b o e n) fun z=>?_
  rcases p.2 b z with z | z
  ·exact n z
  ·rw [z] at e; cases e
 ·rcases q.2 b z with z | z
  ·exact p.2 b z
  ·cases e:H1 b with
   | none=>exact .inr rfl
   | some o =>
    by_cases n:M1 b
    ·exact .inl n
    ·rw [p.1 b o e n] at z; cases z
theorem Pres.refl(M:Addr->Prop)(H:Hp):Pres M H M H:=⟨fun _ _ e _=>e,fun _ z=>.inl z⟩
theorem Pres.less(h:∀b,M' b->M b):Pres M H M' H:=⟨fun _ _ e _=>e,fun b z=>.inl (h b z)⟩
theorem Ats.length:∀{ds:List D} {vs:List V},Ats K M H ds vs->vs.length=ds.length
 | [],vs,h=>by cases h; rfl
 | d::ds,vs,h=>by
  obtain⟨v,r,e,h1,h2⟩:=h
  subst e
  rw [List.length_cons,List.length_cons,Ats.length h2]
theorem Ats.get:∀{ds:List D} {vs:List V} {i:Nat} {d:D},Ats K M H ds vs->ds[i]?=some d->∃v,vs[i]?=some v/\At K M H d v
 | [],vs,i,d,h,e=>by simp at e
 | d0::ds,vs,0,d,h,e=>by
  obtain⟨v,r,e1,h1,h2⟩:=h
  simp at e
  subst e e1
  exact⟨v,rfl,h1⟩
 | d0::ds,vs,i+1,d,h,e=>by
  obtain⟨v,r,e1,h1,h2⟩:=h
  subst e1
  obtain⟨u,e2,h3⟩:=Ats.get (i:=i) (d:=d) h2 (by simpa using e)
  exact⟨u,by simpa using e2,h3⟩
theorem Ats.append:∀{ds es:List D} {vs us:List V},Ats K M H ds vs->Ats K M H es us->Ats K M H (ds++es) (vs++us)
 | [],es,vs,us,h,g=>by cases h; exact g
 | d::ds,es,vs,us,h,g=>by
  obtain⟨v,r,e,h1,h2⟩:=h
  subst e
  exact⟨v,r++us,rfl,h1,Ats.append h2 g⟩
theorem Ats.drop:∀{ds:List D} {vs:List V} (n:Nat),Ats K M H ds vs->Ats K M H (ds.drop n) (vs.drop n)
 | ds,vs,0,h=>h
 | [],vs,n+1,h=>by cases h; exact rfl
 | d::ds,vs,n+1,h=>by
  obtain⟨v,r,e,h1,h2⟩:=h
  subst e
  exact Ats.drop n h2
theorem Ats.take:∀{ds:List D} {vs:List V} (n:Nat),Ats K M H ds vs->Ats K M H (ds.take n) (vs.take n)
 | ds,vs,0,h=>rfl
 | [],vs,n+1,h=>by cases h; exact rfl
 | d::ds,vs,n+1,h=>by
  obtain⟨v,r,e,h1,h2⟩:=h
  subst e
  exact⟨v,r.take n,rfl,h1,Ats.take n h2⟩
theorem Ats.one{d:D}{v:V}(h:At K M H d v):Ats K M H [d] [v]:=⟨v,[],rfl,h,rfl⟩
theorem Ats.eraseIdx:∀{ds:List D} {vs:List V} (i:Nat),Ats K M H ds vs->Ats K M H (ds.eraseIdx i) (vs.eraseIdx i)
 | [],vs,i,h=>by cases h; exact rfl
 | d0::ds,vs,0,h=>by
  obtain⟨u,r,e1,h1,h2⟩:=h
  subst e1
  exact h2
 | d0::ds,vs,i+1,h=>by
  obtain⟨u,r,e1,h1,h2⟩:=h
  subst e1
  exact⟨u,r.eraseIdx i,rfl,h1,Ats.eraseIdx i h2⟩
theorem Ats.reverse:∀{ds:List D} {vs:List V},Ats K M H ds vs->Ats K M H ds.reverse vs.reverse
 | [],vs,h=>by cases h; exact rfl
 | d::ds,vs,h=>by
  obtain⟨v,r,e,h1,h2⟩:=h
  subst e
  rw [List.reverse_cons,List.reverse_cons]
  exact Ats.append (Ats.reverse h2) (Ats.one h1)
end
inductive Kd where
 | sh | tp | fr
noncomputable def Tops(K:Frag)(M:Addr->Prop)(H:Hp)(a:Addr):D->Prop
 | .lst ds=>∃vs,H a=some (.lst vs)/\Ats K M H ds vs
 | .dic ks ds=>∃vs,H a=some (.dK (ks.zip vs))/\ks.length=ds.length/\Ats K M H ds vs
 | _=>False
theorem Tops.pres{K:Frag}{M M':Addr->Prop}{H H':Hp}{a:Addr}{d:D}(h:Tops K M H a d)(p:Pres M H M' H')(e:∀o,H a=some o->H' a=some o):Tops K M' H' a d:=by
 cases d with
 | lst ds=>obtain⟨vs,h1,h2⟩:=h; exact⟨vs,e _ h1,h2.pres p⟩
 | dic ks ds=>obtain⟨vs,h1,h2,h3⟩:=h; exact⟨vs,e _ h1,h2,h3.pres p⟩
 | _=>exact(show False from h).elim
theorem Tops.at{K:Frag}{M:Addr->Prop}{H:Hp}{a:Addr}{d:D}(h:Tops K M H a d)(n:¬M a):At K M H d (.ref a):=by
 cases d with
 | lst ds=>obtain⟨vs,h1,h2⟩:=h; exact⟨a,vs,rfl,⟨n,h1⟩,h2⟩
 | dic ks ds=>obtain⟨vs,h1,h2,h3⟩:=h; exact⟨a,vs,rfl,⟨n,h1⟩,h2,h3⟩
 | _=>exact(show False from h).elim
noncomputable def AtT(K:Frag)(U:Addr->Prop)(M:Addr->Prop)(H:Hp):D->V->Prop
 | .lst ds,v=>∃a vs,v=.ref a/\¬U a/\Rd H a (.lst vs)/\Ats K M H ds vs
 | .dic ks ds,v=>∃a vs,v=.ref a/\¬U a/\H a=some (.dK (ks.zip vs))/\ks.length=ds.length/\Ats K M H ds vs
 | d,v=>At K M H d v
theorem Tops.att{K:Frag}{U M:Addr->Prop}{H:Hp}{a:Addr}{d:D}(h:Tops K M H a d)(n:¬U a):AtT K U M H d (.ref a):=by
 cases d with
 | lst ds=>obtain⟨vs,h1,h2⟩:=h; exact⟨a,vs,rfl,n,.inl h1,h2⟩
 | dic ks ds=>obtain⟨vs,h1,h2,h3⟩:=h; exact⟨a,vs,rfl,n,h1,h2,h3⟩
 | _=>exact(show False from h).elim
noncomputable def VR(K:Frag)(U:Addr->Prop)(M:Addr->Prop)(H H':Hp):Kd->V->D->Prop
 | .sh,v,d=>At K M H' d v
 | .tp,v,d=>AtT K U M H' d v
 | .fr,v,d=>∃a,v=.ref a/\H a=none/\Tops K (fun b=>M b\/b=a) H' a d
noncomputable def FeedOk(K:Frag)(M:Addr->Prop)(H:Hp)(f:Addr×Addr)(n:Nat):Prop :=
 ∃(at_ rest:Int) (cells:List Int),H f.1=some (.lst [.ref f.2,.int at_,.int rest])/\f.2≠f.1/\NdL M H f.2 (cells.map V.int)/\cells.length<=63/\0<=at_/\at_+n<=2 ^ 60
noncomputable def FeedC(K:Frag)(F:Option (Addr×Addr))(M:Addr->Prop)(H:Hp)(n:Nat):Prop:=∀f,F=some f->FeedOk K M H f n
noncomputable def Ext(U:Addr->Prop)(H H':Hp):Prop:=∀b o,H b=some o->∃o',H' b=some o'/\(¬U b->o'=o)
theorem Ext.keep{U:Addr->Prop}{H H':Hp}(p:Ext U H H'){b:Addr}{o:HO}(e:H b=some o)(n:¬U b):H' b=some o:=by
 obtain⟨o',q,r⟩:=p b o e
 rw [q,r n]
theorem Ext.free{U:Addr->Prop}{H H':Hp}(p:Ext U H H'){b:Addr}(e:H' b=none):H b=none:=by
 cases q:H b with
 | none=>rfl
 | some o =>
  obtain⟨o',z,_⟩:=p b o q
  rw [e] at z; cases z
theorem Ext.refl(U:Addr->Prop)(H:Hp):Ext U H H:=fun _ o e=>⟨o,e,fun _=>rfl⟩
theorem Ext.trans{U:Addr->Prop}{H1 H2 H3:Hp}(p:Ext U H1 H2)(q:Ext U H2 H3):Ext U H1 H3:=fun b o e=>by
 obtain⟨o',e1,r1⟩:=p b o e
 obtain⟨o2,e2,r2⟩:=q b o' e1
 exact⟨o2,e2,fun n=>(r2 n).trans (r1 n)⟩
noncomputable def Grow(H H':Hp):Prop:=H'=H\/∃p o,H p=none/\H'=Ax H p o
theorem Grow.all{H H':Hp}(g:Grow H H'):∀b o,H b=some o->H' b=some o:=by
 intro b o e
 rcases g with rfl | ⟨p,u,n,rfl⟩
 ·exact e
 ·rw [AI (Ay e n)]; exact e
theorem Grow.refl{H:Hp}:Grow H H:=.inl rfl
theorem Grow.ext{U:Addr->Prop}{H H':Hp}(g:Grow H H'):Ext U H H':=fun b o e=>⟨o,g.all b o e,fun _=>rfl⟩
theorem Grow.pres{M:Addr->Prop}{H H':Hp}(g:Grow H H'):Pres M H M H':=⟨fun b o e _=>g.all b o e,fun _ z=>.inl z⟩
theorem FeedOk.pres{K:Frag}{M M':Addr->Prop}{H H':Hp}{f:Addr×Addr}{n:Nat}(h:FeedOk K M H f n)(p:Pres M H M' H')(e:∀o,H f.1=some o->H' f.1=some o):FeedOk K M' H' f n:=by
 obtain⟨a,r,cs,h1,h2,h3,h4⟩:=h
 exact⟨a,r,cs,e _ h1,h2,h3.pres p,h4⟩
theorem FeedC.pres{K:Frag}{F:Option (Addr×Addr)}{M M':Addr->Prop}{H H':Hp}{n:Nat}(h:FeedC K F M H n)(p:Pres M H M' H')(e:∀f o,F=some f->H f.1=some o->H' f.1=some o):FeedC K F M' H' n:=fun f hf=>(h f hf).pres p fun o q=>e f o hf q
theorem FeedC.grow{K:Frag}{F:Option (Addr×Addr)}{M:Addr->Prop}{H H':Hp}{n:Nat}(h:FeedC K F M H n)(g:Grow H H'):FeedC K F M H' n:=h.pres g.pres fun f o _ e=>g.all f.1 o e
theorem FeedC.more{K:Frag}{F:Option (Addr×Addr)}{M:Addr->Prop}{H:Hp}{n:Nat}(h:FeedC K F M H n)(a:Addr)(ha:∀f,F=some f->f.2≠a):FeedC K F (fun b=>M b\/b=a) H n:=fun f hf=>by
 obtain⟨x,r,cs,h1,h2,h3,h4⟩:=h f hf
 exact⟨x,r,cs,h1,h2,⟨fun z=>z.elim h3.1 (ha f hf),h3.2⟩,h4⟩
inductive Slot where
 | no | sh (d:D) | br (d:D) | fd | ow (d:D) | lt (a:Addr) (d:D)
noncomputable def Slot.owns:Slot->Bool
 | .ow _=>true
 | .lt _ _=>true
 | _=>false
noncomputable def SlotOk(K:Frag)(F:Option (Addr×Addr))(U:Addr->Prop)(M:Addr->Prop)(H:Hp):Slot->Option V->Prop
 | .no,_=>True
 | .sh d,o=>∃v,o=some v/\At K M H d v
 | .br d,o=>∃v,o=some v/\AtT K U M H d v
 | .fd,o=>∃f,o=some (.ref f.1)/\F=some f
 | .ow d,o=>∃a,o=some (.ref a)/\M a/\¬U a/\Tops K M H a d
 | .lt a d,o=>o=some (.ref a)/\M a/\¬U a/\Tops K M H a d
structure Fm where
 M0:Addr->Prop
 F:Option (Addr×Addr)
 U:Addr->Prop
 V:Addr->Prop
 H0:Hp
 pins:List ((Addr->Prop)×Hp)
 kp:List (Addr×HO)
noncomputable def Apart(ρ:List Slot)(σ:L2.St):Prop:=∀(i j:Nat) (s t:Slot) (a:Addr),ρ[i]?=some s->s.owns=true->ρ[j]?=some t->t.owns=true->(σ[i]?).getD none=some (.ref a)->(σ[j]?).getD none=some (.ref a)->i=j
structure Rel (K:Frag) (C:Fm) (M:Addr->Prop) (H:Hp) (n:Nat) (ρ:List Slot) (σ:L2.St):Prop where
 len:ρ.length=σ.length
 sub:∀a,C.M0 a->M a
 dom:∀a,M a->∃o,H a=some o
 ext:Ext C.U C.H0 H
 fU:∀f,C.F=some f->C.U f.1
 uV:∀a,C.U a->C.V a
 vM:∀a,C.V a->M a
 feed:FeedC K C.F M H n
 sl:∀(i:Nat) (s:Slot),ρ[i]?=some s->SlotOk K C.F C.V M H s ((σ[i]?).getD none)
 pin:∀p∈C.pins,Pres p.1 p.2 M H
 br0:∀(i:Nat) (d:D) (a:Addr),ρ[i]?=some (.br d)->(σ[i]?).getD none=some (.ref a)->∃o,C.H0 a=some o
 new:∀(i:Nat) (s:Slot) (a:Addr),ρ[i]?=some s->s.owns=true->(σ[i]?).getD none=some (.ref a)->¬C.M0 a/\C.H0 a=none
 two:Apart ρ σ
 kept:∀p∈C.kp,H p.1=some p.2/\M p.1/\¬C.V p.1/\∀(i:Nat) (d:D),ρ[i]?=some (.ow d)->(σ[i]?).getD none≠some (.ref p.1)
section
variable {K:Frag}{C:Fm}{M:Addr->Prop}{H H':Hp}{n n':Nat}{ρ:List Slot}{σ:L2.St}{d:D}{v:V}{κ:Kd}
theorem Rel.pres(R:Rel K C M H n ρ σ)(e:Ext C.U H H'):Pres M H M H':=⟨fun b o q nb=>e.keep q fun z=>nb (R.vM b (R.uV b z)),fun _ z=>.inl z⟩
theorem AtT.pres{U V':Addr->Prop}{M':Addr->Prop}(h:AtT K V' M H d v)(p:Pres M H M' H')(e:Ext U H H')(uV:∀a,U a->V' a):AtT K V' M' H' d v:=by
 cases d with
 | lst ds =>
  obtain⟨a,vs,e1,n1,hq,hs⟩:=h
  refine⟨a,vs,e1,n1,?_,hs.pres p⟩
  rcases hq with hq | ⟨o,hq⟩
  ·exact .inl (e.keep hq fun z=>n1 (uV a z))
  ·exact .inr ⟨o,e.keep hq fun z=>n1 (uV a z)⟩
 | dic ks ds =>
  obtain⟨a,vs,e1,n1,hq,hl,hs⟩:=h
  exact⟨a,vs,e1,n1,e.keep hq fun z=>n1 (uV a z),hl,hs.pres p⟩
 | non=>exact At.pres (K:=K) p (d:=.non) h
 | bl b=>exact At.pres (K:=K) p (d:=.bl b) h
 | int i=>exact At.pres (K:=K) p (d:=.int i) h
 | str x=>exact At.pres (K:=K) p (d:=.str x) h
 | tup ds=>exact At.pres (K:=K) p (d:=.tup ds) h
 | fdi ks ds=>exact At.pres (K:=K) p (d:=.fdi ks ds) h
theorem AtT.same{U V':Addr->Prop}{M':Addr->Prop}(h:AtT K U M H d v)(p:Pres M H M' H')(e:∀a o,v=.ref a->H a=some o->H' a=some o)(nv:∀a,v=.ref a->¬U a->¬V' a):AtT K V' M' H' d v:=by
 cases d with
 | lst ds =>
  obtain⟨a,vs,e1,n1,hq,hs⟩:=h
  refine⟨a,vs,e1,nv a e1 n1,?_,hs.pres p⟩
  rcases hq with hq | ⟨o,hq⟩
  ·exact .inl (e a _ e1 hq)
  ·exact .inr ⟨o,e a _ e1 hq⟩
 | dic ks ds =>
  obtain⟨a,vs,e1,n1,hq,hl,hs⟩:=h
  exact⟨a,vs,e1,nv a e1 n1,e a _ e1 hq,hl,hs.pres p⟩
 | non=>exact At.pres (K:=K) p (d:=.non) h
 | bl b=>exact At.pres (K:=K) p (d:=.bl b) h
 | int i=>exact At.pres (K:=K) p (d:=.int i) h
 | str x=>exact At.pres (K:=K) p (d:=.str x) h
 | tup ds=>exact At.pres (K:=K) p (d:=.tup ds) h
 | fdi ks ds=>exact At.pres (K:=K) p (d:=.fdi ks ds) h
theorem AtT.lies{U:Addr->Prop}{a:Addr}(h:AtT K U M H d (.ref a)):∃o,H a=some o:=by
 cases d with
 | lst ds =>
  obtain⟨b,vs,e,_,hq,_⟩:=h
  cases e
  rcases hq with hq | ⟨o,hq⟩
  ·exact⟨_,hq⟩
  ·exact⟨_,hq⟩
 | dic ks ds =>
  obtain⟨b,vs,e,_,hq,_⟩:=h
  cases e
  exact⟨_,hq⟩
 | non=>cases (show V.ref a=.non from h)
 | bl b=>cases (show V.ref a=.bl b from h)
 | int i=>cases (show V.ref a=.int i from h)
 | str x=>cases (show V.ref a=.str x/\_ from h).1
 | tup ds =>
  obtain⟨b,vs,e,hq,_⟩:=h
  cases e
  exact⟨_,hq.2⟩
 | fdi ks ds =>
  obtain⟨b,vs,e,⟨o,_,hq⟩,_⟩:=h
  cases e
  exact⟨_,hq⟩
theorem SlotOk.pres{F:Option (Addr×Addr)}{U V' M':Addr->Prop}{s:Slot}{o:Option V}(h:SlotOk K F V' M H s o)(p:Pres M H M' H')(m:∀a,M a->M' a)(e:Ext U H H')(uV:∀a,U a->V' a):SlotOk K F V' M' H' s o:=by
 cases s with
 | no=>trivial
 | sh d=>obtain⟨v,e1,h1⟩:=h; exact⟨v,e1,h1.pres p⟩
 | br d=>obtain⟨v,e1,h1⟩:=h; exact⟨v,e1,h1.pres p e uV⟩
 | fd=>exact h
 | ow d=>obtain⟨a,e1,h1,h2,h3⟩:=h; exact⟨a,e1,m a h1,h2,h3.pres p fun o q=>e.keep q fun z=>h2 (uV a z)⟩
 | lt a d=>obtain⟨e1,h1,h2,h3⟩:=h; exact⟨e1,m a h1,h2,h3.pres p fun o q=>e.keep q fun z=>h2 (uV a z)⟩
theorem Rel.step(R:Rel K C M H n ρ σ)(e:Ext C.U H H')(f:FeedC K C.F M H' n'):Rel K C M H' n' ρ σ:=by
 have p:=R.pres e
 refine⟨R.len,R.sub,fun a z=>?_,R.ext.trans e,R.fU,R.uV,R.vM,f,fun i s q=>(R.sl i s q).pres p (fun _ z=>z) e R.uV,fun q hq=>(R.pin q hq).trans p,R.br0,R.new,R.two,fun q hq=>?_⟩
 ·obtain⟨o,h1⟩:=R.dom a z
  obtain⟨o',h2,_⟩:=e a o h1
  exact⟨o',h2⟩
 ·obtain⟨h1,h2,h3,h4⟩:=R.kept q hq
  exact⟨e.keep h1 fun z=>h3 (R.uV _ z),h2,h3,h4⟩
theorem Rel.udom(R:Rel K C M H n ρ σ):∀a,C.U a->∃o,H a=some o:=fun a z=>R.dom a (R.vM a (R.uV a z))
theorem At.tp{U:Addr->Prop}(uM:∀a,U a->M a)(h:At K M H d v):AtT K U M H d v:=by
 cases d with
 | lst ds =>
  obtain⟨a,vs,e,hn,hs⟩:=h
  exact⟨a,vs,e,fun z=>hn.1 (uM a z),.inl hn.2,hs⟩
 | dic ks ds =>
  obtain⟨a,vs,e,hn,hl,hs⟩:=h
  exact⟨a,vs,e,fun z=>hn.1 (uM a z),hn.2,hl,hs⟩
 | non=>exact h
 | bl b=>exact h
 | int i=>exact h
 | str x=>exact h
 | tup ds=>exact h
 | fdi ks ds=>exact h
theorem VR.back{U V':Addr->Prop}{H1:Hp}(e:Ext U H H1)(h:VR K V' M H1 H' κ v d):VR K V' M H H' κ v d:=by
 cases κ with
 | sh=>exact h
 | tp=>exact h
 | fr =>
  obtain⟨a,e1,h1,h2⟩:=h
  exact⟨a,e1,e.free h1,h2⟩
theorem VR.shOf{U:Addr->Prop}(dom:∀a,M a->∃o,H a=some o)(h:VR K U M H H' κ v d)(hk:κ≠.tp):At K M H' d v:=by
 cases κ with
 | sh=>exact h
 | tp=>exact absurd rfl hk
 | fr =>
  obtain⟨a,rfl,h1,h2⟩:=h
  refine(h2.pres (Pres.less (M':=M) fun _ z=>.inl z) fun _ z=>z).at fun z=>?_
  obtain⟨o,q⟩:=dom a z
  rw [h1] at q; cases q
theorem VR.tpOf{U:Addr->Prop}(dom:∀a,M a->∃o,H a=some o)(uM:∀a,U a->M a)(h:VR K U M H H' κ v d):AtT K U M H' d v:=by
 cases κ with
 | sh=>exact At.tp uM h
 | tp=>exact h
 | fr=>exact At.tp uM (VR.shOf dom h (by intro z; cases z))
theorem Fq{α:Type}{l:List α}{i j:Nat}{x y:α}(h:(l.set i x)[j]?=some y):(j=i/\i<l.length/\y=x)\/(j≠i/\l[j]?=some y):=by
 rw [List.getElem?_set] at h
 by_cases e:i=j
 ·rw [if_pos e] at h
  by_cases hl:i<l.length
  ·rw [if_pos hl] at h
   exact .inl ⟨e.symm,hl,(Option.some.inj h).symm⟩
  ·rw [if_neg hl] at h; cases h
 ·rw [if_neg e] at h
  exact .inr ⟨fun z=>e z.symm,h⟩
theorem Hu{l:L2.St}{i j:Nat}{x:Option V}(h:j≠i):((l.set i x)[j]?).getD none=(l[j]?).getD none:=by
 rw [List.getElem?_set,if_neg (fun z=>h z.symm)]
theorem Nn{l:L2.St}{i:Nat}{x:Option V}(h:i<l.length):((l.set i x)[i]?).getD none=x:=by
 rw [List.getElem?_set,if_pos rfl,if_pos h]
 rfl
theorem Rel.set(R:Rel K C M H n ρ σ){i:Nat}(h:At K M H d v):Rel K C M H n (ρ.set i (.sh d)) (σ.set i (some v)):=by
 have two:∀(j:Nat) (s:Slot),(ρ.set i (.sh d))[j]?=some s->s.owns=true->ρ[j]?=some s/\((σ.set i (some v))[j]?).getD none=(σ[j]?).getD none:=fun j s q o=>by
  rcases Fq q with ⟨_,_,rfl⟩ | ⟨hj,q⟩
  ·cases o
  ·exact⟨q,Hu hj⟩
 refine⟨by rw [List.length_set,List.length_set]; exact R.len,R.sub,R.dom,R.ext,R.fU,R.uV,R.vM,R.feed,fun j s q=>?_,R.pin,fun j e a q q2=>?_,fun j s a q o q2=>?_,fun j k s t a q1 o1 q2 o2 z1 z2=>?_,fun p hp=>?_⟩
 ·rcases Fq q with ⟨rfl,hl,rfl⟩ | ⟨hj,q⟩
  ·rw [Nn (by rw [← R.len]; exact hl)]
   exact⟨v,rfl,h⟩
  ·rw [Hu hj]
   exact R.sl j s q
 ·rcases Fq q with ⟨_,_,e⟩ | ⟨hj,q⟩
  ·cases e
  ·rw [Hu hj] at q2
   exact R.br0 j e a q q2
 ·obtain⟨q1,e⟩:=two j s q o
  rw [e] at q2
  exact R.new j s a q1 o q2
 ·obtain⟨p1,e1⟩:=two j s q1 o1
  obtain⟨p2,e2⟩:=two k t q2 o2
  rw [e1] at z1
  rw [e2] at z2
  exact R.two j k s t a p1 o1 p2 o2 z1 z2
 ·obtain⟨h1,h2,h3,h4⟩:=R.kept p hp
  refine⟨h1,h2,h3,fun j e q=>?_⟩
  obtain⟨q1,e2⟩:=two j _ q rfl
  rw [e2]
  exact h4 j e q1
theorem Rel.owner(R:Rel K C M H n ρ σ){i:Nat}{s:Slot}(h:ρ[i]?=some s)(o:s.owns=true):∃a e,(σ[i]?).getD none=some (.ref a)/\M a/\¬C.V a/\Tops K M H a e/\¬C.M0 a/\C.H0 a=none:=by
 have q:=R.sl i s h
 cases s with
 | ow d=>obtain⟨a,e1,h1,h2,h3⟩:=q; exact⟨a,d,e1,h1,h2,h3,R.new i _ a h o e1⟩
 | lt a d=>obtain⟨e1,h1,h2,h3⟩:=q; exact⟨a,d,e1,h1,h2,h3,R.new i _ a h o e1⟩
 | _=>cases o
theorem Rel.setOw(R:Rel K C M H n ρ σ){i:Nat}{a:Addr}(e:Ext C.U H H')(f:FeedC K C.F M H' n')(ha:H a=none)(h:Tops K (fun b=>M b\/b=a) H' a d) :
  Rel K C (fun b=>M b\/b=a) H' n' (ρ.set i (.ow d)) (σ.set i (some (.ref a))):=by
 have R1:=R.step e f
 have ne:∀b,M b->b≠a:=fun b z q=>by
  obtain⟨o,w⟩:=R.dom b z
  rw [q,ha] at w; cases w
 have a0:¬C.M0 a/\C.H0 a=none:=⟨fun z=>ne a (R.sub a z) rfl,R.ext.free ha⟩
 have pr:Pres M H (fun b=>M b\/b=a) H':=⟨fun b o q nb=>e.keep q fun z=>nb (R.vM b (R.uV b z)),fun b z=>z.elim .inl fun z=>.inr (by rw [z]; exact ha)⟩
 have two:∀(j:Nat) (s:Slot),(ρ.set i (.ow d))[j]?=some s->(j=i/\s=.ow d/\((σ.set i (some (.ref a)))[j]?).getD none=some (.ref a))\/(j≠i/\ρ[j]?=some s/\((σ.set i (some (.ref a)))[j]?).getD none=(σ[j]?).getD none):=fun j s q=>by
  rcases Fq q with ⟨rfl,hl,rfl⟩ | ⟨hj,q⟩
  ·exact .inl ⟨rfl,rfl,Nn (by rw [← R.len]; exact hl)⟩
  ·exact .inr ⟨hj,q,Hu hj⟩
 have old:∀(j:Nat) (s:Slot) (b:Addr),ρ[j]?=some s->s.owns=true->(σ[j]?).getD none=some (.ref b)->b≠a:=fun j s b q o z=>by
  obtain⟨c,_,e1,m,_⟩:=R.owner q o
  rw [e1] at z
  cases z
  exact ne _ m
 have hd:∃o,H' a=some o:=by
  cases d with
  | lst ds=>obtain⟨vs,q,_⟩:=h; exact⟨_,q⟩
  | dic ks ds=>obtain⟨vs,q,_⟩:=h; exact⟨_,q⟩
  | _=>exact(show False from h).elim
 refine⟨by rw [List.length_set,List.length_set]; exact R.len,fun b z=>.inl (R.sub b z),fun b z=>?_,R1.ext,R.fU,R.uV,fun b z=>.inl (R.vM b z),f.more a fun g hg q=>?_,fun j s q=>?_,fun q hq=>(R.pin q hq).trans pr,fun j e2 b q q2=>?_,fun j s b q o q2=>?_,fun j k s t b q1 o1 q2 o2 z1 z2=>?_,fun p hp=>?_⟩
 ·rcases z with z | z
  ·exact R1.dom b z
  ·rw [z]; exact hd
 ·obtain⟨_,_,_,_,_,h3,_⟩:=R.feed g hg
  have:=h3.2
  rw [q,ha] at this; cases this
 ·rcases two j s q with ⟨rfl,rfl,e1⟩ | ⟨hj,q1,e1⟩
  ·rw [e1]
   exact⟨a,rfl,.inr rfl,fun z=>ne a (R.vM a z) rfl,h⟩
  ·rw [e1]
   exact(R.sl j s q1).pres pr (fun _ z=>.inl z) e R.uV
 ·rcases two j _ q with ⟨_,e1,_⟩ | ⟨hj,q1,e1⟩
  ·cases e1
  ·rw [e1] at q2
   exact R.br0 j e2 b q1 q2
 ·rcases two j s q with ⟨_,_,e1⟩ | ⟨hj,q1,e1⟩
  ·rw [e1] at q2
   cases q2
   exact a0
  ·rw [e1] at q2
   exact R.new j s b q1 o q2
 ·rcases two j s q1 with ⟨rfl,_,e1⟩ | ⟨hj,p1,e1⟩
  ·rw [e1] at z1
   cases z1
   rcases two k t q2 with ⟨rfl,_,_⟩ | ⟨hk,p2,e2⟩
   ·rfl
   ·rw [e2] at z2
    exact absurd rfl (old k t a p2 o2 z2)
  ·rw [e1] at z1
   rcases two k t q2 with ⟨rfl,_,e2⟩ | ⟨hk,p2,e2⟩
   ·rw [e2] at z2
    cases z2
    exact absurd rfl (old j s a p1 o1 z1)
   ·rw [e2] at z2
    exact R.two j k s t b p1 o1 p2 o2 z1 z2
 ·obtain⟨h1,h2,h3,h4⟩:=R1.kept p hp
  refine⟨h1,.inl h2,h3,fun j e2 q=>?_⟩
  rcases two j _ q with ⟨_,_,e1⟩ | ⟨hj,q1,e1⟩
  ·rw [e1]
   intro z
   cases z
   exact ne _ h2 rfl
  ·rw [e1]
   exact h4 j e2 q1
theorem Rel.mut(R:Rel K C M H n ρ σ){i:Nat}{a:Addr}{e:D}{o:HO}(hi:ρ[i]?=some (.ow d))(ha:(σ[i]?).getD none=some (.ref a))(h:Tops K M (Ax H a o) a e) :
  Rel K C M (Ax H a o) n (ρ.set i (.ow e)) σ:=by
 obtain⟨b,_,e1,m,nv,t,n0,h0⟩:=R.owner hi rfl
 rw [ha] at e1
 cases e1
 have pr:Pres M H M (Ax H a o):=⟨fun b o' q nb=>by rw [AI (fun z=>nb (by rw [z]; exact m))]; exact q,fun _ z=>.inl z⟩
 have old:∀(j:Nat) (s:Slot),(ρ.set i (.ow e))[j]?=some s->(j=i/\s=.ow e)\/(j≠i/\ρ[j]?=some s):=fun j s q=>by
  rcases Fq q with ⟨rfl,hl,rfl⟩ | ⟨hj,q⟩
  ·exact .inl ⟨rfl,rfl⟩
  ·exact .inr ⟨hj,q⟩
 have far:∀(j:Nat) (s:Slot) (b:Addr),j≠i->ρ[j]?=some s->s.owns=true->(σ[j]?).getD none=some (.ref b)->b≠a:=fun j s b hj q o z w=>by
  subst w
  exact hj (R.two j i s _ b q o hi rfl z ha)
 refine⟨by rw [List.length_set]; exact R.len,R.sub,fun b z=>?_,fun b o' q=>?_,R.fU,R.uV,R.vM,R.feed.pres pr fun f o' hf q=>?_,fun j s q=>?_,fun q hq=>(R.pin q hq).trans pr,fun j e2 b q q2=>?_,fun j s b q o2 q2=>?_,fun j k s t b q1 o1 q2 o2 z1 z2=>?_,fun p hp=>?_⟩
 ·by_cases hb:b=a
  ·exact⟨o,by rw [hb,AM]⟩
  ·obtain⟨o',q⟩:=R.dom b z
   exact⟨o',by rw [AI hb]; exact q⟩
 ·obtain⟨o2,q2,r⟩:=R.ext b o' q
  have hb:b≠a:=fun z=>by rw [z,h0] at q; cases q
  exact⟨o2,by rw [AI hb]; exact q2,r⟩
 ·have hb:f.1≠a:=fun z=>nv (by rw [← z]; exact R.uV _ (R.fU f hf))
  rw [AI hb]; exact q
 ·rcases old j s q with ⟨rfl,rfl⟩ | ⟨hj,q1⟩
  ·rw [ha]
   exact⟨a,rfl,m,nv,h⟩
  ·have q2:=R.sl j s q1
   cases s with
   | no=>trivial
   | sh d=>obtain⟨v,e1,h1⟩:=q2; exact⟨v,e1,h1.pres pr⟩
   | br d =>
    obtain⟨v,e1,h1⟩:=q2
    refine⟨v,e1,h1.same pr (fun b o' z q=>?_) fun _ _ z=>z⟩
    subst z
    obtain⟨o3,w⟩:=R.br0 j d b q1 e1
    rw [AI (fun z=>by rw [z,h0] at w; cases w)]
    exact q
   | fd=>exact q2
   | ow d =>
    obtain⟨b,e1,h1,h2,h3⟩:=q2
    exact⟨b,e1,h1,h2,h3.pres pr fun o' w=>by rw [AI (far j _ b hj q1 rfl e1)]; exact w⟩
   | lt b d =>
    obtain⟨e1,h1,h2,h3⟩:=q2
    exact⟨e1,h1,h2,h3.pres pr fun o' w=>by rw [AI (far j _ b hj q1 rfl e1)]; exact w⟩
 ·rcases old j _ q with ⟨_,e1⟩ | ⟨hj,q1⟩
  ·cases e1
  ·exact R.br0 j e2 b q1 q2
 ·rcases old j s q with ⟨rfl,_⟩ | ⟨hj,q1⟩
  ·exact R.new j _ b hi rfl q2
  ·exact R.new j s b q1 o2 q2
 ·rcases old j s q1 with ⟨rfl,rfl⟩ | ⟨hj,p1⟩
  ·rcases old k t q2 with ⟨rfl,_⟩ | ⟨hk,p2⟩
   ·rfl
   ·exact R.two j k _ t b hi rfl p2 o2 z1 z2
  ·rcases old k t q2 with ⟨rfl,rfl⟩ | ⟨hk,p2⟩
   ·exact R.two j k s _ b p1 o1 hi rfl z1 z2
   ·exact R.two j k s t b p1 o1 p2 o2 z1 z2
 ·obtain⟨h1,h2,h3,h4⟩:=R.kept p hp
  have hb:p.1≠a:=fun z=>h4 i d hi (by rw [ha,z])
  refine⟨by rw [AI hb]; exact h1,h2,h3,fun j e2 q=>?_⟩
  rcases old j _ q with ⟨rfl,_⟩ | ⟨hj,q1⟩
  ·exact h4 j d hi
  ·exact h4 j e2 q1
end
noncomputable abbrev DW:=Nat->List Slot->(D->Nat->Prop)->Prop
noncomputable abbrev FN:=Nat->List Slot->(Bool->Nat->Prop)->Prop
noncomputable abbrev EA:=Nat->List Slot->(List D->Nat->Prop)->Prop
noncomputable abbrev Sy:=Nat->List Slot->(List Slot->Nat->Prop)->Prop
section
variable (X:Cx)
noncomputable def DE(e:Expr)(κ:Kd)(w:DW):Prop:=∃t,PE X e t/\∀(C:Fm) (M:Addr->Prop) (H:Hp) (n:Nat) (ρ:List Slot) (σ:L2.St) (P:D->Nat->Prop) (Q:VK),Rel X.K C M H n ρ σ->w n ρ P ->
 (∀v H' d n',Ext C.U H H'->FeedC X.K C.F M H' n'->VR X.K C.V M H H' κ v d->P d n'->Q v H')->t σ H Q
noncomputable def DT(e:Expr)(w:FN):Prop:=∃t,PT X e t/\∀(C:Fm) (M:Addr->Prop) (H:Hp) (n:Nat) (ρ:List Slot) (σ:L2.St) (P:Bool->Nat->Prop) (Q:Bool->Hp->Prop),Rel X.K C M H n ρ σ->w n ρ P ->
 (∀b H' n',Ext C.U H H'->FeedC X.K C.F M H' n'->P b n'->Q b H')->t σ H Q
noncomputable def DTW(e:Expr)(w:FN):Prop:=∃t,PW X e t/\∀(C:Fm) (M:Addr->Prop) (H:Hp) (n:Nat) (ρ:List Slot) (σ:L2.St) (P:Bool->Nat->Prop) (Q:Bool->Hp->Prop),Rel X.K C M H n ρ σ->w n ρ P ->
 (∀b H' n',Ext C.U H H'->FeedC X.K C.F M H' n'->P b n'->Q b H')->t σ H Q
noncomputable def RH(es:List Expr)(w:EA):Prop:=∃t,PA X es t/\∀(C:Fm) (M:Addr->Prop) (H:Hp) (n:Nat) (ρ:List Slot) (σ:L2.St) (P:List D->Nat->Prop) (Q:List V->Hp->Prop),Rel X.K C M H n ρ σ->w n ρ P ->
 (∀vs H' ds n',Ext C.U H H'->FeedC X.K C.F M H' n'->Paired (fun v d=>AtT X.K C.V M H' d v) vs ds->P ds n'->Q vs H')->t σ H Q
noncomputable def S1(es:List Expr)(w:EA):Prop:=∃t,PA X es t/\∀(C:Fm) (M:Addr->Prop) (H:Hp) (n:Nat) (ρ:List Slot) (σ:L2.St) (P:List D->Nat->Prop) (Q:List V->Hp->Prop),Rel X.K C M H n ρ σ->w n ρ P ->
 (∀vs H' ds n',Ext C.U H H'->FeedC X.K C.F M H' n'->Ats X.K M H' ds vs->P ds n'->Q vs H')->t σ H Q
noncomputable def Hl(K:Frag)(F:Option (Addr×Addr))(V' M:Addr->Prop)(H:Hp)(v:V)(s:Slot):Prop:=SlotOk K F V' M H s (some v)/\s.owns=false
noncomputable def UZ(e:Expr)(w:Nat->List Slot->(Slot->Nat->Prop)->Prop):Prop:=∃t,PE X e t/\∀(C:Fm) (M:Addr->Prop) (H:Hp) (n:Nat) (ρ:List Slot) (σ:L2.St) (P:Slot->Nat->Prop) (Q:VK),Rel X.K C M H n ρ σ->w n ρ P ->
 (∀v H' s n',Ext C.U H H'->FeedC X.K C.F M H' n'->Hl X.K C.F C.V M H' v s->P s n'->Q v H')->t σ H Q
noncomputable def UM(es:List Expr)(w:Sy):Prop:=∃t,PA X es t/\∀(C:Fm) (M:Addr->Prop) (H:Hp) (n:Nat) (ρ:List Slot) (σ:L2.St) (P:List Slot->Nat->Prop) (Q:List V->Hp->Prop),Rel X.K C M H n ρ σ->w n ρ P ->
 (∀vs H' ss n',Ext C.U H H'->FeedC X.K C.F M H' n'->Paired (Hl X.K C.F C.V M H') vs ss->P ss n'->Q vs H')->t σ H Q
end
noncomputable def AB(i:Nat):DW:=fun n ρ P=>match ρ[i]? with
 | some (.sh d)=>P d n
 | _=>False
noncomputable def Ab(i:Nat):DW:=fun n ρ P=>match ρ[i]? with
 | some (.sh d)=>P d n
 | some (.br d)=>P d n
 | some (.ow d)=>P d n
 | some (.lt _ d)=>P d n
 | _=>False
noncomputable def wC(d:D):DW:=fun n _ P=>P d n
section
variable {X:Cx}{a b c e:Expr}{κ κa κb:Kd}{wa wb wc:DW}{pos:Pos}
theorem getD_some{σ:L2.St}{i:Nat}{v:V}(h:(σ[i]?).getD none=some v):σ[i]?=some (some v):=by
 cases q:σ[i]? with
 | none=>rw [q] at h; cases h
 | some o=>rw [q] at h; exact congrArg some h
theorem QW{i:Nat}(h:PE X e (BR i)):DE X e .sh (AB i):=by
 refine⟨_,h,fun C M H n ρ σ P Q R w q=>?_⟩
 unfold AB at w
 split at w
 ·rename_i d hd
  obtain⟨v,e1,h1⟩:=R.sl i _ hd
  exact⟨v,getD_some e1,q v H d n (Ext.refl _ _) R.feed h1 w⟩
 ·exact w.elim
theorem O0{i:Nat}(h:PE X e (BR i)):DE X e .tp (Ab i):=by
 refine⟨_,h,fun C M H n ρ σ P Q R w q=>?_⟩
 unfold Ab at w
 split at w
 ·rename_i d hd
  obtain⟨v,e1,h1⟩:=R.sl i _ hd
  exact⟨v,getD_some e1,q v H d n (Ext.refl _ _) R.feed (At.tp R.vM h1) w⟩
 ·rename_i d hd
  obtain⟨v,e1,h1⟩:=R.sl i _ hd
  exact⟨v,getD_some e1,q v H d n (Ext.refl _ _) R.feed h1 w⟩
 ·rename_i d hd
  obtain⟨a,e1,_,h2,h3⟩:=R.sl i _ hd
  exact⟨.ref a,getD_some e1,q _ H d n (Ext.refl _ _) R.feed (h3.att h2) w⟩
 ·rename_i a d hd
  obtain⟨e1,_,h2,h3⟩:=R.sl i _ hd
  exact⟨.ref a,getD_some e1,q _ H d n (Ext.refl _ _) R.feed (h3.att h2) w⟩
 ·exact w.elim
theorem dv(i:Nat){x:Str}{pos:Pos}(hN:X.N[i]?=some x:=by rfl)(hv:S0 X.env.scope x:=by first | exact Or.inl rfl | exact Or.inr (Or.inl rfl) | exact Or.inr (Or.inr rfl))(hd:(x==("__debug__" : Str))=false:=by decide)
  (hcd:(x==("__classdict__" : Str))=false:=by decide):DE X (.Name x pos) .sh (AB i):=QW (IB hN hv hd hcd)
theorem Dr(i:Nat){x:Str}{pos:Pos}(hN:X.N[i]?=some x:=by rfl)(hv:S0 X.env.scope x:=by first | exact Or.inl rfl | exact Or.inr (Or.inl rfl) | exact Or.inr (Or.inr rfl))(hd:(x==("__debug__" : Str))=false:=by decide)
  (hcd:(x==("__classdict__" : Str))=false:=by decide):DE X (.Name x pos) .tp (Ab i):=O0 (IB hN hv hd hcd)
theorem EX{d:D}{v:V}(h:PE X e (tC v))(hd:∀M H,At X.K M H d v):DE X e .sh (wC d) :=
 ⟨_,h,fun C M H n ρ σ P Q R w q=>q v H d n (Ext.refl _ _) R.feed (hd M H) w⟩
theorem AG{i:Int}{j pos}:DE X (.Constant (.int i) j pos) .sh (wC (.int i)):=EX Ag fun _ _=>rfl
theorem O3{b:Bool}{j pos}:DE X (.Constant (.bool b) j pos) .sh (wC (.bl b)):=EX TZ fun _ _=>rfl
theorem CQ{j pos}:DE X (.Constant .none j pos) .sh (wC .non):=EX Ru fun _ _=>rfl
theorem Bh{x:Str}{j pos}(hx:decide (x.length<=1000)=true:=by rfl):DE X (.Constant (.str x) j pos) .sh (wC (.str x)) :=
 EX Rt fun _ _=>⟨rfl,Nat.le_trans (of_decide_eq_true hx) (by rw [sizeLine_eq]; decide)⟩
noncomputable def Eh(K:Frag)(κ:Kd)(r:R2)(f:D->D->(D->Prop)->Prop):Prop:=∀(U:Addr->Prop) (M:Addr->Prop) (H:Hp) (d e:D) (x y:V) (P:D->Prop) (Q:VK),(∀a,M a->∃o,H a=some o)->(∀a,U a->M a) ->
 AtT K U M H d x->AtT K U M H e y->f d e P->(∀v H' z,Grow H H'->VR K U M H H' κ v z->P z->Q v H')->r x y H Q
noncomputable def AW(f:D->D->(D->Prop)->Prop)(wa wb:DW):DW:=fun n ρ P=>wa n ρ fun x n1=>wb n1 ρ fun y n2=>f x y fun z=>P z n2
theorem DM{r:R2}{f:D->D->(D->Prop)->Prop}(hA:Eh X.K κ r f){ta tb:TE}(ha:∀(C:Fm) (M:Addr->Prop) (H:Hp) (n:Nat) (ρ:List Slot) (σ:L2.St) (P:D->Nat->Prop) (Q:VK),Rel X.K C M H n ρ σ->wa n ρ P ->
   (∀v H' d n',Ext C.U H H'->FeedC X.K C.F M H' n'->VR X.K C.V M H H' κa v d->P d n'->Q v H')->ta σ H Q)
  (hb:∀(C:Fm) (M:Addr->Prop) (H:Hp) (n:Nat) (ρ:List Slot) (σ:L2.St) (P:D->Nat->Prop) (Q:VK),Rel X.K C M H n ρ σ->wb n ρ P ->
   (∀v H' d n',Ext C.U H H'->FeedC X.K C.F M H' n'->VR X.K C.V M H H' κb v d->P d n'->Q v H')->tb σ H Q)
  (C:Fm) (M:Addr->Prop) (H:Hp) (n:Nat) (ρ:List Slot) (σ:L2.St) (P:D->Nat->Prop) (Q:VK) (R:Rel X.K C M H n ρ σ) (w:AW f wa wb n ρ P)
  (q:∀v H' d n',Ext C.U H H'->FeedC X.K C.F M H' n'->VR X.K C.V M H H' κ v d->P d n'->Q v H'):Ci r ta tb σ H Q:=by
 refine ha C M H n ρ σ _ _ R w fun x H1 d n1 e1 f1 r1 w1=>?_
 have R1:=R.step e1 f1
 refine hb C M H1 n1 ρ σ _ _ R1 w1 fun y H2 e n2 e2 f2 r2 w2=>?_
 have R2':=R1.step e2 f2
 refine hA C.V M H2 d e x y _ _ R2'.dom R2'.vM ((r1.tpOf R.dom R.vM).pres (R1.pres e2) e2 R.uV) (r2.tpOf R1.dom R1.vM) w2 fun v H3 z g vr p=>?_
 exact q v H3 z n2 ((e1.trans e2).trans g.ext) (f2.grow g) (VR.back (e1.trans e2) vr) p
theorem A6{op:Operator}{r:R2}{f:D->D->(D->Prop)->Prop}(ho:OpR X (binaryOp op) r)(hA:Eh X.K κ r f)(ha:DE X a κa wa)(hb:DE X b κb wb):DE X (.BinOp a op b pos) κ (AW f wa wb):=by
 obtain⟨ta,ha1,ha2⟩:=ha
 obtain⟨tb,hb1,hb2⟩:=hb
 exact⟨_,BO ho ha1 hb1,fun C M H n ρ σ P Q R w q=>DM hA ha2 hb2 C M H n ρ σ P Q R w q⟩
theorem As{r:R2}{f:D->D->(D->Prop)->Prop}(ho:IxR X r)(hA:Eh X.K κ r f)(ha:DE X a κa wa)(hb:DE X b κb wb)(hs:L3 b:=by intro _ _; rfl):DE X (.Subscript a b pos) κ (AW f wa wb):=by
 obtain⟨ta,ha1,ha2⟩:=ha
 obtain⟨tb,hb1,hb2⟩:=hb
 exact⟨_,C6 ho ha1 hb1 hs,fun C M H n ρ σ P Q R w q=>DM hA ha2 hb2 C M H n ρ σ P Q R w q⟩
theorem Ky{op:CmpOp}{r:R2}{f:D->D->(D->Prop)->Prop}(ho:OpR X (compareOp op) r)(hA:Eh X.K .sh r f)(ha:DE X a κa wa)(hb:DE X b κb wb)(hm:behindInMarks op b=false):DE X (.Compare a [op] [b] pos) .sh (AW f wa wb):=by
 obtain⟨ta,ha1,ha2⟩:=ha
 obtain⟨tb,hb1,hb2⟩:=hb
 exact⟨_,P1 ho ha1 hb1 hm,fun C M H n ρ σ P Q R w q=>DM hA ha2 hb2 C M H n ρ σ P Q R w q⟩
noncomputable def Aa(w:DW):FN:=fun n ρ P=>w n ρ fun d n1=>match d with
 | .bl b=>P b n1
 | _=>False
theorem LK{U:Addr->Prop}{K:Frag}{M:Addr->Prop}{H H':Hp}{v:V}{b:Bool}(h:VR K U M H H' κ v (.bl b)):v=.bl b:=by
 cases κ with
 | sh=>exact h
 | tp=>exact h
 | fr=>obtain⟨a,_,_,t⟩:=h; exact(show False from t).elim
theorem Al{op:CmpOp}{r:R2}{f:D->D->(D->Prop)->Prop}(ho:OpR X (compareOp op) r)(hA:Eh X.K .sh r f)(ha:DE X a κa wa)(hb:DE X b κb wb)(hm:behindInMarks op b=false):DT X (.Compare a [op] [b] pos) (Aa (AW f wa wb)):=by
 obtain⟨ta,ha1,ha2⟩:=ha
 obtain⟨tb,hb1,hb2⟩:=hb
 refine⟨_,EK ho ha1 hb1 hm,fun C M H n ρ σ P Q R w q=>?_⟩
 refine DM hA ha2 hb2 C M H n ρ σ _ _ R w fun v H' d n' e f r p=>?_
 cases d with
 | bl b=>exact⟨b,LK r,q b H' n' e f p⟩
 | _=>exact p.elim
theorem Ku(h:DE X e κ wa)(he:∀whole,isTrue e X.env whole=(do let v ← whole; standAt e.pos; holding [v] (truthy v)):=by intro _; rfl):DT X e (Aa wa):=by
 obtain⟨t,h1,h2⟩:=h
 refine⟨_,Ro h1 he,fun C M H n ρ σ P Q R w q=>?_⟩
 refine h2 C M H n ρ σ _ _ R w fun v H' d n' e f r p=>?_
 cases d with
 | bl b=>exact⟨b,LK r,q b H' n' e f p⟩
 | _=>exact p.elim
noncomputable def Ff(u v:FN):FN:=fun n ρ P=>u n ρ fun c n1=>if c=true then v n1 ρ P else P false n1
noncomputable def J8(u v:FN):FN:=fun n ρ P=>u n ρ fun c n1=>if c=true then P true n1 else v n1 ρ P
noncomputable def LD(u:FN):FN:=fun n ρ P=>u n ρ fun c n1=>P (!c) n1
variable {wA wB:FN}{rest:List Expr}
theorem FW(h:DT X a wA):DTW X (.BoolOp .And [a] pos) wA:=by
 obtain⟨t,h1,h2⟩:=h
 exact⟨t,LS h1,h2⟩
theorem Kt(h:DT X a wA):DTW X (.BoolOp .Or [a] pos) wA:=by
 obtain⟨t,h1,h2⟩:=h
 exact⟨t,Rn h1,h2⟩
theorem IR(ha:DT X a wA)(hb:DTW X (.BoolOp .And (b::rest) pos) wB):DTW X (.BoolOp .And (a::b::rest) pos) (Ff wA wB):=by
 obtain⟨t,h1,h2⟩:=ha
 obtain⟨u,g1,g2⟩:=hb
 refine⟨_,N5 h1 g1,fun C M H n ρ σ P Q R w q=>?_⟩
 refine h2 C M H n ρ σ _ _ R w fun c H1 n1 e1 f1 p=>?_
 cases c with
 | false=>exact q false H1 n1 e1 f1 p
 | true=>exact g2 C M H1 n1 ρ σ P Q (R.step e1 f1) p fun b H2 n2 e2 f2 p2=>q b H2 n2 (e1.trans e2) f2 p2
theorem Jk(ha:DT X a wA)(hb:DTW X (.BoolOp .Or (b::rest) pos) wB):DTW X (.BoolOp .Or (a::b::rest) pos) (J8 wA wB):=by
 obtain⟨t,h1,h2⟩:=ha
 obtain⟨u,g1,g2⟩:=hb
 refine⟨_,TY h1 g1,fun C M H n ρ σ P Q R w q=>?_⟩
 refine h2 C M H n ρ σ _ _ R w fun c H1 n1 e1 f1 p=>?_
 cases c with
 | true=>exact q true H1 n1 e1 f1 p
 | false=>exact g2 C M H1 n1 ρ σ P Q (R.step e1 f1) p fun b H2 n2 e2 f2 p2=>q b H2 n2 (e1.trans e2) f2 p2
theorem DTW.dt(h:DTW X e wA):DT X e wA:=by
 obtain⟨t,h1,h2⟩:=h
 exact⟨t,h1.pt,h2⟩
theorem Kv(ha:DT X a wA):DT X (.UnaryOp .Not a pos) (LD wA):=by
 obtain⟨t,h1,h2⟩:=ha
 refine⟨_,Rp h1,fun C M H n ρ σ P Q R w q=>?_⟩
 exact h2 C M H n ρ σ _ _ R w fun c H1 n1 e1 f1 p=>q (!c) H1 n1 e1 f1 p
noncomputable def UN(t:FN)(u v:DW):DW:=fun n ρ P=>t n ρ fun c n1=>if c=true then u n1 ρ P else v n1 ρ P
theorem O1(hc:DT X c wA)(ha:DE X a κ wa)(hb:DE X b κ wb):DE X (.IfExp c a b pos) κ (UN wA wa wb):=by
 obtain⟨t,h1,h2⟩:=hc
 obtain⟨u,g1,g2⟩:=ha
 obtain⟨u',k1,k2⟩:=hb
 refine⟨_,JK h1 g1 k1,fun C M H n ρ σ P Q R w q=>?_⟩
 refine h2 C M H n ρ σ _ _ R w fun c H1 n1 e1 f1 p=>?_
 cases c with
 | true=>exact g2 C M H1 n1 ρ σ P Q (R.step e1 f1) p fun v H2 d n2 e2 f2 r2 p2=>q v H2 d n2 (e1.trans e2) f2 (VR.back e1 r2) p2
 | false=>exact k2 C M H1 n1 ρ σ P Q (R.step e1 f1) p fun v H2 d n2 e2 f2 r2 p2=>q v H2 d n2 (e1.trans e2) f2 (VR.back e1 r2) p2
noncomputable def AN:EA:=fun n _ P=>P [] n
noncomputable def AC(w:DW)(ws:EA):EA:=fun n ρ P=>w n ρ fun d n1=>ws n1 ρ fun ds n2=>P (d::ds) n2
variable {es:List Expr}{ws:EA}
theorem AO:RH X [] AN:=⟨_,B8,fun C M H n ρ σ P Q R w q=>q [] H [] n (Ext.refl _ _) R.feed .nil w⟩
theorem AS:S1 X [] AN:=⟨_,B8,fun C M H n ρ σ P Q R w q=>q [] H [] n (Ext.refl _ _) R.feed rfl w⟩
theorem AJ(ha:DE X e κ wa)(hr:RH X es ws)(hs:starEach (e::es) X.env=(false,eval e X.env)::starEach es X.env:=by rfl):RH X (e::es) (AC wa ws):=by
 obtain⟨t,h1,h2⟩:=ha
 obtain⟨u,g1,g2⟩:=hr
 refine⟨_,BL h1 g1 hs,fun C M H n ρ σ P Q R w q=>?_⟩
 refine h2 C M H n ρ σ _ _ R w fun v H1 d n1 e1 f1 r1 p=>?_
 have R1:=R.step e1 f1
 refine g2 C M H1 n1 ρ σ _ _ R1 p fun vs H2 ds n2 e2 f2 r2 p2=>?_
 exact q (v::vs) H2 (d::ds) n2 (e1.trans e2) f2 (.cons ((r1.tpOf R.dom R.vM).pres (R1.pres e2) e2 R.uV) r2) p2
theorem AF(ha:DE X e κ wa)(hr:S1 X es ws)(hk:κ≠.tp:=by intro z; cases z)(hs:starEach (e::es) X.env=(false,eval e X.env)::starEach es X.env:=by rfl):S1 X (e::es) (AC wa ws):=by
 obtain⟨t,h1,h2⟩:=ha
 obtain⟨u,g1,g2⟩:=hr
 refine⟨_,BL h1 g1 hs,fun C M H n ρ σ P Q R w q=>?_⟩
 refine h2 C M H n ρ σ _ _ R w fun v H1 d n1 e1 f1 r1 p=>?_
 have R1:=R.step e1 f1
 refine g2 C M H1 n1 ρ σ _ _ R1 p fun vs H2 ds n2 e2 f2 r2 p2=>?_
 exact q (v::vs) H2 (d::ds) n2 (e1.trans e2) f2 ⟨v,vs,rfl,(r1.shOf R.dom hk).pres (R1.pres e2),r2⟩ p2
noncomputable def CB(ws:EA):DW:=fun n ρ P=>ws n ρ fun ds n1=>ds.length<=sizeLine/\P (.tup ds) n1
noncomputable def Dx(ws:EA):DW:=fun n ρ P=>ws n ρ fun ds n1=>ds.length<=sizeLine/\P (.lst ds) n1
theorem D5{M:Addr->Prop}{H:Hp}{p:Addr}{o:HO}(h:H p=none):Pres M H (fun b=>M b\/b=p) (Ax H p o):=⟨fun b u e _=>by rw [AI (Ay e h)]; exact e,fun b z=>z.elim .inl fun z=>.inr (by rw [z]; exact h)⟩
theorem Am{H:Hp}{p:Addr}{o:HO}(h:H p=none):Grow H (Ax H p o):=.inr ⟨p,o,h,rfl⟩
theorem BQ{x1}(h:S1 X es ws):DE X (.Tuple es x1 pos) .sh (CB ws):=by
 obtain⟨t,h1,h2⟩:=h
 refine⟨_,Rq h1,fun C M H n ρ σ P Q R w q=>?_⟩
 refine h2 C M H n ρ σ _ _ R w fun vs H1 ds n1 e1 f1 r1 p=>?_
 refine⟨by rw [r1.length]; exact p.1,fun a ha=>?_⟩
 have g:Grow H1 (Ax H1 a (.tup vs)):=Am ha
 refine q _ _ (.tup ds) n1 (e1.trans g.ext) (f1.grow g) ⟨a,vs,rfl,⟨fun z=>?_,AM⟩,r1.pres g.pres⟩ p.2
 obtain⟨o,z⟩:=(R.step e1 f1).dom a z
 rw [ha] at z; cases z
theorem CP(h:S1 X es ws):DE X (.List es pos) .fr (Dx ws):=by
 obtain⟨t,h1,h2⟩:=h
 refine⟨_,Ke h1,fun C M H n ρ σ P Q R w q=>?_⟩
 refine h2 C M H n ρ σ _ _ R w fun vs H1 ds n1 e1 f1 r1 p=>?_
 refine⟨by rw [r1.length]; exact p.1,fun a ha=>?_⟩
 have g:Grow H1 (Ax H1 a (.lst vs)):=Am ha
 exact q _ _ (.lst ds) n1 (e1.trans g.ext) (f1.grow g) (VR.back e1 ⟨a,rfl,ha,vs,AM,r1.pres (D5 ha)⟩) p.2
noncomputable def CT(K:Frag)(κ:Kd)(r:List V->Hp->VK->Prop)(f:List D->(D->Prop)->Prop):Prop:=∀(U:Addr->Prop) (M:Addr->Prop) (H:Hp) (ds:List D) (vs:List V) (P:D->Prop) (Q:VK),(∀a,M a->∃o,H a=some o)->(∀a,U a->M a) ->
 Paired (fun v d=>AtT K U M H d v) vs ds->f ds P->(∀v H' z,Grow H H'->VR K U M H H' κ v z->P z->Q v H')->r vs H Q
noncomputable def Cr(f:List D->(D->Prop)->Prop)(ws:EA):DW:=fun n ρ P=>ws n ρ fun ds n1=>f ds fun z=>P z n1
theorem RF{r:List V->Hp->VK->Prop}{f:List D->(D->Prop)->Prop}{t:TA}(hA:CT X.K κ r f)(h2:∀(C:Fm) (M:Addr->Prop) (H:Hp) (n:Nat) (ρ:List Slot) (σ:L2.St) (P:List D->Nat->Prop) (Q:List V->Hp->Prop),Rel X.K C M H n ρ σ->ws n ρ P ->
   (∀vs H' ds n',Ext C.U H H'->FeedC X.K C.F M H' n'->Paired (fun v d=>AtT X.K C.V M H' d v) vs ds->P ds n'->Q vs H')->t σ H Q)
  (C:Fm) (M:Addr->Prop) (H:Hp) (n:Nat) (ρ:List Slot) (σ:L2.St) (P:D->Nat->Prop) (Q:VK) (R:Rel X.K C M H n ρ σ) (w:Cr f ws n ρ P)
  (q:∀v H' d n',Ext C.U H H'->FeedC X.K C.F M H' n'->VR X.K C.V M H H' κ v d->P d n'->Q v H'):UQ r t σ H Q:=by
 refine h2 C M H n ρ σ _ _ R w fun vs H1 ds n1 e1 f1 r1 p=>?_
 have R1:=R.step e1 f1
 refine hA C.V M H1 ds vs _ _ R1.dom R1.vM r1 p fun v H2 z g vr pz=>?_
 exact q v H2 z n1 (e1.trans g.ext) (f1.grow g) (VR.back e1 vr) pz
theorem Ad{x:Str}{id:String}{p:Pos}{r:List V->Hp->VK->Prop}{f:List D->(D->Prop)->Prop}(hc:B6 X (.builtin id) r)(hA:CT X.K κ r f)(hg:Gl X x)(hm:X.mg x=none)(hv:bootBuiltins x=some (.builtin id))(ha:RH X (e::es) ws)
  (hn:x ≠ "__name__":=by decide) (hdb:(x==("__debug__" : Str))=false:=by decide)
  (he:starEach (e::es) X.env=(false,eval e X.env)::starEach es X.env:=by rfl) (hpl:(backTo pos (starEach es X.env)).any (·.1)=false:=by rfl):DE X (.Call (.Name x p) (e::es) [] pos) κ (Cr f ws):=by
 obtain⟨t,h1,h2⟩:=ha
 exact⟨_,EN hc hg hm hv h1 hn hdb he hpl,fun C M H n ρ σ P Q R w q=>RF hA h2 C M H n ρ σ P Q R w q⟩
theorem CJ{x:Str}{T:String}{p:Pos}{r:List V->Hp->VK->Prop}{f:List D->(D->Prop)->Prop}(hc:B6 X (.type T) r)(hA:CT X.K κ r f)(hg:Gl X x)(hm:X.mg x=none)(hv:bootBuiltins x=some (.type T))(ha:RH X (e::es) ws)
  (hn:x ≠ "__name__":=by decide) (hdb:(x==("__debug__" : Str))=false:=by decide)
  (he:starEach (e::es) X.env=(false,eval e X.env)::starEach es X.env:=by rfl) (hpl:(backTo pos (starEach es X.env)).any (·.1)=false:=by rfl):DE X (.Call (.Name x p) (e::es) [] pos) κ (Cr f ws):=by
 obtain⟨t,h1,h2⟩:=ha
 exact⟨_,HF hc hg hm hv h1 hn hdb he hpl,fun C M H n ρ σ P Q R w q=>RF hA h2 C M H n ρ σ P Q R w q⟩
end
end Dp
namespace L2
open PySem PySem.Spec PyProof.Rows
noncomputable def U8(z:Str):It:=⟨fun i _=>i<z.cps.size,fun i H x H'=>H'=H/\∃c,z.cps[i]?=some c/\x=.str ⟨#[c]⟩,fun i _=>z.cps.size<=i⟩
theorem Iy{P:Program}{w:World}{K:Frag}{tg:Expr}(it:Addr)(z:Str)(t:Tok)(ty:String)(hty:ty = "str_ascii_iterator"\/ty = "str_iterator")
  (W:∀A':Around,A'.handled=none->Walks P w A' it [it] [it] z.cps.size (SignAt z) (fun i h=>h.IsStrIter it ty z t i)):Turn P w K tg (U8 z) [it] it (fun i h=>h.IsStrIter it ty z t i) where
 mem:=by simp
 obj:=fun i h st b hb=>by
  have e:b=it:=by simpa using hb
  subst e
  obtain⟨o,e,c,d⟩:=st
  exact⟨o,e,fun v z=>by rw [d] at z; cases z⟩
 keep:=fun i h h' st k=>let ⟨o,ho,r⟩:=st; ⟨o,k it (by simp) o ho,r⟩
 item:=by
  intro X hP hw hK hc i pins s σ H E I hf st hg
  subst hP hw hK
  obtain⟨f0,f1,f2,f3,f4,f5⟩:=hf it (by simp)
  refine(W X.A (I.ok.hd hc)).item i s _ _ hg st fun v h' tk hv st' kk=>?_
  obtain⟨c,u,hcu,rfl⟩:=hv
  have I1:Inv X pins σ H { s with heap:=h',toks:=tk }:=I.turned (fun b o hb e=>kk b o (by simpa using hb) e) f0 f1 f3 f4 f5
  obtain⟨o,e,cc,d⟩:=id st'
  exact⟨_,rfl,Ll (s:={ s with heap:=h',toks:=tk }) e cc d (by rcases hty with rfl | rfl <;> decide) ⟨.str ⟨#[c]⟩,H,I1,⟨_,rfl⟩,⟨rfl,c,hcu,rfl⟩,st',fun b hb=>(hf b hb).1⟩⟩
 done:=by
  intro X hP hw hK hc i pins s σ H E I hf st hg
  subst hP hw hK
  obtain⟨f0,f1,f2,f3,f4,f5⟩:=hf it (by simp)
  have hx:z.cps[i]?=none:=by
   have:z.cps.size<=i:=hg
   simp [this]
  rcases hty with rfl | rfl
  ·exact wpAny_pyNext_ascii_end (I.ok.hd hc) st hx fun h' eb=>⟨rfl,I.turned (t':=s.toks) (fun b o hb e=>eb b o hb e) f0 f1 f3 f4 f5⟩
  ·exact wpAny_pyNext_wide_end (I.ok.hd hc) st hx fun h' eb=>⟨rfl,I.turned (t':=s.toks) (fun b o hb e=>eb b o hb e) f0 f1 f3 f4 f5⟩
 self:=fun A i s Q E st h=>by
  rcases hty with rfl | rfl
  ·exact wpAny_pyIter_striter_ascii st h
  ·exact wpAny_pyIter_striter_wide st h
section
variable {X:Cx}{tg:Expr}
noncomputable def Ur(K:Frag)(tl:TE):TI:=fun σ H R=>tl σ H fun x H1 =>
 (∃a,x=.ref a/\(∃xs,SqL K H1 a xs)/\R (U9 K a) H1)\/(∃a,x=.ref a/\(∃xs,SqT K H1 a xs)/\R (Sv K a) H1)\/∃z,x=.str z/\R (U8 z) H1
theorem Ka{l:Expr}{tl:TE}(hl:PE X l tl):PI X tg l (Ur X.K tl):=by
 intro pins s σ H R I h
 refine A_ (hl pins s σ H _ I h) fun v s1 ⟨x,H1,I1,r1,q1⟩=>?_
 have hne:∀b,b∈[s1.heap.objs.size]->Eg X pins H1 b:=fun b hb=>by
  have e:b=s1.heap.objs.size:=by simpa using hb
  subst e
  exact I1.fpOk (Nat.le_refl _) (I1.hok.fresh (Nat.le_refl _))
 rcases q1 with ⟨a,e,⟨xs,hq⟩,q⟩ | ⟨a,e,⟨xs,hq⟩,q⟩ | ⟨z,e,q⟩
 ·subst e
  cases r1
  obtain⟨its,rv,p,hz⟩:=I1.list hq
  refine wpAny_pyIter_list p.isList ?_
  exact⟨s1.heap.objs.size,[s1.heap.objs.size],_,_,H1,rfl,I1.kept (t':=s1.toks) fun b o e=>Heap.get?_push_of_some _ e,L8 a _,⟨_,Heap.get?_push_size _ rfl,rfl,rfl⟩,hne,q⟩
 ·subst e
  cases r1
  obtain⟨its,rv,p,hz⟩:=I1.tuple hq
  refine wpAny_pyIter_tuple (show s1.heap.IsTuple a its.toArray from p) ?_
  exact⟨s1.heap.objs.size,[s1.heap.objs.size],_,_,H1,rfl,I1.kept (t':=s1.toks) fun b o e=>Heap.get?_push_of_some _ e,Fh a _,⟨_,Heap.get?_push_size _ rfl,rfl,rfl⟩,hne,q⟩
 ·subst e
  obtain⟨t,rfl⟩:=r1
  cases ha:z.cps.all (·<128)
  ·refine wpAny_pyIter_wide ha ?_
   exact⟨s1.heap.objs.size,[s1.heap.objs.size],_,_,H1,rfl,I1.kept (t':=s1.toks) fun b o e=>Heap.get?_push_of_some _ e,Iy _ z t "str_iterator" (.inr rfl) (fun A' hA=>Walks.strWide hA _ z t),⟨_,Heap.get?_push_size _ rfl,rfl,rfl⟩,hne,q⟩
  ·refine wpAny_pyIter_ascii ha ?_
   exact⟨s1.heap.objs.size,[s1.heap.objs.size],_,_,H1,rfl,I1.kept (t':=s1.toks) fun b o e=>Heap.get?_push_of_some _ e,Iy _ z t "str_ascii_iterator" (.inl rfl) (fun A' hA=>Walks.strAscii hA _ z t),⟨_,Heap.get?_push_size _ rfl,rfl,rfl⟩,hne,q⟩
end
section
variable {X:Cx}
theorem Jt:B6 X (.builtin "isinstance") (fun xs H Q=>∃x T t b,xs=[x,.ty T]/\D9 X.K H x t/\PySem.W.kitOne X.K t (.type T)=some b/\Q (.bl b) H):=by
 intro pins s σ H xs us Q I r h
 obtain⟨x,T,t,b,rfl,ty,e,q⟩:=h
 obtain⟨u,w',rfl,rx,rt⟩:=vals2 r
 cases rt
 exact Mt I rx ty e fun tk=>⟨.bl b,H,I.tok _,rfl,q⟩
theorem MW:OpR X (compareOp .LtE) (fun x y H Q=>∃i j,x=.str i/\y=.str j/\Q (.bl (!(j.cps.toList<i.cps.toList))) H):=by
 intro pins s σ H x y v u Q I rx ry h
 obtain⟨i,j,rfl,rfl,q⟩:=h
 obtain⟨t,rfl⟩:=rx
 obtain⟨t',rfl⟩:=ry
 exact PySem.P.le_str ⟨.bl _,H,I,rfl,q⟩
theorem Fj{ys:List Str}:∀{us:List Value},Vals (ys.map V.str) us->StrsAre us ys:=by
 induction ys with
 | nil=>intro us r; rw [List.map_nil] at r; cases r; exact .nil
 | cons n ns ih =>
  intro us r
  rw [List.map_cons] at r
  cases r with
  | cons r1 r2 =>
   obtain⟨t,e⟩:=r1
   subst e
   exact .cons n t (ih r2)
theorem QG:UH X "str.join" (fun x xs H Q=>∃(z:Str) (p:Addr) (ys:List Str),x=.str z/\xs=[.ref p]/\SqL X.K H p (ys.map V.str)/\(ys.map (·.length)).sum+ys.length*z.length<=16777216/\Q (.str (Txt.join z ys)) H):=by
 intro pins s σ H x xs v us Q I rx rv h
 obtain⟨z,p,ys,rfl,rfl,hq,hz,q⟩:=h
 obtain⟨t,rfl⟩:=rx
 obtain⟨u,rfl,ru⟩:=vals1 rv
 cases ru
 obtain⟨its,r',pl,_⟩:=I.list hq
 exact join_list pl.isList (Fj r') hz fun t' k=>⟨.str _,H,I.tok _,⟨_,rfl⟩,q⟩
theorem RZ:SlR X (fun x lo hi H Q=>∃z,x=.str z/\z.length<=sizeLine/\Q (.str (Txt.slice z lo hi)) H):=by
 intro pins s σ H x v vl vu lo hi sl Q I rx hs pl pu h
 obtain⟨z,rfl,hz,q⟩:=h
 obtain⟨t,rfl⟩:=rx
 refine⟨"str",_,F.slot_str_getitem.lookup,typeIs_str _ _ _,?_⟩
 have fin:∀t' k,EP X pins σ Q (.str (Txt.slice z lo hi) t') { s with toks:=k }:=fun t' k=>⟨.str _,H,I.tok _,⟨_,rfl⟩,q⟩
 cases pl with
 | none =>
  cases pu with
  | none=>exact wpAny_getItem_str_slice (l:=none) (u:=none) (st:=none) hs rfl (post_val_or_str ⟨Nat.le_trans (Txt.slice_le z _ _) hz,fun t' k=>fin t' k⟩)
  | int j tj=>exact wpAny_getItem_str_slice (l:=none) (u:=some (j,tj)) (st:=none) hs rfl (post_val_or_str ⟨Nat.le_trans (Txt.slice_le z _ _) hz,fun t' k=>fin t' k⟩)
 | int i ti =>
  cases pu with
  | none=>exact wpAny_getItem_str_slice (l:=some (i,ti)) (u:=none) (st:=none) hs rfl (post_val_or_str ⟨Nat.le_trans (Txt.slice_le z _ _) hz,fun t' k=>fin t' k⟩)
  | int j tj=>exact wpAny_getItem_str_slice (l:=some (i,ti)) (u:=some (j,tj)) (st:=none) hs rfl (post_val_or_str ⟨Nat.le_trans (Txt.slice_le z _ _) hz,fun t' k=>fin t' k⟩)
theorem MU(hu:X.A.units<cLine):OpR X (compareOp .NotEq) (fun x y H Q=>∃a b xs,x=.ref a/\y=.ref b/\SqL X.K H a xs/\SqL X.K H b []/\Q (.bl (!xs.isEmpty)) H):=by
 intro pins s σ H x y v u Q I rx ry h
 obtain⟨a,b,xs,rfl,rfl,ha,hb,q⟩:=h
 cases rx
 cases ry
 obtain⟨its,r1,p1,_⟩:=I.list ha
 obtain⟨its2,r2,p2,_⟩:=I.list hb
 cases r2
 cases r1 with
 | nil=>exact SeqAt.RcNeAt.lists (e:=fun _=>true) p1.isList p2.isList rfl hu (fun j h1 h2=>absurd h1 (by simp)) X.prog X.w X.xe _ ⟨.bl _,H,I,rfl,q⟩
 | cons r1 r2=>exact SeqAt.RcNeAt.lists_lengths p1.isList p2.isList (by simp) hu X.prog X.w X.xe _ ⟨.bl _,H,I,rfl,q⟩
end
end L2
namespace Dp
open PySem PySem.Spec PyProof.Rows L2
noncomputable def UA(K:Frag)(F:Option (Addr×Addr))(U V' M:Addr->Prop)(H:Hp)(n:Nat)(ss:List Slot)(vs:List V):Prop :=
 (∀a,M a->∃o,H a=some o)/\(∀f,F=some f->U f.1)/\(∀a,U a->V' a)/\(∀a,V' a->M a)/\FeedC K F M H n/\Paired (Hl K F V' M H) vs ss
noncomputable abbrev W2:=List Slot->Nat->(D->Nat->Prop)->Prop
noncomputable def HA(K:Frag)(κ:Kd)(W:W2)(np:Nat):Sp:=fun vs H Q _=>vs.length=np/\∃(F:Option (Addr×Addr)) (U V' M:Addr->Prop) (n:Nat) (ss:List Slot) (P:D->Nat->Prop),UA K F U V' M H n ss vs/\W ss n P /\
 ∀v H' d n',Ext U H H'->FeedC K F M H' n'->VR K V' M H H' κ v d->P d n'->Q v H'
noncomputable def AT(w:DW):Nat->List Slot->(Slot->Nat->Prop)->Prop:=fun n ρ P=>w n ρ fun d n1=>P (.sh d) n1
noncomputable def Ei(w:DW):Nat->List Slot->(Slot->Nat->Prop)->Prop:=fun n ρ P=>w n ρ fun d n1=>P (.br d) n1
noncomputable def Au(i:Nat):Nat->List Slot->(Slot->Nat->Prop)->Prop:=fun n ρ P=>match ρ[i]? with
 | some .fd=>P .fd n
 | _=>False
noncomputable def AZ:Sy:=fun n _ P=>P [] n
noncomputable def AD(w:Nat->List Slot->(Slot->Nat->Prop)->Prop)(ws:Sy):Sy:=fun n ρ P=>w n ρ fun s n1=>ws n1 ρ fun ss n2=>P (s::ss) n2
noncomputable def AX(W:W2)(was:Sy):DW:=fun n ρ P=>was n ρ fun ss n1=>W ss n1 P
section
variable {X:Cx}{a b c e:Expr}{es:List Expr}{κ κa κb:Kd}{wa wb wc:DW}{pos:Pos}{w1:Nat->List Slot->(Slot->Nat->Prop)->Prop}{was:Sy}{ws:EA}
theorem Ak(h:DE X e κ wa)(hk:κ≠.tp:=by intro z; cases z):UZ X e (AT wa):=by
 obtain⟨t,h1,h2⟩:=h
 refine⟨t,h1,fun C M H n ρ σ P Q R w q=>h2 C M H n ρ σ _ _ R w fun v H' d n' e f r p=>?_⟩
 exact q v H' (.sh d) n' e f ⟨⟨v,rfl,r.shOf R.dom hk⟩,rfl⟩ p
theorem Jo(h:DE X e κ wa):UZ X e (Ei wa):=by
 obtain⟨t,h1,h2⟩:=h
 refine⟨t,h1,fun C M H n ρ σ P Q R w q=>h2 C M H n ρ σ _ _ R w fun v H' d n' e f r p=>?_⟩
 exact q v H' (.br d) n' e f ⟨⟨v,rfl,r.tpOf R.dom R.vM⟩,rfl⟩ p
theorem BB(i:Nat){x:Str}{pos:Pos}(hN:X.N[i]?=some x:=by rfl)(hv:S0 X.env.scope x:=by first | exact Or.inl rfl | exact Or.inr (Or.inl rfl) | exact Or.inr (Or.inr rfl))(hd:(x==("__debug__" : Str))=false:=by decide)
  (hcd:(x==("__classdict__" : Str))=false:=by decide):UZ X (.Name x pos) (Au i):=by
 refine⟨_,IB hN hv hd hcd,fun C M H n ρ σ P Q R w q=>?_⟩
 unfold Au at w
 split at w
 ·rename_i hd
  obtain⟨f,e1,h1⟩:=R.sl i _ hd
  exact⟨.ref f.1,getD_some e1,q _ H .fd n (Ext.refl _ _) R.feed ⟨⟨f,rfl,h1⟩,rfl⟩ w⟩
 ·exact w.elim
theorem AQ:UM X [] AZ:=⟨_,B8,fun C M H n ρ σ P Q R w q=>q [] H [] n (Ext.refl _ _) R.feed .nil w⟩
theorem AA(ha:UZ X e w1)(hr:UM X es was)(hs:starEach (e::es) X.env=(false,eval e X.env)::starEach es X.env:=by rfl):UM X (e::es) (AD w1 was):=by
 obtain⟨t,h1,h2⟩:=ha
 obtain⟨u,g1,g2⟩:=hr
 refine⟨_,BL h1 g1 hs,fun C M H n ρ σ P Q R w q=>?_⟩
 refine h2 C M H n ρ σ _ _ R w fun v H1 d n1 e1 f1 r1 p=>?_
 have R1:=R.step e1 f1
 refine g2 C M H1 n1 ρ σ _ _ R1 p fun vs H2 ds n2 e2 f2 r2 p2=>?_
 exact q (v::vs) H2 (d::ds) n2 (e1.trans e2) f2 (.cons ⟨r1.1.pres (R1.pres e2) (fun _ z=>z) e2 R.uV,r1.2⟩ r2) p2
theorem QY{k:Nat}{f:Addr}{fd:FuncData}{ps:List Str}{W:W2}{x:Str}{p:Pos}(G:Bi X.prog X.w X.K X.mg X.base Dw k f fd ps (HA X.K κ W ps.length))(hW:∀ss n P,W ss n P->ss.length=ps.length)
  (hr:Room k X.A) (hg:Gl X x) (hm:X.mg x=some (.ref f)) (hk:keepIn X.K (.ref f)=true) (hb:Binds X.K fd ps []) (ha:UM X (e::es) was)
  (hdb:(x==("__debug__" : Str))=false:=by decide) (he:starEach (e::es) X.env=(false,eval e X.env)::starEach es X.env:=by rfl) (hpl:(backTo pos (starEach es X.env)).any (·.1)=false:=by rfl) :
  DE X (.Call (.Name x p) (e::es) [] pos) κ (AX W was):=by
 obtain⟨t,h1,h2⟩:=ha
 refine⟨_,Lb G hr hg hm hk hb .nil Q6 h1 hdb he hpl,fun C M H n ρ σ P Q R w q=>?_⟩
 refine h2 C M H n ρ σ _ _ R w fun vs H1 ss n1 e1 f1 r1 p=>?_
 have R1:=R.step e1 f1
 show HA X.K κ W ps.length (vs++[]) H1 Q E0
 rw [List.append_nil]
 refine⟨(Paired.length r1).trans (hW _ _ _ p),C.F,C.U,C.V,M,n1,ss,P,⟨R1.dom,R1.fU,R1.uV,R1.vM,f1,r1⟩,p,fun v H2 d n2 e2 f2 r2 p2=>?_⟩
 exact q v H2 d n2 (e1.trans e2) f2 (VR.back e1 r2) p2
noncomputable def VL(K:Frag)(κ:Kd)(T:String)(r:V->List V->Hp->VK->Prop)(f:D->List D->(D->Prop)->Prop):Prop:=∀(U:Addr->Prop) (M:Addr->Prop) (H:Hp) (d:D) (ds:List D) (x:V) (vs:List V) (P:D->Prop) (Q:VK),(∀a,M a->∃o,H a=some o)->(∀a,U a->M a) ->
 AtT K U M H d x->Paired (fun v d=>AtT K U M H d v) vs ds->f d ds P->(∀v H' z,Grow H H'->VR K U M H H' κ v z->P z->Q v H')->r x vs H Q
noncomputable def Ti(T:String)(d:D):Prop:=match d with
 | .str _=>T = "str"
 | .int _=>T = "int"
 | .lst _=>T = "list"
 | _=>False
noncomputable def Ua(T:String)(f:D->List D->(D->Prop)->Prop)(wo:DW)(ws:EA):DW:=fun n ρ P=>wo n ρ fun d n1=>Ti T d/\ws n1 ρ fun ds n2=>f d ds fun z=>P z n2
theorem IL{T:String}{K:Frag}{U:Addr->Prop}{M:Addr->Prop}{H:Hp}{d:D}{x:V}(h:Ti T d)(hx:AtT K U M H d x):Ub K T x H:=by
 cases d with
 | str z=>obtain⟨e,_⟩:=hx; subst e; exact h
 | int i=>cases (show x=.int i from hx); exact h
 | lst ds=>obtain⟨a,vs,e,_,hq,_⟩:=hx; subst e; exact .inl ⟨h,vs,.inl hq⟩
 | _=>exact(show False from h).elim
theorem Tz{name:Str}{apos cpos:Pos}{T id:String}{r:V->List V->Hp->VK->Prop}{f:D->List D->(D->Prop)->Prop}(pa:PlainAttrs T)(slot:PySem.Slot T name id)(hty:typeOf (.builtin id)=pure (.type "method_descriptor"))(hm:UH X id r)
  (hA:VL X.K κ T r f) (ho:DE X a κa wa) (ha:RH X (e::es) ws)
  (hbase:attributeBase a name X.env (eval a X.env)=eval a X.env:=by rfl)
  (hfew:((backTo cpos (starEach (e::es) X.env)).all (fun x=>!x.1)&&(backToKw cpos (keywordEach [] X.env)).all (fun x=>x.1.isSome)
   && decide ((e::es).length+([]:List Keyword).length+(if ([]:List Keyword).isEmpty then 0 else 1)<30))=true:=by rfl)
  (hline:(apos.endLine==cpos.line)=true:=by rfl) (hs:starEach (e::es) X.env=(false,eval e X.env)::starEach es X.env:=by rfl) (hplain:(backTo cpos (starEach es X.env)).any (·.1)=false:=by rfl) :
  DE X (.Call (.Attribute a name apos) (e::es) [] cpos) κ (Ua T f wa ws):=by
 obtain⟨t,h1,h2⟩:=ho
 obtain⟨u,g1,g2⟩:=ha
 refine⟨_,Lc pa slot hty hm h1 g1 hbase hfew hline hs hplain,fun C M H n ρ σ P Q R w q=>?_⟩
 refine h2 C M H n ρ σ _ _ R w fun x H1 d n1 e1 f1 r1 p=>?_
 have R1:=R.step e1 f1
 have tx:=r1.tpOf R.dom R.vM
 refine⟨IL p.1 tx,?_⟩
 refine g2 C M H1 n1 ρ σ _ _ R1 p.2 fun vs H2 ds n2 e2 f2 r2 p2=>?_
 have R2':=R1.step e2 f2
 refine hA C.V M H2 d ds x vs _ _ R2'.dom R2'.vM (tx.pres (R1.pres e2) e2 R.uV) r2 p2 fun v H3 z g vr pz=>?_
 exact q v H3 z n2 ((e1.trans e2).trans g.ext) (f2.grow g) (VR.back (e1.trans e2) vr) pz
noncomputable def DO(X:Cx)(e:Option Expr)(w:Nat->List Slot->(Option Int->Nat->Prop)->Prop):Prop:=∃t,PO X e t/\∀(C:Fm) (M:Addr->Prop) (H:Hp) (n:Nat) (ρ:List Slot) (σ:L2.St) (P:Option Int->Nat->Prop) (Q:Option Int->Hp->Prop),Rel X.K C M H n ρ σ->w n ρ P ->
 (∀o H' n',Ext C.U H H'->FeedC X.K C.F M H' n'->P o n'->Q o H')->t σ H Q
noncomputable def CC:Nat->List Slot->(Option Int->Nat->Prop)->Prop:=fun n _ P=>P none n
noncomputable def CK(w:DW):Nat->List Slot->(Option Int->Nat->Prop)->Prop:=fun n ρ P=>w n ρ fun d n1=>match d with
 | .int i=>P (some i) n1
 | _=>False
theorem EW:DO X none CC:=⟨_,LX,fun C M H n ρ σ P Q R w q=>q none H n (Ext.refl _ _) R.feed w⟩
theorem Od{U:Addr->Prop}{K:Frag}{M:Addr->Prop}{H H':Hp}{v:V}{i:Int}(h:VR K U M H H' κ v (.int i)):v=.int i:=by
 cases κ with
 | sh=>exact h
 | tp=>exact h
 | fr=>obtain⟨a,_,_,t⟩:=h; exact(show False from t).elim
theorem C2(h:DE X e κ wa):DO X (some e) (CK wa):=by
 obtain⟨t,h1,h2⟩:=h
 refine⟨_,LW h1,fun C M H n ρ σ P Q R w q=>?_⟩
 refine h2 C M H n ρ σ _ _ R w fun v H1 d n1 e1 f1 r1 p=>?_
 cases d with
 | int i=>exact⟨i,Od r1,q _ H1 n1 e1 f1 p⟩
 | _=>exact p.elim
noncomputable def U4(K:Frag)(κ:Kd)(r:V->Option Int->Option Int->Hp->VK->Prop)(f:D->Option Int->Option Int->(D->Prop)->Prop):Prop:=∀(U:Addr->Prop) (M:Addr->Prop) (H:Hp) (d:D) (x:V) (lo hi:Option Int) (P:D->Prop) (Q:VK),(∀a,M a->∃o,H a=some o)->(∀a,U a->M a) ->
 AtT K U M H d x->f d lo hi P->(∀v H' z,Grow H H'->VR K U M H H' κ v z->P z->Q v H')->r x lo hi H Q
noncomputable def NO(f:D->Option Int->Option Int->(D->Prop)->Prop)(w:DW)(wl wh:Nat->List Slot->(Option Int->Nat->Prop)->Prop):DW:=fun n ρ P=>w n ρ fun d n1=>wl n1 ρ fun lo n2=>wh n2 ρ fun hi n3=>f d lo hi fun z=>P z n3
theorem HV{lo hi:Option Expr}{p2:Pos}{r:V->Option Int->Option Int->Hp->VK->Prop}{f:D->Option Int->Option Int->(D->Prop)->Prop}{wl wh:Nat->List Slot->(Option Int->Nat->Prop)->Prop}(hr:SlR X r)(hA:U4 X.K κ r f)(he:DE X e κa wa)(hl:DO X lo wl)(hh:DO X hi wh) :
  DE X (.Subscript e (.Slice lo hi none p2) pos) κ (NO f wa wl wh):=by
 obtain⟨t,h1,h2⟩:=he
 obtain⟨u,g1,g2⟩:=hl
 obtain⟨u',k1,k2⟩:=hh
 refine⟨_,JJ hr h1 g1 k1,fun C M H n ρ σ P Q R w q=>?_⟩
 refine h2 C M H n ρ σ _ _ R w fun v H1 d n1 e1 f1 r1 p=>?_
 have R1:=R.step e1 f1
 have tv:=r1.tpOf R.dom R.vM
 refine g2 C M H1 n1 ρ σ _ _ R1 p fun lo H2 n2 e2 f2 p2=>?_
 have R2':=R1.step e2 f2
 refine k2 C M H2 n2 ρ σ _ _ R2' p2 fun hi H3 n3 e3 f3 p3=>?_
 have R3:=R2'.step e3 f3
 refine hA C.V M H3 d v lo hi _ _ R3.dom R3.vM ((tv.pres (R1.pres e2) e2 R.uV).pres (R2'.pres e3) e3 R.uV) p3 fun v H4 z g vr pz=>?_
 exact q v H4 z n3 (((e1.trans e2).trans e3).trans g.ext) (f3.grow g) (VR.back ((e1.trans e2).trans e3) vr) pz
end
structure E2 where
 nx:Nat->List Slot->Prop
 rt:D->Nat->Prop
 bk:Nat->List Slot->Prop:=fun _ _=>False
 ct:Nat->List Slot->Prop:=fun _ _=>False
noncomputable abbrev Af:=E2->Nat->List Slot->Prop
structure PN (K:Frag) (C:Fm) (κ:Kd) (D2:E2) (E:Ends):Prop where
 nx:∀M H n ρ σ,Rel K C M H n ρ σ->D2.nx n ρ->E.nx σ H
 rt:∀v H d n,Ext C.U C.H0 H->FeedC K C.F C.M0 H n->VR K C.V C.M0 C.H0 H κ v d->D2.rt d n->E.rt v H
 bk:∀M H n ρ σ,Rel K C M H n ρ σ->D2.bk n ρ->E.bk σ H
 ct:∀M H n ρ σ,Rel K C M H n ρ σ->D2.ct n ρ->E.ct σ H
noncomputable def DS(X:Cx)(κ:Kd)(st:Stmt)(w:Af):Prop:=∃t,PS X st t/\∀(C:Fm) (M:Addr->Prop) (H:Hp) (n:Nat) (ρ:List Slot) (σ:L2.St) (D2:E2) (E:Ends),Rel X.K C M H n ρ σ->PN X.K C κ D2 E->w D2 n ρ->t E σ H
noncomputable def PP(X:Cx)(κ:Kd)(st:List Stmt)(w:Af):Prop:=∃t,PSs X st t/\∀(C:Fm) (M:Addr->Prop) (H:Hp) (n:Nat) (ρ:List Slot) (σ:L2.St) (D2:E2) (E:Ends),Rel X.K C M H n ρ σ->PN X.K C κ D2 E->w D2 n ρ->t E σ H
noncomputable def Bj:Af:=fun D2 n ρ=>D2.nx n ρ
noncomputable def AU(u v:Af):Af:=fun D2 n ρ=>u { D2 with nx:=v D2 } n ρ
noncomputable def Bt(w:DW):Af:=fun D2 n ρ=>w n ρ fun d n1=>D2.rt d n1
noncomputable def CU(t:FN)(u v:Af):Af:=fun D2 n ρ=>t n ρ fun c n1=>if c=true then u D2 n1 ρ else v D2 n1 ρ
noncomputable def A4(i:Nat)(w:DW):Af:=fun D2 n ρ=>w n ρ fun d n1=>D2.nx n1 (ρ.set i (.sh d))
section
variable {X:Cx}{κ κe:Kd}{st:Stmt}{rest:List Stmt}{u v:Af}{wa:DW}{wA:FN}{e c:Expr}{pos:Pos}
theorem A9:PP X κ [] Bj:=⟨_,H_,fun C M H n ρ σ D2 E R L w=>L.nx M H n ρ σ R w⟩
theorem AE(h1:DS X κ st u)(h2:PP X κ rest v):PP X κ (st::rest) (AU u v):=by
 obtain⟨t,a1,a2⟩:=h1
 obtain⟨t',b1,b2⟩:=h2
 refine⟨_,A1 a1 b1,fun C M H n ρ σ D2 E R L w=>?_⟩
 exact a2 C M H n ρ σ { D2 with nx:=v D2 } { E with nx:=t' E } R ⟨fun M H n ρ σ R w=>b2 C M H n ρ σ D2 E R L w,L.rt,L.bk,L.ct⟩ w
theorem AL(h1:DS X κ st u):PP X κ [st] u:=by
 obtain⟨t,a1,a2⟩:=h1
 exact⟨t,CZ a1,a2⟩
theorem Rg{K:Frag}{C:Fm}{M:Addr->Prop}{H H':Hp}{n n':Nat}{ρ:List Slot}{σ:L2.St}{D2:E2}{E:Ends}{d:D}{v:V}(R:Rel K C M H n ρ σ)(L:PN K C κ D2 E)(e:Ext C.U H H')(f:FeedC K C.F M H' n')(r:VR K C.V M H H' κ v d)(hk:κ≠.tp)(p:D2.rt d n'):E.rt v H':=by
 have less:Pres M H' C.M0 H':=Pres.less R.sub
 refine L.rt v H' d n' (R.ext.trans e) (f.pres less fun _ _ _ z=>z) ?_ p
 cases κ with
 | sh=>exact At.pres less r
 | tp=>exact absurd rfl hk
 | fr =>
  have r':=VR.back (κ:=.fr) R.ext r
  obtain⟨a,e1,h1,h2⟩:=r'
  exact⟨a,e1,h1,h2.pres (Pres.less fun b z=>z.imp (R.sub b) id) fun _ z=>z⟩
theorem A5(h:DE X e κ wa)(hk:κ≠.tp:=by intro z; cases z):DS X κ (.Return (some e) pos) (Bt wa):=by
 obtain⟨t,a1,a2⟩:=h
 refine⟨_,Dy a1,fun C M H n ρ σ D2 E R L w=>?_⟩
 exact a2 C M H n ρ σ _ _ R w fun v H' d n' e1 f1 r1 p=>Rg R L e1 f1 r1 hk p
theorem CA{a b:List Stmt}(hc:DT X c wA)(ha:PP X κ a u)(hb:PP X κ b v):DS X κ (.If c a b pos) (CU wA u v):=by
 obtain⟨t,a1,a2⟩:=hc
 obtain⟨t',b1,b2⟩:=ha
 obtain⟨t'',c1,c2⟩:=hb
 refine⟨_,N9 a1 b1 c1,fun C M H n ρ σ D2 E R L w=>?_⟩
 refine a2 C M H n ρ σ _ _ R w fun b H1 n1 e1 f1 p=>?_
 cases b with
 | true=>exact b2 C M H1 n1 ρ σ D2 E (R.step e1 f1) L p
 | false=>exact c2 C M H1 n1 ρ σ D2 E (R.step e1 f1) L p
theorem An{i:Nat}{x:Str}{pos':Pos}(hN:X.N.Nodup)(hi:X.N[i]?=some x)(hx:Loc X.env.scope x)(he:DE X e κe wa)(hk:κe≠.tp:=by intro z; cases z)(hs:swapsWith e (some (.Name x pos')) pos.line X.env=pure false:=by rfl)
  (hf:X.fn x=true\/X.env.scope.names.lookup x=some .local:=by first | exact .inl rfl | exact .inr rfl | assumption):DS X κ (.Assign [.Name x pos'] e pos) (A4 i wa):=by
 obtain⟨t,a1,a2⟩:=he
 refine⟨_,C_ hN hi hx a1 hs hf,fun C M H n ρ σ D2 E R L w=>?_⟩
 refine a2 C M H n ρ σ _ _ R w fun v H' d n' e1 f1 r1 p=>?_
 exact L.nx M H' n' _ _ ((R.step e1 f1).set (r1.shOf R.dom hk)) p
end
section
variable {X:Cx}{κ κe:Kd}{e:Expr}{wa:DW}{pos:Pos}
noncomputable def CW(i:Nat)(w:DW):Af:=fun D2 n ρ=>w n ρ fun d n1=>D2.nx n1 (ρ.set i (.ow d))
theorem Br{i:Nat}{x:Str}{pos':Pos}(hN:X.N.Nodup)(hi:X.N[i]?=some x)(hx:Loc X.env.scope x)(he:DE X e .fr wa)(hs:swapsWith e (some (.Name x pos')) pos.line X.env=pure false:=by rfl)
  (hf:X.fn x=true\/X.env.scope.names.lookup x=some .local:=by first | exact .inl rfl | exact .inr rfl | assumption):DS X κ (.Assign [.Name x pos'] e pos) (CW i wa):=by
 obtain⟨t,a1,a2⟩:=he
 refine⟨_,C_ hN hi hx a1 hs hf,fun C M H n ρ σ D2 E R L w=>?_⟩
 refine a2 C M H n ρ σ _ _ R w fun v H' d n' e1 f1 r1 p=>?_
 obtain⟨a,rfl,h1,h2⟩:=r1
 exact L.nx _ H' n' _ _ (R.setOw e1 f1 h1 h2) p
noncomputable def NS(i:Nat):Af:=fun D2 n ρ=>∃d,ρ[i]?=some (.ow d)/\D2.rt d n
theorem QU{x:Str}{p:Pos}(i:Nat)(h:PE X (.Name x p) (BR i)):DS X .fr (.Return (some (.Name x p)) pos) (NS i):=by
 refine⟨_,Dy h,fun C M H n ρ σ D2 E R L ⟨d,hd,hw⟩=>?_⟩
 obtain⟨a,e1,m,nv,t⟩:=R.sl i _ hd
 refine⟨.ref a,getD_some e1,L.rt _ H d n R.ext (R.feed.pres (Pres.less R.sub) fun _ _ _ z=>z) ⟨a,rfl,(R.new i _ a hd rfl e1).2,?_⟩ hw⟩
 exact t.pres (Pres.less fun b z=>z.elim (R.sub b) fun z=>by rw [z]; exact m) fun _ z=>z
noncomputable def Ss(K:Frag)(r:V->List V->Hp->VK->Prop)(f:D->List D->(D->D->Prop)->Prop):Prop:=∀(M:Addr->Prop) (H:Hp) (a:Addr) (d:D) (ds:List D) (vs:List V) (P:D->D->Prop) (Q:VK),M a->Tops K M H a d->Ats K M H ds vs->f d ds P ->
 (∀o e z v,Tops K M (Ax H a o) a e->At K M (Ax H a o) z v->P e z->Q v (Ax H a o))->r (.ref a) vs H Q
noncomputable def L7(i:Nat)(T:String)(f:D->List D->(D->D->Prop)->Prop)(ws:EA):Af:=fun D2 n ρ=>∃d,ρ[i]?=some (.ow d)/\Ti T d/\ws n ρ fun ds n1=>f d ds fun e _=>D2.nx n1 (ρ.set i (.ow e))
theorem Dd{M:Addr->Prop}{H:Hp}{a:Addr}{o:HO}(m:M a):Pres M H M (Ax H a o):=⟨fun b o' q nb=>by rw [AI (fun z=>nb (by rw [z]; exact m))]; exact q,fun _ z=>.inl z⟩
theorem E8{x name:Str}{p apos cpos:Pos}{T id:String}{r:V->List V->Hp->VK->Prop}{f:D->List D->(D->D->Prop)->Prop}{es:List Expr}{ws:EA}(i:Nat)(pa:PlainAttrs T)(slot:PySem.Slot T name id)(hty:typeOf (.builtin id)=pure (.type "method_descriptor"))
  (hm:UH X id r) (hA:Ss X.K r f) (h:PE X (.Name x p) (BR i)) (ha:S1 X (e::es) ws)
  (hbase:attributeBase (.Name x p) name X.env (eval (.Name x p) X.env)=eval (.Name x p) X.env:=by rfl)
  (hfew:((backTo cpos (starEach (e::es) X.env)).all (fun x=>!x.1)&&(backToKw cpos (keywordEach [] X.env)).all (fun x=>x.1.isSome)
   && decide ((e::es).length+([]:List Keyword).length+(if ([]:List Keyword).isEmpty then 0 else 1)<30))=true:=by rfl)
  (hline:(apos.endLine==cpos.line)=true:=by rfl) (hs:starEach (e::es) X.env=(false,eval e X.env)::starEach es X.env:=by rfl) (hplain:(backTo cpos (starEach es X.env)).any (·.1)=false:=by rfl)
  (hsw:swapsWith (.Call (.Attribute (.Name x p) name apos) (e::es) [] cpos) none pos.line X.env=pure false:=by rfl) :
  DS X κ (.Expr (.Call (.Attribute (.Name x p) name apos) (e::es) [] cpos) pos) (L7 i T f ws):=by
 obtain⟨t,a1,a2⟩:=ha
 refine⟨_,LV (Lc pa slot hty hm h a1 hbase hfew hline hs hplain) hsw,fun C M H n ρ σ D2 E R L ⟨d,hd,hT,hw⟩=>?_⟩
 obtain⟨a,e1,m,nv,tt⟩:=R.sl i _ hd
 refine⟨.ref a,getD_some e1,IL hT (tt.att nv),?_⟩
 refine a2 C M H n ρ σ _ _ R hw fun vs H1 ds n1 ee f1 r1 p=>?_
 have R1:=R.step ee f1
 obtain⟨a',e1',m',nv',tt'⟩:=R1.sl i _ hd
 rw [e1] at e1'
 cases e1'
 exact hA M H1 a d ds vs _ _ m' tt' r1 p fun o d' z v t2 hz pp=>L.nx M _ n1 _ σ (R1.mut hd e1 t2) pp
noncomputable def FL(d:D)(ds:List D)(P:D->D->Prop):Prop:=∃xs y,d=.lst xs/\ds=[y]/\xs.length<sizeLine/\P (.lst (xs++[y])) .non
theorem FC{K:Frag}:Ss K LR FL:=by
 intro M H a d ds vs P Q m t hv w q
 obtain⟨xs,y,rfl,rfl,hl,w⟩:=w
 obtain⟨us,h1,h2⟩:=t
 obtain⟨u,r,rfl,hu,hr⟩:=hv
 cases (show r=[] from hr)
 refine⟨a,us,u,rfl,rfl,h1,by rw [h2.length]; exact hl,q _ (.lst (xs++[y])) .non _ ⟨us++[u],AM,?_⟩ rfl w⟩
 exact(h2.append (Ats.one hu)).pres (Dd m)
end
noncomputable def Yields(K:Frag)(M:Addr->Prop)(H:Hp)(J:It)(ds:List D):Prop:=∀(i:Nat) (M':Addr->Prop) (H':Hp),Pres M H M' H'->(∀a,M' a->∃o,H' a=some o) ->
 (∀d,ds[i]?=some d->J.go i H'/\∀x H2,J.yld i H' x H2->Grow H' H2/\At K M' H2 d x)/\(ds.length<=i->J.stop i H')
noncomputable def L0(K:Frag)(U M:Addr->Prop)(H:Hp)(J:It)(ds:List D):Prop:=∀(i:Nat) (M':Addr->Prop) (H':Hp),Pres M H M' H'->Ext U H H'->(∀a,M' a->∃o,H' a=some o) ->
 (∀d,ds[i]?=some d->J.go i H'/\∀x H2,J.yld i H' x H2->Grow H' H2/\At K M' H2 d x)/\(ds.length<=i->J.stop i H')
theorem Yields.e{K:Frag}{U M:Addr->Prop}{H:Hp}{J:It}{ds:List D}(h:Yields K M H J ds):L0 K U M H J ds:=fun i M' H' p _ d=>h i M' H' p d
noncomputable def UL(X:Cx)(tg iter:Expr)(w:EA):Prop:=∃wi,PI X tg iter wi/\∀(C:Fm) (M:Addr->Prop) (H:Hp) (n:Nat) (ρ:List Slot) (σ:L2.St) (P:List D->Nat->Prop) (R:It->Hp->Prop),Rel X.K C M H n ρ σ->w n ρ P ->
 (∀J H' ds n',Ext C.U H H'->FeedC X.K C.F M H' n'->L0 X.K C.U M H' J ds->P ds n'->R J H')->wi σ H R
noncomputable def DI(X:Cx)(tg iter:Expr)(w:EA):Prop:=∃wi,PI X tg iter wi/\∀(C:Fm) (M:Addr->Prop) (H:Hp) (n:Nat) (ρ:List Slot) (σ:L2.St) (P:List D->Nat->Prop) (R:It->Hp->Prop),Rel X.K C M H n ρ σ->w n ρ P ->
 (∀J H' ds n',Ext C.U H H'->FeedC X.K C.F M H' n'->Yields X.K M H' J ds->P ds n'->R J H')->wi σ H R
noncomputable def signs(x:Str):List D:=x.cps.toList.map fun c=>.str ⟨#[c]⟩
noncomputable def Bv(w:DW):EA:=fun n ρ P=>w n ρ fun d n1=>match d with
 | .lst ds=>P ds n1
 | .tup ds=>P ds n1
 | .str x=>P (signs x) n1
 | _=>False
theorem Iq{K:Frag}{M:Addr->Prop}{H:Hp}{a:Addr}{vs:List V}{ds:List D}(h:NdL M H a vs)(hs:Ats K M H ds vs):Yields K M H (U9 K a) ds:=by
 intro i M' H' p _
 have hq:SqL K H' a vs:=(h.pres p).sq
 refine⟨fun d hd=>?_,fun hl=>⟨vs,hq,by rw [hs.length]; exact hl⟩⟩
 obtain⟨v,e,hv⟩:=(hs.pres p).get hd
 refine⟨⟨vs,v,hq,e⟩,fun x H2 y=>?_⟩
 obtain⟨e2,y⟩:=y
 subst e2
 have:some v=some x:=e.symm.trans (y vs hq)
 cases this
 exact⟨.refl,hv⟩
theorem Fb{K:Frag}{M:Addr->Prop}{H:Hp}{a:Addr}{vs:List V}{ds:List D}(h:NdT M H a vs)(hs:Ats K M H ds vs):Yields K M H (Sv K a) ds:=by
 intro i M' H' p _
 have hq:SqT K H' a vs:=(h.pres p).sq
 refine⟨fun d hd=>?_,fun hl=>⟨vs,hq,by rw [hs.length]; exact hl⟩⟩
 obtain⟨v,e,hv⟩:=(hs.pres p).get hd
 refine⟨⟨vs,v,hq,e⟩,fun x H2 y=>?_⟩
 obtain⟨e2,y⟩:=y
 subst e2
 have:some v=some x:=e.symm.trans (y vs hq)
 cases this
 exact⟨.refl,hv⟩
theorem yields_str{K:Frag}{M:Addr->Prop}{H:Hp}{z:Str}:Yields K M H (U8 z) (signs z):=by
 intro i M' H' p _
 refine⟨fun d hd=>?_,fun hl=>?_⟩
 ·unfold signs at hd
  rw [List.getElem?_map] at hd
  have hi:i<z.cps.size:=by
   cases q:z.cps.toList[i]? with
   | none=>rw [q] at hd; cases hd
   | some c=>simpa using (List.getElem?_eq_some_iff.mp q).1
  refine⟨hi,fun x H2 y=>?_⟩
  obtain⟨e2,c,hc,rfl⟩:=y
  subst e2
  have:z.cps.toList[i]?=some c:=by simpa using hc
  rw [this] at hd
  have hd':D.str ⟨#[c]⟩=d:=Option.some.inj hd
  subst hd'
  exact⟨.refl,rfl,by rw [sizeLine_eq]; show 1<=16777216; decide⟩
 ·show z.cps.size<=i
  unfold signs at hl
  simpa using hl
noncomputable def B7(lo:Int)(n:Nat):List D:=(List.range n).map fun(i:Nat)=>.int (lo+(i:Int))
theorem EB{K:Frag}{M:Addr->Prop}{H:Hp}{lo:Int}{m:Nat}:Yields K M H (UJ lo m) (B7 lo m):=by
 intro i M' H' p _
 refine⟨fun d hd=>?_,fun hl=>?_⟩
 ·unfold B7 at hd
  rw [List.getElem?_map] at hd
  have hi:i<m:=by
   cases q:(List.range m)[i]? with
   | none=>rw [q] at hd; cases hd
   | some c=>simpa using (List.getElem?_eq_some_iff.mp q).1
  rw [List.getElem?_range hi] at hd
  have hd':D.int (lo+i)=d:=Option.some.inj hd
  subst hd'
  refine⟨hi,fun x H2 y=>?_⟩
  obtain⟨e2,e3⟩:=y
  subst e2
  exact⟨.refl,e3⟩
 ·show m<=i
  unfold B7 at hl
  simpa using hl
section
variable {X:Cx}{tg e e2:Expr}{es:List Expr}{κ:Kd}{wa:DW}{ws:EA}{p pos:Pos}
theorem Oz(h:DE X e κ wa)(hk:κ≠.tp:=by intro z; cases z):DI X tg e (Bv wa):=by
 obtain⟨t,a1,a2⟩:=h
 refine⟨_,Ka a1,fun C M H n ρ σ P Rr R w q=>?_⟩
 refine a2 C M H n ρ σ _ _ R w fun v H1 d n1 e1 f1 r1 p=>?_
 have hv:=r1.shOf R.dom hk
 cases d with
 | lst ds =>
  obtain⟨a,vs,e,hn,hs⟩:=hv
  exact .inl ⟨a,e,⟨vs,hn.sq⟩,q _ H1 ds n1 e1 f1 (Iq hn hs) p⟩
 | tup ds =>
  obtain⟨a,vs,e,hn,hs⟩:=hv
  exact .inr (.inl ⟨a,e,⟨vs,hn.sq⟩,q _ H1 ds n1 e1 f1 (Fb hn hs) p⟩)
 | str z=>exact .inr (.inr ⟨z,hv.1,q _ H1 _ n1 e1 f1 yields_str p⟩)
 | _=>exact p.elim
noncomputable def CY(ws:EA):EA:=fun n ρ P=>ws n ρ fun ds n1=>∃j:Int,ds=[.int j]/\(-(2 ^ 62)<=j/\j<2 ^ 62)/\P (B7 0 j.toNat) n1
theorem BZ(hg:Gl X "range")(hm:X.mg "range"=none)(ha:RH X [e] ws)(hs:starEach [e] X.env=[(false,eval e X.env)]:=by rfl):DI X tg (.Call (.Name "range" p) [e] [] pos) (CY ws):=by
 obtain⟨t,a1,a2⟩:=ha
 refine⟨_,MQ hg hm a1 hs,fun C M H n ρ σ P Rr R w q=>?_⟩
 refine a2 C M H n ρ σ _ _ R w fun vs H1 ds n1 e1 f1 r1 p=>?_
 obtain⟨j,rfl,hj,p⟩:=p
 cases r1 with
 | cons r rr =>
  cases rr
  have hv:_=V.int j:=r
  exact⟨j,by rw [hv],hj.1,hj.2,q _ H1 _ n1 e1 f1 EB p⟩
theorem DI.c(h:DI X tg e ws):UL X tg e ws:=by
 obtain⟨wi,a1,a2⟩:=h
 exact⟨wi,a1,fun C M H n ρ σ P Rr R w q=>a2 C M H n ρ σ P Rr R w fun J H' ds n' e1 f1 y p=>q J H' ds n' e1 f1 y.e p⟩
theorem C3(h:DE X e κ wa):UL X tg e (Bv wa):=by
 obtain⟨t,a1,a2⟩:=h
 refine⟨_,Ka a1,fun C M H n ρ σ P Rr R w q=>?_⟩
 refine a2 C M H n ρ σ _ _ R w fun v H1 d n1 e1 f1 r1 p=>?_
 have hv:AtT X.K C.V M H1 d v:=r1.tpOf R.dom R.vM
 cases d with
 | lst ds =>
  obtain⟨a,vs,e,nv,hr,hs⟩:=hv
  refine .inl ⟨a,e,⟨vs,.inl hr⟩,q _ H1 ds n1 e1 f1 (fun i M' H' pr ex _=>?_) p⟩
  have hq:SqL X.K H' a vs:=by
   rcases hr with hr | ⟨o,hr⟩
   ·exact .inl (.inl (ex.keep hr fun z=>nv (R.uV a z)))
   ·exact .inl (.inr ⟨o,ex.keep hr fun z=>nv (R.uV a z)⟩)
  refine⟨fun d hd=>?_,fun hl=>⟨vs,hq,by rw [hs.length]; exact hl⟩⟩
  obtain⟨v,e,hv⟩:=(hs.pres pr).get hd
  refine⟨⟨vs,v,hq,e⟩,fun x H2 y=>?_⟩
  obtain⟨e2,y⟩:=y
  subst e2
  have:some v=some x:=e.symm.trans (y vs hq)
  cases this
  exact⟨.refl,hv⟩
 | tup ds =>
  obtain⟨a,vs,e,hn,hs⟩:=hv
  exact .inr (.inl ⟨a,e,⟨vs,hn.sq⟩,q _ H1 ds n1 e1 f1 (Fb hn hs).e p⟩)
 | str z=>exact .inr (.inr ⟨z,hv.1,q _ H1 _ n1 e1 f1 yields_str.e p⟩)
 | _=>exact p.elim
end
noncomputable abbrev BW:=D->List Slot->(List Slot->Prop)->Prop
noncomputable def DG(X:Cx)(tg:Expr)(b:BW):Prop:=∃g,PG X tg g/\∀(C:Fm) (M:Addr->Prop) (H:Hp) (n:Nat) (ρ:List Slot) (σ:L2.St) (d:D) (v:V) (P:List Slot->Prop) (Q:L2.St->Hp->Prop),Rel X.K C M H n ρ σ->At X.K M H d v->b d ρ P ->
 (∀ρ' σ',Rel X.K C M H n ρ' σ'->P ρ'->Q σ' H)->g v σ H Q
noncomputable def Ao(i:Nat):BW:=fun d ρ P=>P (ρ.set i (.sh d))
theorem Ai{X:Cx}{i:Nat}{x:Str}{pos:Pos}(hN:X.N.Nodup)(hi:X.N[i]?=some x)(hx:Loc X.env.scope x)(hf:X.fn x=true\/X.env.scope.names.lookup x=some .local:=by first | exact .inl rfl | exact .inr rfl | assumption):DG X (.Name x pos) (Ao i) :=
 ⟨_,EM hN hi hx hf,fun C M H n ρ σ d v P Q R h w q=>q _ _ (R.set h) w⟩
noncomputable def Bb(b:BW)(body:Af)(D2:E2):List D->Nat->List Slot->Prop
 | [],n,ρ=>D2.nx n ρ
 | d::ds,n,ρ=>b d ρ fun ρ1=>body { D2 with nx:=Bb b body D2 ds,ct:=Bb b body D2 ds,bk:=D2.nx } n ρ1
noncomputable def FE(src:EA)(b:BW)(body:Af):Af:=fun D2 n ρ=>src n ρ fun ds n1=>Bb b body D2 ds n1 ρ
theorem Rel.unpin{K:Frag}{C:Fm}{p:(Addr->Prop)×Hp}{M:Addr->Prop}{H:Hp}{n:Nat}{ρ:List Slot}{σ:L2.St}(R:Rel K { C with pins:=p::C.pins } M H n ρ σ):Rel K C M H n ρ σ :=
 ⟨R.len,R.sub,R.dom,R.ext,R.fU,R.uV,R.vM,R.feed,R.sl,fun q hq=>R.pin q (List.mem_cons_of_mem _ hq),R.br0,R.new,R.two,R.kept⟩
theorem Rel.pinned{K:Frag}{C:Fm}{M:Addr->Prop}{H:Hp}{n:Nat}{ρ:List Slot}{σ:L2.St}(R:Rel K C M H n ρ σ):Rel K { C with pins:=(M,H)::C.pins } M H n ρ σ :=
 ⟨R.len,R.sub,R.dom,R.ext,R.fU,R.uV,R.vM,R.feed,R.sl,fun q hq=>(List.mem_cons.mp hq).elim (fun e=>e▸Pres.refl M H) (R.pin q),R.br0,R.new,R.two,R.kept⟩
section
variable {X:Cx}{κ:Kd}{tg iter:Expr}{body:List Stmt}{src:EA}{b:BW}{wb:Af}{pos:Pos}
theorem C1(hp:PassesOwn (model X.prog X.w) X.A X.env X.xe)(hc:X.calm=true)(hi:DI X tg iter src)(hg:DG X tg b)(hb:PP X κ body wb)
  (hs:∀x,foldedSetIterable iter X.env x=pure x:=by intro _; rfl):DS X κ (.For tg iter body [] pos) (FE src b wb):=by
 obtain⟨wi,a1,a2⟩:=hi
 obtain⟨g,g1,g2⟩:=hg
 obtain⟨tb,b1,b2⟩:=hb
 refine⟨_,IA hp hc a1 g1 b1 hs,fun C M H n ρ σ D2 E R L w=>?_⟩
 refine a2 C M H n ρ σ _ _ R w fun J H1 ds n1 e1 f1 y w1=>?_
 have R1:=R.step e1 f1
 refine⟨fun i m σ' H'=>m=ds.length - i/\i<=ds.length/\∃M' n' ρ',Rel X.K { C with pins:=(M,H1)::C.pins } M' H' n' ρ' σ'/\Bb b wb D2 (ds.drop i) n' ρ',⟨ds.length,by simp,Nat.zero_le _,M,n1,ρ,R1.pinned,w1⟩,?_⟩
 rintro i m σ' H' ⟨rfl,hi,M',n',ρ',R',w'⟩
 have pr:Pres M H1 M' H':=R'.pin (M,H1) List.mem_cons_self
 by_cases hlt:i<ds.length
 ·have ed:ds.drop i=ds[i]::ds.drop (i+1):=List.drop_eq_getElem_cons hlt
  rw [ed] at w'
  obtain⟨go,yl⟩:=(y i M' H' pr R'.dom).1 ds[i] (List.getElem?_eq_getElem hlt)
  refine .inr ⟨go,fun σ2 H2=>∃M2 n2 ρ2,Rel X.K { C with pins:=(M,H1)::C.pins } M2 H2 n2 ρ2 σ2/\Bb b wb D2 (ds.drop (i+1)) n2 ρ2,fun σ2 H2 ⟨M2,n2,ρ2,R2',w2⟩=>⟨ds.length - (i+1),by omega,rfl,hlt,M2,n2,ρ2,R2',w2⟩,fun x H2 hy=>?_⟩
  obtain⟨gr,hx⟩:=yl x H2 hy
  have R2':=R'.step gr.ext (R'.feed.grow gr)
  refine g2 _ M' H2 n' ρ' σ' ds[i] x _ _ R2' hx w' fun ρ3 σ3 R3 w3=>?_
  refine b2 _ M' H2 n' ρ3 σ3 { D2 with nx:=Bb b wb D2 (ds.drop (i+1)),ct:=Bb b wb D2 (ds.drop (i+1)),bk:=D2.nx } _ R3 ⟨fun M4 H4 n4 ρ4 σ4 R4 w4=>⟨M4,n4,ρ4,R4,w4⟩,L.rt,fun M4 H4 n4 ρ4 σ4 R4 w4=>L.nx M4 H4 n4 ρ4 σ4 R4.unpin w4,fun M4 H4 n4 ρ4 σ4 R4 w4=>⟨M4,n4,ρ4,R4,w4⟩⟩ w3
 ·have e:i=ds.length:=by omega
  subst e
  rw [List.drop_length] at w'
  exact .inl ⟨(y _ M' H' pr R'.dom).2 (Nat.le_refl _),L.nx M' H' n' ρ' σ' R'.unpin w'⟩
end
noncomputable def CL(b:BW)(tt:FN)(te:DW)(P:List D->Nat->Prop):List D->List D->Nat->List Slot->Prop
 | [],acc,n,_=>P acc n
 | d::ds,acc,n,ρ=>b d ρ fun ρ1=>tt n ρ1 fun c n1=>if c=true then te n1 ρ1 fun y n2=>CL b tt te P ds (acc++[y]) n2 ρ1 else CL b tt te P ds acc n1 ρ1
noncomputable def Ml:Slot->Slot
 | .ow d=>.br d
 | .lt _ d=>.br d
 | s=>s
theorem Mj(s:Slot):(Ml s).owns=false:=by cases s <;> rfl
theorem Cw{js:List (Option Nat)}{ρ:List Slot}{i:Nat}{s:Slot}(h:(js.map fun o=>match o with | some i=>Ml ((ρ[i]?).getD .no) | none=>Slot.no)[i]?=some s):s.owns=false:=by
 rw [List.getElem?_map] at h
 cases q:js[i]? with
 | none=>rw [q] at h; cases h
 | some o =>
  rw [q] at h
  cases o with
  | none =>
   have e:Slot.no=s:=Option.some.inj h
   rw [← e]; rfl
  | some j =>
   have e:Ml ((ρ[j]?).getD .no)=s:=Option.some.inj h
   rw [← e]; exact Mj _
noncomputable def EO(js:List (Option Nat))(ρ:List Slot):List Slot:=js.map fun o=>match o with
 | some i=>Ml ((ρ[i]?).getD .no)
 | none=>.no
noncomputable def Bu(js:List (Option Nat))(src:EA)(b:BW)(tt:FN)(te:DW):DW:=fun n ρ P=>src n ρ fun ds n1=>ds.length<=10000000/\CL b tt te (fun acc n2=>P (.lst acc) n2) ds [] n1 (EO js ρ)
noncomputable def UK(X:Cx)(ifs:List Expr)(w:FN):Prop:=∃t,UC X ifs t/\∀(C:Fm) (M:Addr->Prop) (H:Hp) (n:Nat) (ρ:List Slot) (σ:L2.St) (P:Bool->Nat->Prop) (Q:Bool->Hp->Prop),Rel X.K C M H n ρ σ->w n ρ P ->
 (∀b H' n',Ext C.U H H'->FeedC X.K C.F M H' n'->P b n'->Q b H')->t σ H Q
noncomputable def Cs:FN:=fun n _ P=>P true n
theorem Cc{X:Cx}:UK X [] Cs:=⟨_,Px,fun C M H n ρ σ P Q R w q=>q true H n (Ext.refl _ _) R.feed w⟩
theorem IT{X:Cx}{c:Expr}{w:FN}(h:DT X c w):UK X [c] w:=by
 obtain⟨t,h1,h2⟩:=h
 exact⟨t,Pw h1,h2⟩
theorem HK{js:List (Option Nat)}{ρ:List Slot}{σ:L2.St}{i:Nat}{s:Slot}(hs:(EO js ρ)[i]?=some s):s=.no\/∃(j:Nat) (s':Slot),ρ[j]?=some s'/\s=Ml s'/\((B0 js σ)[i]?).getD none=(σ[j]?).getD none:=by
 unfold EO at hs
 unfold B0
 rw [List.getElem?_map] at hs ⊢
 cases q:js[i]? with
 | none=>rw [q] at hs; cases hs
 | some o =>
  rw [q] at hs
  cases o with
  | none=>exact .inl (Option.some.inj hs).symm
  | some j =>
   have e:Ml ((ρ[j]?).getD .no)=s:=Option.some.inj hs
   cases q2:ρ[j]? with
   | none=>rw [q2] at e; exact .inl e.symm
   | some s' =>
    rw [q2] at e
    exact .inr ⟨j,s',q2,e.symm,rfl⟩
theorem JX{K:Frag}{F:Option (Addr×Addr)}{U U' M M':Addr->Prop}{H H':Hp}{js:List (Option Nat)}{ρ:List Slot}{σ:L2.St}(hsl:∀(i:Nat) (s:Slot),ρ[i]?=some s->SlotOk K F U M H s ((σ[i]?).getD none))
  (pr:Pres M H M' H') (br:∀d v,AtT K U M H d v->AtT K U' M' H' d v):∀(i:Nat) (s:Slot),(EO js ρ)[i]?=some s->SlotOk K F U' M' H' s (((B0 js σ)[i]?).getD none):=by
 intro i s hs
 rcases HK (σ:=σ) hs with rfl | ⟨j,s',q,rfl,e⟩
 ·trivial
 ·rw [e]
  have h1:=hsl j s' q
  cases s' with
  | no=>trivial
  | sh d=>obtain⟨v,e1,h2⟩:=h1; exact⟨v,e1,h2.pres pr⟩
  | br d=>obtain⟨v,e1,h2⟩:=h1; exact⟨v,e1,br d v h2⟩
  | fd=>exact h1
  | ow d=>obtain⟨a,e1,_,nv,t⟩:=h1; exact⟨.ref a,e1,br d _ (t.att nv)⟩
  | lt a d=>obtain⟨e1,_,nv,t⟩:=h1; exact⟨.ref a,e1,br d _ (t.att nv)⟩
theorem Lh{K:Frag}{F:Option (Addr×Addr)}{U M:Addr->Prop}{H:Hp}{js:List (Option Nat)}{ρ:List Slot}{σ:L2.St}(hsl:∀(i:Nat) (s:Slot),ρ[i]?=some s->SlotOk K F U M H s ((σ[i]?).getD none)){i:Nat}{d:D}{a:Addr}
  (hs:(EO js ρ)[i]?=some (.br d)) (ha:((B0 js σ)[i]?).getD none=some (.ref a)):∃o,H a=some o:=by
 rcases HK (σ:=σ) hs with z | ⟨j,s',q,z,e⟩
 ·cases z
 ·rw [e] at ha
  have h1:=hsl j s' q
  rw [ha] at h1
  cases s' with
  | br d=>obtain⟨v,e1,h2⟩:=h1; cases e1; exact h2.lies
  | ow d=>obtain⟨b,e1,_,nv,t⟩:=h1; cases e1; exact(t.att nv).lies
  | lt b d=>obtain⟨e1,_,nv,t⟩:=h1; cases e1; exact(t.att nv).lies
  | no=>cases z
  | sh d=>cases z
  | fd=>cases z
section
variable {X:Cx}{κe:Kd}{tg elt iter:Expr}{ifs:List Expr}{sc:Scope}{pos:Pos}{src:EA}{b:BW}{tt:FN}{te:DW}
theorem B1(hc:X.calm=true)(N':List Str)(js:List (Option Nat))(hi:UL X tg iter src)(hg:∀cl C s H fp,DG (Ap X sc N' cl C s H fp) tg b)(ht:∀cl C s H fp,UK (Ap X sc N' cl C s H fp) ifs tt)(he:∀cl C s H fp,DE (Ap X sc N' cl C s H fp) elt κe te)
  (hB:GX sc X.env.scope X.N N' js=true) (hk:κe≠.tp:=by intro z; cases z)
  (hs:∀x,foldedSetIterable iter X.env x=pure x:=by intro _; rfl):DE X (.ListComp elt [⟨tg,iter,ifs,0⟩] sc pos) .fr (Bu js src b tt te):=by
 obtain⟨wi,a1,a2⟩:=hi
 refine⟨_,P0 hc N' js a1 hB hs,fun C M H n ρ σ P Q R w q=>?_⟩
 refine a2 C M H n ρ σ _ _ R w fun J H1 ds n1 e1 f1 y w1=>?_
 obtain⟨hlen,w1⟩:=w1
 have R1:=R.step e1 f1
 intro l hl hkl cl Ca s0 H0 fp
 obtain⟨g,g1,g2⟩:=hg cl Ca s0 H0 fp
 obtain⟨tc,c1,c2⟩:=ht cl Ca s0 H0 fp
 obtain⟨tx,x1,x2⟩:=he cl Ca s0 H0 fp
 have noU:¬C.U l:=fun z=>by
  obtain⟨o,z⟩:=R1.udom l z
  rw [hl] at z; cases z
 generalize hM':(fun b=>M b\/b=l)=M'
 have M'l:M' l:=by rw [← hM']; exact .inr rfl
 have M'of:∀b,M b->M' b:=fun b z=>by rw [← hM']; exact .inl z
 have ofM':∀b,M' b->M b\/b=l:=fun b z=>by rw [← hM'] at z; exact z
 have inV:∀b,C.V b\/b=l->M' b:=fun b z=>z.elim (fun z=>M'of b (R1.vM b z)) fun z=>by rw [z]; exact M'l
 have lenj:js.length=N'.length:=DL (CompOk.of hB).cap
 refine⟨g,tc,tx,fun i m σ' H'=>m=ds.length - i/\i<=ds.length/\∃n' ρ' acc vs,Rel X.K ⟨M',C.F,C.U,fun b=>C.V b\/b=l,H1,[],[]⟩ M' H' n' ρ' σ'/\H' l=some (.lst vs)/\Ats X.K M' H' acc vs/\acc.length<=i/\Pres M H1 M' H' /\
   CL b tt te (fun acc n2=>P (.lst acc) n2) (ds.drop i) acc n' ρ',g1,c1,x1,⟨ds.length,by simp,Nat.zero_le _,n1,EO js ρ,[],[],?_⟩,?_⟩
 ·have gr:Grow H1 (Ax H1 l (.lst [])):=Am hl
  have pr:Pres M H1 M' (Ax H1 l (.lst [])):=⟨fun b o e _=>gr.all b o e,fun b z=>(ofM' b z).elim .inl fun z=>.inr (by rw [z]; exact hl)⟩
  refine⟨⟨?_,fun a z=>z,fun a z=>?_,gr.ext,R1.fU,fun a z=>.inl (R1.uV a z),inV,f1.pres pr fun f o _ e=>gr.all f.1 o e,?_,fun p hp=>absurd hp (by simp),fun i d a q z=>Lh R1.sl q z,fun i s a q o _=>absurd o (by rw [Cw q]; decide),fun i j s t a q o _ _ _ _=>absurd o (by rw [Cw q]; decide),fun p hp=>absurd hp (by simp)⟩,AM,rfl,Nat.zero_le _,pr,w1⟩
  ·unfold EO B0
   rw [List.length_map,List.length_map]
  ·rcases ofM' a z with z | z
   ·obtain⟨o,z⟩:=R1.dom a z
    exact⟨o,gr.all a o z⟩
   ·subst z
    exact⟨_,AM⟩
  ·refine JX R1.sl pr fun d v h=>h.same pr (fun a o _ e=>gr.all a o e) fun a e n1 z=>z.elim n1 fun z=>?_
   subst e
   obtain⟨o,w⟩:=h.lies
   rw [z,hl] at w
   cases w
 ·rintro i m σ' H' ⟨rfl,hi,n',ρ',acc,vs,R',hlv,hac,hal,pr,w'⟩
  by_cases hlt:i<ds.length
  ·have ed:ds.drop i=ds[i]::ds.drop (i+1):=List.drop_eq_getElem_cons hlt
   rw [ed] at w'
   obtain⟨go,yl⟩:=(y i M' H' pr R'.ext R'.dom).1 ds[i] (List.getElem?_eq_getElem hlt)
   refine .inr ⟨go,fun x H2 hy=>?_⟩
   obtain⟨gr,hx⟩:=yl x H2 hy
   have R2':=R'.step gr.ext (R'.feed.grow gr)
   refine g2 _ M' H2 n' ρ' σ' ds[i] x _ _ R2' hx w' fun ρ3 σ3 R3 w3=>?_
   refine c2 _ M' H2 n' ρ3 σ3 _ _ R3 w3 fun c H4 n4 e4 f4 w4=>?_
   have R4:=R3.step e4 f4
   have p4:Pres M' H' M' H4:=gr.pres.trans (R3.pres e4)
   have l4:H4 l=some (.lst vs):=e4.keep (gr.all _ _ hlv) noU
   cases c with
   | false=>exact⟨ds.length - (i+1),by omega,rfl,hlt,n4,ρ3,acc,vs,R4,l4,hac.pres p4,by omega,pr.trans p4,w4⟩
   | true =>
    refine x2 _ M' H4 n4 ρ3 σ3 _ _ R4 w4 fun yv H5 d5 n5 e5 f5 r5 w5=>?_
    have R5:=R4.step e5 f5
    have p5:Pres M' H4 M' H5:=R4.pres e5
    have l5:H5 l=some (.lst vs):=e5.keep l4 noU
    have hy5:=r5.shOf R4.dom hk
    have a5:=(hac.pres p4).pres p5
    have pu:Pres M' H5 M' (Ax H5 l (.lst (vs++[yv]))):=⟨fun b o e nb=>by rw [AI (fun z=>nb (by rw [z]; exact M'l))]; exact e,fun _ z=>.inl z⟩
    have hvl:vs.length=acc.length:=hac.length
    refine⟨vs,l5,by rw [sizeLine_eq]; omega,ds.length - (i+1),by omega,rfl,hlt,n5,ρ3,acc++[d5],vs++[yv],?_,AM,(a5.append (Ats.one hy5)).pres pu,by rw [List.length_append,List.length_singleton]; omega,(pr.trans p4).trans (p5.trans pu),w5⟩
    refine⟨R5.len,R5.sub,fun a z=>?_,fun b o e=>?_,R5.fU,R5.uV,R5.vM,?_,fun j s hs=>?_,fun p hp=>absurd hp (by simp),R5.br0,R5.new,R5.two,fun p hp=>absurd hp (by simp)⟩
    ·by_cases ha:a=l
     ·subst ha; exact⟨_,AM⟩
     ·rw [AI ha]; exact R5.dom a z
    ·obtain⟨o',q1,q2⟩:=R5.ext b o e
     by_cases hb:b=l
     ·subst hb
      have e':H1 b=some o:=e
      rw [hl] at e'; cases e'
     ·exact⟨o',by rw [AI hb]; exact q1,q2⟩
    ·refine f5.pres pu fun f o hf e=>?_
     rw [AI (fun z=>noU (by rw [← z]; exact R1.fU f hf))]
     exact e
    ·have hs5:=R5.sl j s hs
     cases s with
     | no=>trivial
     | sh d=>obtain⟨v,e1,h2⟩:=hs5; exact⟨v,e1,h2.pres pu⟩
     | br d =>
      obtain⟨v,e1,h2⟩:=hs5
      refine⟨v,e1,h2.same pu (fun a o z e=>?_) fun _ _ z=>z⟩
      subst z
      obtain⟨o3,w⟩:=R5.br0 j d a hs e1
      have hal:a≠l:=fun z=>by
       have w':H1 a=some o3:=w
       rw [z,hl] at w'; cases w'
      rw [AI hal]; exact e
     | ow d =>
      obtain⟨a,e1,h2,_⟩:=hs5
      exact absurd h2 (R5.new j _ a hs rfl e1).1
     | lt a d =>
      obtain⟨e1,h2,_⟩:=hs5
      exact absurd h2 (R5.new j _ a hs rfl e1).1
     | fd=>exact hs5
  ·have e:i=ds.length:=by omega
   subst e
   rw [List.drop_length] at w'
   refine .inl ⟨(y _ M' H' pr R'.ext R'.dom).2 (Nat.le_refl _),?_⟩
   have eb:Ext C.U H1 H':=R'.ext
   have less:Pres M' H' M H':=Pres.less M'of
   refine q _ H' (.lst acc) n' (e1.trans eb) (R'.feed.pres less fun _ _ _ z=>z) (VR.back e1 ?_) w'
   exact⟨l,rfl,hl,vs,hlv,by rw [hM']; exact hac⟩
end
theorem MJ{K:Frag}{F:Option (Addr×Addr)}{U V' M:Addr->Prop}{H:Hp}{n:Nat}{ss:List Slot}{vs:List V}{N:List Str}(h:UA K F U V' M H n ss vs)(hl:vs.length<=N.length) :
  Rel K ⟨M,F,U,V',H,[],[]⟩ M H n (ss++List.replicate (N.length - ss.length) .no) (L2.start N vs):=by
 obtain⟨dom,fU,uV,vM,fd,pa⟩:=h
 have el:vs.length=ss.length:=Paired.length pa
 have go:∀{vs:List V} {ss:List Slot} {i:Nat} {s:Slot},Paired (Hl K F V' M H) vs ss->ss[i]?=some s->∃v,vs[i]?=some v/\Hl K F V' M H v s:=by
  intro vs ss i s pa
  induction pa generalizing i with
  | nil=>intro e; simp at e
  | cons r t ih =>
   intro e
   cases i with
   | zero=>simp at e; subst e; exact⟨_,rfl,r⟩
   | succ i =>
    obtain⟨v,e1,h1⟩:=ih (i:=i) (by simpa using e)
    exact⟨v,by simpa using e1,h1⟩
 have at_:∀(i:Nat) (s:Slot),(ss++List.replicate (N.length - ss.length) Slot.no)[i]?=some s->s=.no\/∃v,((L2.start N vs)[i]?).getD none=some v/\Hl K F V' M H v s:=by
  intro i s hs
  by_cases hi:i<ss.length
  ·rw [List.getElem?_append_left hi] at hs
   obtain⟨v,e1,h1⟩:=go pa hs
   refine .inr ⟨v,?_,h1⟩
   unfold L2.start
   rw [List.getElem?_append_left (by rw [List.length_map,el]; exact hi),List.getElem?_map,e1]
   rfl
  ·rw [List.getElem?_append_right (by omega),List.getElem?_replicate] at hs
   split at hs
   ·exact .inl (Option.some.inj hs).symm
   ·cases hs
 refine⟨?_,fun a z=>z,dom,Ext.refl _ _,fU,uV,vM,fd,fun i s hs=>?_,fun p hp=>absurd hp (by simp),fun i d a hs ha=>?_,fun i s a hs o _=>?_,fun i j s t a hs o _ _ _ _=>?_,fun p hp=>absurd hp (by simp)⟩
 ·unfold L2.start
  simp only [List.length_append,List.length_map,List.length_replicate]
  omega
 ·rcases at_ i s hs with rfl | ⟨v,e,h⟩
  ·trivial
  ·rw [e]; exact h.1
 ·rcases at_ i _ hs with z | ⟨v,e,h⟩
  ·cases z
  ·rw [e] at ha
   cases ha
   obtain⟨v,e1,h1⟩:=h.1
   cases e1
   exact h1.lies
 ·rcases at_ i s hs with rfl | ⟨v,e,h⟩
  ·cases o
  ·rw [h.2] at o; cases o
 ·rcases at_ i s hs with rfl | ⟨v,e,h⟩
  ·cases o
  ·rw [h.2] at o; cases o
theorem M5{P:Program}{w:World}{K:Frag}{mg:Str->Option Value}{base:Heap}{x qual:Str}{st:Stmt}{f:Addr}{fd:FuncData}{N ps:List Str}{k:Nat}{κ:Kd}{W:W2}{wb:Af}(F:Fun K x qual st f fd)(S:Ar N ps (AH st))(hNp:ps.length<=N.length)
  (hb:∀(cdv:Value) (A:Around) (outer:List Env) (s:Shared) (H:Hp) (E:XK),Room k (A.deeper (envOfC qual (AH st) s.heap.objs.size f cdv))->PP (Ib Dw P w K mg base N qual (AH st) f cdv A outer s H E).nox κ (Aj st) wb)
  (hW:∀ss n Pd,ss.length=ps.length->W ss n Pd->wb { nx:=fun n _=>κ=.sh/\Pd .non n,rt:=Pd } n (ss++List.replicate (N.length - ps.length) .no)) :
  Bi P w K mg base Dw (k+1) f fd ps (HA K κ W ps.length):=by
 refine F.ok S (fun vs H Q E h=>h.1) (fun cdv A outer s H vs Q E hr h=>?_)
 obtain⟨hl,F0,U,V',M,n,ss,Pd,ra,hw,q⟩:=h
 obtain⟨t,t1,t2⟩:=hb cdv A outer s H E hr
 refine⟨t,t1,?_⟩
 have el:vs.length=ss.length:=Paired.length ra.2.2.2.2.2
 have R:=MJ (N:=N) ra (by omega)
 refine t2 ⟨M,F0,U,V',H,[],[]⟩ M H n _ _ { nx:=fun n _=>κ=.sh/\Pd .non n,rt:=Pd } _ R ⟨fun M1 H1 n1 ρ1 σ1 R1 p=>?_,fun v H1 d n1 e1 f1 r1 p=>q v H1 d n1 e1 f1 r1 p,fun _ _ _ _ _ _ z=>z.elim,fun _ _ _ _ _ _ z=>z.elim⟩ ?_
 ·obtain⟨hk,p⟩:=p
  subst hk
  exact q .non H1 .non n1 R1.ext (R1.feed.pres (Pres.less R1.sub) fun _ _ _ z=>z) rfl p
 ·have e:ss.length=ps.length:=by omega
  have h1:=hW ss n Pd e hw
  rw [← e] at h1
  exact h1
end Dp
namespace L2
open PySem PySem.Spec PyProof.Rows
section
variable {X:Cx}
theorem Inv.rdl{pins:List (Addr×Obj)}{σ:L2.St}{H:Hp}{s:Shared}{l:Addr}{xs:List V}(I:Inv X pins σ H s)(h:Rd H l (.lst xs)):xs.length<=sizeLine/\∃(its:List Value) (n:Nat),Vals xs its/\xs.length=its.length/\s.heap.get? l=some { cls:=.type "list",data:=.seq its.toArray n }:=by
 obtain⟨z,its,n,r,e⟩:=h.ok I.hok
 exact⟨z,its,n,r,r.length,e⟩
theorem P_:OpR X (binaryOp .Add) (fun x y H Q=>∃l b xs zs,x=.ref l/\y=.ref b/\Rd H l (.lst xs)/\Rd H b (.lst zs)/\xs.length+zs.length<=sizeLine/\∀p,H p=none->Q (.ref p) (Ax H p (.lst (xs++zs)))):=by
 intro pins s σ H x y v u Q I rx ry h
 obtain⟨l,b,xs,zs,rfl,rfl,hH,hB,hz,q⟩:=h
 cases rx
 cases ry
 obtain⟨z,its,n,r,hl,e⟩:=I.rdl hH
 obtain⟨z2,its2,n2,r2,hl2,e2⟩:=I.rdl hB
 refine PySem.P.add_list e e2 ?_ (by rw [List.size_toArray,List.size_toArray]; omega)
 have ea:its.toArray++its2.toArray=(its++its2).toArray:=by simp
 rw [ea]
 exact⟨.ref _,_,I.lnew (t':=s.toks) (r.append r2) (by rw [List.length_append]; omega),rfl,q _ I.fresh⟩
end
end L2
namespace Dp
open PySem PySem.Spec PyProof.Rows L2
section
variable {K:Frag}
theorem AtT.int{U M:Addr->Prop}{H:Hp}{i:Int}{v:V}(h:AtT K U M H (.int i) v):v=.int i:=h
theorem AtT.bl{U M:Addr->Prop}{H:Hp}{i:Bool}{v:V}(h:AtT K U M H (.bl i) v):v=.bl i:=h
theorem AtT.str{U M:Addr->Prop}{H:Hp}{x:Str}{v:V}(h:AtT K U M H (.str x) v):v=.str x/\x.length<=sizeLine:=h
theorem AtT.tup{U M:Addr->Prop}{H:Hp}{ds:List D}{v:V}(h:AtT K U M H (.tup ds) v):∃a vs,v=.ref a/\NdT M H a vs/\Ats K M H ds vs:=h
noncomputable def UW(g:Int->Int->(D->Prop)->Prop)(d e:D)(P:D->Prop):Prop:=match d,e with
 | .int i,.int j=>g i j P
 | _,_=>False
theorem IP{g:Int->Int->(D->Prop)->Prop}{d e:D}{P:D->Prop}(w:UW g d e P):∃i j,d=.int i/\e=.int j/\g i j P:=by
 unfold UW at w
 split at w
 ·exact⟨_,_,rfl,rfl,w⟩
 ·exact w.elim
noncomputable def f2(g:Int->Int->D):D->D->(D->Prop)->Prop:=UW fun i j P=>P (g i j)
noncomputable def Os(C:Int->Int->Prop)(g:Int->Int->D):D->D->(D->Prop)->Prop:=UW fun i j P=>C i j/\P (g i j)
theorem PJ{g:Int->Int->Int}:Eh K .sh (FQ fun i j=>.int (g i j)) (f2 fun i j=>.int (g i j)):=by
 intro U M H d e x y P Q dom vM hx hy w q
 obtain⟨i,j,rfl,rfl,w⟩:=IP w
 exact⟨i,j,hx,hy,q _ H (.int (g i j)) .refl rfl w⟩
theorem PK{g:Int->Int->Bool}:Eh K .sh (FQ fun i j=>.bl (g i j)) (f2 fun i j=>.bl (g i j)):=by
 intro U M H d e x y P Q dom vM hx hy w q
 obtain⟨i,j,rfl,rfl,w⟩:=IP w
 exact⟨i,j,hx,hy,q _ H (.bl (g i j)) .refl rfl w⟩
theorem D6{C:Int->Int->Prop}{g:Int->Int->Int}:Eh K .sh (rI C fun i j=>.int (g i j)) (Os C fun i j=>.int (g i j)):=by
 intro U M H d e x y P Q dom vM hx hy w q
 obtain⟨i,j,rfl,rfl,w⟩:=IP w
 exact⟨i,j,hx,hy,w.1,q _ H (.int (g i j)) .refl rfl w.2⟩
noncomputable def UV(g:Str->Str->(D->Prop)->Prop)(d e:D)(P:D->Prop):Prop:=match d,e with
 | .str i,.str j=>g i j P
 | _,_=>False
theorem Lp{g:Str->Str->(D->Prop)->Prop}{d e:D}{P:D->Prop}(w:UV g d e P):∃i j,d=.str i/\e=.str j/\g i j P:=by
 unfold UV at w
 split at w
 ·exact⟨_,_,rfl,rfl,w⟩
 ·exact w.elim
theorem PD{g:Str->Str->Bool}:Eh K .sh (fun x y H Q=>∃i j,x=.str i/\y=.str j/\Q (.bl (g i j)) H) (UV fun i j P=>P (.bl (g i j))):=by
 intro U M H d e x y P Q dom vM hx hy w q
 obtain⟨i,j,rfl,rfl,w⟩:=Lp w
 exact⟨i,j,hx.1,hy.1,q _ H (.bl (g i j)) .refl rfl w⟩
theorem NL:Eh K .sh (fun x y H Q=>∃i j,x=.str i/\y=.str j/\i.length+j.length<=sizeLine/\Q (.str (i++j)) H) (UV fun i j P=>i.length+j.length<=sizeLine/\P (.str (i++j))):=by
 intro U M H d e x y P Q dom vM hx hy w q
 obtain⟨i,j,rfl,rfl,w⟩:=Lp w
 exact⟨i,j,hx.1,hy.1,w.1,q _ H (.str (i++j)) .refl ⟨rfl,by rw [show (i++j).length=i.length+j.length from Str.length_append i j]; exact w.1⟩ w.2⟩
noncomputable def Uv(g:List D->List D->(D->Prop)->Prop)(d e:D)(P:D->Prop):Prop:=match d,e with
 | .tup i,.tup j=>g i j P
 | _,_=>False
noncomputable def Uw(g:List D->List D->(D->Prop)->Prop)(d e:D)(P:D->Prop):Prop:=match d,e with
 | .lst i,.lst j=>g i j P
 | _,_=>False
theorem QO{g:List D->List D->(D->Prop)->Prop}{d e:D}{P:D->Prop}(w:Uv g d e P):∃i j,d=.tup i/\e=.tup j/\g i j P:=by
 unfold Uv at w
 split at w
 ·exact⟨_,_,rfl,rfl,w⟩
 ·exact w.elim
theorem QQ{g:List D->List D->(D->Prop)->Prop}{d e:D}{P:D->Prop}(w:Uw g d e P):∃i j,d=.lst i/\e=.lst j/\g i j P:=by
 unfold Uw at w
 split at w
 ·exact⟨_,_,rfl,rfl,w⟩
 ·exact w.elim
theorem DH{M:Addr->Prop}{H:Hp}{p:Addr}{vs:List V}{ds:List D}(dom:∀a,M a->∃o,H a=some o)(hp:H p=none)(h:Ats K M H ds vs):At K M (Ax H p (.tup vs)) (.tup ds) (.ref p):=by
 refine⟨p,vs,rfl,⟨fun z=>?_,AM⟩,h.pres (Am hp).pres⟩
 obtain⟨o,z⟩:=dom p z
 rw [hp] at z; cases z
theorem B5{U M:Addr->Prop}{H:Hp}{p:Addr}{vs:List V}{ds:List D}(hp:H p=none)(h:Ats K M H ds vs):VR K U M H (Ax H p (.lst vs)) .fr (.ref p) (.lst ds) :=
 ⟨p,rfl,hp,vs,AM,h.pres (D5 hp)⟩
theorem NK:Eh K .sh (N3 K) (Uv fun i j P=>i≠[]/\i.length+j.length<=sizeLine/\P (.tup (i++j))):=by
 intro U M H d e x y P Q dom vM hx hy w q
 obtain⟨i,j,rfl,rfl,w⟩:=QO w
 obtain⟨a,vs,rfl,ha,hs⟩:=hx.tup
 obtain⟨b,us,rfl,hb,ht⟩:=hy.tup
 have l1:=hs.length
 have l2:=ht.length
 refine⟨a,b,vs,us,rfl,rfl,ha.sq,hb.sq,fun z=>w.1 ?_,by rw [l1,l2]; exact w.2.1,fun z=>?_,fun z p hp=>?_⟩
 ·rw [z] at l1; exact List.length_eq_zero_iff.mp l1.symm
 ·rw [z] at l2
  have:j=[]:=List.length_eq_zero_iff.mp l2.symm
  subst this
  exact q _ H (.tup i) .refl ⟨a,vs,rfl,ha,hs⟩ (by have:=w.2.2; rw [List.append_nil] at this; exact this)
 ·exact q _ _ (.tup (i++j)) (Am hp) (DH dom hp (hs.append ht)) w.2.2
theorem NM:Eh K .fr (fun x y H Q=>∃l b xs zs,x=.ref l/\y=.ref b/\Rd H l (.lst xs)/\Rd H b (.lst zs)/\xs.length+zs.length<=sizeLine/\∀p,H p=none->Q (.ref p) (Ax H p (.lst (xs++zs)))) (Uw fun i j P=>i.length+j.length<=sizeLine/\P (.lst (i++j))):=by
 intro U M H d e x y P Q dom vM hx hy w q
 obtain⟨i,j,rfl,rfl,w⟩:=QQ w
 obtain⟨a,vs,rfl,_,ha,hs⟩:=hx
 obtain⟨b,us,rfl,_,hb,ht⟩:=hy
 exact⟨a,b,vs,us,rfl,rfl,ha,hb,by rw [hs.length,ht.length]; exact w.1,fun p hp=>q _ _ (.lst (i++j)) (Am hp) (B5 hp (hs.append ht)) w.2⟩
noncomputable def J5(neg:Bool)(d e:D)(P:D->Prop):Prop:=match d,e with
 | .bl i,.bl j=>P (.bl (if neg then !(i==j) else i==j))
 | .int i,.int j=>P (.bl (if neg then !(i==j) else i==j))
 | .str i,.str j=>P (.bl (if neg then !(i==j) else i==j))
 | _,_=>False
theorem Lq{neg:Bool}{d e:D}{P:D->Prop}(w:J5 neg d e P):(∃i j,d=.bl i/\e=.bl j/\P (.bl (if neg then !(i==j) else i==j)))\/(∃i j,d=.int i/\e=.int j/\P (.bl (if neg then !(i==j) else i==j)))\/∃i j,d=.str i/\e=.str j/\P (.bl (if neg then !(i==j) else i==j)):=by
 unfold J5 at w
 split at w
 ·exact .inl ⟨_,_,rfl,rfl,w⟩
 ·exact .inr (.inl ⟨_,_,rfl,rfl,w⟩)
 ·exact .inr (.inr ⟨_,_,rfl,rfl,w⟩)
 ·exact w.elim
theorem K8:Eh K .sh VG (J5 false):=by
 intro U M H d e x y P Q dom vM hx hy w q
 rcases Lq w with ⟨i,j,rfl,rfl,w⟩ | ⟨i,j,rfl,rfl,w⟩ | ⟨i,j,rfl,rfl,w⟩
 ·rw [hx.bl,hy.bl]; exact⟨rfl,q _ H _ .refl (by rw [IY]; rfl) w⟩
 ·rw [hx.int,hy.int]; exact⟨rfl,q _ H _ .refl (by rw [FZ]; rfl) w⟩
 ·rw [hx.str.1,hy.str.1]; exact⟨rfl,q _ H _ .refl (by rw [FY]; rfl) w⟩
theorem Sa:Eh K .sh VD (J5 true):=by
 intro U M H d e x y P Q dom vM hx hy w q
 rcases Lq w with ⟨i,j,rfl,rfl,w⟩ | ⟨i,j,rfl,rfl,w⟩ | ⟨i,j,rfl,rfl,w⟩
 ·rw [hx.bl,hy.bl]; exact⟨rfl,q _ H _ .refl (by rw [IY]; rfl) w⟩
 ·rw [hx.int,hy.int]; exact⟨rfl,q _ H _ .refl (by rw [FZ]; rfl) w⟩
 ·rw [hx.str.1,hy.str.1]; exact⟨rfl,q _ H _ .refl (by rw [FY]; rfl) w⟩
noncomputable def Jf:D->Bool
 | .non=>true
 | _=>false
theorem Je{U M:Addr->Prop}{H:Hp}{d:D}{x:V}(h:AtT K U M H d x):decide (x=.non)=Jf d:=by
 cases d with
 | non=>rw [show x=.non from h]; rfl
 | bl b=>rw [h.bl]; rfl
 | int i=>rw [h.int]; rfl
 | str z=>rw [h.str.1]; rfl
 | tup ds=>obtain⟨a,vs,rfl,_⟩:=h.tup; rfl
 | lst ds=>obtain⟨a,vs,rfl,_⟩:=h; rfl
 | dic ks ds=>obtain⟨a,vs,rfl,_⟩:=h; rfl
 | fdi ks ds=>obtain⟨a,vs,rfl,_⟩:=h; rfl
noncomputable def B9(d e:D)(P:D->Prop):Prop:=match d,e with
 | .lst ds,.int i=>∃z,atI ds i=some z/\P z
 | .tup ds,.int i=>∃z,atI ds i=some z/\P z
 | .str x,.int i=>∃c,atI x.cps.toList i=some c/\P (.str ⟨#[c]⟩)
 | _,_=>False
theorem QR{d e:D}{P:D->Prop}(w:B9 d e P):(∃ds i z,d=.lst ds/\e=.int i/\atI ds i=some z/\P z)\/(∃ds i z,d=.tup ds/\e=.int i/\atI ds i=some z/\P z)\/∃x i c,d=.str x/\e=.int i/\atI x.cps.toList i=some c/\P (.str ⟨#[c]⟩):=by
 unfold B9 at w
 split at w
 ·obtain⟨z,h1,h2⟩:=w; exact .inl ⟨_,_,z,rfl,rfl,h1,h2⟩
 ·obtain⟨z,h1,h2⟩:=w; exact .inr (.inl ⟨_,_,z,rfl,rfl,h1,h2⟩)
 ·obtain⟨z,h1,h2⟩:=w; exact .inr (.inr ⟨_,_,z,rfl,rfl,h1,h2⟩)
 ·exact w.elim
theorem Ats.atI{M:Addr->Prop}{H:Hp}{ds:List D}{vs:List V}{i:Int}{z:D}(h:Ats K M H ds vs)(e:atI ds i=some z):∃v,L2.atI vs i=some v/\At K M H z v:=by
 unfold L2.atI at e ⊢
 rw [h.length]
 cases q:OX ds.length i with
 | none=>rw [q] at e; cases e
 | some j =>
  rw [q] at e
  exact h.get e
theorem BJ:Eh K .sh (VE K) B9:=by
 intro U M H d e x y P Q dom vM hx hy w q
 rcases QR w with ⟨ds,i,z,rfl,rfl,hz,w⟩ | ⟨ds,i,z,rfl,rfl,hz,w⟩ | ⟨x,i,c,rfl,rfl,hc,w⟩
 ·obtain⟨a,vs,rfl,_,ha,hs⟩:=hx
  obtain⟨v,hv,hAt⟩:=hs.atI hz
  exact .inl ⟨a,vs,i,v,rfl,hy,.inl ha,hv,q v H z .refl hAt w⟩
 ·obtain⟨a,vs,rfl,ha,hs⟩:=hx.tup
  obtain⟨v,hv,hAt⟩:=hs.atI hz
  exact .inr (.inl ⟨a,vs,i,v,rfl,hy,ha.sq,hv,q v H z .refl hAt w⟩)
 ·exact .inr (.inr ⟨x,i,c,hx.str.1,hy,hx.str.2,hc,q _ H (.str ⟨#[c]⟩) .refl ⟨rfl,by rw [sizeLine_eq]; show 1<=16777216; decide⟩ w⟩)
noncomputable def cutD{α:Type}(xs:List α)(lo hi:Option Int):List α:=(xs.drop (HT.sIx xs.length 0 lo)).take (HT.sIx xs.length xs.length hi - HT.sIx xs.length 0 lo)
theorem Ck{R:V->D->Prop}{vs:List V}{d:D}(h:Paired R vs [d]):∃v,vs=[v]/\R v d:=by
 cases h with
 | cons r t=>cases t; exact⟨_,rfl,r⟩
noncomputable def Ul:D->Option Nat
 | .str x=>some x.length
 | .tup xs=>some xs.length
 | .lst xs=>some xs.length
 | _=>none
noncomputable def Dl(ds:List D)(P:D->Prop):Prop:=∃d n,ds=[d]/\Ul d=some n/\P (.int (n:Int))
theorem DQ:CT K .sh (fun xs H Q=>∃x n,xs=[x]/\Su K x H n/\Q (.int n) H) Dl:=by
 intro U M H ds vs P Q dom vM hp w q
 obtain⟨d,n,rfl,hn,w⟩:=w
 obtain⟨v,rfl,hx⟩:=Ck hp
 refine⟨v,n,rfl,?_,q _ H (.int (n:Int)) .refl rfl w⟩
 cases d with
 | str z=>cases hn; rw [hx.str.1]; exact⟨hx.str.2,rfl⟩
 | tup xs =>
  cases hn
  obtain⟨a,us,rfl,ha,hs⟩:=hx.tup
  exact .inr ⟨us,ha.sq,hs.length.symm⟩
 | lst xs =>
  cases hn
  obtain⟨a,us,rfl,_,ha,hs⟩:=hx
  exact .inl ⟨us,.inl ha,hs.length.symm⟩
 | _=>cases hn
noncomputable def CS:List D->Option (List Str)
 | []=>some []
 | .str b::r=>(CS r).map (b::·)
 | _::_=>none
theorem Ij{M:Addr->Prop}{H:Hp}:∀{ds:List D} {vs:List V} {bs:List Str},CS ds=some bs->Ats K M H ds vs->vs=bs.map V.str
 | [],vs,bs,e,h=>by cases e; exact h
 | .str b::r,vs,bs,e,h=>by
  obtain⟨v,r',e1,h1,h2⟩:=h
  unfold CS at e
  obtain⟨bs',e2,rfl⟩:=Option.map_eq_some_iff.mp e
  rw [e1,Ij e2 h2,h1.1]
  rfl
 | .non::r,vs,bs,e,h=>by unfold CS at e; cases e
 | .int _::r,vs,bs,e,h=>by unfold CS at e; cases e
 | .bl _::r,vs,bs,e,h=>by unfold CS at e; cases e
 | .tup _::r,vs,bs,e,h=>by unfold CS at e; cases e
 | .lst _::r,vs,bs,e,h=>by unfold CS at e; cases e
 | .dic _ _::r,vs,bs,e,h=>by unfold CS at e; cases e
 | .fdi _ _::r,vs,bs,e,h=>by unfold CS at e; cases e
noncomputable def Oq(d:D)(ds:List D)(P:D->Prop):Prop:=∃(z:Str) (xs:List D) (ys:List Str),d=.str z/\ds=[.lst xs]/\CS xs=some ys/\(ys.map (·.length)).sum+ys.length*z.length<=16777216/\(Txt.join z ys).length<=16777216/\P (.str (Txt.join z ys))
theorem Sj:VL K .sh "str" (fun x xs H Q=>∃(z:Str) (p:Addr) (ys:List Str),x=.str z/\xs=[.ref p]/\SqL K H p (ys.map V.str)/\(ys.map (·.length)).sum+ys.length*z.length<=16777216/\Q (.str (Txt.join z ys)) H) Oq:=by
 intro U M H d ds x vs P Q dom vM hx hp w q
 obtain⟨z,xs,ys,rfl,rfl,e,h1,h2,w⟩:=w
 obtain⟨v,rfl,hy⟩:=Ck hp
 obtain⟨a,us,rfl,_,ha,hs⟩:=hy
 have:=Ij e hs
 subst this
 exact⟨z,a,ys,hx.str.1,rfl,.inl ha,h1,q _ H (.str (Txt.join z ys)) .refl ⟨rfl,by rw [sizeLine_eq]; exact h2⟩ w⟩
noncomputable def Ks(ds:List D)(P:D->Prop):Prop:=match ds with
 | [.lst xs]=>P (.lst xs)
 | [.tup xs]=>P (.lst xs)
 | _=>False
theorem Qf:CT K .fr (fun xs H Q=>∃p ys,xs=[.ref p]/\(SqL K H p ys\/SqT K H p ys)/\∀l,H l=none->Q (.ref l) (Ax H l (.lst ys))) Ks:=by
 intro U M H ds vs P Q dom vM hp w q
 unfold Ks at w
 split at w
 ·obtain⟨v,rfl,hx⟩:=Ck hp
  obtain⟨a,us,rfl,_,ha,hs⟩:=hx
  exact⟨a,us,rfl,.inl (.inl ha),fun l hl=>q _ _ _ (Am hl) (B5 hl hs) w⟩
 ·obtain⟨v,rfl,hx⟩:=Ck hp
  obtain⟨a,us,rfl,ha,hs⟩:=hx.tup
  exact⟨a,us,rfl,.inr ha.sq,fun l hl=>q _ _ _ (Am hl) (B5 hl hs) w⟩
 ·exact w.elim
end
noncomputable def S5:D->String
 | .non => "NoneType"
 | .bl _ => "bool"
 | .int _ => "int"
 | .str _ => "str"
 | .tup _ => "tuple"
 | .lst _ => "list"
 | .dic _ _ => "dict"
 | .fdi _ _ => "dict"
noncomputable def SK(t T:String):Bool:=t==T||(t == "bool"&&T == "int")
noncomputable def S3(T:String)(wa:DW):DW:=fun n ρ P=>wa n ρ fun d n1=>P (.bl (SK (S5 d) T)) n1
structure UI (K:Frag) (T:String):Prop where
 ans:∀t∈["NoneType","bool","int","str","tuple","list","dict"],PySem.W.kitOne K (.type t) (.type T)=some (SK t T)
theorem Pb{K:Frag}{M U:Addr->Prop}{H:Hp}{d:D}{x:V}(h:AtT K U M H d x):D9 K H x (.type (S5 d)):=by
 cases d with
 | non=>cases (show x=.non from h); exact .non
 | bl b=>cases h.bl; exact .bl b
 | int i=>cases h.int; exact .int i
 | str z=>cases h.str.1; exact .str z
 | tup ds =>
  obtain⟨a,vs,rfl,ha,hs⟩:=h.tup
  exact .tup ha.2
 | lst ds =>
  obtain⟨a,vs,rfl,_,ha,hs⟩:=h
  rcases ha with ha | ⟨o,ha⟩
  ·exact .lst ha
  ·exact .frz ha
 | dic ks ds =>
  obtain⟨a,vs,rfl,_,ha,_⟩:=h
  exact .dK ha
 | fdi ks ds =>
  obtain⟨a,vs,rfl,⟨o,_,ha⟩,_⟩:=h
  exact .dF ha
theorem Pc(d:D):S5 d∈["NoneType","bool","int","str","tuple","list","dict"]:=by cases d <;> simp [S5]
theorem ST{X:Cx}{a:Expr}{κ:Kd}{wa:DW}{T:String}{Tn:Str}{p p2 pos:Pos}(kt:UI X.K T)(ha:DE X a κ wa)(hg:Gl X "isinstance")(hm:X.mg "isinstance"=none)(hgT:Gl X Tn)(hmT:X.mg Tn=none)(hvT:bootBuiltins Tn=some (.type T))
  (hnT:Tn ≠ "__name__":=by decide) (hdT:(Tn==("__debug__" : Str))=false:=by decide)
  (he:starEach [a,.Name Tn p2] X.env=(false,eval a X.env)::starEach [.Name Tn p2] X.env:=by rfl) (he2:starEach [.Name Tn p2] X.env=[(false,eval (.Name Tn p2) X.env)]:=by rfl)
  (hpl:(backTo pos (starEach [.Name Tn p2] X.env)).any (·.1)=false:=by rfl):DE X (.Call (.Name "isinstance" p) [a,.Name Tn p2] [] pos) .sh (S3 T wa):=by
 obtain⟨t,h1,h2⟩:=ha
 have pT:PE X (.Name Tn p2) (tC (.ty T)):=P2 hgT hmT hvT (v:=.ty T) rfl hnT hdT
 refine⟨_,EN Jt hg hm (by decide +kernel) (BL h1 (BL pT B8 he2) he) (by decide) (by decide) he hpl,fun C M H n ρ σ P Q R w q=>?_⟩
 refine h2 C M H n ρ σ _ _ R w fun v H1 d n1 e1 f1 r1 p=>?_
 exact⟨v,T,_,_,rfl,Pb (r1.tpOf R.dom R.vM),kt.ans _ (Pc d),q _ H1 (.bl (SK (S5 d) T)) n1 e1 f1 rfl p⟩
section
variable {K:Frag}{X:Cx}
noncomputable def RC(d e:D)(P:D->Prop):Prop:=match d,e with
 | .int i,.int j=>P (.int (i+j))
 | .str i,.str j=>i.length+j.length<=sizeLine/\P (.str (i++j))
 | .tup i,.tup j=>i≠[]/\i.length+j.length<=sizeLine/\P (.tup (i++j))
 | .lst i,.lst j=>i.length+j.length<=sizeLine/\P (.lst (i++j))
 | _,_=>False
noncomputable def Q4:R2:=fun x y H Q=>∃l b xs zs,x=.ref l/\y=.ref b/\Rd H l (.lst xs)/\Rd H b (.lst zs)/\xs.length+zs.length<=sizeLine/\∀p,H p=none->Q (.ref p) (Ax H p (.lst (xs++zs)))
noncomputable def Q3:R2:=fun x y H Q=>∃i j,x=.str i/\y=.str j/\i.length+j.length<=sizeLine/\Q (.str (i++j)) H
noncomputable def Qp(g:Str->Str->Bool):R2:=fun x y H Q=>∃i j,x=.str i/\y=.str j/\Q (.bl (g i j)) H
noncomputable def N4(K:Frag):R2:=fun x y H Q=>(FQ fun i j=>.int (i+j)) x y H Q\/Q3 x y H Q\/N3 K x y H Q\/Q4 x y H Q
theorem op_addU:OpR X (binaryOp .Add) (N4 X.K):=op_add.or ((show OpR X (binaryOp .Add) Q3 from Kh).or (op_catT.or (show OpR X (binaryOp .Add) Q4 from P_)))
theorem Il:Eh X.K .sh (N4 X.K) RC:=fun U M H d e x y P Q dom vM hx hy w q=>by
 unfold RC at w
 split at w
 ·exact .inl (PJ (K:=X.K) (g:=fun i j=>i+j) U M H (.int _) (.int _) x y P Q dom vM hx hy w q)
 ·exact .inr (.inl (NL (K:=X.K) U M H (.str _) (.str _) x y P Q dom vM hx hy w q))
 ·exact .inr (.inr (.inl (NK (K:=X.K) U M H (.tup _) (.tup _) x y P Q dom vM hx hy w q)))
 ·exact .inr (.inr (.inr (NM (K:=X.K) U M H (.lst _) (.lst _) x y P Q dom vM hx hy w fun v H' z g r p=>q v H' z g (r.shOf dom (by intro z; cases z)) p)))
 ·exact w.elim
noncomputable def Tu(d e:D)(P:D->Prop):Prop:=match d,e with
 | .int i,.int j=>P (.bl (decide (i<j)))
 | .str i,.str j=>P (.bl (decide (i.cps.toList<j.cps.toList)))
 | _,_=>False
noncomputable def Rk:R2:=fun x y H Q=>(FQ fun i j=>.bl (decide (i<j))) x y H Q\/Qp (fun i j=>decide (i.cps.toList<j.cps.toList)) x y H Q
theorem op_ltU:OpR X (compareOp .Lt) Rk:=op_lt.or MV
theorem RG:Eh X.K .sh Rk Tu:=fun U M H d e x y P Q dom vM hx hy w q=>by
 unfold Tu at w
 split at w
 ·exact .inl (PK (K:=X.K) (g:=fun i j=>decide (i<j)) U M H (.int _) (.int _) x y P Q dom vM hx hy w q)
 ·exact .inr (PD (K:=X.K) (g:=fun i j=>decide (i.cps.toList<j.cps.toList)) U M H (.str _) (.str _) x y P Q dom vM hx hy w q)
 ·exact w.elim
noncomputable def SQ(d e:D)(P:D->Prop):Prop:=match d,e with
 | .int i,.int j=>P (.bl (decide (i<=j)))
 | .str i,.str j=>P (.bl (!(decide (j.cps.toList<i.cps.toList))))
 | _,_=>False
noncomputable def TU:R2:=fun x y H Q=>(FQ fun i j=>.bl (decide (i<=j))) x y H Q\/Qp (fun i j=>!(decide (j.cps.toList<i.cps.toList))) x y H Q
theorem R0:OpR X (compareOp .LtE) TU:=op_le.or MW
theorem T9:Eh X.K .sh TU SQ:=fun U M H d e x y P Q dom vM hx hy w q=>by
 unfold SQ at w
 split at w
 ·exact .inl (PK (K:=X.K) (g:=fun i j=>decide (i<=j)) U M H (.int _) (.int _) x y P Q dom vM hx hy w q)
 ·exact .inr (PD (K:=X.K) (g:=fun i j=>!(decide (j.cps.toList<i.cps.toList))) U M H (.str _) (.str _) x y P Q dom vM hx hy w q)
 ·exact w.elim
noncomputable def TJ:V->Option Int->Option Int->Hp->VK->Prop:=fun x lo hi H Q=>∃z,x=.str z/\z.length<=sizeLine/\Q (.str (Txt.slice z lo hi)) H
theorem sl_U:SlR X TJ:=RZ
noncomputable def Got(P:Program)(w:World)(K:Frag)(mg:Str->Option Value)(base:Heap)(x:Str)(k:Nat)(ps:List Str)(κ:Kd)(W:W2):Prop :=
 ∃f fd,Bi P w K mg base Dw k f fd ps (HA K κ W ps.length)/\mg x=some (.ref f)/\keepIn K (.ref f)=true/\Binds K fd ps []/\∀ss n P,W ss n P->ss.length=ps.length
theorem AK{e:Expr}{es:List Expr}{k:Nat}{ps:List Str}{κ:Kd}{W:W2}{x:Str}{p pos:Pos}{was:Sy}(G:Got X.prog X.w X.K X.mg X.base x k ps κ W)
  (hr:Room k X.A) (hg:Gl X x) (ha:UM X (e::es) was)
  (hdb:(x==("__debug__" : Str))=false:=by decide) (he:starEach (e::es) X.env=(false,eval e X.env)::starEach es X.env:=by rfl) (hpl:(backTo pos (starEach es X.env)).any (·.1)=false:=by rfl) :
  DE X (.Call (.Name x p) (e::es) [] pos) κ (AX W was):=by
 obtain⟨f,fd,G,hm,hk,hb,hW⟩:=G
 exact QY G hW hr hg hm hk hb ha hdb he hpl
theorem kit_tuple:UI K "tuple":=⟨fun t ht=>by
 simp only [List.mem_cons,List.not_mem_nil,or_false] at ht
 rcases ht with rfl | rfl | rfl | rfl | rfl | rfl | rfl <;> kernel_rfl⟩
end
theorem D1{i:Nat}{te:DW}{P:List D->Nat->Prop}{g:D->D}(I:List Slot->Prop)(hI:∀d ρ,I ρ->I (ρ.set i (.sh d))) :
  ∀(ds acc:List D) (n:Nat) (ρ:List Slot),(∀d∈ds,∀ρ n P',I ρ->P' (g d) n->te n (ρ.set i (.sh d)) P')->I ρ->P (acc++ds.map g) n->CL (Ao i) Cs te P ds acc n ρ
 | [],acc,n,ρ,_,_,h=>by
  rw [List.map_nil,List.append_nil] at h
  exact h
 | d::ds,acc,n,ρ,ht,hρ,h=>by
  refine ht d List.mem_cons_self ρ n _ hρ ?_
  refine D1 I hI ds (acc++[g d]) n _ (fun d hd=>ht d (List.mem_cons_of_mem _ hd)) (hI d ρ hρ) ?_
  rw [List.append_assoc]
  exact h
theorem Bg{P:Program}{w:World}{K:Frag}{mg:Str->Option Value}{base:Heap}{x:Str}{st:Stmt}{f:Addr}{fd:FuncData}{k:Nat}{ps:List Str}{κ:Kd}{W:W2}(F:Fun K x x st f fd)(m:mg x=some (.ref f))(b:Binds K fd ps [])
  (hW:∀ss n P,W ss n P->ss.length=ps.length) (ok:Bi P w K mg base Dw k f fd ps (HA K κ W ps.length)):Got P w K mg base x k ps κ W:=⟨f,fd,ok,m,F.kp,b,hW⟩
noncomputable def JE(K:Frag):Sp:=fun vs H Q _=>∃a ns,vs=[V.ref a]/\(List.length (α:=Int) ns<=63/\SqL K H a (ns.map V.int))/\∀H',Q (.bl true) H'
noncomputable def Ho(K:Frag):Sp:=fun vs H Q _=>∃a ns,vs=[V.ref a]/\(List.length (α:=Int) ns<=63/\SqL K H a (ns.map V.int)) /\
 ∀(c f:Addr) (H':Hp),c≠f->H' c=some (.lst (ns.map V.int))->H' f=some (.lst [.ref c,.int 0,.int 0])->Q (.ref f) H'
theorem T4{ns:List Int}(h:ns.length<=63):G6 (ns.map V.int) none (some 63)=ns.map V.int:=by
 have e:HT.sIx (ns.map V.int).length (ns.map V.int).length (some 63)=ns.length:=by
  rw [show (63:Int)=((63:Nat):Int) from rfl,HT.sIx_nat,List.length_map,Nat.min_eq_right h]
 unfold G6
 rw [e,HT.sIx_none,List.drop_zero,Nat.sub_zero]
 exact List.take_of_length_le (by rw [List.length_map]; exact Nat.le_refl _)
theorem HI{b:BW}{body:Af}{D2:E2}(I:Nat->Nat->List Slot->Prop)(hend:∀n ρ,I 0 n ρ->D2.nx n ρ) :
  ∀(ds:List D) (n:Nat) (ρ:List Slot) (_:∀(k:Nat) (d:D) (n:Nat) (ρ:List Slot) (nx:Nat->List Slot->Prop),d∈ds->I (k+1) n ρ->(∀n' ρ',I k n' ρ'->nx n' ρ')->b d ρ fun ρ1=>body { D2 with nx:=nx,ct:=nx,bk:=D2.nx } n ρ1),
   I ds.length n ρ->Bb b body D2 ds n ρ
 | [],n,ρ,_,h=>hend n ρ h
 | d::ds,n,ρ,hs,h=>hs ds.length d n ρ (Bb b body D2 ds) List.mem_cons_self h fun n' ρ' h'=>HI I hend ds n' ρ' (fun k d n ρ nx hm=>hs k d n ρ nx (List.mem_cons_of_mem _ hm)) h'
theorem Tr{P:Program}{w:World}{K:Frag}{mg:Str->Option Value}{base:Heap}{st s1:Stmt}{rest:List Stmt}{f:Addr}{fd:FuncData}{Nr:List Str}{k n0:Nat}{wb:Af}(F:Fun K "law" "law" st f fd)
  (S:Ar ("_law_script" :: "_law_feed_here"::Nr) ["_law_script"] (AH st)) (hbd:Aj st=s1::rest) (hn0:n0<=2 ^ 60)
  (h1:∀(cdv:Value) (A:Around) (outer:List Env) (s:Shared) (H:Hp) (E:XK),Room k (A.deeper (envOfC "law" (AH st) s.heap.objs.size f cdv)) ->
   PS (Ib Dw P w K mg base ("_law_script" :: "_law_feed_here"::Nr) "law" (AH st) f cdv A outer s H E).nox s1 (I_ (Nb (Ho K) [] E0 (LM (BR 0) Pi)) (E6 1)))
  (h2:∀(cdv:Value) (A:Around) (outer:List Env) (s:Shared) (H:Hp) (E:XK),Room k (A.deeper (envOfC "law" (AH st) s.heap.objs.size f cdv)) ->
   PP (Ib Dw P w K mg base ("_law_script" :: "_law_feed_here"::Nr) "law" (AH st) f cdv A outer s H E).nox .sh rest wb)
  (hW:wb { nx:=fun _ _=>False,rt:=fun d _=>d=.bl true } n0 (.no::.fd::List.replicate Nr.length .no)):Bi P w K mg base Dw (k+1) f fd ["_law_script"] (JE K):=by
 refine F.ok S (fun vs H Q E h=>?_) (fun cdv A outer s H vs Q E hr h=>?_)
 ·obtain⟨a,ns,rfl,_⟩:=h
  rfl
 ·obtain⟨a,ns,rfl,⟨hl,hS⟩,q⟩:=h
  obtain⟨t,t1,t2⟩:=h2 cdv A outer s H E hr
  refine⟨L_ (I_ (Nb (Ho K) [] E0 (LM (BR 0) Pi)) (E6 1)) t,by rw [hbd]; exact A1 (h1 cdv A outer s H E hr) t1,?_⟩
  refine⟨_,rfl,a,ns,rfl,⟨hl,hS⟩,fun c g H' hcg hc hg=>?_⟩
  have at_:∀(i:Nat) (sl:Slot),(Slot.no::Slot.fd::List.replicate Nr.length Slot.no)[i]?=some sl->Slot.no=sl\/(Slot.fd=sl/\i=1):=by
   intro i sl hs
   match i,hs with
   | 0,hs=>exact .inl (Option.some.inj hs)
   | 1,hs=>exact .inr ⟨Option.some.inj hs,rfl⟩
   | i+2,hs =>
    rw [List.getElem?_cons_succ,List.getElem?_cons_succ,List.getElem?_replicate] at hs
    split at hs
    ·exact .inl (Option.some.inj hs)
    ·cases hs
  have R:Rel K ⟨fun b=>b=g,some (g,c),fun b=>b=g,fun b=>b=g,H',[],[]⟩ (fun b=>b=g) H' n0 (.no::.fd::List.replicate Nr.length .no) ((start ("_law_script" :: "_law_feed_here"::Nr) [V.ref a]).set 1 (some (.ref g))):=by
   refine⟨by simp [L2.start],fun _ z=>z,fun b z=>⟨_,(congrArg H' z).trans hg⟩,Ext.refl _ _,fun b z=>by rw [← Option.some.inj z],fun _ z=>z,fun _ z=>z,fun b z=>?_,fun i sl hs=>?_,fun p hp=>absurd hp (by simp),fun i d b hs _=>?_,fun i sl b hs o _=>?_,fun i j sl t b hs o _ _ _ _=>?_,fun p hp=>absurd hp (by simp)⟩
   ·have e:(g,c)=b:=Option.some.inj z
    subst e
    exact⟨0,0,ns,hg,hcg,⟨hcg,hc⟩,hl,by decide,by omega⟩
   ·rcases at_ i sl hs with e | ⟨e,rfl⟩
    ·rw [← e]; trivial
    ·rw [← e]
     exact⟨(g,c),by simp [L2.start],rfl⟩
   ·rcases at_ i _ hs with e | ⟨e,_⟩ <;> cases e
   ·rcases at_ i sl hs with e | ⟨e,_⟩ <;> (rw [← e] at o; cases o)
   ·rcases at_ i sl hs with e | ⟨e,_⟩ <;> (rw [← e] at o; cases o)
  refine t2 _ _ H' n0 _ _ { nx:=fun _ _=>False,rt:=fun d _=>d=.bl true } _ R ⟨fun _ _ _ _ _ _ z=>z.elim,fun v H2 d n' _ _ r p=>?_,fun _ _ _ _ _ _ z=>z.elim,fun _ _ _ _ _ _ z=>z.elim⟩ hW
  have e:d=.bl true:=p
  subst e
  have e2:v=.bl true:=r
  subst e2
  exact q H2
end Dp
namespace L2
open PySem PySem.Spec PyProof.Rows
section
variable {X:Cx}
theorem EC:∀{us:List Value} {ys:List Str},StrsAre us ys->Vals (ys.map V.str) us
 | _,_,.nil=>.nil
 | _,_,.cons x t r=>.cons ⟨t,rfl⟩ (EC r)
noncomputable def Nz(K:Frag):List V->Hp->VK->Prop:=fun xs H Q=>∃(p:Addr) (ss:List Str),xs=[.ref p]/\SqL K H p (ss.map V.str)/\ss.length<64/\∀(ss':List Str) (l:Addr),ss'.Perm ss->sortedS ss'=true->H l=none->Q (.ref l) (Ax H l (.lst (ss'.map V.str)))
theorem Gc:B6 X (.builtin "sorted") (Nz X.K):=by
 intro pins s σ H xs us Q I r h
 obtain⟨p,ss,rfl,hq,h64,q⟩:=h
 obtain⟨u,rfl,rx⟩:=vals1 r
 cases rx
 obtain⟨its,r',pl,hz⟩:=I.list hq
 have hlen:=r'.length
 rw [List.length_map] at hlen
 refine sorted_strs pl.isList (Fj r') (by omega) fun out ss' a1 a2 a3=>?_
 obtain⟨e,he⟩:=sortedAll_at s.heap its out
 have hl':ss'.length=ss.length:=a2.length_eq
 have hn:H (s.heap.objs.size+1)=none:=I.hok.fresh (Nat.le_succ _)
 refine⟨.ref (s.heap.objs.size+1),_,I.laid (t':=s.toks) (fun b o z=>sortedAll_old z) (Nat.le_succ _) (show ObjOk X.prog X.w _ _ _ (.lst (ss'.map V.str)) from⟨?_,out.toList,e,EC a1,?_⟩),rfl,q ss' _ a2 a3 hn⟩
 ·rw [List.length_map,sizeLine_eq]; omega
 ·exact he
noncomputable def Qt:R2:=fun x y H Q=>∃z k,x=.str z/\y=.int k/\MulOk z k/\Q (.str (Txt.mul z k)) H
theorem P8:OpR X (binaryOp .Mult) Qt:=by
 intro pins s σ H x y v u Q I rx ry h
 obtain⟨z,k,rfl,rfl,hm,q⟩:=h
 obtain⟨t,rfl⟩:=rx
 obtain⟨t',rfl⟩:=ry
 exact SB.mul hm fun t' k=>⟨.str _,H,I.tok _,⟨_,rfl⟩,q⟩
end
end L2
namespace Dp
open PySem PySem.Spec PyProof.Rows L2
section
variable {K:Frag}
noncomputable def CF(ds:List D)(P:D->Prop):Prop:=match ds with
 | [.lst xs]=>P (.tup xs)
 | [.tup xs]=>P (.tup xs)
 | _=>False
theorem DP:CT K .sh (fun xs H Q=>∃p ys,xs=[.ref p]/\((SqL K H p ys/\∀l,H l=none->Q (.ref l) (Ax H l (.tup ys)))\/(SqT K H p ys/\Q (.ref p) H))) CF:=by
 intro U M H ds vs P Q dom vM hp w q
 unfold CF at w
 split at w
 ·obtain⟨v,rfl,hx⟩:=Ck hp
  obtain⟨a,us,rfl,_,ha,hs⟩:=hx
  exact⟨a,us,rfl,.inl ⟨.inl ha,fun l hl=>q _ _ (.tup _) (Am hl) (DH dom hl hs) w⟩⟩
 ·obtain⟨v,rfl,hx⟩:=Ck hp
  obtain⟨a,us,rfl,ha,hs⟩:=hx.tup
  exact⟨a,us,rfl,.inr ⟨ha.sq,q _ H (.tup _) .refl ⟨a,us,rfl,ha,hs⟩ w⟩⟩
 ·exact w.elim
theorem Ats.strs{M:Addr->Prop}{H:Hp}:∀{ss:List Str},(∀x∈ss,x.length<=sizeLine)->Ats K M H (ss.map D.str) (ss.map V.str)
 | [],_=>rfl
 | x::r,h=>⟨.str x,r.map V.str,rfl,⟨rfl,h x List.mem_cons_self⟩,Ats.strs fun y hy=>h y (List.mem_cons_of_mem _ hy)⟩
theorem Ats.strs_le{M:Addr->Prop}{H:Hp}:∀{ss:List Str} {vs:List V},Ats K M H (ss.map D.str) vs->∀x∈ss,x.length<=sizeLine
 | [],_,_=>fun x hx=>by cases hx
 | y::r,vs,h=>fun x hx=>by
  obtain⟨v,t,e,h1,h2⟩:=h
  rcases List.mem_cons.mp hx with rfl | hx
  ·exact h1.2
  ·exact Ats.strs_le h2 x hx
noncomputable def GR(ds:List D)(P:D->Prop):Prop:=∃(xs:List D) (ss:List Str),ds=[.lst xs]/\CS xs=some ss/\ss.length<64/\∀ss':List Str,ss'.Perm ss->sortedS ss'=true->P (.lst (ss'.map .str))
theorem Lw:∀{xs:List D} {ss:List Str},CS xs=some ss->xs=ss.map .str
 | [],ss,h=>by cases h; rfl
 | .str b::r,ss,h=>by
  unfold CS at h
  obtain⟨t,e,rfl⟩:=Option.map_eq_some_iff.mp h
  rw [List.map_cons,← Lw e]
 | .non::r,ss,h=>by unfold CS at h; cases h
 | .int _::r,ss,h=>by unfold CS at h; cases h
 | .bl _::r,ss,h=>by unfold CS at h; cases h
 | .tup _::r,ss,h=>by unfold CS at h; cases h
 | .lst _::r,ss,h=>by unfold CS at h; cases h
 | .dic _ _::r,ss,h=>by unfold CS at h; cases h
 | .fdi _ _::r,ss,h=>by unfold CS at h; cases h
theorem Ly:CT K .fr (Nz K) GR:=by
 intro U M H ds vs P Q dom vM hp w q
 obtain⟨xs,ss,rfl,e,h64,w⟩:=w
 obtain⟨v,rfl,hx⟩:=Ck hp
 obtain⟨a,us,rfl,_,ha,hs⟩:=hx
 have:=Ij e hs
 subst this
 have e2:=Lw e
 subst e2
 refine⟨a,ss,rfl,.inl ha,h64,fun ss' l h1 h2 hl=>?_⟩
 exact q _ _ _ (Am hl) (B5 hl (Ats.strs fun x hx=>hs.strs_le x (h1.mem_iff.mp hx))) (w ss' h1 h2)
noncomputable def Jj(d e:D)(P:D->Prop):Prop:=match d,e with
 | .int i,.int j=>CMul i j/\P (.int (i*j))
 | .str z,.int k=>MulOk z k/\(Txt.mul z k).length<=sizeLine/\P (.str (Txt.mul z k))
 | _,_=>False
noncomputable def Qu:R2:=fun x y H Q=>(rI CMul fun i j=>.int (i*j)) x y H Q\/Qt x y H Q
theorem P9{X:Cx}:OpR X (binaryOp .Mult) Qu:=op_mul.or P8
theorem Sb:Eh K .sh Qu Jj:=fun U M H d e x y P Q dom vM hx hy w q=>by
 unfold Jj at w
 split at w
 ·exact .inl (D6 (K:=K) (C:=CMul) (g:=fun i j=>i*j) U M H (.int _) (.int _) x y P Q dom vM hx hy w q)
 ·rename_i z k
  exact .inr ⟨z,k,hx.1,hy,w.1,q _ H (.str _) .refl ⟨rfl,w.2.1⟩ w.2.2⟩
 ·exact w.elim
end
section
variable {X:Cx}{tg e e2:Expr}{es:List Expr}{ws:EA}{p pos:Pos}
noncomputable def Qi(ws:EA):EA:=fun n ρ P=>ws n ρ fun ds n1=>∃i j:Int,ds=[.int i,.int j]/\(-(2 ^ 62)<=i/\i<2 ^ 62/\-(2 ^ 62)<=j/\j<2 ^ 62)/\P (B7 i (j - i).toNat) n1
theorem M9(hg:Gl X "range")(hm:X.mg "range"=none)(ha:RH X [e,e2] ws)(hs:starEach [e,e2] X.env=[(false,eval e X.env),(false,eval e2 X.env)]:=by rfl)(hs2:starEach [e2] X.env=[(false,eval e2 X.env)]:=by rfl):DI X tg (.Call (.Name "range" p) [e,e2] [] pos) (Qi ws):=by
 obtain⟨t,a1,a2⟩:=ha
 refine⟨_,MP hg hm a1 hs hs2,fun C M H n ρ σ P Rr R w q=>?_⟩
 refine a2 C M H n ρ σ _ _ R w fun vs H1 ds n1 e1 f1 r1 p=>?_
 obtain⟨i,j,rfl,hj,p⟩:=p
 cases r1 with
 | cons r rr =>
  cases rr with
  | cons r' rr =>
   cases rr
   have hv:_=V.int i:=r
   have hv':_=V.int j:=r'
   exact⟨i,j,by rw [hv,hv'],hj,q _ H1 _ n1 e1 f1 EB p⟩
noncomputable def UY(X:Cx)(ts:List Expr)(b:List D->List Slot->(List Slot->Prop)->Prop):Prop:=∃g,UD X ts g/\∀(C:Fm) (M:Addr->Prop) (H:Hp) (n:Nat) (ρ:List Slot) (σ:L2.St) (ds:List D) (vs:List V) (P:List Slot->Prop) (Q:L2.St->Hp->Prop),Rel X.K C M H n ρ σ->Ats X.K M H ds vs->b ds ρ P ->
 (∀ρ' σ',Rel X.K C M H n ρ' σ'->P ρ'->Q σ' H)->g vs σ H Q
noncomputable def Gd:List D->List Slot->(List Slot->Prop)->Prop:=fun ds ρ P=>ds=[]/\P ρ
noncomputable def Bs(b:BW)(bs:List D->List Slot->(List Slot->Prop)->Prop):List D->List Slot->(List Slot->Prop)->Prop:=fun ds ρ P=>match ds with
 | d::r=>b d ρ fun ρ1=>bs r ρ1 P
 | []=>False
theorem IW:UY X [] Gd:=⟨_,LZ,fun C M H n ρ σ ds vs P Q R h w q=>by
 obtain⟨rfl,w⟩:=w
 exact⟨h,q ρ σ R w⟩⟩
theorem CO{b:BW}{bs:List D->List Slot->(List Slot->Prop)->Prop}(h1:DG X e b)(h2:UY X es bs)(hs:(assignEach (e::es) X.env).map (·.2)=assign e X.env::(assignEach es X.env).map (·.2):=by rfl):UY X (e::es) (Bs b bs):=by
 obtain⟨g,a1,a2⟩:=h1
 obtain⟨g',b1,b2⟩:=h2
 refine⟨_,EL a1 b1 hs,fun C M H n ρ σ ds vs P Q R h w q=>?_⟩
 cases ds with
 | nil=>exact w.elim
 | cons d r =>
  obtain⟨v,vr,e,hv,hr⟩:=h
  exact⟨v,vr,e,a2 C M H n ρ σ d v _ _ R hv w fun ρ' σ' R' w'=>b2 C M H n ρ' σ' r vr _ _ R' hr w' q⟩
noncomputable def K3(k:Nat)(bs:List D->List Slot->(List Slot->Prop)->Prop):BW:=fun d ρ P=>match d with
 | .tup ds=>ds.length=k/\bs ds ρ P
 | _=>False
theorem Kw{bs:List D->List Slot->(List Slot->Prop)->Prop}{k:Nat}{j:Nat}(hc:X.calm=true)(h:UY X es bs)(hn:(assignEach es X.env).length=k:=by rfl)(hst:(assignEach es X.env).findIdx? (·.1)=none:=by rfl):DG X (.Tuple es j pos) (K3 k bs):=by
 obtain⟨g,a1,a2⟩:=h
 refine⟨_,OE hc a1 hn hst,fun C M H n ρ σ d v P Q R h w q=>?_⟩
 cases d with
 | tup ds =>
  obtain⟨a,vs,rfl,hq,hs⟩:=h
  exact⟨a,vs,rfl,hq.sq,by rw [hs.length]; exact w.1,a2 C M H n ρ σ ds vs P Q R hs w.2 q⟩
 | _=>exact w.elim
end
end Dp
namespace L2
open PySem PySem.Spec PyProof.Rows
mutual
noncomputable def RV(H:Hp):PyData->V->Prop
 | .none,v=>v=.non
 | .bool b,v=>v=.bl b
 | .int i,v=>v=.int i
 | .str x,v=>v=.str x
 | .tuple xs,v=>∃a vs,v=.ref a/\H a=some (.tup vs)/\RVs H xs vs
 | .list xs,v=>∃a vs,v=.ref a/\Rd H a (.lst vs)/\RVs H xs vs
 | .dict _,_=>False
noncomputable def RVs(H:Hp):List PyData->List V->Prop
 | [],vs=>vs=[]
 | x::xs,vs=>∃v r,vs=v::r/\RV H x v/\RVs H xs r
end
section
variable {X:Cx}{pins:List (Addr×Obj)}{σ:L2.St}{H:Hp}{s:Shared}
mutual
theorem RV.reads(I:Inv X pins σ H s):∀{d:PyData} {v:V} {u:Value},RV H d v->RelV v u->∃as,Reads s.heap u d as
 | .none,v,u,h,r=>by
  cases (show v=.non from h)
  cases (show u=Value.none from r)
  exact⟨_,.none⟩
 | .bool b,v,u,h,r=>by
  cases (show v=.bl b from h)
  cases (show u=Value.bool b from r)
  exact⟨_,.bool b⟩
 | .int i,v,u,h,r=>by
  cases (show v=.int i from h)
  obtain⟨t,rfl⟩:=r
  exact⟨_,.int i t⟩
 | .str x,v,u,h,r=>by
  cases (show v=.str x from h)
  obtain⟨t,rfl⟩:=r
  exact⟨_,.str x t⟩
 | .tuple xs,v,u,h,r=>by
  obtain⟨a,vs,rfl,hq,hs⟩:=h
  cases r
  obtain⟨its,rv,⟨o,e,c,n,d⟩,_⟩:=I.tuple (X:=X) (xs:=vs) (.inl (.inl hq))
  obtain⟨as,ra⟩:=RVs.reads I hs rv
  exact⟨_,.tuple e c d ra⟩
 | .list xs,v,u,h,r=>by
  obtain⟨a,vs,rfl,hq,hs⟩:=h
  cases r
  obtain⟨its,rv,pl,_⟩:=I.list (X:=X) (xs:=vs) (.inl hq)
  obtain⟨o,e,c,n,d⟩:=pl.isList
  obtain⟨as,ra⟩:=RVs.reads I hs rv
  exact⟨_,.list e c d ra⟩
 | .dict _,v,u,h,r=>h.elim
theorem RVs.reads(I:Inv X pins σ H s):∀{ds:List PyData} {vs:List V} {us:List Value},RVs H ds vs->Vals vs us->∃as,ReadsAll s.heap us ds as
 | [],vs,us,h,r=>by
  cases (show vs=[] from h)
  cases r
  exact⟨_,.nil⟩
 | d::ds,vs,us,h,r=>by
  obtain⟨v,w,rfl,h1,h2⟩:=h
  cases r with
  | cons r1 r2 =>
   obtain⟨as,a1⟩:=RV.reads I h1 r1
   obtain⟨bs,a2⟩:=RVs.reads I h2 r2
   exact⟨_,.cons a1 a2⟩
end
end
theorem RV.noDict{H:Hp}:∀(d:PyData) (v:V),RV H d v->d.hasDict=false
 | d,v,h=>by
  have go:∀(n:Nat),(∀(d:PyData) (v:V),sizeOf d<=n->RV H d v->d.hasDict=false)/\∀(ds:List PyData) (vs:List V),sizeOf ds<=n->RVs H ds vs->PyData.hasDictAll ds=false:=by
   intro n
   induction n with
   | zero =>
    refine⟨fun d v h _=>?_,fun ds vs h _=>?_⟩
    ·cases d <;> simp at h
    ·cases ds <;> simp at h
   | succ n ih =>
    refine⟨fun d v h hr=>?_,fun ds vs h hr=>?_⟩
    ·cases d with
     | tuple xs =>
      obtain⟨a,vs,_,_,hs⟩:=hr
      simp only [PyData.hasDict]
      exact ih.2 xs vs (by simp at h; omega) hs
     | list xs =>
      obtain⟨a,vs,_,_,hs⟩:=hr
      simp only [PyData.hasDict]
      exact ih.2 xs vs (by simp at h; omega) hs
     | dict kvs=>exact(show False from hr).elim
     | none=>simp only [PyData.hasDict]
     | bool b=>simp only [PyData.hasDict]
     | int i=>simp only [PyData.hasDict]
     | str x=>simp only [PyData.hasDict]
    ·cases ds with
     | nil=>simp only [PyData.hasDictAll]
     | cons x xs =>
      obtain⟨v,w,_,h1,h2⟩:=hr
      simp only [PyData.hasDictAll,ih.1 x v (by simp at h; omega) h1,ih.2 xs w (by simp at h; omega) h2,Bool.or_false]
  exact(go (sizeOf d)).1 d v (Nat.le_refl _) h
section
variable {X:Cx}
noncomputable def Qs:List V->Hp->VK->Prop:=fun xs H Q=>∃x d,xs=[x]/\RV H d x/\d.showable=true/\d.depth<=100/\d.shown.length<=sizeLine/\Q (.str d.shown) H
theorem HZ{k:Nat}(hr:Room k X.A):B6 X (.builtin "repr") Qs:=by
 intro pins s σ H xs us Q I r h
 obtain⟨x,d,rfl,hx,hs,hd,hz,q⟩:=h
 obtain⟨u,rfl,rx⟩:=vals1 r
 have hu:=hr.un
 cases d with
 | none =>
  cases (show x=.non from hx)
  cases (show u=Value.none from rx)
  exact PySem.P.repr_of_none ⟨.str _,H,I.tok _,⟨_,rfl⟩,q⟩
 | bool b =>
  cases (show x=.bl b from hx)
  cases (show u=Value.bool b from rx)
  refine PySem.P.repr_of_bool ⟨.str _,H,I.tok _,⟨_,rfl⟩,?_⟩
  have e:PyData.shown (.bool b)=if b then ("True" : Str) else "False":=by cases b <;> rfl
  rw [e] at q
  exact q
 | int i =>
  cases (show x=.int i from hx)
  obtain⟨t,rfl⟩:=rx
  refine PySem.P.repr_of_int (by simpa [PyData.showable] using hs) ⟨.str _,H,I.tok _,⟨_,rfl⟩,q⟩
 | str z =>
  cases (show x=.str z from hx)
  obtain⟨t,rfl⟩:=rx
  exact PySem.P.repr_of_str ⟨.str _,H,I.tok _,⟨_,rfl⟩,q⟩ hz
 | tuple ds =>
  obtain⟨as,ra⟩:=RV.reads I hx rx
  obtain⟨a,vs,rfl,_⟩:=id hx
  cases rx
  refine repr_of_reads' ra hs (PyData.noDict_hsm (RV.noDict _ _ hx)) hr.gd (by omega) (fun _ _ e=>e) (fun h' u tk hk=>⟨.str _,H,I.kept (t':=tk) hk,⟨_,rfl⟩,q⟩) hz
 | list ds =>
  obtain⟨as,ra⟩:=RV.reads I hx rx
  obtain⟨a,vs,rfl,_⟩:=id hx
  cases rx
  refine repr_of_reads' ra hs (PyData.noDict_hsm (RV.noDict _ _ hx)) hr.gd (by omega) (fun _ _ e=>e) (fun h' u tk hk=>⟨.str _,H,I.kept (t':=tk) hk,⟨_,rfl⟩,q⟩) hz
 | dict _=>exact(show False from hx).elim
noncomputable def Rm(neg:Bool):R2:=fun x y H Q=>∃d es,RV H d x/\(RV H (.list es) y\/RV H (.tuple es) y)/\d.canLay0=true/\PyData.canLayAll0 es=true/\d.depth<=100/\Q (.bl (if neg then !(es.any fun y=>PyData.eqv y d) else es.any fun y=>PyData.eqv y d)) H
theorem R6{k:Nat}(hr:Room k X.A):OpR X (compareOp .In) (Rm false):=by
 intro pins s σ H x y v u Q I rx ry h
 obtain⟨d,es,hx,hy,h1,h2,hd,q⟩:=h
 obtain⟨as,ra⟩:=RV.reads I hx rx
 have hu:=hr.un
 have hm:min (PyData.depthAll es) d.depth<=d.depth:=Nat.min_le_right _ _
 rcases hy with hy | hy
 ·obtain⟨bs,rb⟩:=RV.reads I hy ry
  exact PySem.SeqAt.in_list_reads rb ra h2 h1 (by omega) ⟨.bl _,H,I,rfl,q⟩
 ·obtain⟨bs,rb⟩:=RV.reads I hy ry
  exact PySem.SeqAt.in_tuple_reads rb ra h2 h1 (by omega) ⟨.bl _,H,I,rfl,q⟩
theorem HG{k:Nat}(hr:Room k X.A):OpR X (compareOp .NotIn) (Rm true):=by
 intro pins s σ H x y v u Q I rx ry h
 obtain⟨d,es,hx,hy,h1,h2,hd,q⟩:=h
 obtain⟨as,ra⟩:=RV.reads I hx rx
 have hu:=hr.un
 have hm:min (PyData.depthAll es) d.depth<=d.depth:=Nat.min_le_right _ _
 rcases hy with hy | hy
 ·obtain⟨bs,rb⟩:=RV.reads I hy ry
  exact PySem.SeqAt.notIn_list_reads rb ra h2 h1 (by omega) ⟨.bl _,H,I,rfl,q⟩
 ·obtain⟨bs,rb⟩:=RV.reads I hy ry
  exact PySem.SeqAt.notIn_tuple_reads rb ra h2 h1 (by omega) ⟨.bl _,H,I,rfl,q⟩
end
end L2
namespace Dp
open PySem PySem.Spec PyProof.Rows L2
mutual
noncomputable def toPy:D->PyData
 | .non=>.none
 | .bl b=>.bool b
 | .int i=>.int i
 | .str x=>.str x
 | .tup ds=>.tuple (Av ds)
 | .lst ds=>.list (Av ds)
 | .dic _ _=>.dict []
 | .fdi _ _=>.dict []
noncomputable def Av:List D->List PyData
 | []=>[]
 | d::ds=>toPy d::Av ds
end
mutual
noncomputable def E5:D->Bool
 | .tup ds=>Cu ds
 | .lst ds=>Cu ds
 | .dic _ _=>false
 | .fdi _ _=>false
 | _=>true
noncomputable def Cu:List D->Bool
 | []=>true
 | d::ds=>E5 d&&Cu ds
end
theorem DX(ds:List D):Av ds=ds.map toPy:=by
 induction ds with
 | nil=>rfl
 | cons d r ih=>rw [Av,ih,List.map_cons]
section
variable {K:Frag}{M:Addr->Prop}{H:Hp}
mutual
theorem At.rv:∀{d:D} {v:V},At K M H d v->E5 d=true->RV H (toPy d) v
 | .non,v,h,_=>h
 | .bl b,v,h,_=>h
 | .int i,v,h,_=>h
 | .str x,v,h,_=>h.1
 | .tup ds,v,h,n=>by
  obtain⟨a,vs,e,hn,hs⟩:=h
  exact⟨a,vs,e,hn.2,Ats.rv hs n⟩
 | .lst ds,v,h,n=>by
  obtain⟨a,vs,e,hn,hs⟩:=h
  exact⟨a,vs,e,.inl hn.2,Ats.rv hs n⟩
 | .dic ks ds,v,h,n=>by cases n
 | .fdi ks ds,v,h,n=>by cases n
theorem Ats.rv:∀{ds:List D} {vs:List V},Ats K M H ds vs->Cu ds=true->RVs H (Av ds) vs
 | [],vs,h,_=>h
 | d::ds,vs,h,n=>by
  obtain⟨v,r,e,h1,h2⟩:=h
  have n':(E5 d&&Cu ds)=true:=n
  rw [Bool.and_eq_true] at n'
  exact⟨v,r,e,At.rv h1 n'.1,Ats.rv h2 n'.2⟩
end
theorem AtT.rv{U:Addr->Prop}{d:D}{v:V}(h:AtT K U M H d v)(n:E5 d=true):RV H (toPy d) v:=by
 cases d with
 | lst ds =>
  obtain⟨a,vs,e,_,hq,hs⟩:=h
  exact⟨a,vs,e,hq,Ats.rv hs n⟩
 | dic ks ds=>cases n
 | fdi ks ds=>cases n
 | non=>exact h
 | bl b=>exact h
 | int i=>exact h
 | str x=>exact h.1
 | tup ds=>exact At.rv (K:=K) (M:=M) (d:=.tup ds) h n
noncomputable def LN(d:D):Prop:=E5 d=true/\(toPy d).showable=true/\(toPy d).depth<=100/\(toPy d).shown.length<=sizeLine
noncomputable def Hs(d:D):Str:=(toPy d).shown
noncomputable def Ol(ds:List D)(P:D->Prop):Prop:=∃d,ds=[d]/\LN d/\P (.str (Hs d))
theorem PF:CT K .sh Qs Ol:=by
 intro U M H ds vs P Q dom vM hp w q
 obtain⟨d,rfl,hd,w⟩:=w
 obtain⟨v,rfl,hx⟩:=Ck hp
 exact⟨v,toPy d,rfl,hx.rv hd.1,hd.2.1,hd.2.2.1,hd.2.2.2,q _ H (.str (Hs d)) .refl ⟨rfl,hd.2.2.2⟩ w⟩
noncomputable def Cz(d:D):Prop:=E5 d=true/\(toPy d).canLay0=true/\(toPy d).depth<=100
noncomputable def GS(d e:D):Bool:=PyData.eqv (toPy d) (toPy e)
noncomputable def Np:D->Option (List D)
 | .lst ds=>some ds
 | .tup ds=>some ds
 | _=>none
noncomputable def QS(neg:Bool)(d e:D)(P:D->Prop):Prop:=Cz d/\Cz e/\∃es,Np e=some es/\P (.bl (if neg then !(es.any fun y=>GS y d) else es.any fun y=>GS y d))
theorem PL{neg:Bool}:Eh K .sh (Rm neg) (QS neg):=fun U M H d e x y P Q dom vM hx hy w q=>by
 obtain⟨h1,h2,es,he,w⟩:=w
 have any_eq:∀es:List D,(es.map toPy).any (fun y=>PyData.eqv y (toPy d))=es.any fun y=>GS y d:=fun es=>by rw [List.any_map]; rfl
 cases e with
 | lst ds =>
  cases he
  refine⟨toPy d,Av es,hx.rv h1.1,.inl (hy.rv h2.1),h1.2.1,by simpa [toPy,PyData.canLay0] using h2.2.1,h1.2.2,?_⟩
  rw [DX,any_eq]
  exact q _ H (.bl _) .refl rfl w
 | tup ds =>
  cases he
  refine⟨toPy d,Av es,hx.rv h1.1,.inr (hy.rv h2.1),h1.2.1,by simpa [toPy,PyData.canLay0] using h2.2.1,h1.2.2,?_⟩
  rw [DX,any_eq]
  exact q _ H (.bl _) .refl rfl w
 | _=>cases he
noncomputable def QP(d e:D)(P:D->Prop):Prop:=Cz d/\Cz e/\P (.bl (!GS d e))
end
end Dp
namespace L2
open PySem PySem.Spec PyProof.Rows
noncomputable def TN:R2:=fun x y H Q=>∃d e,RV H d x/\RV H e y/\d.canLay0=true/\e.canLay0=true/\d.depth<=100/\Q (.bl (!PyData.eqv d e)) H
theorem Kg{X:Cx}{k:Nat}(hr:Room k X.A):OpR X (compareOp .NotEq) TN:=by
 intro pins s σ H x y v u Q I rx ry h
 obtain⟨d,e,hx,hy,h1,h2,hd,q⟩:=h
 obtain⟨as,ra⟩:=RV.reads I hx rx
 obtain⟨bs,rb⟩:=RV.reads I hy ry
 have hu:=hr.un
 have hm:min d.depth e.depth<=d.depth:=Nat.min_le_left _ _
 exact PySem.SeqAt.compareNe_reads ra rb h1 h2 (by omega) ⟨.bl _,H,I,rfl,q⟩
end L2
namespace Dp
open PySem PySem.Spec PyProof.Rows L2
theorem PH{K:Frag}:Eh K .sh TN QP:=fun U M H d e x y P Q dom vM hx hy w q =>
 ⟨toPy d,toPy e,hx.rv w.1.1,hy.rv w.2.1.1,w.1.2.1,w.2.1.2.1,w.1.2.2,q _ H (.bl (!GS d e)) .refl rfl w.2.2⟩
end Dp
namespace L2
open PySem PySem.Spec PyProof.Rows
noncomputable def kOf:Key->V
 | .inl i=>.int i
 | .inr x=>.str x
noncomputable def UT:Key->Key->Bool
 | .inl i,.inl j=>decide (i<j)
 | .inr x,.inr y=>decide (x.cps.toList<y.cps.toList)
 | _,_=>false
noncomputable def HE:Key->Key->Bool
 | .inl _,.inl _=>true
 | .inr _,.inr _=>true
 | _,_=>false
noncomputable def D4:List Key->List Key->Bool
 | [],[]=>false
 | [],_::_=>true
 | _::_,[]=>false
 | x::xs,y::ys=>if x=y then D4 xs ys else UT x y
noncomputable def Bo:List Key->List Key->Bool
 | x::xs,y::ys=>HE x y&&Bo xs ys
 | _,_=>true
theorem Ou{A:Around}{s:Shared}{x y:Key}{u v:Value}(rx:RelV (kOf x) u)(ry:RelV (kOf y) v):∃e,SeqAt.EqAt A s u v e/\(e=true↔x=y):=by
 cases x with
 | inl i =>
  cases y with
  | inl j=>exact⟨_,IQ rx ry rfl rfl,by simp [kOf,Tv]⟩
  | inr z=>exact⟨_,IQ rx ry rfl rfl,by simp [kOf,Tv]⟩
 | inr z =>
  cases y with
  | inl j=>exact⟨_,IQ rx ry rfl rfl,by simp [kOf,Tv]⟩
  | inr z'=>exact⟨_,IQ rx ry rfl rfl,by simp [kOf,Tv]⟩
theorem Nx(A:Around)(s:Shared){x y:Key}{u v:Value}(rx:RelV (kOf x) u)(ry:RelV (kOf y) v)(hs:HE x y=true)(prog:Program)(w:World)(E:Value->Shared->Prop)(Q:Value->Shared->Prop)(h:Q (.bool (UT x y)) s) :
  wpAny (model prog w) A (richCompare .Lt u v) Q E s:=by
 cases x with
 | inl i =>
  cases y with
  | inl j =>
   obtain⟨t,rfl⟩:=rx
   obtain⟨t',rfl⟩:=ry
   exact(PyProof.Rows.lt_int h:wpAny (model prog w) A (compareOp .Lt (.int i t) (.int j t')) Q E s)
  | inr z=>cases hs
 | inr z =>
  cases y with
  | inl j=>cases hs
  | inr z' =>
   obtain⟨t,rfl⟩:=rx
   obtain⟨t',rfl⟩:=ry
   exact(PySem.P.lt_str h:wpAny (model prog w) A (compareOp .Lt (.str z t) (.str z' t')) Q E s)
section
open PySem.SeqAt
open PySem.AutoSeq1 (wpAny_loadPart')
open PySem.MeetsSeq PySem.MeetsSeq2 PySem.MeetsSeq3
theorem Dn(l b:Addr)(items items2:Array Value)(n n2:Nat)(dd dd2:Option Addr)(sl sl2:Array (Option Value))(ns ms:List Key)(hi:Vals (ns.map kOf) items.toList)(hj:Vals (ms.map kOf) items2.toList)(hsame:Bo ns ms=true) :
  Meets (Builtin.«tuple.__lt__» ⟨[.ref l,.ref b],[]⟩)
   (fun _ R s=>s.heap.get? l=some { cls:=.type "tuple",dict:=dd,data:=.seq items n,slots:=sl }/\s.heap.get? b=some { cls:=.type "tuple",dict:=dd2,data:=.seq items2 n2,slots:=sl2 } /\
    R (.ok (.ret (.bool (D4 ns ms)))) s) :=
 .of_wp fun prog w A R s h=>by
  obtain⟨hp,g,d,tk,os⟩:=s; obtain⟨hl,hb,h⟩:=h
  have f2:=AutoSeq1.sub_tuple_tuple
  have z1:items.size=ns.length:=by have:=hi.length; rw [List.length_map] at this; rw [this]; simp
  have z2:items2.size=ms.length:=by have:=hj.length; rw [List.length_map] at this; rw [this]; simp
  wp_walk using wpAny_loadPart' hl,wpAny_loadPart' hb,wpAny_forIn_list _ (fun rest b s'=>b.1=none/\s'=⟨hp,g,d,tk,os⟩/\∃(vs ws:List Value) (ns' ms':List Key),rest=vs.zip ws /\
   Vals (ns'.map kOf) vs/\Vals (ms'.map kOf) ws/\Bo ns' ms'=true/\ns'.length+items2.size=ms'.length+items.size/\R (.ok (.ret (.bool (D4 ns' ms')))) ⟨hp,g,d,tk,os⟩) _
  case turn =>
   rintro ⟨y,x⟩ rest b s' ⟨hb',rfl,vs,ws,ns',ms',hz,hvi,hwi,hsm,hlen,hR⟩
   cases ns' with
   | nil=>cases hvi; rw [List.zip_nil_left] at hz; cases hz
   | cons a ns' =>
    cases ms' with
    | nil=>cases hwi; rw [List.zip_nil_right] at hz; cases hz
    | cons c ms' =>
     rw [List.map_cons] at hvi hwi
     cases hvi with
     | cons ra hvi' =>
      cases hwi with
      | cons rc hwi' =>
       rw [List.zip_cons_cons] at hz
       injection hz with hyx hrest
       injection hyx with hy hx
       subst hy hx
       have hR':R (.ok (.ret (.bool (if a=c then D4 ns' ms' else UT a c)))) ⟨hp,g,d,tk,os⟩:=hR
       have hsm':(HE a c&&Bo ns' ms')=true:=hsm
       rw [Bool.and_eq_true] at hsm'
       simp only [List.length_cons] at hlen
       obtain⟨e,he,hiff⟩:=Ou (A:=A.in1) (s:=⟨hp,g,d,tk,os⟩) ra rc
       refine wpAny_bind (he prog w _ _ ?_)
       cases e with
       | true =>
        rw [if_pos (hiff.mp rfl)] at hR'
        wp_walk
        exact⟨rfl,rfl,_,_,_,_,hrest,hvi',hwi',hsm'.2,by omega,hR'⟩
       | false =>
        rw [if_neg (fun q=>absurd (hiff.mpr q) Bool.false_ne_true)] at hR'
        have hri:=Nx A.in1 ⟨hp,g,d,tk,os⟩ ra rc hsm'.1 prog w
        wp_walk using hri
        exact⟨_,rfl,by simpa using hR'⟩
  case fin =>
   rintro ⟨b1,b2⟩ s' ⟨hb',rfl,vs,ws,ns',ms',hz,hvi,hwi,hsm,hlen,hR⟩
   simp only at hb'
   subst hb'
   have hv:D4 ns' ms'=decide (items.size<items2.size):=by
    cases ns' with
    | nil =>
     cases ms' with
     | nil =>
      simp only [List.length_nil] at hlen
      exact(decide_eq_false (by omega)).symm
     | cons c u =>
      simp only [List.length_nil,List.length_cons] at hlen
      exact(decide_eq_true (by omega)).symm
    | cons a t =>
     cases ms' with
     | nil =>
      simp only [List.length_nil,List.length_cons] at hlen
      exact(decide_eq_false (by omega)).symm
     | cons c u =>
      rw [List.map_cons] at hvi hwi
      cases hvi
      cases hwi
      rw [List.zip_cons_cons] at hz
      cases hz
   rw [hv] at hR
   wp_walk
   exact⟨_,rfl,by simpa [Builtin.Tuple.tupleCompareSizes] using hR⟩
  case h =>
   exact⟨rfl,rfl,items.toList,items2.toList,ns,ms,rfl,hi,hj,hsame,by omega,h⟩
end
section
variable {X:Cx}
noncomputable def TQ(K:Frag):R2:=fun x y H Q=>∃a b ns ms,x=.ref a/\y=.ref b/\SqT K H a (ns.map kOf)/\SqT K H b (ms.map kOf)/\Bo ns ms=true/\Q (.bl (D4 ns ms)) H
theorem Rz(hu:X.A.units<cLine):OpR X (compareOp .Lt) (TQ X.K):=by
 intro pins s σ H x y v u Q I rx ry h
 obtain⟨a,b,ns,ms,rfl,rfl,ha,hb,hsm,q⟩:=h
 cases rx
 cases ry
 obtain⟨its,r1,p1,_⟩:=I.tuple ha
 obtain⟨its2,r2,p2,_⟩:=I.tuple hb
 obtain⟨⟨cls,dd,data,sl⟩,ho,hc,n,hd⟩:=id p1
 obtain⟨⟨cls2,dd2,data2,sl2⟩,ho2,hc2,n2,hd2⟩:=id p2
 simp only at hc hd hc2 hd2
 subst hc hd hc2 hd2
 exact richCompare_meets_room (op:=.Lt) ⟨_,ho,rfl⟩ ⟨_,ho2,rfl⟩ PySem.F.slot_tuple_lt PySem.F.entry_tuple_lt (PySem.F.args_tuple_lt_2 _ _) (Dn a b its.toArray its2.toArray n n2 dd dd2 sl sl2 ns ms r1 r2 hsm)
  ⟨ho,ho2,show Value.bool (D4 ns ms)≠Value.notImplemented/\EP X pins σ Q (.bool (D4 ns ms)) s from⟨(fun x=>nomatch x),⟨.bl _,H,I,rfl,q⟩⟩⟩ hu
end
noncomputable def Sw(κ:Bool)(h:Heap)(it l:Addr)(k:Nat):Prop:=match κ with
 | true=>h.IsListIter it l k
 | false=>h.IsTupleIter it l k
section
variable {κ:Bool}{h h':Heap}{it l b:Addr}{k:Nat}{items:Array Value}
end
section
variable {prog:Program}{w:World}{A:Around}{E:Value->Shared->Prop}{s:Shared}
structure VX (z TI TO i1 i2 l1 l2:Addr):Prop where
 TIz:TI≠z
 TOz:TO≠z
 i1z:i1≠z
 i2z:i2≠z
 TOi1:TO≠i1
 TOi2:TO≠i2
 i12:i1≠i2
 l1z:l1≠z
 l1TO:l1≠TO
 l1i1:l1≠i1
 l1i2:l1≠i2
 l2z:l2≠z
 l2TO:l2≠TO
 l2i1:l2≠i1
 l2i2:l2≠i2
end
section
variable {prog:Program}{w:World}{A:Around}{E:Value->Shared->Prop}{s:Shared}
end
section
variable {X:Cx}{pins:List (Addr×Obj)}{σ:L2.St}{H:Hp}{s:Shared}{h':Heap}
theorem Inv.turnedL{t':Nat}{ch:List Addr}(I:Inv X pins σ H s)(hf:∀b∈ch,Eg X pins H b)(k:∀b o,b∉ch->s.heap.get? b=some o->h'.get? b=some o):Inv X pins σ H { s with heap:=h',toks:=t' }:=by
 have nit:∀b u,H b=some u->b∉ch:=fun b u e z=>by rw [(hf b z).1] at e; cases e
 refine I.step (g':=s.gens) (d':=s.drawn) (ch:=ch) (fun b hb=>?_) (fun b o _ _ hc e _=>k b o hc e) (fun b o _ _ hc e _=>⟨o.slots,k b o hc e⟩) (fun _ _ _ _ n=>n) (fun b o hc e=>⟨o,k b o hc e⟩) (fun _ _ e=>e) (fun _ _ _ e=>e) (fun b ps e=>⟨#[],by rw [e]; simp⟩) (fun m hm=>?_) (fun b u e=>?_) I.bare
 ·obtain⟨f0,f1,f2,f3,f4,f5⟩:=hf b hb
  exact⟨f3,f1,f4,f5⟩
 ·obtain⟨o,es,ep,ho,r⟩:=hm
  exact⟨o,es,ep,k _ o (fun z=>(hf _ z).2.1 rfl) ho,r⟩
 ·exact(I.hok b u e).stay (fun c v hc q=>k c v (hc.elim (fun z=>by rw [z]; exact nit b u e) fun z=>nit c _ z) q) (fun _ q=>q) fun _ _ q=>q
theorem Inv.turnLaid{t':Nat}{ch:List Addr}{a:Addr}{o:HO}(I:Inv X pins σ H s)(hf:∀b∈ch,Eg X pins H b)(k:∀b o,b∉ch->s.heap.get? b=some o->h'.get? b=some o)(ha:s.heap.objs.size<=a)(new:ObjOk X.prog X.w (Ax H a o) h' a o) :
  Inv X pins σ (Ax H a o) { s with heap:=h',toks:=t' }:=by
 have nit:∀b u,H b=some u->b∉ch:=fun b u e z=>by rw [(hf b z).1] at e; cases e
 have hn:H a=none:=I.hok.fresh ha
 have up:∀b u,H b=some u->Ax H a o b=some u:=fun b u e=>by rw [AI (Ay e hn)]; exact e
 refine I.step (g':=s.gens) (d':=s.drawn) (ch:=ch) (fun b hb=>?_) (fun b o _ _ hc e _=>k b o hc e) (fun b o _ _ hc e _=>⟨o.slots,k b o hc e⟩) (fun b u _ e n=>?_) (fun b o hc e=>⟨o,k b o hc e⟩) (fun b xs e=>up _ _ e) (fun b o u e=>up _ _ e) (fun b ps e=>⟨#[],by rw [up _ _ e]; simp⟩) (fun m hm=>?_) (fun b u e=>?_) I.bare
 ·obtain⟨f0,f1,f2,f3,f4,f5⟩:=hf b hb
  exact⟨f3,f1,f4,f5⟩
 ·rw [AI (Nat.ne_of_lt (Nat.lt_of_lt_of_le (Heap.lt_size e) ha))]; exact n
 ·obtain⟨o,es,ep,ho,r⟩:=hm
  exact⟨o,es,ep,k _ o (fun z=>(hf _ z).2.1 rfl) ho,r⟩
 ·by_cases hb:b=a
  ·subst hb; rw [AM] at e; cases e; exact new
  ·rw [AI hb] at e
   exact(I.hok b u e).stay (fun c v hc q=>k c v (hc.elim (fun z=>by rw [z]; exact nit b u e) fun z=>nit c _ z) q) (fun c q=>up _ _ q) fun c xs q=>up _ _ q
end
noncomputable def U3(κ:Bool)(K:Frag)(H:Hp)(a:Addr)(xs:List V):Prop:=match κ with
 | true=>SqL K H a xs
 | false=>SqT K H a xs
structure VH (κ1 κ2:Bool) (z TI TO i1 i2 a b:Addr) (k:Nat) (h:Heap):Prop where
 z:IsZip h z TI TO .none
 ti:IsPair h TI (.ref i1) (.ref i2)
 to:∃a b,IsPair h TO a b
 i1:Sw κ1 h i1 a k
 i2:Sw κ2 h i2 b k
section
variable {X:Cx}
end
end L2
namespace Dp
open PySem PySem.Spec PyProof.Rows L2
noncomputable def L4(ds es:List D):List D:=List.zipWith (fun d e=>.tup [d,e]) ds es
section
variable {K:Frag}
theorem Ra{U V' M:Addr->Prop}{H:Hp}{d:D}{v:V}{ds:List D}(h:AtT K V' M H d v)(e:Np d=some ds)(uV:∀a,U a->V' a)(vM:∀a,V' a->M a):∃κ a vs,v=.ref a/\Ats K M H ds vs/\∀M' H',Pres M H M' H'->Ext U H H'->U3 κ K H' a vs:=by
 cases d with
 | lst xs =>
  cases e
  obtain⟨a,vs,e1,n1,hq,hs⟩:=h
  refine⟨true,a,vs,e1,hs,fun M' H' _ ex=>?_⟩
  rcases hq with hq | ⟨o,hq⟩
  ·exact .inl (.inl (ex.keep hq fun z=>n1 (uV a z)))
  ·exact .inl (.inr ⟨o,ex.keep hq fun z=>n1 (uV a z)⟩)
 | tup xs =>
  cases e
  obtain⟨a,vs,e1,hq,hs⟩:=h
  exact⟨false,a,vs,e1,hs,fun M' H' pr _=>(hq.pres pr).sq⟩
 | _=>cases e
end
section
variable {X:Cx}{e1 e2:Expr}{es:List Expr}{j:Nat}{tpos p pos:Pos}{ws:EA}
noncomputable def Uo:D->Option Key
 | .int i=>some (.inl i)
 | .str x=>some (.inr x)
 | _=>none
noncomputable def GH:List D->Option (List Key)
 | []=>some []
 | d::ds=>match Uo d,GH ds with
  | some k,some ks=>some (k::ks)
  | _,_=>none
theorem ER{K:Frag}{M:Addr->Prop}{H:Hp}:∀{ds:List D} {vs:List V} {ks:List Key},GH ds=some ks->Ats K M H ds vs->vs=ks.map kOf
 | [],vs,ks,e,h=>by cases e; exact h
 | d::ds,vs,ks,e,h=>by
  obtain⟨v,r,e1,h1,h2⟩:=h
  unfold GH at e
  split at e
  ·rename_i k ks' hk hks
   cases e
   rw [e1,ER hks h2,List.map_cons]
   congr 1
   cases d with
   | int i=>cases hk; exact h1
   | str x=>cases hk; exact h1.1
   | _=>cases hk
  ·cases e
noncomputable def EU(d e:D)(P:D->Prop):Prop:=match d,e with
 | .int i,.int j=>P (.bl (decide (i<j)))
 | .str i,.str j=>P (.bl (decide (i.cps.toList<j.cps.toList)))
 | .tup xs,.tup ys=>∃ks ls,GH xs=some ks/\GH ys=some ls/\Bo ks ls=true/\P (.bl (D4 ks ls))
 | _,_=>False
noncomputable def TR(K:Frag):R2:=fun x y H Q=>Rk x y H Q\/TQ K x y H Q
theorem Dz{k:Nat}(hr:Room k X.A):OpR X (compareOp .Lt) (TR X.K):=op_ltU.or (Rz hr.units0)
theorem Gi:Eh X.K .sh (TR X.K) EU:=fun U M H d e x y P Q dom vM hx hy w q=>by
 unfold EU at w
 split at w
 ·exact .inl (RG (X:=X) U M H (.int _) (.int _) x y P Q dom vM hx hy w q)
 ·exact .inl (RG (X:=X) U M H (.str _) (.str _) x y P Q dom vM hx hy w q)
 ·obtain⟨ks,ls,h1,h2,h3,w⟩:=w
  obtain⟨a,vs,rfl,ha,hs⟩:=hx.tup
  obtain⟨b,us,rfl,hb,ht⟩:=hy.tup
  have e1:=ER h1 hs
  have e2:=ER h2 ht
  subst e1 e2
  exact .inr ⟨a,b,ks,ls,rfl,rfl,ha.sq,hb.sq,h3,q _ H (.bl _) .refl rfl w⟩
 ·exact w.elim
end
end Dp
namespace L2
open PySem PySem.Spec PyProof.Rows
section
variable {prog:Program}{w:World}{A:Around}{E:Value->Shared->Prop}{s:Shared}
theorem Iz{t sl:Addr}{items:Array Value}{vl vu:Value}{lo hi:Option Int}{Q:Value->Shared->Prop}(ht:IsTup s.heap t items)(hs:s.heap.IsSliceOf sl vl vu .none)(pl:IsPart vl lo)(pu:IsPart vu hi)
  (hw:HT.sIx items.size 0 lo=0/\HT.sIx items.size items.size hi=items.size) (h:Q (.ref t) s):wpAny (model prog w) A (getItem (.ref t) (.ref sl)) Q E s:=by
 obtain⟨os,hos,hcs,hds⟩:=id hs
 have hTs:s.TypeIs (.ref sl) "slice":=⟨os,hos,hcs⟩
 unfold getItem
 (try with_reducible refine wpAny_holding ?_); (first | refine wpAny_bind (wpAny_pure ?_) | skip)
 refine wpAny_bind (wpAny_sequenceKey ht.typeIs (by decide) (wpAny_bind (wpAny_callSpecial?_slot (name:=Str.ofString "__getitem__") ht.typeIs PyProof.Rows.slot_tuple_getitem (wpAny_call_entry PyProof.Rows.slot_tuple_getitem ht.typeIs entry_tuple_getitem ?_ (args_tuple_getitem _ _)))))
 show wpAny (model prog w) _ (Builtin.Tuple.tupleItemsOf (.ref t) >>= _) _ _ s
 refine wpAny_bind (tupleItemsOf_ ht (wpAny_bind (wpAny_typeOf hTs ?_))); rw [if_pos (by decide)]
 refine wpAny_bind (HT.sliceApplied_gen hs pl pu ?_)
 have hyes:(((HT.sIx items.size 0 lo:Nat):Int)==0&&(1:Int)==1&&(HT.sIx items.size items.size hi - HT.sIx items.size 0 lo)==items.size)=true:=by rw [hw.1,hw.2]; simp
 show wpAny (model prog w) _ (if (((HT.sIx items.size 0 lo:Nat):Int)==0&&(1:Int)==1&&(HT.sIx items.size items.size hi - HT.sIx items.size 0 lo)==items.size)=true then _ else _) _ _ s
 rw [if_pos hyes]
 refine wpAny_bind (m:=Builtin.Tuple.tupleIsExact _) ?_
 unfold Builtin.Tuple.tupleIsExact
 refine wpAny_bind (wpAny_typeOf ht.typeIs (wpAny_pure ?_))
 show wpAny (model prog w) _ (if ((Value.type "tuple"==Value.type "tuple")=true) then _ else _) _ _ s
 rw [if_pos (by decide)]
 first
  | exact wpAny_bind (wpAny_rule (wpAny_bind (wpAny_pure (wpAny_pure ⟨_,rfl,wpAny_pure h⟩))))
  | exact wpAny_bind (wpAny_rule (wpAny_pure ⟨_,rfl,wpAny_pure h⟩))
  | exact wpAny_bind (wpAny_bind (wpAny_rule (wpAny_pure (wpAny_pure ⟨_,rfl,wpAny_pure h⟩))))
end
section
variable {X:Cx}{e st:Expr}{te tst:TE}{pos p2:Pos}
noncomputable def Qq(K:Frag):V->Option Int->Option Int->Hp->VK->Prop:=fun x lo hi H Q=>∃a xs,x=.ref a/\SqT K H a xs/\(HT.sIx xs.length 0 lo=0/\HT.sIx xs.length xs.length hi=xs.length)/\Q (.ref a) H
theorem Pn:SlR X (Qq X.K):=by
 intro pins s σ H x v vl vu lo hi sl Q I rx hs pl pu h
 obtain⟨a,xs,rfl,hx,hw,q⟩:=h
 cases rx
 obtain⟨its,r,ht,hz⟩:=I.tuple hx
 have hlen:its.toArray.size=xs.length:=by rw [List.size_toArray]; exact r.length.symm
 exact⟨"tuple",_,PyProof.Rows.slot_tuple_getitem.lookup,ht.typeIs,Iz ht hs pl pu (by rw [hlen]; exact hw) ⟨.ref a,H,I,rfl,q⟩⟩
end
section
variable {X:Cx}
noncomputable def N0(K:Frag):R2:=fun x y H Q=>∃a b ys,x=.ref a/\y=.ref b/\SqT K H a []/\SqT K H b ys/\Q (.ref b) H
theorem OH:OpR X (binaryOp .Add) (N0 X.K):=by
 intro pins s σ H x y v u Q I rx ry h
 obtain⟨a,b,ys,rfl,rfl,ha,hb,q⟩:=h
 cases rx
 cases ry
 obtain⟨its,r1,p1,_⟩:=I.tuple ha
 obtain⟨its2,r2,p2,_⟩:=I.tuple hb
 cases r1
 obtain⟨⟨cls,dd,data,sl⟩,ho,hc,n,hd⟩:=id p1
 obtain⟨⟨cls2,dd2,data2,sl2⟩,ho2,hc2,n2,hd2⟩:=id p2
 simp only at hc hd hc2 hd2
 subst hc hd hc2 hd2
 exact concat_meets ⟨_,ho,rfl⟩ ⟨_,ho2,rfl⟩ noFill_tuple_add seq_tuple_add PySem.F.slot_tuple_add PySem.F.entry_tuple_add (PySem.F.args_tuple_add_2 _ _) (tuple_addW0 a b _ its2.toArray n n2 dd dd2 sl sl2 (by simp)) ⟨ho,ho2,⟨.ref b,H,I,rfl,q⟩⟩
noncomputable def bI(b:Bool):Int:=if b=true then 1 else 0
noncomputable def UR(g:Int->Int->Int):R2:=fun x y H Q=>∃k j,x=.bl k/\y=.int j/\Q (.int (g (bI k) j)) H
noncomputable def VF(g:Int->Int->Int):R2:=fun x y H Q=>∃i k,x=.int i/\y=.bl k/\Q (.int (g i (bI k))) H
theorem op_add_bi:OpR X (binaryOp .Add) (UR fun i j=>i+j):=by
 intro pins s σ H x y v u Q I rx ry h
 obtain⟨k,j,rfl,rfl,q⟩:=h
 cases rx
 obtain⟨t,rfl⟩:=ry
 exact PySem.IntBool.add_bool_int ⟨.int _,H,I.tok _,⟨_,rfl⟩,q⟩
theorem op_sub_bi:OpR X (binaryOp .Sub) (UR fun i j=>i - j):=by
 intro pins s σ H x y v u Q I rx ry h
 obtain⟨k,j,rfl,rfl,q⟩:=h
 cases rx
 obtain⟨t,rfl⟩:=ry
 exact PySem.IntBool.sub_bool_int ⟨.int _,H,I.tok _,⟨_,rfl⟩,q⟩
theorem MT:OpR X (binaryOp .Sub) (VF fun i j=>i - j):=by
 intro pins s σ H x y v u Q I rx ry h
 obtain⟨i,k,rfl,rfl,q⟩:=h
 obtain⟨t,rfl⟩:=rx
 cases ry
 exact PySem.IntBool.sub_int_bool ⟨.int _,H,I.tok _,⟨_,rfl⟩,q⟩
end
end L2
namespace Dp
open PySem PySem.Spec PyProof.Rows L2
section
variable {K:Frag}{X:Cx}
noncomputable def Az(d e:D)(P:D->Prop):Prop:=match d,e with
 | .int i,.int j=>P (.int (i+j))
 | .bl k,.int j=>P (.int (bI k+j))
 | .str i,.str j=>i.length+j.length<=sizeLine/\P (.str (i++j))
 | .tup i,.tup j=>i.length+j.length<=sizeLine/\P (.tup (i++j))
 | .lst i,.lst j=>i.length+j.length<=sizeLine/\P (.lst (i++j))
 | _,_=>False
noncomputable def Q5(K:Frag):R2:=fun x y H Q=>N4 K x y H Q\/(UR fun i j=>i+j) x y H Q\/N0 K x y H Q
theorem A3:OpR X (binaryOp .Add) (Q5 X.K):=op_addU.or (op_add_bi.or OH)
theorem BK:Eh X.K .sh (Q5 X.K) Az:=fun U M H d e x y P Q dom vM hx hy w q=>by
 unfold Az at w
 split at w
 ·exact .inl (Il (X:=X) U M H (.int _) (.int _) x y P Q dom vM hx hy w q)
 ·rename_i k j
  exact .inr (.inl ⟨k,j,hx,hy,q _ H (.int _) .refl rfl w⟩)
 ·exact .inl (Il (X:=X) U M H (.str _) (.str _) x y P Q dom vM hx hy w q)
 ·rename_i i j
  cases i with
  | nil =>
   obtain⟨a,vs,rfl,ha,hs⟩:=hx.tup
   obtain⟨b,us,rfl,hb,ht⟩:=hy.tup
   cases (show vs=[] from hs)
   exact .inr (.inr ⟨a,b,us,rfl,rfl,ha.sq,hb.sq,q _ H (.tup j) .refl ⟨b,us,rfl,hb,ht⟩ (by have:=w.2; rw [List.nil_append] at this; exact this)⟩)
  | cons i0 i=>exact .inl (Il (X:=X) U M H (.tup (i0::i)) (.tup j) x y P Q dom vM hx hy ⟨(by intro z; cases z),w⟩ q)
 ·exact .inl (Il (X:=X) U M H (.lst _) (.lst _) x y P Q dom vM hx hy w q)
 ·exact w.elim
noncomputable def HP(d e:D)(P:D->Prop):Prop:=match d,e with
 | .int i,.int j=>P (.int (i - j))
 | .bl k,.int j=>P (.int (bI k - j))
 | .int i,.bl k=>P (.int (i - bI k))
 | _,_=>False
noncomputable def Qo:R2:=fun x y H Q=>(FQ fun i j=>.int (i - j)) x y H Q\/(UR fun i j=>i - j) x y H Q\/(VF fun i j=>i - j) x y H Q
theorem FT:OpR X (binaryOp .Sub) Qo:=op_sub.or (op_sub_bi.or MT)
theorem Ik:Eh K .sh Qo HP:=fun U M H d e x y P Q dom vM hx hy w q=>by
 unfold HP at w
 split at w
 ·exact .inl (PJ (K:=K) (g:=fun i j=>i - j) U M H (.int _) (.int _) x y P Q dom vM hx hy w q)
 ·rename_i k j
  exact .inr (.inl ⟨k,j,hx,hy,q _ H (.int _) .refl rfl w⟩)
 ·rename_i i k
  exact .inr (.inr ⟨i,k,hx,hy,q _ H (.int _) .refl rfl w⟩)
 ·exact w.elim
noncomputable def FJ(d:D)(lo hi:Option Int)(P:D->Prop):Prop:=match d with
 | .str z=>P (.str (Txt.slice z lo hi))
 | .lst xs=>P (.lst (cutD xs lo hi))
 | .tup xs=>P (.tup (cutD xs lo hi))
 | _=>False
noncomputable def TL(K:Frag):V->Option Int->Option Int->Hp->VK->Prop:=fun x lo hi H Q=>TJ x lo hi H Q\/Ri K x lo hi H Q\/TK K x lo hi H Q\/Qq K x lo hi H Q
theorem Ng:SlR X (TL X.K):=sl_U.or (sl_list.or (sl_tup.or Pn))
theorem Ic{M:Addr->Prop}{H:Hp}{ds:List D}{vs:List V}(lo hi:Option Int)(h:Ats K M H ds vs):Ats K M H (cutD ds lo hi) (G6 vs lo hi):=by
 unfold cutD G6
 rw [h.length]
 exact(h.drop _).take _
theorem J0:U4 K .sh (TL K) FJ:=by
 intro U M H d x lo hi P Q dom vM hx w q
 unfold FJ at w
 split at w
 ·rename_i z
  exact .inl ⟨z,hx.str.1,hx.str.2,q _ H (.str (Txt.slice z lo hi)) .refl ⟨rfl,Nat.le_trans (Txt.slice_le z lo hi) hx.str.2⟩ w⟩
 ·rename_i xs
  obtain⟨a,vs,rfl,_,ha,hs⟩:=hx
  exact .inr (.inl ⟨a,vs,rfl,.inl ha,fun p hp=>q _ _ (.lst _) (Am hp) ((B5 (U:=U) hp (Ic lo hi hs)).shOf dom (by intro z; cases z)) w⟩)
 ·rename_i xs
  obtain⟨a,vs,rfl,ha,hs⟩:=hx.tup
  by_cases hw:HT.sIx vs.length 0 lo=0/\HT.sIx vs.length vs.length hi=vs.length
  ·refine .inr (.inr (.inr ⟨a,vs,rfl,ha.sq,hw,?_⟩))
   have e:cutD xs lo hi=xs:=by
    unfold cutD
    rw [← hs.length,hw.1,hw.2,List.drop_zero,Nat.sub_zero,hs.length,List.take_length]
   rw [e] at w
   exact q _ H (.tup xs) .refl ⟨a,vs,rfl,ha,hs⟩ w
  ·exact .inr (.inr (.inl ⟨a,vs,rfl,ha.sq,hw,fun p hp=>q _ _ (.tup _) (Am hp) (DH dom hp (Ic lo hi hs)) w⟩))
 ·exact w.elim
end
end Dp
namespace Nt
open PySem PySem.Spec PyProof.Rows L2 Dp
noncomputable def A2:W2:=fun ss n P=>∃m:Int,ss=[.fd,.sh (.int m)]/\1<=m/\m<1073741824/\1<=n/\∀r:Int,0<=r->r<m->P (.int r) (n - 1)
noncomputable def Io:W2:=fun ss n P=>∃s:Int,ss=[.fd,.sh (.int s)]/\1<=n/\∀r:Int,1<=r->r<=1000000->P (.int r) (n - 1)
noncomputable def Dv:Af:=(AU (CU (Aa (AW (J5 false) (AB 1) (wC (D.int 0)))) (Bt (AW Az (wC (D.int 1)) (AX A2 (AD (Au 0) (AD (AT (wC (D.int 3))) AZ))))) Bj)
 (AU (CU (Aa (AW (J5 false) (AB 1) (wC (D.int 1)))) (Bt (AW Az (wC (D.int 1)) (AX A2 (AD (Au 0) (AD (AT (wC (D.int 12))) AZ))))) Bj)
 (Bt (UN (Aa (AW (J5 false) (AB 1) (wC (D.int 2)))) (AW HP (AW (Os Qh fun i j=>D.int (i ^ j.toNat)) (wC (D.int 10)) (wC (D.int 6))) (AX A2 (AD (Au 0) (AD (AT (wC (D.int 5))) AZ)))) (AW Az (wC (D.int 1)) (AX A2 (AD (Au 0) (AD (AT (AW (Os Qh fun i j=>D.int (i ^ j.toNat)) (wC (D.int 10)) (wC (D.int 6)))) AZ))))))))
noncomputable def Du:Af:=(AU (A4 2 (AX A2 (AD (Au 0) (AD (AT (wC (D.int 3))) AZ))))
 (AU (A4 3 (Dx (AC (wC (D.str "a")) (AC (wC (D.str "aa")) (AC (wC (D.str "ab")) (AC (wC (D.str "b")) (AC (wC (D.str "far")) (AC (wC (D.str "in")) (AC (wC (D.str "near")) (AC (wC (D.str "out")) (AC (wC (D.str "place")) (AC (wC (D.str "tie")) (AC (wC (D.str "ties")) (AC (wC (D.str "way")) AN))))))))))))))
 (AU (CU (Ff (Aa (AW (J5 false) (AB 2) (wC (D.int 0)))) (Aa (AW EU (AB 1) (wC (D.int 13))))) (AU (A4 4 (AX A2 (AD (Au 0) (AD (AT (wC (D.int 12))) AZ))))
 (Bt (Cr GR (AC (Bu [some 3,some 4,none] (CY (AC (AB 1) AN)) (Ao 2) Cs (AW B9 (AB 0) (AW (Os (fun _ j=>0<j) fun i j=>D.int (i % j)) (AW Az (AB 1) (AB 2)) (wC (D.int 12))))) AN)))) Bj)
 (AU (A4 5 (wC (D.str "abcdefghijklmnopqrstuvwxyz")))
 (AU (A4 6 (Ua "str" Oq (wC (D.str "")) (AC (Bu [some 5,some 0,none] (CY (AC (wC (D.int 8)) AN)) (Ao 2) Cs (AW B9 (AB 0) (AX A2 (AD (Au 1) (AD (AT (wC (D.int 26))) AZ))))) AN)))
 (AU (CU (Ff (Aa (AW (J5 false) (AB 2) (wC (D.int 1)))) (Aa (AW EU (AB 1) (wC (D.int 9))))) (Bt (Bu [some 6,none] (CY (AC (AB 1) AN)) (Ao 1) Cs (NO FJ (AB 0) CC (CK (AW Az (wC (D.int 1)) (AB 1)))))) Bj)
 (AU (A4 7 (AX A2 (AD (Au 0) (AD (AT (wC (D.int 7))) AZ))))
 (AU (A4 4 (AX A2 (AD (Au 0) (AD (AT (wC (D.int 26))) AZ))))
 (AU (CW 8 (Dx AN))
 (AU (FE (CY (AC (AB 1) AN)) (Ao 9) (AU (A4 10 (AW B9 (AB 5) (AW (Os (fun _ j=>0<j) fun i j=>D.int (i % j)) (AW Az (AB 4) (AB 9)) (wC (D.int 26)))))
 (L7 8 "list" FL (AC (AW Az (AW Az (AW Az (NO FJ (AB 6) CC (CK (AB 7))) (AB 10)) (NO FJ (AB 6) (CK (AW Az (AB 7) (wC (D.int 1)))) (CK (wC (D.int 7))))) (AW Jj (wC (D.str "z")) (AW (Os (fun _ j=>0<j) fun i j=>D.int (i % j)) (AB 9) (wC (D.int 2))))) AN))))
 (Bt (Cr GR (AC (Ab 8) AN)))))))))))))
noncomputable def cs(x:Str):List Nat:=x.cps.toList
theorem Cg(x:Str):(cs x).length=x.length:=Array.length_toList
theorem SX{x y:Str}(h:cs x=cs y):x=y:=by
 obtain⟨a⟩:=x
 obtain⟨b⟩:=y
 unfold cs at h
 exact congrArg Str.mk (Array.ext' h)
theorem GW(x y:Str):cs (x++y)=cs x++cs y:=PySem.W.KT.app_list x y
theorem RE{x:Str}{j:Int}(h0:0<=j)(h1:j<=(x.length:Int)):cs (Txt.slice x none (some j))=(cs x).take j.toNat:=by
 have e:(x.cps.toList.length:Int)=(x.length:Int):=by rw [show x.cps.toList.length=x.length from Cg x]
 have h:=eq_of_beq (slice_closes_to (x:=x) (j:=j) ⟨h0,by omega⟩)
 rw [h]
 show ((x.cps.toList.drop (0:Int).toNat).take (j - 0).toNat)=(x.cps.toList).take j.toNat
 rw [Int.sub_zero]
 rfl
theorem SW{x:Str}{i j:Int}(h0:0<=i)(h1:i<=j)(h2:j<=(x.length:Int)):cs (Txt.slice x (some i) (some j))=((cs x).drop i.toNat).take (j - i).toNat:=by
 have e:(x.cps.toList.length:Int)=(x.length:Int):=by rw [show x.cps.toList.length=x.length from Cg x]
 have h:=eq_of_beq (slice_closes (x:=x) (i:=i) (j:=j) ⟨h0,h1,by omega⟩)
 rw [h]
 rfl
noncomputable def isN(x:Str):Prop:=1<=x.length/\x.length<=8/\∀c∈cs x,97<=c/\c<=122
noncomputable def rising(xs:List Str):Prop:=xs.Pairwise fun x y=>cs x<cs y
theorem OM(a b:List Nat):ltCps a b=decide (a<b):=ltCps_eq a b
theorem E4:∀(l:List Str) (p:Str),risingS p l=true->(p::l).Pairwise fun a b=>¬cs b<cs a
 | [],p,_=>List.pairwise_singleton _ _
 | x::r,p,h=>by
  have h':(!ltCps x.cps.toList p.cps.toList&&risingS x r)=true:=h
  rw [Bool.and_eq_true,Bool.not_eq_true',OM,decide_eq_false_iff_not] at h'
  have ih:=E4 r x h'.2
  refine List.pairwise_cons.mpr ⟨fun y hy=>?_,ih⟩
  rcases List.mem_cons.mp hy with rfl | hy
  ·exact h'.1
  ·have h2:=(List.pairwise_cons.mp ih).1 y hy
   exact List.le_trans (l₁:=cs p) (l₂:=cs x) (l₃:=cs y) h'.1 h2
theorem Do{l:List Str}(h:sortedS l=true)(nd:l.Nodup):rising l:=by
 have hp:l.Pairwise fun a b=>¬cs b<cs a:=by
  cases l with
  | nil=>exact List.Pairwise.nil
  | cons x r=>exact E4 r x h
 refine(hp.and nd).imp fun {a b} ⟨h1,h2⟩=>?_
 exact Classical.byContradiction fun h3=>h2 (SX (List.le_antisymm (as:=cs a) (bs:=cs b) h1 h3))
theorem LL:∀(l:List Nat) (i j:Nat),i<j->i<l.length->l.take i<l.take j
 | [],_,_,_,h=>absurd h (Nat.not_lt_zero _)
 | c::r,0,j+1,_,_=>List.nil_lt_cons _ _
 | c::r,i+1,j+1,h1,h2=>by
  rw [List.take_succ_cons,List.take_succ_cons]
  exact List.cons_lt_cons_iff.mpr (.inr ⟨rfl,LL r i j (by omega) (by simpa using h2)⟩)
theorem HJ{b:BW}{te:DW}{P:List D->Nat->Prop}(I:Nat->Nat->List D->List Slot->Prop)(hend:∀n acc ρ,I 0 n acc ρ->P acc n)
  (hstep:∀(k:Nat) (d:D) (n:Nat) (acc:List D) (ρ:List Slot) (nx:List D->Nat->List Slot->Prop),I (k+1) n acc ρ->(∀acc' n' ρ',I k n' acc' ρ'->nx acc' n' ρ')->b d ρ fun ρ1=>te n ρ1 fun y n2=>nx (acc++[y]) n2 ρ1) :
  ∀(ds acc:List D) (n:Nat) (ρ:List Slot),I ds.length n acc ρ->CL b Cs te P ds acc n ρ
 | [],acc,n,ρ,h=>hend n acc ρ h
 | d::ds,acc,n,ρ,h=>hstep ds.length d n acc ρ (fun acc n ρ=>CL b Cs te P ds acc n ρ) h fun acc' n' ρ' h'=>HJ I hend hstep ds acc' n' ρ' h'
theorem BA(lo:Int)(n:Nat):(B7 lo n).length=n:=by unfold B7; rw [List.length_map,List.length_range]
theorem JF{lo:Int}{n:Nat}{d:D}(h:d∈B7 lo n):∃k:Nat,k<n/\d=.int (lo+k):=by
 unfold B7 at h
 obtain⟨k,hk,rfl⟩:=List.mem_map.mp h
 exact⟨k,List.mem_range.mp hk,rfl⟩
theorem O_{α:Type}{xs:List α}{i:Int}{k:Nat}(e:i=(k:Int))(h:k<xs.length):atI xs i=some xs[k]:=by
 subst e
 exact AV (List.getElem?_eq_getElem h)
theorem MN{ss:List Slot}{n:Nat}{Pd:D->Nat->Prop}(h:Io ss n Pd):Dv { nx:=fun n _=>Kd.sh=.sh/\Pd .non n,rt:=Pd } n (ss++List.replicate 0 .no):=by
 obtain⟨s,rfl,hn,p⟩:=h
 unfold Dv
 refine CD (fun _=>⟨3,rfl,by decide,by decide,by omega,fun r h0 h1=>p _ (by omega) (by omega)⟩) fun _=>?_
 refine CD (fun _=>⟨12,rfl,by decide,by decide,by omega,fun r h0 h1=>p _ (by omega) (by omega)⟩) fun _=>?_
 refine CD (fun _=>⟨⟨by decide,by decide,by decide⟩,5,rfl,by decide,by decide,by omega,fun r h0 h1=>?_⟩) fun _=>⟨⟨by decide,by decide,by decide⟩,_,rfl,by decide,by decide,by omega,fun r h0 h1=>?_⟩
 ·have e:((10:Int) ^ (6:Int).toNat)=1000000:=by decide
  exact p _ (by rw [e]; omega) (by rw [e]; omega)
 ·have e:((10:Int) ^ (6:Int).toNat)=1000000:=by decide
  rw [e] at h1
  exact p _ (by omega) (by omega)
end Nt
namespace K08
open PySem PySem.Spec PyProof.Rows L2 Dp Nt
noncomputable def top(i:Nat):Stmt:=PySem.Challenge.pw_thinnet_k08_rounds.main.body.getD i (.Pass ⟨0,0,0,0⟩)
noncomputable abbrev Bx:Stmt:=top 1
noncomputable abbrev El:Stmt:=top 2
noncomputable abbrev CG:Stmt:=top 3
noncomputable abbrev BS:Stmt:=top 5
noncomputable abbrev BU:Stmt:=top 6
noncomputable abbrev Cj:Stmt:=top 7
noncomputable abbrev By:Stmt:=top 8
noncomputable abbrev Bl:Stmt:=top 10
noncomputable abbrev BN:Stmt:=top 11
noncomputable abbrev BD:Stmt:=top 12
noncomputable abbrev BE:Stmt:=top 13
noncomputable abbrev Bz:Stmt:=top 14
noncomputable abbrev BV:Stmt:=top 15
noncomputable abbrev BF:Stmt:=top 16
noncomputable abbrev Bk:Stmt:=top 17
noncomputable abbrev BX:Stmt:=top 18
noncomputable abbrev EJ:Stmt:=top 19
structure Txt (K:Frag) (mg:Str->Option Value):Prop where
 n_isinstance:mg "isinstance"=none
 n_len:mg "len"=none
 n_list:mg "list"=none
 n_max:mg "max"=none
 n_min:mg "min"=none
 n_range:mg "range"=none
 n_repr:mg "repr"=none
 n_reversed:mg "reversed"=none
 n_set:mg "set"=none
 n_sorted:mg "sorted"=none
 n_tuple:mg "tuple"=none
section
variable {P:Program}{w:World}{K:Frag}{mg:Str->Option Value}{base:Heap}
theorem sc__law_next:Ar ["_law_feed_here","_law_many","_law_digit","_law_at","_law_cell","_law_first"] ["_law_feed_here","_law_many"] (AH BN):=⟨rfl,rfl,rfl,by decide +kernel,rfl,by decide +kernel,by decide +kernel⟩
theorem QC{f:Addr}{fd:FuncData}(F:Fun K "_law_next" "_law_next" BN f fd)(ml:mg "len"=none):Bi P w K mg base Dw 1 f fd ["_law_feed_here","_law_many"] (HA K .sh A2 2):=by
 refine F.ok sc__law_next (fun vs H Q E h=>h.1) (fun cdv A outer s H vs Q E hr h=>?_)
 obtain⟨hl,F0,U,V',M,n,ss,Pd,ra,⟨m,rfl,hm1,hm2,hn,hP⟩,q⟩:=h
 obtain⟨dom,fU,uV,vM,fd0,pa⟩:=ra
 cases pa with
 | cons r1 pa =>
 cases pa with
 | cons r2 pa =>
 cases pa
 obtain⟨⟨f0,c⟩,e0,hF⟩:=r1.1
 cases e0
 obtain⟨v2,e2,h2⟩:=r2.1
 cases e2
 cases (show _=V.int m from h2)
 obtain⟨a,r,cells,hf,hcf,hc,hcl,ha0,han⟩:=fd0 (f0,c) hF
 have fin:∀(a' r' z:Int) (H':Hp),(∀b o,H b=some o->b≠f0->H' b=some o)->H' f0=some (.lst [.ref c,.int a',.int r'])->0<=a'->a'<=a+1->0<=z->z<m->Q (.int z) H':=by
  intro a' r' z H' hk hf' h0 h1 hz0 hz1
  refine q (.int z) H' (.int z) (n - 1) (fun b o e=>?_) (fun g hg=>?_) rfl (hP z hz0 hz1)
  ·by_cases hb:b=f0
   ·subst hb
    exact⟨_,hf',fun nu=>absurd (fU (b,c) hF) nu⟩
   ·exact⟨o,hk b o e hb,fun _=>rfl⟩
  ·have:g=(f0,c):=Option.some.inj (hg.symm.trans hF)
   subst this
   exact⟨a',r',cells,hf',hcf,⟨hc.1,hk c _ hc.2 hcf⟩,hcl,h0,by omega⟩
 have hu:(A.deeper (envOfC "_law_next" (AH BN) s.heap.objs.size f cdv)).units<cLine:=hr.units0
 have hsq:∀{H':Hp} {xs:List V},H' f0=some (.lst xs)->SqL K H' f0 xs:=fun h=>SqL.of h
 have ed:∀z:Int,0<=z % m/\z % m<m:=fun z=>⟨Int.emod_nonneg _ (by omega),Int.emod_lt_of_pos _ (by omega)⟩
 refine⟨_,A1 (N9 (EK Tb (C6 ix_list (pv 0) Ag (fun _ _=>rfl)) Ag (Ah _))
   (A1 (C_ (i:=2) sc__law_next.nd rfl (Or.inl rfl) (BO Cd (C6 ix_list (pv 0) Ag (fun _ _=>rfl)) (pv 1)))
   (A1 (KY (BO FU (C6 ix_list (pv 0) Ag (fun _ _=>rfl)) (pv 1)) (Kb (pv 0) Ag set_list))
   (CZ (Dy (pv 2))))) H_)
  (A1 (C_ (i:=3) sc__law_next.nd rfl (Or.inl rfl) (C6 ix_list (pv 0) Ag (fun _ _=>rfl)))
  (A1 (KY (BO op_add (pv 3) Ag) (Kb (pv 0) Ag set_list))
  (A1 (C_ (i:=4) sc__law_next.nd rfl (Or.inl rfl) (JK (EK (MU hu) (C6 ix_list (pv 0) Ag (fun _ _=>rfl)) (Ke B8) (Ah _))
   (C6 ix_list (C6 ix_list (pv 0) Ag (fun _ _=>rfl)) (BO Cd (pv 3) (EN A8 rfl ml PySem.boot_len (BL (C6 ix_list (pv 0) Ag (fun _ _=>rfl)) B8))) (fun _ _=>rfl)) Ag))
  (A1 (N9 (PW.pt (N5 (EK Tc (pv 4) (BO Kf Ag Ag) (Ah _)) (LS (EK op_lt (pv 3) (EN A8 rfl ml PySem.boot_len (BL (C6 ix_list (pv 0) Ag (fun _ _=>rfl)) B8)) (Ah _)))))
   (A1 (KY (BO FU (pv 4) (pv 1)) (Kb (pv 0) Ag set_list))
   (CZ (Dy (BO Cd (pv 4) (pv 1))))) H_)
  (A1 (C_ (i:=5) sc__law_next.nd rfl (Or.inl rfl) (BO Cd (BO op_mul (BO op_add (BO op_add (BO op_add (BO Cd (pv 4) Ag) (BO op_mul (BO op_mul Ag (pv 3)) (pv 3))) (BO op_mul Ag (pv 3))) Ag) Ag) Ag))
  (CZ (Dy (BO Cd (BO FU (BO Cd (BO op_mul (BO op_add (pv 5) (BO op_mul Ag (pv 3))) Ag) Ag) Ag) (pv 1))))))))),?_⟩
 refine⟨_,rfl,f0,_,2,_,rfl,rfl,hsq hf,rfl,_,_,rfl,rfl,_,rfl,?_⟩
 refine CD (fun c1=>?_) (fun c1=>?_)
 ·refine⟨_,rfl,f0,_,2,_,rfl,rfl,hsq hf,rfl,_,rfl,_,_,rfl,rfl,(by show (0:Int)<m; omega),?_⟩
  refine⟨_,rfl,f0,_,2,_,rfl,rfl,hsq hf,rfl,_,rfl,_,_,rfl,rfl,⟨(by show (0:Int)<m; omega),hm2⟩,_,rfl,f0,_,2,2,rfl,rfl,hf,rfl,?_⟩
  refine⟨_,rfl,?_⟩
  exact fin a _ _ _ (fun b o e hb=>by rw [AI hb]; exact e) AM ha0 (by omega) (ed _).1 (ed _).2
 ·-- at=feed[1]; feed[1]=at+1
  refine⟨_,rfl,f0,_,1,_,rfl,rfl,hsq hf,rfl,?_⟩
  refine⟨_,rfl,_,_,rfl,rfl,_,rfl,f0,_,1,1,rfl,rfl,hf,rfl,?_⟩
  generalize hH1:Ax H f0 (.lst ([V.ref c,V.int a,V.int r].set 1 (V.int (a+1))))=H1
  have f1:H1 f0=some (.lst [.ref c,.int (a+1),.int r]):=by rw [← hH1]; exact AM
  have k1:∀b o,H b=some o->b≠f0->H1 b=some o:=fun b o e hb=>by rw [← hH1,AI hb]; exact e
  have c1':H1 c=some (.lst (cells.map V.int)):=k1 c _ hc.2 hcf
  have rest:∀(z:Int) (H2:Hp),(∀b o,H1 b=some o->H2 b=some o) ->
    (L_ (S9 (TD (NY (Ci (FQ fun i j=>V.bl (decide (j<=i))) (BR 4) (Ci (rI Qh fun i j=>V.int (i ^ j.toNat)) (tC (V.int 10)) (tC (V.int 18))))) (NY (Ci (FQ fun i j=>V.bl (decide (i<j))) (BR 3) (UQ (fun xs H Q=>∃x n,xs=[x]/\Su K x H n/\Q (V.int n) H) (LM (Ci (Rl K) (BR 0) (tC (V.int 0))) Pi))))) (L_ (I_ (Ci (rI PR fun i j=>V.int (i / j)) (BR 4) (BR 1)) (To (BR 0) (tC (V.int 2)) Qr)) (Pg (Ci (rI (fun _ j=>0<j) fun i j=>V.int (i % j)) (BR 4) (BR 1)))) Ql) (L_ (I_ (Ci (rI (fun _ j=>0<j) fun i j=>V.int (i % j)) (Ci (rI CMul fun i j=>V.int (i*j)) (Ci (FQ fun i j=>V.int (i+j)) (Ci (FQ fun i j=>V.int (i+j)) (Ci (FQ fun i j=>V.int (i+j)) (Ci (rI (fun _ j=>0<j) fun i j=>V.int (i % j)) (BR 4) (tC (V.int 1000003))) (Ci (rI CMul fun i j=>V.int (i*j)) (Ci (rI CMul fun i j=>V.int (i*j)) (tC (V.int 41)) (BR 3)) (BR 3))) (Ci (rI CMul fun i j=>V.int (i*j)) (tC (V.int 17)) (BR 3))) (tC (V.int 3))) (tC (V.int 51749))) (tC (V.int 999917))) (E6 5)) (Pg (Ci (rI (fun _ j=>0<j) fun i j=>V.int (i % j)) (Ci (rI PR fun i j=>V.int (i / j)) (Ci (rI (fun _ j=>0<j) fun i j=>V.int (i % j)) (Ci (rI CMul fun i j=>V.int (i*j)) (Ci (FQ fun i j=>V.int (i+j)) (BR 5) (Ci (rI CMul fun i j=>V.int (i*j)) (tC (V.int 8111)) (BR 3))) (tC (V.int 39373))) (tC (V.int 2097143))) (tC (V.int 3))) (BR 1)))))
     { nx:=fun _ H'=>Q .non H',rt:=Q } [some (.ref f0),some (.int m),none,some (.int a),some (.int z),none] H2:=by
   intro z H2 k2
   have f2:=k2 _ _ f1
   have c2:=k2 _ _ c1'
   have lastWay:∀H3:Hp,H3=H2->(L_ (I_ (Ci (rI (fun _ j=>0<j) fun i j=>V.int (i % j)) (Ci (rI CMul fun i j=>V.int (i*j)) (Ci (FQ fun i j=>V.int (i+j)) (Ci (FQ fun i j=>V.int (i+j)) (Ci (FQ fun i j=>V.int (i+j)) (Ci (rI (fun _ j=>0<j) fun i j=>V.int (i % j)) (BR 4) (tC (V.int 1000003))) (Ci (rI CMul fun i j=>V.int (i*j)) (Ci (rI CMul fun i j=>V.int (i*j)) (tC (V.int 41)) (BR 3)) (BR 3))) (Ci (rI CMul fun i j=>V.int (i*j)) (tC (V.int 17)) (BR 3))) (tC (V.int 3))) (tC (V.int 51749))) (tC (V.int 999917))) (E6 5)) (Pg (Ci (rI (fun _ j=>0<j) fun i j=>V.int (i % j)) (Ci (rI PR fun i j=>V.int (i / j)) (Ci (rI (fun _ j=>0<j) fun i j=>V.int (i % j)) (Ci (rI CMul fun i j=>V.int (i*j)) (Ci (FQ fun i j=>V.int (i+j)) (BR 5) (Ci (rI CMul fun i j=>V.int (i*j)) (tC (V.int 8111)) (BR 3))) (tC (V.int 39373))) (tC (V.int 2097143))) (tC (V.int 3))) (BR 1))))
     { nx:=fun _ H'=>Q .non H',rt:=Q } [some (.ref f0),some (.int m),none,some (.int a),some (.int z),none] H3:=by
    intro H3 e3
    subst e3
    have hb:CMul (41*a) a:=.inr ⟨by omega,by omega⟩
    refine⟨_,rfl,_,_,rfl,rfl,(by show (0:Int)<1000003; decide),_,rfl,_,_,rfl,rfl,.inl ⟨by decide,by decide⟩,_,rfl,_,_,rfl,rfl,hb,_,_,rfl,rfl,_,rfl,_,_,rfl,rfl,.inl ⟨by decide,by decide⟩,_,_,rfl,rfl,_,_,rfl,rfl,_,_,rfl,rfl,.inr ⟨by decide,by decide⟩,_,_,rfl,rfl,(by show (0:Int)<999917; decide),?_⟩
    refine⟨_,rfl,_,rfl,_,_,rfl,rfl,.inl ⟨by decide,by decide⟩,_,_,rfl,rfl,_,_,rfl,rfl,.inr ⟨by decide,by decide⟩,_,_,rfl,rfl,(by show (0:Int)<2097143; decide),_,_,rfl,rfl,⟨by decide,by decide⟩,_,rfl,_,_,rfl,rfl,(by show (0:Int)<m; omega),?_⟩
    exact fin (a+1) r _ _ (fun b o e hb=>k2 b o (k1 b o e hb)) f2 (by omega) (by omega) (ed _).1 (ed _).2
   refine⟨_,rfl,_,_,rfl,rfl,⟨by decide,by decide,by decide⟩,_,_,rfl,rfl,_,rfl,?_⟩
   refine CD (fun c3=>?_) (fun c3=>?_)
   ·refine⟨_,rfl,_,rfl,f0,_,0,_,rfl,rfl,hsq f2,rfl,_,_,rfl,.inl ⟨_,SqL.of c2,rfl⟩,_,_,rfl,rfl,_,rfl,?_⟩
    refine CD (fun c4=>?_) (fun c4=>lastWay H2 rfl)
    refine⟨_,rfl,_,rfl,_,_,rfl,rfl,⟨(by show (0:Int)<m; omega),hm2⟩,_,rfl,f0,_,2,2,rfl,rfl,f2,rfl,?_⟩
    refine⟨_,rfl,_,rfl,_,_,rfl,rfl,(by show (0:Int)<m; omega),?_⟩
    exact fin (a+1) _ _ _ (fun b o e hb=>by rw [AI hb]; exact k2 b o (k1 b o e hb)) AM (by omega) (by omega) (ed _).1 (ed _).2
   ·refine CD (fun c4=>absurd c4 (by simp)) (fun _=>lastWay H2 rfl)
  refine⟨_,rfl,f0,_,0,_,rfl,rfl,hsq f1,rfl,(by show 0<=sizeLine; decide),fun p hp=>?_⟩
  have kp:∀b o,H1 b=some o->Ax H1 p (.lst []) b=some o:=fun b o e=>by rw [AI (Ay e hp)]; exact e
  refine⟨c,p,_,rfl,rfl,SqL.of (kp _ _ c1'),SqL.of AM,_,rfl,?_⟩
  cases cells with
  | nil=>exact FG (rest 0 _ kp)
  | cons z0 cs =>
   refine Jd ?_
   have hlen:(((z0::cs).map V.int).length:Int)=(cs.length:Int)+1:=by simp
   have hpos:(0:Int)<(((z0::cs).map V.int).length:Int):=by omega
   obtain⟨z,hz⟩:∃z,atI ((z0::cs).map V.int) (a % (((z0::cs).map V.int).length:Int))=some (.int z):=by
    have h1:=Int.emod_nonneg a (show (((z0::cs).map V.int).length:Int)≠0 by omega)
    have h2:=Int.emod_lt_of_pos a hpos
    generalize a % (((z0::cs).map V.int).length:Int)=j at h1 h2
    obtain⟨k,rfl⟩:∃k:Nat,j=(k:Int):=⟨j.toNat,by omega⟩
    have hk:k<(z0::cs).length:=by rw [List.length_map] at h2; omega
    refine⟨(z0::cs)[k],AV ?_⟩
    rw [List.getElem?_map,List.getElem?_eq_getElem hk]
    rfl
   refine⟨_,rfl,f0,_,0,_,rfl,rfl,hsq (kp _ _ f1),rfl,_,rfl,_,rfl,f0,_,0,_,rfl,rfl,hsq (kp _ _ f1),rfl,_,_,rfl,.inl ⟨_,SqL.of (kp _ _ c1'),rfl⟩,_,_,rfl,rfl,hpos,c,_,_,_,rfl,rfl,SqL.of (kp _ _ c1'),hz,?_⟩
   exact rest z _ kp
end
end K08
namespace Nt
open PySem PySem.Spec PyProof.Rows L2 Dp
noncomputable def C5:W2:=fun ss n P=>∃m:Nat,ss=[.fd,.sh (.int m)]/\1<=m/\m<=26/\11<=n/\∀(xs:List Str) (n':Nat),xs.length=m->(∀x∈xs,isN x)->rising xs->n - 11<=n'->P (.lst (xs.map .str)) n'
noncomputable def words:List Str:=["a","aa","ab","b","far","in","near","out","place","tie","ties","way"]
noncomputable def wordAt(i:Nat):Str:=words.getD i "a"
theorem J7:∀i,i<12->isN (wordAt i):=by
 have h:∀i∈List.range 12,1<=(wordAt i).length/\(wordAt i).length<=8/\∀c∈cs (wordAt i),97<=c/\c<=122:=by decide +kernel
 exact fun i hi=>h i (List.mem_range.mpr hi)
theorem L5:∀i j,i<12->j<12->wordAt i=wordAt j->i=j:=by
 have h:∀i∈List.range 12,∀j∈List.range 12,cs (wordAt i)=cs (wordAt j)->i=j:=by decide +kernel
 exact fun i j hi hj e=>h i (List.mem_range.mpr hi) j (List.mem_range.mpr hj) (congrArg cs e)
noncomputable def De:Str := "abcdefghijklmnopqrstuvwxyz"
theorem GE(i:Nat)(h:i<26):(cs De)[i]?=some (97+i):=by
 have h2:∀i∈List.range 26,(cs De)[i]?=some (97+i):=by decide +kernel
 exact h2 i (List.mem_range.mpr h)
theorem Eo{α β:Type}{f:α->β}:∀{l:List α},l.Nodup->(∀a∈l,∀b∈l,f a=f b->a=b)->(l.map f).Nodup
 | [],_,_=>List.nodup_nil
 | a::l,h,hf=>by
  rw [List.nodup_cons] at h
  rw [List.map_cons,List.nodup_cons]
  refine⟨fun hm=>?_,Eo h.2 fun x hx y hy=>hf x (List.mem_cons_of_mem _ hx) y (List.mem_cons_of_mem _ hy)⟩
  obtain⟨b,hb,e⟩:=List.mem_map.mp hm
  exact h.1 (hf a List.mem_cons_self b (List.mem_cons_of_mem _ hb) e.symm▸hb)
theorem Lf{f m j k:Nat}{M:Nat}(hM:m<=M)(hj:j<m)(hk:k<m)(e:(f+j) % M=(f+k) % M):j=k:=by
 have h:∀a b:Nat,a<=b->b<m->(f+a) % M=(f+b) % M->a=b:=fun a b h1 h2 e=>by
  have:(f+b - (f+a)) % M=0:=Nat.sub_mod_eq_zero_of_mod_eq e.symm
  have e2:f+b - (f+a)=b - a:=by omega
  rw [e2,Nat.mod_eq_of_lt (by omega)] at this
  omega
 rcases Nat.le_total j k with h1 | h1
 ·exact h j k h1 hk e
 ·exact(h k j h1 hj e.symm).symm
theorem Gh(ss:List Str):CS (ss.map .str)=some ss:=by
 induction ss with
 | nil=>rfl
 | cons y r ih =>
  rw [List.map_cons]
  unfold CS
  rw [ih]
  rfl
theorem QL:∀(zs:List Str),cs (Txt.join (Str.ofString "") zs)=zs.flatMap cs:=by
 intro zs
 show cs (Builtin.Str.glued (Str.ofString "") zs)=_
 rw [StrLaws.glued_eq_join]
 induction zs with
 | nil=>rfl
 | cons x r ih =>
  cases r with
  | nil=>rw [List.flatMap_cons,List.flatMap_nil,List.append_nil]; rfl
  | cons y r =>
   show cs (x++Str.ofString ""++Str.join (Str.ofString "") (y::r))=_
   rw [GW,GW,ih]
   show cs x++[]++_=_
   rw [List.append_nil]
   simp only [List.flatMap_cons]
theorem OJ{zs:List Str}(h:∀z∈zs,z.length=1):(zs.flatMap cs).length=zs.length:=by
 induction zs with
 | nil=>rfl
 | cons x r ih =>
  rw [List.flatMap_cons,List.length_append,ih fun z hz=>h z (List.mem_cons_of_mem _ hz),Cg,h x List.mem_cons_self,List.length_cons]
  omega
theorem JA:∀(ys:List Str),(∀y∈ys,y.length=1)->(ys.map (·.length)).sum=ys.length
 | [],_=>rfl
 | y::r,h=>by
  rw [List.map_cons,List.sum_cons,JA r fun z hz=>h z (List.mem_cons_of_mem _ hz),h y List.mem_cons_self,List.length_cons]
  omega
theorem drawn{P:List D->Nat->Prop}{m n:Nat}{s:Slot}(hn:m<=n)(h:∀zs:List Str,zs.length=m->(∀z∈zs,z.length=1/\∀c∈cs z,97<=c/\c<=122)->P (zs.map .str) (n - m)) :
  CL (Ao 2) Cs (AW B9 (AB 0) (AX A2 (AD (Au 1) (AD (AT (wC (D.int 26))) AZ)))) P (B7 0 m) [] n [.sh (.str De),.fd,s]:=by
 refine HJ (fun k n' acc ρ=>k<=m/\n'=n - (m - k)/\(∃zs:List Str,acc=zs.map .str/\zs.length=m - k/\∀z∈zs,z.length=1/\∀c∈cs z,97<=c/\c<=122)/\∃s,ρ=[.sh (.str De),.fd,s]) ?_ ?_ _ _ _ _ ?_
 ·rintro n' acc ρ ⟨_,rfl,⟨zs,rfl,hl,hz⟩,_⟩
  exact h zs hl hz
 ·rintro k d n' acc ρ nx ⟨hk,rfl,⟨zs,rfl,hl,hz⟩,s,rfl⟩ hnx
  refine⟨26,rfl,by decide,by decide,by omega,fun r h0 h1=>?_⟩
  obtain⟨q,rfl⟩:∃q:Nat,r=(q:Int):=⟨r.toNat,by omega⟩
  have hq:q<26:=by omega
  refine⟨97+q,AV (GE q hq),hnx _ _ _ ⟨by omega,by omega,⟨zs++[⟨#[97+q]⟩],by rw [List.map_append]; rfl,by rw [List.length_append,List.length_singleton]; omega,fun z hz'=>?_⟩,_,rfl⟩⟩
  rcases List.mem_append.mp hz' with hz' | hz'
  ·exact hz z hz'
  ·rw [List.mem_singleton.mp hz']
   refine⟨rfl,fun c hc=>?_⟩
   have:c=97+q:=by simpa [cs] using hc
   omega
 ·rw [BA]
  exact⟨Nat.le_refl _,by omega,⟨[],rfl,by simp,fun z hz=>by cases hz⟩,_,rfl⟩
theorem NQ(i:Nat)(h:i<12):words[i]?=some (wordAt i):=by
 have hl:i<words.length:=h
 unfold wordAt
 rw [List.getD_eq_getElem?_getD,List.getElem?_eq_getElem hl]
 rfl
theorem Bm{b:BW}{body:Af}{D2:E2}{all:List D}(I:List D->Nat->List Slot->Prop)(hend:∀n ρ,I all n ρ->D2.nx n ρ)
  (hstep:∀(pre:List D) (d:D) (post:List D) (n:Nat) (ρ:List Slot) (nx:Nat->List Slot->Prop),all=pre++d::post->I pre n ρ->(∀n' ρ',I (pre++[d]) n' ρ'->nx n' ρ')->b d ρ fun ρ1=>body { D2 with nx:=nx,ct:=nx,bk:=D2.nx } n ρ1) :
  ∀(ds pre:List D) (n:Nat) (ρ:List Slot),all=pre++ds->I pre n ρ->Bb b body D2 ds n ρ
 | [],pre,n,ρ,e,h=>by
  rw [List.append_nil] at e
  subst e
  exact hend n ρ h
 | d::ds,pre,n,ρ,e,h=>hstep pre d ds n ρ (Bb b body D2 ds) e h fun n' ρ' h'=>Bm I hend hstep ds (pre++[d]) n' ρ' (by rw [e,List.append_assoc]; rfl) h'
theorem Ct{lo:Int}{n:Nat}{pre post:List D}{d:D}(h:B7 lo n=pre++d::post):d=.int (lo+(pre.length:Int))/\pre.length<n:=by
 have hl:=congrArg List.length h
 rw [BA,List.length_append,List.length_cons] at hl
 have e:(B7 lo n)[pre.length]?=some d:=by rw [h,List.getElem?_append_right (Nat.le_refl _),Nat.sub_self]; rfl
 unfold B7 at e
 rw [List.getElem?_map,List.getElem?_range (by omega)] at e
 exact⟨(Option.some.inj e).symm,by omega⟩
theorem Th{r:Int}(h:r=0\/r=1):MulOk "z" r/\(Txt.mul "z" r).length<=1/\∀c∈cs (Txt.mul "z" r),97<=c/\c<=122:=by
 rcases h with rfl | rfl
 ·exact⟨⟨rfl,⟨fun h=>absurd (by decide) h,fun h=>absurd (by decide) h⟩⟩,by decide,by decide⟩
 ·exact⟨⟨rfl,⟨fun _ h=>absurd h (by decide),fun _ h=>absurd h (by decide)⟩⟩,by decide,by decide⟩
noncomputable def nameAt(x:Str)(a f k:Nat):Str:=Txt.slice x none (some (a:Int))++⟨#[97+(f+k) % 26]⟩++Txt.slice x (some ((a:Int)+1)) (some 7)++Txt.mul "z" ((k:Int) % 2)
theorem Ep{x:Str}{a f k:Nat}(hx:x.length=8)(ha:a<7):cs (nameAt x a f k)=(cs x).take a++(97+(f+k) % 26)::(((cs x).drop (a+1)).take (6 - a)++cs (Txt.mul "z" ((k:Int) % 2))):=by
 unfold nameAt
 rw [GW,GW,GW,RE (by omega) (by omega),SW (by omega) (by omega) (by omega)]
 have e1:((a:Int)).toNat=a:=by omega
 have e2:((a:Int)+1).toNat=a+1:=by omega
 have e3:(7 - ((a:Int)+1)).toNat=6 - a:=by omega
 rw [e1,e2,e3,List.append_assoc,List.append_assoc]
 rfl
theorem JT{x:Str}{a f k:Nat}(hx:x.length=8)(hc:∀c∈cs x,97<=c/\c<=122)(ha:a<7):isN (nameAt x a f k):=by
 have e:=Ep (f:=f) (k:=k) hx ha
 obtain⟨_,hz1,hz2⟩:=Th (r:=(k:Int) % 2) (by omega)
 have hl:(nameAt x a f k).length=7+(Txt.mul "z" ((k:Int) % 2)).length:=by
  rw [← Cg,e,List.length_append,List.length_cons,List.length_append,List.length_take,List.length_take,List.length_drop,Cg,Cg,hx]
  omega
 refine⟨by omega,by omega,fun c h=>?_⟩
 rw [e] at h
 rcases List.mem_append.mp h with h | h
 ·exact hc c (List.mem_of_mem_take h)
 ·rcases List.mem_cons.mp h with rfl | h
  ·have:=Nat.mod_lt (f+k) (show 0<26 by decide)
   omega
  ·rcases List.mem_append.mp h with h | h
   ·exact hc c (List.mem_of_mem_drop (List.mem_of_mem_take h))
   ·exact hz2 c h
theorem Kk{x:Str}{a f m j k:Nat}(hx:x.length=8)(ha:a<7)(hm:m<=26)(hj:j<m)(hk:k<m)(e:nameAt x a f j=nameAt x a f k):j=k:=by
 have e1:=congrArg cs e
 rw [Ep hx ha,Ep hx ha] at e1
 have hl:((cs x).take a).length=a:=by rw [List.length_take,Cg,hx]; omega
 have e2:=congrArg (fun l:List Nat=>l[a]?) e1
 have e2:((cs x).take a++(97+(f+j) % 26)::(((cs x).drop (a+1)).take (6 - a)++cs (Txt.mul "z" ((j:Int) % 2))))[a]?=((cs x).take a++(97+(f+k) % 26)::(((cs x).drop (a+1)).take (6 - a)++cs (Txt.mul "z" ((k:Int) % 2))))[a]?:=e2
 rw [List.getElem?_append_right (by omega),List.getElem?_append_right (by omega),hl,Nat.sub_self] at e2
 have e3:97+(f+j) % 26=97+(f+k) % 26:=Option.some.inj e2
 exact Lf (f:=f) (M:=26) hm hj hk (by omega)
theorem ML{ss:List Slot}{n:Nat}{Pd:D->Nat->Prop}(h:C5 ss n Pd):Du { nx:=fun n _=>Kd.fr=.sh/\Pd .non n,rt:=Pd } n (ss++List.replicate 9 .no):=by
 obtain⟨m,rfl,hm1,hm2,hn,p⟩:=h
 unfold Du
 refine⟨3,rfl,by decide,by decide,by omega,fun way hw0 hw1=>⟨(by decide:12<=sizeLine),?_⟩⟩
 have last:∀(n':Nat),n - 1<=n'->(AU (A4 5 (wC (D.str "abcdefghijklmnopqrstuvwxyz")))
 (AU (A4 6 (Ua "str" Oq (wC (D.str "")) (AC (Bu [some 5,some 0,none] (CY (AC (wC (D.int 8)) AN)) (Ao 2) Cs (AW B9 (AB 0) (AX A2 (AD (Au 1) (AD (AT (wC (D.int 26))) AZ))))) AN)))
 (AU (CU (Ff (Aa (AW (J5 false) (AB 2) (wC (D.int 1)))) (Aa (AW EU (AB 1) (wC (D.int 9))))) (Bt (Bu [some 6,none] (CY (AC (AB 1) AN)) (Ao 1) Cs (NO FJ (AB 0) CC (CK (AW Az (wC (D.int 1)) (AB 1)))))) Bj)
 (AU (A4 7 (AX A2 (AD (Au 0) (AD (AT (wC (D.int 7))) AZ))))
 (AU (A4 4 (AX A2 (AD (Au 0) (AD (AT (wC (D.int 26))) AZ))))
 (AU (CW 8 (Dx AN))
 (AU (FE (CY (AC (AB 1) AN)) (Ao 9) (AU (A4 10 (AW B9 (AB 5) (AW (Os (fun _ j=>0<j) fun i j=>D.int (i % j)) (AW Az (AB 4) (AB 9)) (wC (D.int 26)))))
 (L7 8 "list" FL (AC (AW Az (AW Az (AW Az (NO FJ (AB 6) CC (CK (AB 7))) (AB 10)) (NO FJ (AB 6) (CK (AW Az (AB 7) (wC (D.int 1)))) (CK (wC (D.int 7))))) (AW Jj (wC (D.str "z")) (AW (Os (fun _ j=>0<j) fun i j=>D.int (i % j)) (AB 9) (wC (D.int 2))))) AN))))
 (Bt (Cr GR (AC (Ab 8) AN)))))))))) { nx:=fun n _=>Kd.fr=.sh/\Pd .non n,rt:=Pd } n' [.fd,.sh (.int m),.sh (.int way),.sh (.lst (words.map .str)),.no,.no,.no,.no,.no,.no,.no]:=by
  intro n' hn'
  refine⟨rfl,8,rfl,⟨by decide,by decide⟩,by rw [BA]; decide,?_⟩
  refine drawn (m:=8) (by omega) fun zs hz1 hz2=>?_
  have hone:∀z∈zs,z.length=1:=fun z hz=>(hz2 z hz).1
  have hj:=QL zs
  have hl8:(Txt.join (Str.ofString "") zs).length=8:=by rw [← Cg,hj,OJ hone,hz1]
  have hc:∀c∈cs (Txt.join (Str.ofString "") zs),97<=c/\c<=122:=fun c hc=>by
   rw [hj] at hc
   obtain⟨z,hz,hcz⟩:=List.mem_flatMap.mp hc
   exact(hz2 z hz).2 c hcz
  refine⟨_,_,zs,rfl,rfl,Gh zs,by rw [JA zs hone,show (Str.ofString "").length=0 from rfl]; omega,by omega,?_⟩
  generalize Txt.join (Str.ofString "") zs=x at hl8 hc
  have hx8:(cs x).length=8:=by rw [Cg,hl8]
  have tail:∀(n2:Nat),n' - 8<=n2->(AU (A4 7 (AX A2 (AD (Au 0) (AD (AT (wC (D.int 7))) AZ))))
 (AU (A4 4 (AX A2 (AD (Au 0) (AD (AT (wC (D.int 26))) AZ))))
 (AU (CW 8 (Dx AN))
 (AU (FE (CY (AC (AB 1) AN)) (Ao 9) (AU (A4 10 (AW B9 (AB 5) (AW (Os (fun _ j=>0<j) fun i j=>D.int (i % j)) (AW Az (AB 4) (AB 9)) (wC (D.int 26)))))
 (L7 8 "list" FL (AC (AW Az (AW Az (AW Az (NO FJ (AB 6) CC (CK (AB 7))) (AB 10)) (NO FJ (AB 6) (CK (AW Az (AB 7) (wC (D.int 1)))) (CK (wC (D.int 7))))) (AW Jj (wC (D.str "z")) (AW (Os (fun _ j=>0<j) fun i j=>D.int (i % j)) (AB 9) (wC (D.int 2))))) AN))))
 (Bt (Cr GR (AC (Ab 8) AN))))))) { nx:=fun n _=>Kd.fr=.sh/\Pd .non n,rt:=Pd } n2 [.fd,.sh (.int m),.sh (.int way),.sh (.lst (words.map .str)),.no,.sh (.str De),.sh (.str x),.no,.no,.no,.no]:=by
   intro n2 hn2
   refine⟨7,rfl,by decide,by decide,by omega,fun a ha0 ha1=>⟨26,rfl,by decide,by decide,by omega,fun first hf0 hf1=>⟨(by decide:0<=sizeLine),(m:Int),rfl,⟨by omega,by omega⟩,?_⟩⟩⟩
   obtain⟨a,rfl⟩:∃q:Nat,a=(q:Int):=⟨a.toNat,by omega⟩
   obtain⟨f,rfl⟩:∃q:Nat,first=(q:Int):=⟨first.toNat,by omega⟩
   have ha7:a<7:=by omega
   refine Bm (all:=B7 0 ((m:Int)).toNat) (fun pre n3 ρ=>n3=n2 - 1 - 1/\∃s9 s10,ρ=[.fd,.sh (.int m),.sh (.int way),.sh (.lst (words.map .str)),.sh (.int f),.sh (.str De),.sh (.str x),.sh (.int a),.ow (.lst (((List.range pre.length).map fun k=>nameAt x a f k).map .str)),s9,s10]) ?_ ?_ _ [] _ _ rfl ⟨rfl,_,_,rfl⟩
   ·rintro n3 ρ ⟨rfl,s9,s10,rfl⟩
    have el:(B7 0 ((m:Int)).toNat).length=m:=by rw [BA]; omega
    refine⟨_,_,rfl,Gh _,by rw [List.length_map,List.length_range,el]; omega,fun ss' hp hs=>p ss' _ ?_ ?_ ?_ (by omega)⟩
    ·rw [hp.length_eq,List.length_map,List.length_range,el]
    ·intro y hy
     obtain⟨k,_,rfl⟩:=List.mem_map.mp (hp.mem_iff.mp hy)
     exact JT hl8 hc ha7
    ·refine Do hs (hp.nodup_iff.mpr (Eo List.nodup_range fun j hj k hk e=>?_))
     rw [el] at hj hk
     exact Kk hl8 ha7 hm2 (List.mem_range.mp hj) (List.mem_range.mp hk) e
   ·rintro pre d post n3 ρ nx hall ⟨rfl,s9,s10,rfl⟩ hnx
    obtain⟨rfl,hk⟩:=Ct hall
    have epre:(pre++[D.int (0+(pre.length:Int))]).length=pre.length+1:=by rw [List.length_append,List.length_singleton]
    rw [epre] at hnx
    generalize pre.length=k at hk hnx ⊢
    have hlt:(f+k) % 26<26:=Nat.mod_lt _ (by decide)
    have ei:((f:Int)+(0+(k:Int))) % 26=(((f+k) % 26:Nat):Int):=by omega
    have ek:(0+(k:Int)) % 2=(k:Int) % 2:=by omega
    obtain⟨hz0,hz1,_⟩:=Th (r:=(0+(k:Int)) % 2) (by omega)
    have l1:=Txt.slice_le x none (some (a:Int))
    have l2:=Txt.slice_le x (some ((a:Int)+1)) (some 7)
    have la:=Str.length_append (Txt.slice x none (some (a:Int))) ⟨#[97+(f+k) % 26]⟩
    have lb:=Str.length_append (Txt.slice x none (some (a:Int))++⟨#[97+(f+k) % 26]⟩) (Txt.slice x (some ((a:Int)+1)) (some 7))
    have ls:(⟨#[97+(f+k) % 26]⟩:Str).length=1:=rfl
    have hsz:=PySem.sizeLine_eq
    refine⟨by show (0:Int)<26; decide,97+(f+k) % 26,by rw [ei]; exact AV (GE _ hlt),?_⟩
    refine⟨_,rfl,rfl,by omega,by omega,by show (0:Int)<2; decide,hz0,by omega,by omega,?_⟩
    refine⟨_,_,rfl,rfl,by rw [List.length_map,List.length_map,List.length_range]; omega,hnx _ _ ⟨rfl,.sh (.int (0+(k:Int))),.sh (.str ⟨#[97+(f+k) % 26]⟩),?_⟩⟩
    rw [ek,List.range_succ,List.map_append,List.map_append]
    rfl
  refine CD (fun c1=>CD (fun c2=>?_) fun c2=>tail _ (Nat.le_refl _)) fun c1=>CD (fun c2=>absurd c2 (by decide)) fun _=>tail _ (Nat.le_refl _)
  have hm9:m<9:=by
   have:(m:Int)<9:=of_decide_eq_true c2
   omega
  refine⟨(m:Int),rfl,⟨by omega,by omega⟩,by rw [BA]; omega,?_⟩
  refine D1 (g:=fun d=>match d with | .int k=>.str (Txt.slice x none (some (1+k))) | _=>.non) (fun ρ=>∃s,ρ=[.sh (.str x),s]) ?_ _ _ _ _ ?_ ⟨_,rfl⟩ ?_
  ·rintro d ρ ⟨s,rfl⟩
   exact⟨_,rfl⟩
  ·rintro d hd ρ n' P' ⟨s,rfl⟩ hp
   obtain⟨k,hk,rfl⟩:=JF hd
   exact hp
  ·have e:[]++(B7 0 ((m:Int)).toNat).map (fun d=>match d with | .int k=>D.str (Txt.slice x none (some (1+k))) | _=>.non)=((List.range m).map fun k:Nat=>Txt.slice x none (some (1+(k:Int)))).map .str:=by
    unfold B7
    rw [List.nil_append,List.map_map,List.map_map,Int.toNat_natCast]
    refine List.map_congr_left fun k _=>?_
    have:(0+(k:Int))=k:=by omega
    simp only [Function.comp,this]
   have ct:∀k:Nat,k<m->cs (Txt.slice x none (some (1+(k:Int))))=(cs x).take (1+k):=fun k hk=>by
    rw [RE (by omega) (by omega),show (1+(k:Int)).toNat=1+k by omega]
   rw [e]
   refine p _ _ (by rw [List.length_map,List.length_range]) ?_ ?_ (by omega)
   ·intro y hy
    obtain⟨k,hk,rfl⟩:=List.mem_map.mp hy
    have hk:=List.mem_range.mp hk
    have hl:(Txt.slice x none (some (1+(k:Int)))).length=1+k:=by
     rw [← Cg,ct k hk,List.length_take,hx8]; omega
    exact⟨by omega,by omega,fun c h=>hc c (List.mem_of_mem_take (by rw [← ct k hk]; exact h))⟩
   ·unfold rising
    rw [List.pairwise_map]
    refine List.Pairwise.imp_of_mem ?_ List.pairwise_lt_range
    intro i j hi hj hij
    rw [ct i (List.mem_range.mp hi),ct j (List.mem_range.mp hj)]
    exact LL _ _ _ (by omega) (by rw [hx8]; have:=List.mem_range.mp hj; omega)
 refine CD (fun c1=>CD (fun c2=>?_) fun c2=>last _ (Nat.le_refl _)) fun c1=>CD (fun c2=>absurd c2 (by decide)) fun _=>last _ (Nat.le_refl _)
 have hm13:m<13:=by
  have:(m:Int)<13:=of_decide_eq_true c2
  omega
 refine⟨12,rfl,by decide,by decide,by omega,fun first h0 h1=>?_⟩
 obtain⟨f,rfl⟩:∃f:Nat,first=(f:Int):=⟨first.toNat,by omega⟩
 refine⟨(m:Int),rfl,⟨by omega,by omega⟩,by rw [BA]; omega,?_⟩
 refine D1 (g:=fun d=>match d with | .int k=>.str (wordAt ((f+k.toNat) % 12)) | _=>.non) (fun ρ=>∃s,ρ=[.sh (.lst (words.map .str)),.sh (.int f),s]) ?_ _ _ _ _ ?_ ⟨_,rfl⟩ ?_
 ·rintro d ρ ⟨s,rfl⟩
  exact⟨_,rfl⟩
 ·rintro d hd ρ n' P' ⟨s,rfl⟩ hp
  obtain⟨k,hk,rfl⟩:=JF hd
  refine⟨by show (0:Int)<12; decide,D.str (wordAt ((f+k) % 12)),?_,?_⟩
  ·have hlt:(f+k) % 12<12:=Nat.mod_lt _ (by decide)
   have ei:((f:Int)+(0+(k:Int))) % 12=(((f+k) % 12:Nat):Int):=by omega
   rw [ei]
   exact AV (by rw [List.getElem?_map,NQ _ hlt]; rfl)
  ·have e:(0+(k:Int)).toNat=k:=by omega
   simp only [e] at hp
   exact hp
 ·have e:[]++(B7 0 ((m:Int)).toNat).map (fun d=>match d with | .int k=>D.str (wordAt ((f+k.toNat) % 12)) | _=>.non)=((List.range m).map fun k=>wordAt ((f+k) % 12)).map .str:=by
   unfold B7
   rw [List.nil_append,List.map_map,List.map_map,Int.toNat_natCast]
   refine List.map_congr_left fun k _=>?_
   have:(0+(k:Int)).toNat=k:=by omega
   simp only [Function.comp,this]
  refine⟨_,(List.range m).map fun k=>wordAt ((f+k) % 12),rfl,by rw [e]; exact Gh _,by rw [List.length_map,List.length_range]; omega,fun ss' hp hs=>p ss' _ ?_ ?_ ?_ (by omega)⟩
  ·rw [hp.length_eq,List.length_map,List.length_range]
  ·intro x hx
   obtain⟨k,_,rfl⟩:=List.mem_map.mp (hp.mem_iff.mp hx)
   exact J7 _ (Nat.mod_lt _ (by decide))
  ·refine Do hs (hp.nodup_iff.mpr (Eo List.nodup_range fun j hj k hk e=>?_))
   exact Lf (M:=12) (by omega) (List.mem_range.mp hj) (List.mem_range.mp hk) (L5 _ _ (Nat.mod_lt _ (by decide)) (Nat.mod_lt _ (by decide)) e)
structure A7 where
 a:Str
 b:Str
 len:Int
structure Net where
 ps:List Str
 ts:List A7
noncomputable def Ac(t:A7):D:=.tup [.str t.a,.str t.b,.int t.len]
noncomputable def Cb(N:Net):D:=.tup [.tup (N.ps.map .str),.tup (N.ts.map Ac)]
noncomputable def Ce(s t:A7):Prop:=cs s.a<cs t.a\/(s.a=t.a/\cs s.b<cs t.b)
structure Net.Ok (N:Net):Prop where
 names:∀x∈N.ps,isN x
 rise:rising N.ps
 tin:∀t∈N.ts,t.a∈N.ps/\t.b∈N.ps/\cs t.a<cs t.b/\1<=t.len/\t.len<=1000000
 trise:N.ts.Pairwise Ce
noncomputable def PM:W2:=fun ss n P=>∃most ties:Nat,ss=[.fd,.sh (.int most),.sh (.int ties)]/\1<=most/\most<=26/\1500<=n/\∀(N:Net) (n':Nat),N.Ok->1<=N.ps.length->N.ps.length<=most->N.ts.length<=ties->n - 1500<=n'->P (Cb N) n'
noncomputable def Ge:Af:=(AU (A4 3 (AX C5 (AD (Au 0) (AD (AT (AW Az (wC (D.int 1)) (AX A2 (AD (Au 0) (AD (AT (AB 1)) AZ))))) AZ))))
 (AU (A4 4 (AW Az (wC (D.int 1)) (AX A2 (AD (Au 0) (AD (AT (wC (D.int 3))) AZ)))))
 (AU (A4 5 (AX A2 (AD (Au 0) (AD (AT (wC (D.int 4))) AZ))))
 (AU (CW 6 (Dx AN))
 (AU (FE (CY (AC (Cr Dl (AC (AB 3) AN)) AN)) (Ao 7) (FE (Qi (AC (AW Az (AB 7) (wC (D.int 1))) (AC (Cr Dl (AC (AB 3) AN)) AN))) (Ao 8) (CU (Ff (Aa (AW SQ (AX A2 (AD (Au 0) (AD (AT (wC (D.int 4))) AZ))) (AB 4))) (Aa (AW EU (Cr Dl (AC (Ab 6) AN)) (AB 2)))) (L7 6 "list" FL (AC (CB (AC (AW B9 (AB 3) (AB 7)) (AC (AW B9 (AB 3) (AB 8)) (AC (AX Io (AD (Au 0) (AD (AT (AB 5)) AZ))) AN)))) AN)) Bj)))
 (Bt (CB (AC (Cr CF (AC (AB 3) AN)) (AC (Cr CF (AC (Ab 6) AN)) AN)))))))))
structure Ix where
 i:Nat
 j:Nat
 len:Int
noncomputable def Ix.tie(xs:List Str)(t:Ix):A7:=⟨xs.getD t.i "",xs.getD t.j "",t.len⟩
noncomputable def SJ(s t:Ix):Prop:=s.i<t.i\/(s.i=t.i/\s.j<t.j)
theorem getD_at{xs:List Str}{i:Nat}(h:i<xs.length):xs[i]?=some (xs.getD i ""):=by
 rw [List.getD_eq_getElem?_getD,List.getElem?_eq_getElem h]
 rfl
theorem getD_mem{xs:List Str}{i:Nat}(h:i<xs.length):xs.getD i ""∈xs:=List.mem_of_getElem? (getD_at h)
theorem Hx{xs:List Str}(h:rising xs){i j:Nat}(hij:i<j)(hj:j<xs.length):cs (xs.getD i "")<cs (xs.getD j ""):=by
 have h2:=List.pairwise_iff_getElem.mp h i j (by omega) hj hij
 have e1:xs.getD i ""=xs[i]:=by rw [List.getD_eq_getElem?_getD,List.getElem?_eq_getElem (by omega)]; rfl
 have e2:xs.getD j ""=xs[j]:=by rw [List.getD_eq_getElem?_getD,List.getElem?_eq_getElem hj]; rfl
 rw [e1,e2]
 exact h2
theorem R8{xs:List Str}{ts:List Ix}(hn:∀x∈xs,isN x)(hr:rising xs)(ht:∀t∈ts,t.i<t.j/\t.j<xs.length/\1<=t.len/\t.len<=1000000)(hp:ts.Pairwise SJ):Net.Ok ⟨xs,ts.map (Ix.tie xs)⟩:=by
 refine⟨hn,hr,fun t h=>?_,?_⟩
 ·obtain⟨u,hu,rfl⟩:=List.mem_map.mp h
  obtain⟨h1,h2,h3,h4⟩:=ht u hu
  exact⟨getD_mem (show u.i<xs.length by omega),getD_mem h2,Hx hr h1 h2,h3,h4⟩
 ·show (ts.map (Ix.tie xs)).Pairwise Ce
  rw [List.pairwise_map]
  refine List.Pairwise.imp_of_mem (fun {s t} hs ht' h=>?_) hp
  obtain⟨h1,h2,_⟩:=ht s hs
  obtain⟨g1,g2,_⟩:=ht t ht'
  rcases h with h | ⟨h,h'⟩
  ·exact .inl (Hx hr h (by omega))
  ·refine .inr ⟨?_,Hx hr h' g2⟩
   show xs.getD s.i ""=xs.getD t.i ""
   rw [h]
theorem Rh{ss:List Slot}{n:Nat}{Pd:D->Nat->Prop}(h:PM ss n Pd):Ge { nx:=fun n _=>Kd.sh=.sh/\Pd .non n,rt:=Pd } n (ss++List.replicate 6 .no):=by
 obtain⟨most,ties,rfl,hm1,hm2,hn,p⟩:=h
 unfold Ge
 refine⟨_,rfl,by omega,by omega,by omega,fun r h0 h1=>?_⟩
 refine⟨(1+r).toNat,by rw [show (((1+r).toNat:Nat):Int)=1+r by omega],by omega,by omega,by omega,fun xs n1 hl hx hr hn1=>?_⟩
 refine⟨3,rfl,by decide,by decide,by omega,fun few f0 f1=>⟨4,rfl,by decide,by decide,by omega,fun scale s0 s1=>⟨(by decide:0<=sizeLine),?_⟩⟩⟩
 have hxl:(xs.map D.str).length=xs.length:=List.length_map ..
 refine⟨_,_,rfl,rfl,_,rfl,⟨by omega,by omega⟩,?_⟩
 refine Bm (all:=B7 0 (((xs.map D.str).length:Int)).toNat) (fun pre m ρ=>n1 - 1 - 1 - 52*pre.length<=m/\∃(ts:List Ix) (s7 s8:Slot),(∀t∈ts,t.i<t.j/\t.j<xs.length/\1<=t.len/\t.len<=1000000)/\ts.Pairwise SJ/\ts.length<=ties/\(∀t∈ts,t.i<pre.length)/\ts.length<=26*pre.length /\
  ρ=[.fd,.sh (.int most),.sh (.int ties),.sh (.lst (xs.map .str)),.sh (.int (1+few)),.sh (.int scale),.ow (.lst ((ts.map (Ix.tie xs)).map Ac)),s7,s8]) ?_ ?_ _ [] _ _ rfl ⟨by simp,[],_,_,(fun _ h=>by cases h),List.Pairwise.nil,Nat.zero_le _,(fun _ h=>by cases h),Nat.zero_le _,rfl⟩
 ·rintro m ρ ⟨hm,ts,s7,s8,h1,h2,h3,h4,h5,rfl⟩
  have el:(B7 0 (((xs.map D.str).length:Int)).toNat).length=xs.length:=by rw [BA]; omega
  rw [el] at hm
  refine⟨(by decide:2<=sizeLine),p ⟨xs,ts.map (Ix.tie xs)⟩ m (R8 hx hr h1 h2) (by show 1<=xs.length; omega) (by show xs.length<=most; omega) (by show (ts.map (Ix.tie xs)).length<=ties; rw [List.length_map]; exact h3) (by omega)⟩
 ·rintro pre d post m ρ nx hall ⟨hm,ts,s7,s8,h1,h2,h3,h4,h5,rfl⟩ hnx
  obtain⟨rfl,hk⟩:=Ct hall
  have epre:(pre++[D.int (0+(pre.length:Int))]).length=pre.length+1:=by rw [List.length_append,List.length_singleton]
  rw [epre] at hnx
  generalize pre.length=one at hk hnx hm h4 h5 ⊢
  rw [hxl] at hk
  refine⟨_,_,rfl,rfl,_,_,rfl,⟨by omega,by omega,by omega,by omega⟩,?_⟩
  refine Bm (all:=B7 (0+(one:Int)+1) ((((xs.map D.str).length:Int)) - (0+(one:Int)+1)).toNat) (fun pre m ρ=>n1 - 1 - 1 - 52*one - 2*pre.length<=m/\∃(ts:List Ix) (s8:Slot),(∀t∈ts,t.i<t.j/\t.j<xs.length/\1<=t.len/\t.len<=1000000)/\ts.Pairwise SJ/\ts.length<=ties/\(∀t∈ts,t.i<one\/(t.i=one/\t.j<one+1+pre.length))/\ts.length<=26*one+pre.length /\
   ρ=[.fd,.sh (.int most),.sh (.int ties),.sh (.lst (xs.map .str)),.sh (.int (1+few)),.sh (.int scale),.ow (.lst ((ts.map (Ix.tie xs)).map Ac)),.sh (.int (0+(one:Int))),s8]) ?_ ?_ _ [] _ _ rfl ⟨by simpa using hm,ts,_,h1,h2,h3,fun t ht=>.inl (h4 t ht),by simpa using h5,rfl⟩
  ·rintro m ρ ⟨hm,ts,s8,h1,h2,h3,h4,h5,rfl⟩
   rw [BA] at hm h5
   refine hnx _ _ ⟨by omega,ts,_,_,h1,h2,h3,fun t ht=>?_,by omega,rfl⟩
   rcases h4 t ht with h | h <;> omega
  ·rintro pre2 d2 post2 m ρ nx2 hall2 ⟨hm,ts,s8,h1,h2,h3,h4,h5,rfl⟩ hnx2
   obtain⟨rfl,hk2⟩:=Ct hall2
   rw [List.length_append,List.length_singleton] at hnx2
   generalize pre2.length=q at hk2 hnx2 hm h4 h5 ⊢
   have hq:one+1+q<xs.length:=by omega
   have skip:nx2 (m - 1) [.fd,.sh (.int most),.sh (.int ties),.sh (.lst (xs.map .str)),.sh (.int (1+few)),.sh (.int scale),.ow (.lst ((ts.map (Ix.tie xs)).map Ac)),.sh (.int (0+(one:Int))),.sh (.int (0+(one:Int)+1+(q:Int)))]:=by
    refine hnx2 _ _ ⟨by omega,ts,_,h1,h2,h3,fun t ht=>?_,by omega,rfl⟩
    rcases h4 t ht with h | h
    ·exact .inl h
    ·exact .inr (by omega)
   refine⟨4,rfl,by decide,by decide,by omega,fun dr d0 d1=>?_⟩
   refine CD (fun c1=>⟨_,_,rfl,rfl,CD (fun c2=>?_) fun c2=>skip⟩) fun c1=>CD (fun c2=>absurd c2 (by decide)) fun _=>skip
   have hlt:ts.length<ties:=by
    have:(((ts.map (Ix.tie xs)).map Ac).length:Int)<(ties:Int):=of_decide_eq_true c2
    rw [List.length_map,List.length_map] at this
    omega
   refine⟨_,rfl,rfl,D.str (xs.getD one ""),?_,D.str (xs.getD (one+1+q) ""),?_,scale,rfl,by omega,fun len l1 l2=>⟨(by decide:3<=sizeLine),_,_,rfl,rfl,?_,?_⟩⟩
   ·rw [show (0+(one:Int))=((one:Nat):Int) by omega]
    exact AV (by rw [List.getElem?_map,getD_at hk]; rfl)
   ·rw [show (0+(one:Int)+1+(q:Int))=((one+1+q:Nat):Int) by omega]
    exact AV (by rw [List.getElem?_map,getD_at hq]; rfl)
   ·rw [List.length_map,List.length_map,PySem.sizeLine_eq]; omega
   ·refine hnx2 _ _ ⟨by omega,ts++[⟨one,one+1+q,len⟩],.sh (.int (0+(one:Int)+1+(q:Int))),fun t ht=>?_,?_,by rw [List.length_append,List.length_singleton]; omega,fun t ht=>?_,by rw [List.length_append,List.length_singleton]; omega,?_⟩
    ·rcases List.mem_append.mp ht with ht | ht
     ·exact h1 t ht
     ·rw [List.mem_singleton.mp ht]
      exact⟨by show one<one+1+q; omega,hq,l1,l2⟩
    ·rw [List.pairwise_append]
     refine⟨h2,List.pairwise_singleton _ _,fun s hs t ht=>?_⟩
     rw [List.mem_singleton.mp ht]
     rcases h4 s hs with h | h
     ·exact .inl h
     ·exact .inr h
    ·rcases List.mem_append.mp ht with ht | ht
     ·rcases h4 t ht with h | h
      ·exact .inl h
      ·exact .inr (by omega)
     ·rw [List.mem_singleton.mp ht]
      exact .inr ⟨rfl,by show one+1+q<one+1+(q+1); omega⟩
    ·rw [List.map_append,List.map_append]
     rfl
noncomputable abbrev EE(Pd:D->Nat->Prop):E2:={ nx:=fun n _=>Kd.sh=.sh/\Pd .non n,rt:=Pd }
theorem Co{b:BW}{te:DW}{P:List D->Nat->Prop}(g:D->D)(I:List Slot->Prop):∀(ds acc:List D) (n:Nat) (ρ:List Slot),
  (∀d∈ds,∀(ρ:List Slot) (n:Nat) (nx:D->Nat->List Slot->Prop),I ρ->(∀ρ',I ρ'->nx (g d) n ρ')->b d ρ fun ρ1=>te n ρ1 fun y n2=>nx y n2 ρ1)->I ρ->P (acc++ds.map g) n->CL b Cs te P ds acc n ρ
 | [],acc,n,ρ,_,_,h=>by rw [List.map_nil,List.append_nil] at h; exact h
 | d::ds,acc,n,ρ,ht,hρ,h=>ht d List.mem_cons_self ρ n (fun y n2 ρ1=>CL b Cs te P ds (acc++[y]) n2 ρ1) hρ fun ρ' hρ' =>
  Co g I ds (acc++[g d]) n ρ' (fun d hd=>ht d (List.mem_cons_of_mem _ hd)) hρ' (by rw [List.append_assoc]; exact h)
section
variable {ss:List Slot}{n:Nat}{Pd:D->Nat->Prop}
end
theorem JB{x:Str}(h:∀c∈cs x,c<1114112):PyData.strOk x=true:=by
 unfold PyData.strOk
 rw [← Array.all_toList,List.all_eq_true]
 intro c hc
 exact decide_eq_true (h c hc)
theorem GG{x:Str}(h:isN x):Cz (.str x):=⟨rfl,JB fun c hc=>by have:=h.2.2 c hc; omega,Nat.zero_le _⟩
theorem Ja{ps:List Str}(h:∀p∈ps,isN p):Cu (ps.map .str)=true/\PyData.canLayAll0 (Av (ps.map .str))=true/\PyData.depthAll (Av (ps.map .str))=0:=by
 induction ps with
 | nil=>exact⟨rfl,rfl,rfl⟩
 | cons p r ih =>
  obtain⟨h1,h2,h3⟩:=ih fun q hq=>h q (List.mem_cons_of_mem _ hq)
  have hp:=GG (h p List.mem_cons_self)
  refine⟨by rw [List.map_cons,Cu,h1]; rfl,?_,?_⟩
  ·rw [List.map_cons,Av,PyData.canLayAll0,h2,Bool.and_true]
   exact hp.2.1
  ·rw [List.map_cons,Av,PyData.depthAll,h3]
   rfl
theorem Mq{ps:List Str}(h:∀p∈ps,isN p):Cz (.tup (ps.map .str)):=by
 obtain⟨h1,h2,h3⟩:=Ja h
 refine⟨h1,h2,?_⟩
 show PyData.depthAll (Av (ps.map .str))+1<=100
 rw [h3]; decide
section
variable {ss:List Slot}{n:Nat}{Pd:D->Nat->Prop}
end
mutual
noncomputable def G3(B:Nat):D->Prop
 | .int i=>i.natAbs<=B
 | .str x=>∀c∈cs x,c<1114112
 | .tup ds=>Ji B ds
 | .lst ds=>Ji B ds
 | .dic _ _=>False
 | .fdi _ _=>False
 | _=>True
noncomputable def Ji(B:Nat):List D->Prop
 | []=>True
 | d::ds=>G3 B d/\Ji B ds
end
mutual
noncomputable def Pl:D->Nat
 | .int _=>200
 | .str x=>x.length
 | .tup ds=>Pk ds
 | .lst ds=>Pk ds
 | _=>0
noncomputable def Pk:List D->Nat
 | []=>0
 | d::ds=>Pl d+1+Pk ds
end
mutual
noncomputable def PU:D->Nat
 | .tup ds=>G5 ds+1
 | .lst ds=>G5 ds+1
 | _=>0
noncomputable def G5:List D->Nat
 | []=>0
 | d::ds=>max (PU d) (G5 ds)
end
theorem fines_iff{B:Nat}:∀{ds:List D},Ji B ds↔∀d∈ds,G3 B d
 | []=>⟨(fun _ d h=>by cases h),fun _=>trivial⟩
 | d::ds=>by
  have ih:=@fines_iff B ds
  constructor
  ·rintro ⟨h1,h2⟩ e he
   rcases List.mem_cons.mp he with rfl | he
   ·exact h1
   ·exact ih.mp h2 e he
  ·exact fun h=>⟨h d List.mem_cons_self,ih.mpr fun e he=>h e (List.mem_cons_of_mem _ he)⟩
theorem dps_le{k:Nat}:∀{ds:List D},G5 ds<=k↔∀d∈ds,PU d<=k
 | []=>⟨(fun _ d h=>by cases h),fun _=>Nat.zero_le _⟩
 | d::ds=>by
  have ih:=@dps_le k ds
  show max (PU d) (G5 ds)<=k↔_
  rw [Nat.max_le,ih]
  constructor
  ·rintro ⟨h1,h2⟩ e he
   rcases List.mem_cons.mp he with rfl | he
   ·exact h1
   ·exact h2 e he
  ·exact fun h=>⟨h d List.mem_cons_self,fun e he=>h e (List.mem_cons_of_mem _ he)⟩
mutual
theorem IO{B:Nat}(hB:B<10 ^ 45):∀{d:D},G3 B d->E5 d=true/\(toPy d).showable=true/\(toPy d).canLay0=true/\(toPy d).depth=PU d/\(toPy d).leavesShort 60=true/\(toPy d).weight<=Pl d
 | .non,_=>⟨rfl,rfl,rfl,rfl,rfl,Nat.le_refl _⟩
 | .bl b,_=>⟨rfl,rfl,rfl,rfl,rfl,Nat.le_refl _⟩
 | .int i,h=>by
  have h':i.natAbs<=B:=h
  have hlt:i.natAbs<10 ^ 45:=Nat.lt_of_le_of_lt h' hB
  have h2:i.natAbs<2 ^ 150:=Nat.lt_trans hlt (by decide)
  have hl:i.natAbs.log2<150:=by
   by_cases h0:i.natAbs=0
   ·rw [h0]; decide
   ·exact(Nat.log2_lt h0).mpr h2
  refine⟨rfl,?_,rfl,rfl,?_,?_⟩
  ·show decide (i.natAbs.log2<1920)=true
   exact decide_eq_true (by omega)
  ·show decide ((PyData.shown (.int i)).length<=60)=true
   refine decide_eq_true ?_
   have:=int_text_length_le10 (a:=i) (k:=45) (by decide) hlt
   show (Str.ofString (toString i)).length<=60
   rw [PySem.ofString_length]
   omega
  ·show (if i==0 then 0 else i.natAbs.log2+1)<=200
   split <;> omega
 | .str x,h=>by
  have h':∀c∈cs x,c<1114112:=h
  refine⟨rfl,rfl,JB h',rfl,?_,Nat.le_refl _⟩
  show (x.cps.toList.all fun c=>decide (c<16 ^ 8))=true
  rw [List.all_eq_true]
  intro c hc
  exact decide_eq_true (Nat.lt_trans (h' c hc) (by decide))
 | .tup ds,h=>by
  obtain⟨h1,h2,h3,h4,h5,h6⟩:=GQ hB (ds:=ds) h
  refine⟨h1,h2,h3,?_,h5,h6⟩
  show PyData.depthAll (Av ds)+1=G5 ds+1
  rw [h4]
 | .lst ds,h=>by
  obtain⟨h1,h2,h3,h4,h5,h6⟩:=GQ hB (ds:=ds) h
  refine⟨h1,h2,h3,?_,h5,h6⟩
  show PyData.depthAll (Av ds)+1=G5 ds+1
  rw [h4]
 | .dic ks ds,h=>(show False from h).elim
 | .fdi ks ds,h=>(show False from h).elim
theorem GQ{B:Nat}(hB:B<10 ^ 45):∀{ds:List D},Ji B ds->Cu ds=true/\PyData.showableAll (Av ds)=true/\PyData.canLayAll0 (Av ds)=true/\PyData.depthAll (Av ds)=G5 ds/\PyData.leavesShortAll 60 (Av ds)=true/\PyData.weightAll (Av ds)<=Pk ds
 | [],_=>⟨rfl,rfl,rfl,rfl,rfl,Nat.le_refl _⟩
 | d::ds,h=>by
  obtain⟨h1,h2,h3,h4,h5,h6⟩:=IO hB (d:=d) h.1
  obtain⟨g1,g2,g3,g4,g5,g6⟩:=GQ hB (ds:=ds) h.2
  refine⟨?_,?_,?_,?_,?_,?_⟩
  ·show (E5 d&&Cu ds)=true
   rw [h1,g1]; rfl
  ·show ((toPy d).showable&&PyData.showableAll (Av ds))=true
   rw [h2,g2]; rfl
  ·show ((toPy d).canLay0&&PyData.canLayAll0 (Av ds))=true
   rw [h3,g3]; rfl
  ·show max (toPy d).depth (PyData.depthAll (Av ds))=max (PU d) (G5 ds)
   rw [h4,g4]
  ·show ((toPy d).leavesShort 60&&PyData.leavesShortAll 60 (Av ds))=true
   rw [h5,g5]; rfl
  ·show (toPy d).weight+1+PyData.weightAll (Av ds)<=Pl d+1+Pk ds
   omega
end
theorem Po{B:Nat}{d:D}(hB:B<10 ^ 45)(h:G3 B d)(hd:PU d<=100)(hs:Pl d<=200000):LN d:=by
 obtain⟨h1,h2,h3,h4,h5,h6⟩:=IO hB h
 refine⟨h1,h2,by rw [h4]; exact hd,?_⟩
 have:=PyData.shown_le 60 (by decide) (toPy d) h5
 rw [PySem.sizeLine_eq]
 have:62*(toPy d).weight<=62*200000:=Nat.mul_le_mul_left _ (by omega)
 omega
theorem DD{B:Nat}{d:D}(hB:B<10 ^ 45)(h:G3 B d)(hd:PU d<=100):Cz d:=by
 obtain⟨h1,h2,h3,h4,h5,h6⟩:=IO hB h
 exact⟨h1,h3,by rw [h4]; exact hd⟩
section
variable {ss:List Slot}{n:Nat}{Pd:D->Nat->Prop}
end
section
variable {ss:List Slot}{n:Nat}{Pd:D->Nat->Prop}
end
section
variable {ss:List Slot}{n:Nat}{Pd:D->Nat->Prop}
end
noncomputable def item(d:D):Prop:=G3 1000001 d/\Pl d<=450/\PU d<=1
theorem KI{k:Nat}:∀{ds:List D},(∀d∈ds,Pl d+1<=k)->Pk ds<=k*ds.length
 | [],_=>Nat.zero_le _
 | d::ds,h=>by
  have h1:=h d List.mem_cons_self
  have h2:=KI (ds:=ds) fun e he=>h e (List.mem_cons_of_mem _ he)
  show Pl d+1+Pk ds<=k*(ds.length+1)
  rw [Nat.mul_succ]; omega
theorem ET{B:Nat}{xs:List D}(h:∀d∈xs,G3 B d):G3 B (.tup xs):=fines_iff.mpr h
theorem item_str{x:Str}(h1:x.length<=8)(h2:∀c∈cs x,c<1114112):item (.str x):=⟨h2,by show x.length<=450; omega,Nat.zero_le _⟩
theorem CH{x:Str}(h:isN x):item (.str x):=item_str h.2.1 fun c hc=>by have:=h.2.2 c hc; omega
theorem Jb{a b:Str}{l:Int}(ha:item (.str a))(hb:item (.str b))(la:a.length<=8)(lb:b.length<=8)(hl:l.natAbs<=1000001):item (.tup [.str a,.str b,.int l]):=by
 refine⟨ET fun d hd=>?_,?_,?_⟩
 ·simp only [List.mem_cons,List.not_mem_nil,or_false] at hd
  rcases hd with rfl | rfl | rfl
  ·exact ha.1
  ·exact hb.1
  ·exact hl
 ·show a.length+1+(b.length+1+(200+1+0))<=450
  omega
 ·show max 0 (max 0 (max 0 0))+1<=1
  decide
theorem Jc{N:Net}(ok:N.Ok):∀d∈N.ts.map Ac,item d:=fun d hd=>by
 obtain⟨t,ht,rfl⟩:=List.mem_map.mp hd
 obtain⟨h1,h2,_,h3,h4⟩:=ok.tin t ht
 have n1:=ok.names _ h1
 have n2:=ok.names _ h2
 exact Jb (CH n1) (CH n2) n1.2.1 n2.2.1 (by omega)
theorem QM{N:Net}(ok:N.Ok):∀d∈N.ps.map D.str,item d:=fun d hd=>by
 obtain⟨x,hx,rfl⟩:=List.mem_map.mp hd
 exact CH (ok.names x hx)
theorem RP{xs ys:List D}(hx:∀d∈xs,item d)(hy:∀d∈ys,item d)(lx:xs.length<=26)(ly:ys.length<=80):G3 1000001 (.tup [.tup xs,.tup ys])/\Pl (.tup [.tup xs,.tup ys])<=48000/\PU (.tup [.tup xs,.tup ys])<=3:=by
 have s1:=KI (k:=451) fun d hd=>Nat.succ_le_succ (hx d hd).2.1
 have s2:=KI (k:=451) fun d hd=>Nat.succ_le_succ (hy d hd).2.1
 have d1:G5 xs<=1:=dps_le.mpr fun d hd=>(hx d hd).2.2
 have d2:G5 ys<=1:=dps_le.mpr fun d hd=>(hy d hd).2.2
 refine⟨ET fun d hd=>?_,?_,?_⟩
 ·simp only [List.mem_cons,List.not_mem_nil,or_false] at hd
  rcases hd with rfl | rfl
  ·exact ET fun d hd=>(hx d hd).1
  ·exact ET fun d hd=>(hy d hd).1
 ·show Pk xs+1+(Pk ys+1+0)<=48000
  omega
 ·show max (G5 xs+1) (max (G5 ys+1) 0)+1<=3
  omega
theorem BH(x:Str):¬cs x<cs x:=List.lt_irrefl _
theorem z1:1<=sizeLine:=by decide
theorem z2:2<=sizeLine:=by decide
theorem z3:3<=sizeLine:=by decide
theorem z0:0<=sizeLine:=Nat.zero_le _
section
variable {ss:List Slot}{n:Nat}{Pd:D->Nat->Prop}
end
end Nt
namespace L2
open PySem PySem.Spec PyProof.Rows
section
variable {X:Cx}{tg elt iter:Expr}{ifs:List Expr}{sc:Scope}{pos spos pos':Pos}{N':List Str}{js:List (Option Nat)}{wi:TI}{i:Nat}{x:Str}
theorem Pt(hc:X.calm=true)(N':List Str)(js:List (Option Nat))(hi:PI X tg iter wi)
  (hB:GX sc X.env.scope X.N N' js=true) (hN:X.N.Nodup) (hix:X.N[i]?=some x) (hx:Loc X.env.scope x)
  (hsw:swapsWith (.ListComp elt [⟨tg,iter,ifs,0⟩] sc pos) (some (.Name x pos')) spos.line X.env=pure true)
  (hs:∀x,foldedSetIterable iter X.env x=pure x:=by intro _; rfl)
  (hf:X.fn x=true\/X.env.scope.names.lookup x=some .local:=by first | exact .inl rfl | exact .inr rfl | assumption) :
  PS X (.Assign [.Name x pos'] (.ListComp elt [⟨tg,iter,ifs,0⟩] sc pos) spos) (I_ (Na X sc N' js tg elt ifs wi) (E6 i)):=by
 intro pins s σ H D I h
 have O:CompOk X sc N' js:=CompOk.of hB
 obtain⟨cl,hclos,hcl,hcl2⟩:=GZ (scope:=sc) (env:=X.env) fun x hx=>I.ok.has x (O.free x hx)
 rw [exec_Assign_Name_used _ _ _ _ hsw]
 refine wpAny_bind (wpAny_standAt (wpAny_bind ?_))
 show wpAny _ _ (do let _ ← comprehension (.ListComp elt [⟨tg,iter,ifs,0⟩] sc pos) sc X.env _ (newList []) false (eval iter X.env) (some (assign (.Name x pos') X.env))) _ _ s
 refine wpAny_bind (wpAny_mono (wpAny_comprehension_free (Q:=fun _ s'=>SP X pins D .next s') (use:=some (assign (.Name x pos') X.env)) rfl hs hclos O.kind O.names (A_ (hi pins s σ H _ I h) fun v s1 h1=>A_ h1 fun itv s2 h2=>?_))
  (fun _ s' hq=>wpAny_pure (wpAny_pure hq)) fun _ _ e=>e)
 obtain⟨it,fp,tn,J,H2,e,I2,T,st2,f2,hq⟩:=h2
 subst e
 have kfree:X.K.lookup s2.heap.objs.size=none:=by
  cases q:X.K.lookup s2.heap.objs.size with
  | none=>rfl
  | some o=>exact absurd (Heap.lt_size (I2.kIn _ _ q)) (Nat.lt_irrefl _)
 obtain⟨g,tt,te,W,hg,ht,he,⟨m0,w0⟩,hW⟩:=hq s2.heap.objs.size (I2.hok.fresh (Nat.le_refl _)) kfree cl (s2.heap.objs.size+1) s2 H2 fp
 refine wpAny_newObj_type (wpAny_newFunctionEnv O.cell (by intro y hy; simp at hy) (fun h₁ hns₁ hsb₁=>?_) O.kind)
 dsimp only at hns₁ hsb₁ ⊢
 generalize hH2:s2.heap.push { cls:=.type "list",dict:=none,data:=.seq ([]:List Value).toArray }=Hh at hns₁ hsb₁ ⊢
 have hCe:Hh.objs.size=s2.heap.objs.size+1:=by rw [← hH2,Heap.size_push]
 have hlt:∀b∈fp,b<s2.heap.objs.size:=fun b hb=>by
  obtain⟨o,e,_⟩:=T.obj _ _ st2 b hb
  exact Heap.lt_size e
 have old:∀b o,s2.heap.get? b=some o->h₁.get? b=some o:=fun b o e=>hsb₁.extBut b o (by rw [hCe]; exact Nat.ne_of_lt (Nat.lt_succ_of_lt (Heap.lt_size e))) (Heap.get?_push_of_some _ (hH2▸Heap.get?_push_of_some _ e))
 have hD:∃n,h₁.get? s2.heap.objs.size=some { cls:=.type "list",data:=.seq #[] n }:=⟨_,hsb₁.extBut _ _ (by rw [hCe]; exact Nat.ne_of_lt (Nat.lt_succ_self _)) (Heap.get?_push_of_some _ (hH2▸Heap.get?_push_size _ rfl))⟩
 have I3:∀tk,Inv (Ap X sc N' cl (s2.heap.objs.size+1) s2 H2 fp) [] (B0 js σ) (Ax H2 s2.heap.objs.size (.lst [])) { s2 with heap:=h₁,toks:=tk }:=fun tk =>
  Jg I2 hc O hcl hcl2 f2 (fun b hb=>let ⟨o,e,_⟩:=T.obj _ _ st2 b hb; ⟨o,e⟩) (by rw [← hCe]; exact hns₁) old hD
 have st3:tn 0 h₁:=T.keep _ _ _ st2 fun b hb o e=>old b o e
 have fr3:∀b∈fp,Ax H2 s2.heap.objs.size (.lst []) b=none:=fun b hb=>by
  rw [AI (Nat.ne_of_lt (hlt b hb))]
  exact(f2 b hb).1
 have loop:∀tk,codeAny (model X.prog X.w) X.A (.compLoop (.ListComp elt [⟨tg,iter,ifs,0⟩] sc pos) 0 (.ref it) (.ref s2.heap.objs.size) (compEnvC sc cl (s2.heap.objs.size+1) X.env))
   (compPost (model X.prog X.w) X.A X.xe (some (assign (.Name x pos') X.env)) (fun _ s'=>SP X pins D .next s') (.ref s2.heap.objs.size) (s2.heap.objs.size+1)) { s2 with heap:=h₁,toks:=tk }:=fun tk=>by
  refine HW (W:=W) (m0:=m0) (Q:=fun v H1=>E6 i v σ H1 fun σ2 H2=>D.nx σ2 H2) I2 f2 hlt (Nat.le_succ _) T hg ht he hW (fun σ' H' s' J' q'=>?_) (I3 tk) st3 fr3 w0
  obtain⟨m,hn,_⟩:=J'.loc
  have hCn:H' (s2.heap.objs.size+1)=none:=J'.free
  have I4:Inv X pins σ H' s':=GL (h':=s'.heap) I2 f2 (Nat.le_succ _) J' fun b _=>rfl
  obtain⟨g1,g2,g3,g4,g5,g6⟩:=I2.fpOk (b:=s2.heap.objs.size+1) (Nat.le_succ _) hCn
  show wpAny (model X.prog X.w) X.A (assign (.Name x pos') X.env (.ref s2.heap.objs.size)) (fun _ s''=>∃m,s''.heap.Ns (s2.heap.objs.size+1) m/\∀h',Heap.SameBut (s2.heap.objs.size+1) s''.heap h'->SP X pins D .next { s'' with heap:=h' }) X.xe s'
  refine wpAny_assign_Name (G_ (v:=.ref s2.heap.objs.size) I4 hN hix hx rfl (fun s5 I5 ⟨a,hsame,ha⟩=>?_) hf)
  have na:s2.heap.objs.size+1≠a:=by
   rcases ha with rfl | ha
   ·exact g2
   ·exact fun z=>g5 _ _ ha z.symm
  refine⟨m,hn.sameBut hsame na,fun h' hs'=>?_⟩
  exact⟨_,H',I5.turned (t':=s5.toks) (it:=s2.heap.objs.size+1) (fun b o hb e=>hs'.extBut b o hb e) hCn g2 g4 g5 g6,q'⟩
 rw [show (newEnv sc Hh.objs.size X.env.globals cl X.env.qual none .none (some X.env) builtinsNs).locals=s2.heap.objs.size+1 from hCe]
 show codeAny (model X.prog X.w) X.A (.compStart (.ListComp elt [⟨tg,iter,ifs,0⟩] sc pos) 0 (.ref it) (.ref s2.heap.objs.size) (compEnvC sc cl (s2.heap.objs.size+1) X.env)) _ _
 exact codeAny_compStart_list (loop _) (T.self _ 0 _ _ _ st3 (loop _))
end
end L2
namespace Dp
open PySem PySem.Spec PyProof.Rows L2
section
variable {X:Cx}{κe:Kd}{tg elt iter:Expr}{ifs:List Expr}{sc:Scope}{pos:Pos}{src:EA}{b:BW}{tt:FN}{te:DW}
theorem O7(hc:X.calm=true)(N':List Str)(js:List (Option Nat))(hi:UL X tg iter src)(hg:∀cl C s H fp,DG (Ap X sc N' cl C s H fp) tg b)(ht:∀cl C s H fp,UK (Ap X sc N' cl C s H fp) ifs tt)(he:∀cl C s H fp,DE (Ap X sc N' cl C s H fp) elt κe te)
  (hB:GX sc X.env.scope X.N N' js=true) (hk:κe≠.tp:=by intro z; cases z)
  (hs:∀x,foldedSetIterable iter X.env x=pure x:=by intro _; rfl):∃wi,PI X tg iter wi/\∀(C:Fm) (M:Addr->Prop) (H:Hp) (n:Nat) (ρ:List Slot) (σ:L2.St) (P:D->Nat->Prop) (Q:VK),Rel X.K C M H n ρ σ->Bu js src b tt te n ρ P ->
   (∀v H' d n',Ext C.U H H'->FeedC X.K C.F M H' n'->VR X.K C.V M H H' .fr v d->P d n'->Q v H')->Na X sc N' js tg elt ifs wi σ H Q:=by
 obtain⟨wi,a1,a2⟩:=hi
 refine⟨wi,a1,fun C M H n ρ σ P Q R w q=>?_⟩
 refine a2 C M H n ρ σ _ _ R w fun J H1 ds n1 e1 f1 y w1=>?_
 obtain⟨hlen,w1⟩:=w1
 have R1:=R.step e1 f1
 intro l hl hkl cl Ca s0 H0 fp
 obtain⟨g,g1,g2⟩:=hg cl Ca s0 H0 fp
 obtain⟨tc,c1,c2⟩:=ht cl Ca s0 H0 fp
 obtain⟨tx,x1,x2⟩:=he cl Ca s0 H0 fp
 have noU:¬C.U l:=fun z=>by
  obtain⟨o,z⟩:=R1.udom l z
  rw [hl] at z; cases z
 generalize hM':(fun b=>M b\/b=l)=M'
 have M'l:M' l:=by rw [← hM']; exact .inr rfl
 have M'of:∀b,M b->M' b:=fun b z=>by rw [← hM']; exact .inl z
 have ofM':∀b,M' b->M b\/b=l:=fun b z=>by rw [← hM'] at z; exact z
 have inV:∀b,C.V b\/b=l->M' b:=fun b z=>z.elim (fun z=>M'of b (R1.vM b z)) fun z=>by rw [z]; exact M'l
 have lenj:js.length=N'.length:=DL (CompOk.of hB).cap
 refine⟨g,tc,tx,fun i m σ' H'=>m=ds.length - i/\i<=ds.length/\∃n' ρ' acc vs,Rel X.K ⟨M',C.F,C.U,fun b=>C.V b\/b=l,H1,[],[]⟩ M' H' n' ρ' σ'/\H' l=some (.lst vs)/\Ats X.K M' H' acc vs/\acc.length<=i/\Pres M H1 M' H' /\
   CL b tt te (fun acc n2=>P (.lst acc) n2) (ds.drop i) acc n' ρ',g1,c1,x1,⟨ds.length,by simp,Nat.zero_le _,n1,EO js ρ,[],[],?_⟩,?_⟩
 ·have gr:Grow H1 (Ax H1 l (.lst [])):=Am hl
  have pr:Pres M H1 M' (Ax H1 l (.lst [])):=⟨fun b o e _=>gr.all b o e,fun b z=>(ofM' b z).elim .inl fun z=>.inr (by rw [z]; exact hl)⟩
  refine⟨⟨?_,fun a z=>z,fun a z=>?_,gr.ext,R1.fU,fun a z=>.inl (R1.uV a z),inV,f1.pres pr fun f o _ e=>gr.all f.1 o e,?_,fun p hp=>absurd hp (by simp),fun i d a q z=>Lh R1.sl q z,fun i s a q o _=>absurd o (by rw [Cw q]; decide),fun i j s t a q o _ _ _ _=>absurd o (by rw [Cw q]; decide),fun p hp=>absurd hp (by simp)⟩,AM,rfl,Nat.zero_le _,pr,w1⟩
  ·unfold EO B0
   rw [List.length_map,List.length_map]
  ·rcases ofM' a z with z | z
   ·obtain⟨o,z⟩:=R1.dom a z
    exact⟨o,gr.all a o z⟩
   ·subst z
    exact⟨_,AM⟩
  ·refine JX R1.sl pr fun d v h=>h.same pr (fun a o _ e=>gr.all a o e) fun a e n1 z=>z.elim n1 fun z=>?_
   subst e
   obtain⟨o,w⟩:=h.lies
   rw [z,hl] at w
   cases w
 ·rintro i m σ' H' ⟨rfl,hi,n',ρ',acc,vs,R',hlv,hac,hal,pr,w'⟩
  by_cases hlt:i<ds.length
  ·have ed:ds.drop i=ds[i]::ds.drop (i+1):=List.drop_eq_getElem_cons hlt
   rw [ed] at w'
   obtain⟨go,yl⟩:=(y i M' H' pr R'.ext R'.dom).1 ds[i] (List.getElem?_eq_getElem hlt)
   refine .inr ⟨go,fun x H2 hy=>?_⟩
   obtain⟨gr,hx⟩:=yl x H2 hy
   have R2':=R'.step gr.ext (R'.feed.grow gr)
   refine g2 _ M' H2 n' ρ' σ' ds[i] x _ _ R2' hx w' fun ρ3 σ3 R3 w3=>?_
   refine c2 _ M' H2 n' ρ3 σ3 _ _ R3 w3 fun c H4 n4 e4 f4 w4=>?_
   have R4:=R3.step e4 f4
   have p4:Pres M' H' M' H4:=gr.pres.trans (R3.pres e4)
   have l4:H4 l=some (.lst vs):=e4.keep (gr.all _ _ hlv) noU
   cases c with
   | false=>exact⟨ds.length - (i+1),by omega,rfl,hlt,n4,ρ3,acc,vs,R4,l4,hac.pres p4,by omega,pr.trans p4,w4⟩
   | true =>
    refine x2 _ M' H4 n4 ρ3 σ3 _ _ R4 w4 fun yv H5 d5 n5 e5 f5 r5 w5=>?_
    have R5:=R4.step e5 f5
    have p5:Pres M' H4 M' H5:=R4.pres e5
    have l5:H5 l=some (.lst vs):=e5.keep l4 noU
    have hy5:=r5.shOf R4.dom hk
    have a5:=(hac.pres p4).pres p5
    have pu:Pres M' H5 M' (Ax H5 l (.lst (vs++[yv]))):=⟨fun b o e nb=>by rw [AI (fun z=>nb (by rw [z]; exact M'l))]; exact e,fun _ z=>.inl z⟩
    have hvl:vs.length=acc.length:=hac.length
    refine⟨vs,l5,by rw [sizeLine_eq]; omega,ds.length - (i+1),by omega,rfl,hlt,n5,ρ3,acc++[d5],vs++[yv],?_,AM,(a5.append (Ats.one hy5)).pres pu,by rw [List.length_append,List.length_singleton]; omega,(pr.trans p4).trans (p5.trans pu),w5⟩
    refine⟨R5.len,R5.sub,fun a z=>?_,fun b o e=>?_,R5.fU,R5.uV,R5.vM,?_,fun j s hs=>?_,fun p hp=>absurd hp (by simp),R5.br0,R5.new,R5.two,fun p hp=>absurd hp (by simp)⟩
    ·by_cases ha:a=l
     ·subst ha; exact⟨_,AM⟩
     ·rw [AI ha]; exact R5.dom a z
    ·obtain⟨o',q1,q2⟩:=R5.ext b o e
     by_cases hb:b=l
     ·subst hb
      have e':H1 b=some o:=e
      rw [hl] at e'; cases e'
     ·exact⟨o',by rw [AI hb]; exact q1,q2⟩
    ·refine f5.pres pu fun f o hf e=>?_
     rw [AI (fun z=>noU (by rw [← z]; exact R1.fU f hf))]
     exact e
    ·have hs5:=R5.sl j s hs
     cases s with
     | no=>trivial
     | sh d=>obtain⟨v,e1,h2⟩:=hs5; exact⟨v,e1,h2.pres pu⟩
     | br d =>
      obtain⟨v,e1,h2⟩:=hs5
      refine⟨v,e1,h2.same pu (fun a o z e=>?_) fun _ _ z=>z⟩
      subst z
      obtain⟨o3,w⟩:=R5.br0 j d a hs e1
      have hal:a≠l:=fun z=>by
       have w':H1 a=some o3:=w
       rw [z,hl] at w'; cases w'
      rw [AI hal]; exact e
     | ow d =>
      obtain⟨a,e1,h2,_⟩:=hs5
      exact absurd h2 (R5.new j _ a hs rfl e1).1
     | lt a d =>
      obtain⟨e1,h2,_⟩:=hs5
      exact absurd h2 (R5.new j _ a hs rfl e1).1
     | fd=>exact hs5
  ·have e:i=ds.length:=by omega
   subst e
   rw [List.drop_length] at w'
   refine .inl ⟨(y _ M' H' pr R'.ext R'.dom).2 (Nat.le_refl _),?_⟩
   have eb:Ext C.U H1 H':=R'.ext
   have less:Pres M' H' M H':=Pres.less M'of
   refine q _ H' (.lst acc) n' (e1.trans eb) (R'.feed.pres less fun _ _ _ z=>z) (VR.back e1 ?_) w'
   exact⟨l,rfl,hl,vs,hlv,by rw [hM']; exact hac⟩
theorem QT{κ:Kd}{i:Nat}{x:Str}{pos' spos:Pos}(hN:X.N.Nodup)(hix:X.N[i]?=some x)(hx:Loc X.env.scope x)(hc:X.calm=true)(N':List Str)(js:List (Option Nat))(hi:UL X tg iter src)(hg:∀cl C s H fp,DG (Ap X sc N' cl C s H fp) tg b)(ht:∀cl C s H fp,UK (Ap X sc N' cl C s H fp) ifs tt)(he:∀cl C s H fp,DE (Ap X sc N' cl C s H fp) elt κe te)
  (hB:GX sc X.env.scope X.N N' js=true) (hsw:swapsWith (.ListComp elt [⟨tg,iter,ifs,0⟩] sc pos) (some (.Name x pos')) spos.line X.env=pure true:=by rfl) (hk:κe≠.tp:=by intro z; cases z)
  (hs:∀x,foldedSetIterable iter X.env x=pure x:=by intro _; rfl)
  (hf:X.fn x=true\/X.env.scope.names.lookup x=some .local:=by first | exact .inl rfl | exact .inr rfl | assumption):DS X κ (.Assign [.Name x pos'] (.ListComp elt [⟨tg,iter,ifs,0⟩] sc pos) spos) (A4 i (Bu js src b tt te)):=by
 obtain⟨wi,a1,a2⟩:=O7 hc N' js hi hg ht he hB hk hs
 refine⟨_,Pt hc N' js a1 hB hN hix hx hsw hs hf,fun C M H n ρ σ D2 E R L w=>?_⟩
 refine a2 C M H n ρ σ _ _ R w fun v H' d n' e1 f1 r1 p=>?_
 exact L.nx M H' n' _ _ ((R.step e1 f1).set (r1.shOf R.dom (by intro z; cases z))) p
end
end Dp
namespace L2
open PySem PySem.Spec PyProof.Rows
noncomputable def Q1:R2:=fun y x H Q=>∃a o,x=.ref a/\DGet H a y o/\Q (.bl (!o.isSome)) H
noncomputable def Q2:R2:=fun x y H Q=>∃a v,x=.ref a/\DGet H a y (some v)/\Q v H
theorem En{X:Cx}{k:Nat}(hr:Room k X.A):OpR X (compareOp .NotIn) Q1:=by
 intro pins s σ H y x iv u Q I ry rx ⟨a,ov,ex,g,q⟩
 subst ex
 obtain rfl:u=Value.ref a:=rx
 exact Qa (Jh hr) I g ry fun s3 I3=>⟨.bl (!ov.isSome),H,I3,rfl,q⟩
end L2
namespace Dp
open PySem PySem.Spec PyProof.Rows L2
noncomputable def BI:List Key->List D->Key->Option D
 | k0::ks,d::ds,k=>if k0=k then some d else BI ks ds k
 | _,_,_=>none
section
variable {K:Frag}{X:Cx}
theorem FP{M:Addr->Prop}{H:Hp}{k:Key}:∀{ks:List Key} {ds:List D} {vs:List V},Ats K M H ds vs ->
  match BI ks ds k with
  | some z=>∃v,CV (ks.zip vs) k=some v/\At K M H z v
  | none=>CV (ks.zip vs) k=none
 | [],ds,vs,h=>by unfold BI; exact rfl
 | k0::ks,[],vs,h=>by cases h; exact rfl
 | k0::ks,d::ds,vs,h=>by
  obtain⟨v,r,rfl,h1,h2⟩:=h
  have ih:=FP (k:=k) (ks:=ks) h2
  unfold BI
  by_cases e:k0=k
  ·rw [if_pos e]
   refine⟨v,?_,h1⟩
   show CV ((k0,v)::ks.zip r) k=some v
   rw [C8 e]
  ·rw [if_neg e]
   have:CV ((k0,v)::ks.zip r) k=CV (ks.zip r) k:=C9 e
   rw [show (k0::ks).zip (v::r)=(k0,v)::ks.zip r from rfl,this]
   exact ih
noncomputable def keyOf:D->Option Key
 | .int i=>some (.inl i)
 | .str x=>some (.inr x)
 | _=>none
theorem DF{U M:Addr->Prop}{H:Hp}{d:D}{v:V}{k:Key}(e:keyOf d=some k)(h:AtT K U M H d v):v=kV k:=by
 cases d with
 | int i=>cases e; exact h
 | str x=>cases e; exact h.str.1
 | _=>cases e
noncomputable def HU:D->Option (List Key×List D)
 | .dic ks ds=>some (ks,ds)
 | .fdi ks ds=>some (ks,ds)
 | _=>none
theorem IV{U M:Addr->Prop}{H:Hp}{d:D}{x:V}{ks:List Key}{ds:List D}(e:HU d=some (ks,ds))(h:AtT K U M H d x):∃a vs,x=.ref a/\Rd H a (.dK (ks.zip vs))/\Ats K M H ds vs:=by
 cases d with
 | dic k2 d2=>cases e; obtain⟨a,vs,rfl,_,ha,_,hs⟩:=h; exact⟨a,vs,rfl,.inl ha,hs⟩
 | fdi k2 d2=>cases e; obtain⟨a,vs,rfl,⟨o,_,ha⟩,_,hs⟩:=h; exact⟨a,vs,rfl,.inr ⟨o,ha⟩,hs⟩
 | _=>cases e
theorem IX{H:Hp}{a:Addr}{kvs:List (Key×V)}{k:Key}(e:Rd H a (.dK kvs)):DGet H a (kV k) (CV kvs k):=.inl ⟨kvs,k,e,rfl,rfl⟩
noncomputable def M6(neg:Bool)(e d:D)(P:D->Prop):Prop:=∃ks ds k,HU d=some (ks,ds)/\keyOf e=some k/\P (.bl (if neg then !(BI ks ds k).isSome else (BI ks ds k).isSome))
noncomputable def DJ(d e:D)(P:D->Prop):Prop:=∃ks ds k z,HU d=some (ks,ds)/\keyOf e=some k/\BI ks ds k=some z/\P z
theorem Gj:Eh K .sh Q1 (M6 true):=fun U M H e d y x P Q dom vM hy hx w q=>by
 obtain⟨ks,ds,k,hd,he,w⟩:=w
 obtain⟨a,vs,rfl,ha,hs⟩:=IV hd hx
 refine⟨a,CV (ks.zip vs) k,rfl,by rw [DF he hy]; exact IX ha,q _ H (.bl _) .refl rfl ?_⟩
 have h:=FP (k:=k) (ks:=ks) hs
 cases c:BI ks ds k with
 | none=>rw [c] at h w; rw [show CV (ks.zip vs) k=none from h]; exact w
 | some z=>rw [c] at h w; obtain⟨v,h1,_⟩:=h; rw [h1]; exact w
theorem Sk:Eh K .sh Q2 DJ:=fun U M H d e x y P Q dom vM hx hy w q=>by
 obtain⟨ks,ds,k,z,hd,he,hz,w⟩:=w
 obtain⟨a,vs,rfl,ha,hs⟩:=IV hd hx
 have h:=FP (k:=k) (ks:=ks) hs
 rw [hz] at h
 obtain⟨v,h1,h2⟩:=h
 exact⟨a,v,rfl,by rw [DF he hy,← h1]; exact IX ha,q v H z .refl h2 w⟩
variable {a b:Expr}{κa κb:Kd}{wa wb:DW}{pos:Pos}
theorem Dg{k:Nat}(hr:Room k X.A)(ha:DE X a κa wa)(hb:DE X b κb wb)(hs:Sr b:=by intro _ _; rfl):DE X (.Subscript a b pos) .sh (AW DJ wa wb):=by
 obtain⟨ta,ha1,ha2⟩:=ha
 obtain⟨tb,hb1,hb2⟩:=hb
 exact⟨Ci Q2 ta tb,IC (Jh hr) ha1 hb1 hs,fun C M H n ρ σ P Q R w q=>DM Sk ha2 hb2 C M H n ρ σ P Q R w q⟩
end
end Dp
namespace So
open PySem PySem.W PyProof.Rows
section
variable {O:KeyOrd}{key:Nat->O.α}{N:Nat}{cmp:Nat->Nat->(Bool->Shared->Prop)->Shared->Prop}{s:Shared}{p p0:Array Nat}
noncomputable def KN(O:KeyOrd)(key:Nat->O.α)(p:Array Nat)(i:Nat):O.α:=key (p.getD i 0)
noncomputable def Srt(O:KeyOrd)(key:Nat->O.α)(p:Array Nat)(k:Nat):Prop:=∀i j,i<=j->j<k->O.kle (KN O key p i) (KN O key p j)
noncomputable def UE(O:KeyOrd)(key:Nat->O.α)(p:Array Nat)(k:Nat):Prop:=∀i j,i<=j->j<k->O.kle (KN O key p j) (KN O key p i)
noncomputable def RJ(O:KeyOrd)(key:Nat->O.α)(N:Nat)(cmp:Nat->Nat->(Bool->Shared->Prop)->Shared->Prop)(s:Shared):Prop:=∀(i j:Nat) (C:Bool->Shared->Prop),i<N->j<N->C (O.blt (key i) (key j)) s->cmp i j C s
noncomputable def Bd(N:Nat)(p:Array Nat):Prop:=0<N/\∀x∈p,x<N
theorem IN(p:Array Nat)(i:Nat):p.getD i 0=(p[i]?).getD 0:=by
 simp
theorem Bd.get(h:Bd N p)(i:Nat):p.getD i 0<N:=by
 rw [IN]
 cases e:p[i]? with
 | none=>exact h.1
 | some x=>exact h.2 x (Array.mem_of_getElem? e)
theorem Bd.perm{p':Array Nat}(h:Bd N p)(hp:p'.Perm p):Bd N p':=⟨h.1,fun x hx=>h.2 x (hp.mem_iff.mp hx)⟩
theorem DU{p q:Array Nat}{i j:Nat}(h:p[i]?=q[j]?):KN O key p i=KN O key q j:=by
 unfold KN
 rw [IN,IN,h]
theorem Hk{src d:Nat}(hs:src<p.size)(hd:d<=src)(k:Nat) :
  KN O key (bubble p src d) k=if k=src - d then KN O key p src else if src - d<k/\k<=src then KN O key p (k - 1) else KN O key p k:=by
 have e:=getElem?_bubble hs d hd k
 by_cases h1:k=src - d
 ·rw [if_pos h1] at e ⊢; exact DU e
 ·rw [if_neg h1] at e ⊢
  by_cases h2:src - d<k/\k<=src
  ·rw [if_pos h2] at e ⊢; exact DU e
  ·rw [if_neg h2] at e ⊢; exact DU e
theorem Ez{i j:Nat}(hj:j<=p.size)(k:Nat):KN O key (kas_rev p i j) k=if i<=k/\k<j then KN O key p (i+j - 1 - k) else KN O key p k:=by
 have e:=getElem?_mirror_all (i:=i) hj k
 unfold kas_rev
 by_cases h1:i<=k/\k<j
 ·rw [if_pos h1] at e ⊢; exact DU e
 ·rw [if_neg h1] at e ⊢; exact DU e
theorem BC{i j:Nat}(hj:j<=p.size)(heq:∀k,i<=k->k<j->KN O key p k=KN O key p (j - 1))(k:Nat):KN O key (kas_rev p i j) k=KN O key p k:=by
 rw [Ez hj]
 split
 ·rw [heq _ (by omega) (by omega),heq k (by omega) (by omega)]
 ·rfl
theorem Bp(p:Array Nat)(i j:Nat):(kas_rev p i j).Perm p:=mirror_perm _ _ _ _
theorem yes{α:Type}{T₁ T₂:KasT α}{Q:α->Shared->Prop}(h:T₁.kasWp cmp Q s):(if true=true then T₁ else T₂).kasWp cmp Q s:=by rw [if_pos rfl]; exact h
theorem no{α:Type}{T₁ T₂:KasT α}{Q:α->Shared->Prop}(h:T₂.kasWp cmp Q s):(if false=true then T₁ else T₂).kasWp cmp Q s:=by rw [if_neg (by simp)]; exact h
theorem K4(hC:RJ O key N cmp s)(hb:Bd N p){nrem:Nat}{G:Nat->Shared->Prop}:∀(f n:Nat),1<=n->n+f=nrem->Srt O key p n ->
  (∀m,n<=m->m<=nrem->Srt O key p m->(m=nrem\/O.klt (KN O key p m) (KN O key p (m - 1)))->G m s)->(kas_asc p f n).kasWp cmp G s
 | 0,n,_,e,hs,h=>h n (Nat.le_refl _) (by omega) hs (.inl (by omega))
 | f+1,n,h1,e,hs,h=>by
  show cmp (p.getD n 0) (p.getD (n - 1) 0) (fun c s'=>(if c=true then KasT.ret n else kas_asc p f (n+1)).kasWp cmp G s') s
  refine hC _ _ _ (hb.get n) (hb.get _) ?_
  cases hless:O.blt (key (p.getD n 0)) (key (p.getD (n - 1) 0)) with
  | true=>exact yes (h n (Nat.le_refl _) (by omega) hs (.inr hless))
  | false =>
   refine no (K4 hC hb f (n+1) (by omega) (by omega) (fun i j hij hj=>?_) fun m m1 m2 m3 m4=>h m (by omega) m2 m3 m4)
   by_cases hjx:j<n
   ·exact hs i j hij hjx
   ·have hj':j=n:=by omega
    subst hj'
    by_cases hi':i=j
    ·subst hi'; exact KeyOrd.kle_refl _
    ·exact KeyOrd.kle_trans (hs i (j - 1) (by omega) (by omega)) hless
theorem FX(hC:RJ O key N cmp s){nrem:Nat}{G:Array Nat×Nat×Nat->Shared->Prop}:∀(f:Nat) (p:Array Nat) (n q:Nat),p.Perm p0->Bd N p->nrem<=p.size->1<=n->n+f=nrem->UE O key p n->q+1<=n ->
  (∀i,n - (q+1)<=i->i<n->KN O key p i=KN O key p (n - 1)) ->
  (∀p' m q',p'.Perm p0->Bd N p'->p'.size=p.size->n<=m->m<=nrem->UE O key p' m->q'+1<=m->(∀i,m - (q'+1)<=i->i<m->KN O key p' i=KN O key p' (m - 1))->G (p',m,q') s)->(kas_desc f p n q).kasWp cmp G s
 | 0,p,n,q,hp,hb,hz,h1,e,hs,hq,he,h=>h p n q hp hb rfl (Nat.le_refl _) (by omega) hs hq he
 | f+1,p,n,q,hp,hb,hz,h1,e,hs,hq,he,h=>by
  show cmp (p.getD n 0) (p.getD (n - 1) 0) (fun c s'=>(if c=true then (if q > 0 then kas_desc f (kas_rev p (n - (q+1)) n) (n+1) 0 else kas_desc f p (n+1) 0)
   else .ask (p.getD (n - 1) 0) (p.getD n 0) fun d=>if d=true then .ret (p,n,q) else kas_desc f p (n+1) (q+1)).kasWp cmp G s') s
  refine hC _ _ _ (hb.get n) (hb.get _) ?_
  cases hless:O.blt (key (p.getD n 0)) (key (p.getD (n - 1) 0)) with
  | true =>
   have hl:O.klt (KN O key p n) (KN O key p (n - 1)):=hless
   have step1:∀xs:Array Nat,(∀k,KN O key xs k=KN O key p k)->UE O key xs (n+1):=by
    intro xs hk i j hij hj
    rw [hk,hk]
    by_cases hjx:j<n
    ·exact hs i j hij hjx
    ·have hj':j=n:=by omega
     subst hj'
     by_cases hi':i=j
     ·subst hi'; exact KeyOrd.kle_refl _
     ·exact KeyOrd.kle_trans (KeyOrd.kle_of_klt hl) (hs i (j - 1) (by omega) (by omega))
   refine yes ?_
   have hsz:n<=p.size:=by omega
   by_cases hq0:q > 0
   ·rw [if_pos hq0]
    refine FX hC f _ (n+1) 0 ((Bp _ _ _).trans hp) (hb.perm (Bp _ _ _)) (by rw [kas_rev_size]; exact hz) (by omega) (by omega) (step1 _ (BC hsz he)) (by omega) (fun i a b=>by congr 1; omega) fun p' m q' a1 a2 a3 a4 a5 a6 a7 a8=>h p' m q' a1 a2 (a3.trans (kas_rev_size _ _)) (by omega) a5 a6 a7 a8
   ·rw [if_neg hq0]
    exact FX hC f _ (n+1) 0 hp hb hz (by omega) (by omega) (step1 _ fun _=>rfl) (by omega) (fun i a b=>by congr 1; omega) fun p' m q' a1 a2 a3 a4 a5 a6 a7 a8=>h p' m q' a1 a2 a3 (by omega) a5 a6 a7 a8
  | false =>
   refine no ?_
   show cmp (p.getD (n - 1) 0) (p.getD n 0) (fun d s'=>(if d=true then KasT.ret (p,n,q) else kas_desc f p (n+1) (q+1)).kasWp cmp G s') s
   refine hC _ _ _ (hb.get _) (hb.get n) ?_
   cases hlarger:O.blt (key (p.getD (n - 1) 0)) (key (p.getD n 0)) with
   | true=>exact yes (h p n q hp hb rfl (Nat.le_refl _) (by omega) hs hq he)
   | false =>
    have heqx:KN O key p n=KN O key p (n - 1):=KeyOrd.kle_antisymm (O:=O) hlarger hless
    refine no (FX hC f p (n+1) (q+1) hp hb hz (by omega) (by omega) (fun i j hij hj=>?_) (by omega) (fun i a b=>?_) fun p' m q' a1 a2 a3 a4 a5 a6 a7 a8=>h p' m q' a1 a2 a3 (by omega) a5 a6 a7 a8)
    ·by_cases hjx:j<n
     ·exact hs i j hij hjx
     ·have hj':j=n:=by omega
      subst hj'
      by_cases hi':i=j
      ·subst hi'; exact KeyOrd.kle_refl _
      ·rw [heqx]; exact hs i (j - 1) (by omega) (by omega)
    ·rw [show n+1 - 1=n by omega]
     by_cases hix:i=n
     ·subst hix; rfl
     ·rw [heqx]; exact he i (by omega) (by omega)
theorem I0(hC:RJ O key N cmp s){n nrem:Nat}{G:Nat×Array Nat->Shared->Prop}(hp:p.Perm p0)(hb:Bd N p)(hz:nrem<=p.size)(h1:1<=n)(hn:n<=nrem)(hs:UE O key p n)
  (h:∀m p',p'.Perm p0->Bd N p'->p'.size=p.size->1<=m->m<=nrem->Srt O key p' m->G (m,p') s):(kas_tail3 n nrem p).kasWp cmp G s:=by
 unfold kas_tail3
 rw [KasT.kasWp_bind]
 have hsz:n<=p.size:=by omega
 refine K4 hC (hb.perm (Bp _ _ _)) (nrem - n) n h1 (by omega) (fun i j hij hj=>?_) fun m m1 m2 m3 _=>h m _ ((Bp _ _ _).trans hp) (hb.perm (Bp _ _ _)) (kas_rev_size _ _) (by omega) m2 m3
 rw [Ez hsz,Ez hsz,if_pos (by omega),if_pos (by omega)]
 exact hs _ _ (by omega) (by omega)
theorem E9(hC:RJ O key N cmp s){n nrem:Nat}{G:Nat×Array Nat->Shared->Prop}(hp:p.Perm p0)(hb:Bd N p)(hz:nrem<=p.size)(hn:n+1<=nrem)(hs:UE O key p (n+1))
  (h:∀m p',p'.Perm p0->Bd N p'->p'.size=p.size->1<=m->m<=nrem->Srt O key p' m->G (m,p') s):(kas_descPart n nrem p).kasWp cmp G s:=by
 unfold kas_descPart
 rw [KasT.kasWp_bind]
 refine FX (p0:=p0) hC (nrem - (n+1)) p (n+1) 0 hp hb hz (by omega) (by omega) hs (by omega) (fun i a b=>by congr 1; omega) fun p' m q' a1 a2 a3 a4 a5 a6 a7 a8=>?_
 have hsz:m<=p'.size:=by omega
 show (if q' > 0 then kas_tail3 m nrem (kas_rev p' (m - (q'+1)) m) else kas_tail3 m nrem p').kasWp cmp G s
 by_cases hq0:q' > 0
 ·rw [if_pos hq0]
  refine I0 hC ((Bp _ _ _).trans a1) (a2.perm (Bp _ _ _)) (by rw [kas_rev_size]; omega) (by omega) a5 (fun i j hij hj=>?_) fun m' p'' b1 b2 b3 b4 b5 b6=>h m' p'' b1 b2 (b3.trans ((kas_rev_size _ _).trans a3)) b4 b5 b6
  rw [BC hsz a8,BC hsz a8]
  exact a6 i j hij hj
 ·rw [if_neg hq0]
  exact I0 hC a1 a2 (by omega) (by omega) a5 a6 fun m' p'' b1 b2 b3 b4 b5 b6=>h m' p'' b1 b2 (b3.trans a3) b4 b5 b6
theorem O6(hC:RJ O key N cmp s){nrem:Nat}{G:Nat×Array Nat->Shared->Prop}(hp:p.Perm p0)(hb:Bd N p)(hz:nrem<=p.size)(h1:1<=nrem)
  (h:∀m p',p'.Perm p0->Bd N p'->p'.size=p.size->1<=m->m<=nrem->Srt O key p' m->G (m,p') s):(kas_count nrem p).kasWp cmp G s:=by
 unfold kas_count
 rw [KasT.kasWp_bind]
 refine K4 (nrem:=nrem) hC hb (nrem - 1) 1 (Nat.le_refl _) (by omega) (fun i j hij hj=>by have:i=j:=(by omega); subst this; exact KeyOrd.kle_refl _) fun n hn1 hn2 hsn hor=>?_
 by_cases hnn:n=nrem
 ·rw [if_pos (by simpa using hnn)]
  exact h n p hp hb rfl hn1 hn2 hsn
 ·rw [if_neg (by simpa using hnn)]
  have hlt:O.klt (KN O key p n) (KN O key p (n - 1)):=hor.resolve_left hnn
  by_cases hgt:n > 1
  ·rw [if_pos hgt]
   show cmp (p.getD 0 0) (p.getD (n - 1) 0) (fun c s'=>(if c=true then KasT.ret (n,p) else kas_descPart n nrem (kas_rev p 0 n)).kasWp cmp G s') s
   refine hC _ _ _ (hb.get _) (hb.get _) ?_
   cases hrose:O.blt (key (p.getD 0 0)) (key (p.getD (n - 1) 0)) with
   | true=>exact yes (h n p hp hb rfl hn1 hn2 hsn)
   | false =>
    have hrose':O.kle (KN O key p (n - 1)) (KN O key p 0):=hrose
    have hsz:n<=p.size:=by omega
    have hall:∀k,0<=k->k<n->KN O key p k=KN O key p (n - 1):=by
     intro k _ hk
     have a1:=hsn 0 k (by omega) hk
     have a2:=hsn k (n - 1) (by omega) (by omega)
     exact KeyOrd.kle_antisymm a2 (KeyOrd.kle_trans hrose' a1)
    refine no (E9 hC ((Bp _ _ _).trans hp) (hb.perm (Bp _ _ _)) (by rw [kas_rev_size]; exact hz) (by omega) (fun i j hij hj=>?_) fun m' p'' b1 b2 b3 b4 b5 b6=>h m' p'' b1 b2 (b3.trans (kas_rev_size _ _)) b4 b5 b6)
    rw [BC hsz hall,BC hsz hall]
    by_cases hjn:j<n
    ·rw [hall i (by omega) (by omega),hall j (by omega) hjn]; exact KeyOrd.kle_refl _
    ·have hj':j=n:=by omega
     subst hj'
     by_cases hi':i=j
     ·subst hi'; exact KeyOrd.kle_refl _
     ·rw [hall i (by omega) (by omega)]; exact KeyOrd.kle_of_klt hlt
  ·rw [if_neg hgt]
   have hn1':n=1:=by omega
   subst hn1'
   refine E9 hC hp hb hz (by omega) (fun i j hij hj=>?_) h
   by_cases hi':i=j
   ·subst hi'; exact KeyOrd.kle_refl _
   ·have hi0:i=0:=by omega
    have hj1:j=1:=by omega
    subst hi0; subst hj1
    exact KeyOrd.kle_of_klt hlt
theorem Fv(hC:RJ O key N cmp s)(hb:Bd N p){k:Nat}(hs:Srt O key p k){G:Nat->Shared->Prop}
  (h:∀l,l<=k->(∀i,i<l->O.kle (KN O key p i) (KN O key p k))->(∀i,l<=i->i<k->O.klt (KN O key p k) (KN O key p i))->G l s):∀(f l r:Nat),l<=r->r<=k->r - l<=f ->
  (∀i,i<l->O.kle (KN O key p i) (KN O key p k))->(∀i,r<=i->i<k->O.klt (KN O key p k) (KN O key p i))->(kas_place p k f l r).kasWp cmp G s
 | 0,l,r,hlr,hrk,hm,hlo,hhi=>by
  have:l=r:=by omega
  subst this
  exact h l hrk hlo hhi
 | f+1,l,r,hlr,hrk,hm,hlo,hhi=>by
  unfold kas_place
  by_cases hge:l≥r
  ·rw [if_pos hge]
   have:l=r:=by omega
   subst this
   exact h l hrk hlo hhi
  ·rw [if_neg hge]
   show cmp (p.getD k 0) (p.getD ((l+r) / 2) 0) (fun c s'=>(if c=true then kas_place p k f l ((l+r) / 2) else kas_place p k f ((l+r) / 2+1) r).kasWp cmp G s') s
   refine hC _ _ _ (hb.get _) (hb.get _) ?_
   cases hless:O.blt (key (p.getD k 0)) (key (p.getD ((l+r) / 2) 0)) with
   | true =>
    have hl:O.klt (KN O key p k) (KN O key p ((l+r) / 2)):=hless
    exact yes (Fv hC hb hs h f l ((l+r) / 2) (by omega) (by omega) (by omega) hlo fun i h1 h2=>KeyOrd.klt_of_klt_of_kle hl (hs _ _ h1 h2))
   | false =>
    have hl:O.kle (KN O key p ((l+r) / 2)) (KN O key p k):=hless
    exact no (Fv hC hb hs h f ((l+r) / 2+1) r (by omega) (by omega) (by omega) (fun i h1=>KeyOrd.kle_trans (hs i ((l+r) / 2) (by omega) (by omega)) hl) hhi)
theorem DM(hC:RJ O key N cmp s){n:Nat}{G:Array Nat->Shared->Prop}(h:∀p',p'.Perm p0->Srt O key p' n->G p' s):∀(f:Nat) (p:Array Nat) (k:Nat),p.Perm p0->Bd N p->n<=p.size->k+f=n->Srt O key p k->(kas_bin f p k).kasWp cmp G s
 | 0,p,k,hp,hb,hz,e,hs=>h p hp (by rw [← e]; exact hs)
 | f+1,p,k,hp,hb,hz,e,hs=>by
  rw [show kas_bin (f+1) p k=(kas_place p k k 0 k).bind fun l=>kas_bin f (bubble p k (k - l)) (k+1) from rfl,KasT.kasWp_bind]
  refine Fv hC hb hs (fun l hlk hlo hhi=>?_) k 0 k (Nat.zero_le _) (Nat.le_refl _) (by omega) (fun i hi=>by omega) fun i a b=>by omega
  have hks:k<p.size:=by omega
  refine DM hC h f _ (k+1) ((bubble_perm _ _ _).trans hp) (hb.perm (bubble_perm _ _ _)) (by rw [bubble_size]; exact hz) (by omega) fun i j hij hj=>?_
  rw [Hk hks (by omega),Hk hks (by omega),show k - (k - l)=l by omega]
  by_cases hi1:i=l
  ·rw [if_pos hi1]
   by_cases hj1:j=l
   ·rw [if_pos hj1]; exact KeyOrd.kle_refl _
   ·rw [if_neg hj1,if_pos (by omega)]
    exact KeyOrd.kle_of_klt (hhi (j - 1) (by omega) (by omega))
  ·rw [if_neg hi1]
   by_cases hi2:l<i/\i<=k
   ·rw [if_pos hi2,if_neg (by omega),if_pos (by omega)]
    exact hs (i - 1) (j - 1) (by omega) (by omega)
   ·rw [if_neg hi2]
    by_cases hj1:j=l
    ·rw [if_pos hj1]; exact hlo i (by omega)
    ·rw [if_neg hj1]
     by_cases hj2:l<j/\j<=k
     ·rw [if_pos hj2]
      exact hs i (j - 1) (by omega) (by omega)
     ·rw [if_neg hj2]
      exact hs i j hij (by omega)
theorem sort_ok{n:Nat}(h1:1<=n)(hC:RJ O key n cmp s){G:Array Nat->Shared->Prop}(h:∀p,p.Perm (List.toArray (List.range n))->Srt O key p n->G p s):(kas_sort n).kasWp cmp G s:=by
 unfold kas_sort
 rw [KasT.kasWp_bind]
 have hb:Bd n (List.toArray (List.range n)):=⟨h1,fun x hx=>by simpa using hx⟩
 have hsz:(List.toArray (List.range n)).size=n:=by simp
 refine O6 hC (Array.Perm.refl _) hb (by omega) h1 fun m p' a1 a2 a3 a4 a5 a6=>?_
 show (if m<n then kas_bin (n - max m 1) p' (max m 1) else KasT.ret p').kasWp cmp G s
 by_cases hlt:m<n
 ·rw [if_pos hlt,show max m 1=m by omega]
  exact DM (p0:=List.toArray (List.range n)) hC h (n - m) p' m a1 a2 (by omega) (by omega) a6
 ·rw [if_neg hlt]
  exact h p' a1 (by rw [show n=m by omega]; exact a6)
end
end So
namespace L2
open PySem PySem.Spec PyProof.Rows PySem.W
noncomputable def R9:Key->Key->Bool
 | .inl i,.inl j=>decide (i<j)
 | .inr x,.inr y=>decide (x.cps.toList<y.cps.toList)
 | .inl _,.inr _=>true
 | .inr _,.inl _=>false
noncomputable def BM:List Key->List Key->Bool
 | [],[]=>false
 | [],_::_=>true
 | _::_,[]=>false
 | x::xs,y::ys=>if x=y then BM xs ys else R9 x y
theorem Ko:∀x:Key,R9 x x=false
 | .inl i=>decide_eq_false (Int.lt_irrefl i)
 | .inr x=>decide_eq_false (List.lt_irrefl _)
theorem Mi:∀x y z:Key,R9 x y=true->R9 y z=true->R9 x z=true
 | .inl i,.inl j,.inl k,h1,h2=>decide_eq_true (Int.lt_trans (of_decide_eq_true h1) (of_decide_eq_true h2))
 | .inr i,.inr j,.inr k,h1,h2=>decide_eq_true (List.lt_trans (of_decide_eq_true h1) (of_decide_eq_true h2))
 | .inl i,.inl j,.inr k,_,_=>rfl
 | .inl i,.inr j,.inr k,_,_=>rfl
 | .inl i,.inr j,.inl k,_,h=>by cases h
 | .inr i,.inl j,_,h,_=>by cases h
 | .inr i,.inr j,.inl k,_,h=>by cases h
theorem HH:∀x y:Key,R9 x y=false->R9 y x=false->x=y
 | .inl i,.inl j,h1,h2=>congrArg Sum.inl (by have a:=of_decide_eq_false h1; have b:=of_decide_eq_false h2; omega)
 | .inr x,.inr y,h1,h2=>by
  have a:=of_decide_eq_false h1
  have b:=of_decide_eq_false h2
  have e:x.cps.toList=y.cps.toList:=List.le_antisymm (as:=x.cps.toList) (bs:=y.cps.toList) b a
  obtain⟨u⟩:=x
  obtain⟨v⟩:=y
  exact congrArg Sum.inr (congrArg Str.mk (Array.ext' e))
 | .inl i,.inr j,h,_=>by cases h
 | .inr i,.inl j,_,h=>by cases h
theorem B4:∀x:List Key,BM x x=false
 | []=>rfl
 | x::xs=>by unfold BM; rw [if_pos rfl]; exact B4 xs
theorem CM:∀x y z:List Key,BM x y=true->BM y z=true->BM x z=true
 | [],[],_,h,_=>by cases h
 | [],_::_,[],_,h=>by cases h
 | [],_::_,_::_,_,_=>rfl
 | _::_,[],_,h,_=>by cases h
 | _::_,_::_,[],_,h=>by cases h
 | x::xs,y::ys,z::zs,h1,h2=>by
  unfold BM at h1 h2 ⊢
  by_cases e1:x=y
  ·subst e1
   rw [if_pos rfl] at h1
   by_cases e2:x=z
   ·subst e2
    rw [if_pos rfl] at h2 ⊢
    exact CM xs ys zs h1 h2
   ·rw [if_neg e2] at h2 ⊢
    exact h2
  ·rw [if_neg e1] at h1
   by_cases e2:y=z
   ·subst e2
    rw [if_neg e1]
    exact h1
   ·rw [if_neg e2] at h2
    have h3:=Mi x y z h1 h2
    by_cases e3:x=z
    ·subst e3
     rw [Ko] at h3
     cases h3
    ·rw [if_neg e3]
     exact h3
theorem Cy:∀x y:List Key,BM x y=false->BM y x=false->x=y
 | [],[],_,_=>rfl
 | [],_::_,h,_=>by cases h
 | _::_,[],_,h=>by cases h
 | x::xs,y::ys,h1,h2=>by
  unfold BM at h1 h2
  by_cases e:x=y
  ·subst e
   rw [if_pos rfl] at h1 h2
   rw [Cy xs ys h1 h2]
  ·rw [if_neg e] at h1
   rw [if_neg (fun z=>e z.symm)] at h2
   exact absurd (HH x y h1 h2) e
noncomputable def P7:KeyOrd:=⟨List Key,BM,B4,CM,fun a b c h=>by
 cases h1:BM a b with
 | true=>exact .inl rfl
 | false =>
  cases h2:BM b a with
  | true=>exact .inr (CM b a c h2 h)
  | false=>rw [← Cy a b h1 h2]; exact .inr h,Cy⟩
theorem II:∀x y:List Key,Bo x y=true->D4 x y=BM x y
 | [],[],_=>rfl
 | [],_::_,_=>rfl
 | _::_,[],_=>rfl
 | x::xs,y::ys,h=>by
  have h':(HE x y&&Bo xs ys)=true:=h
  rw [Bool.and_eq_true] at h'
  unfold D4 BM
  by_cases e:x=y
  ·rw [if_pos e,if_pos e]; exact II xs ys h'.2
  ·rw [if_neg e,if_neg e]
   cases x with
   | inl i=>cases y with
    | inl j=>rfl
    | inr z=>cases h'.1
   | inr i=>cases y with
    | inl j=>cases h'.1
    | inr z=>rfl
section
variable {prog:Program}{w:World}{A:Around}{E:Value->Shared->Prop}{s:Shared}
theorem OQ{b:Bool}{Q:Bool->Shared->Prop}{nx ny:Nat}:∀(ns ms:List Key) (us ws:List Value) (i:Nat),Vals (ns.map kOf) us->Vals (ms.map kOf) ws->Bo ns ms=true->ns.length+ny=ms.length+nx->Q (D4 ns ms) s ->
  KatLex prog w A b (decide (nx<ny)) Q (us.zip ws) i s
 | [],[],us,ws,i,h1,h2,_,hl,q=>by
  cases h1
  cases h2
  refine kat_nil ?_
  rw [show decide (nx<ny)=false from decide_eq_false (by simp only [List.length_nil] at hl; omega)]
  exact q
 | [],m::ms,us,ws,i,h1,h2,_,hl,q=>by
  cases h1
  rw [List.zip_nil_left]
  refine kat_nil ?_
  rw [show decide (nx<ny)=true from decide_eq_true (by simp only [List.length_nil,List.length_cons] at hl; omega)]
  exact q
 | n::ns,[],us,ws,i,h1,h2,_,hl,q=>by
  cases h2
  rw [List.zip_nil_right]
  refine kat_nil ?_
  rw [show decide (nx<ny)=false from decide_eq_false (by simp only [List.length_nil,List.length_cons] at hl; omega)]
  exact q
 | n::ns,m::ms,us,ws,i,h1,h2,hs,hl,q=>by
  have hs':(HE n m&&Bo ns ms)=true:=hs
  rw [Bool.and_eq_true] at hs'
  have q':Q (if n=m then D4 ns ms else UT n m) s:=q
  cases h1 with
  | @cons _ u _ ur r1 t1 =>
   cases h2 with
   | @cons _ v _ vr r2 t2 =>
    rw [List.zip_cons_cons]
    have ih:n=m->KatLex prog w A b (decide (nx<ny)) Q (ur.zip vr) (i+1) s:=fun e=>OQ ns ms ur vr (i+1) t1 t2 hs'.2 (by simp only [List.length_cons] at hl; omega) (by rw [if_pos e] at q'; exact q')
    cases n with
    | inl x =>
     cases m with
     | inr y=>cases hs'.1
     | inl y =>
      obtain⟨tu,rfl⟩:=r1
      obtain⟨tv,rfl⟩:=r2
      refine kat_cons (wpAny_eqBool_int ?_)
      by_cases e:x=y
      ·rw [show (x==y)=true by simpa using e]
       exact kat_yes (ih (by rw [e]))
      ·rw [show (x==y)=false by simpa using e]
       refine kat_no ?_
       rw [if_neg (fun z=>e (Sum.inl.inj z))] at q'
       cases hf:(b&&i==0) with
       | true=>exact oneLt_int q'
       | false=>exact kat_one _ _ (PyProof.Rows.lt_int (show PySem.W.BoolBack Q (.bool (decide (x<y))) s from q'))
    | inr x =>
     cases m with
     | inl y=>cases hs'.1
     | inr y =>
      obtain⟨tu,rfl⟩:=r1
      obtain⟨tv,rfl⟩:=r2
      refine kat_cons (wpAny_eqBool_str ?_)
      by_cases e:x=y
      ·rw [show decide (x=y)=true by simpa using e]
       exact kat_yes (ih (by rw [e]))
      ·rw [show decide (x=y)=false by simpa using e]
       refine kat_no ?_
       rw [if_neg (fun z=>e (Sum.inr.inj z))] at q'
       cases hf:(b&&i==0) with
       | true=>exact oneLt_str q'
       | false=>exact kat_one _ _ (PySem.P.lt_str (show PySem.W.BoolBack Q (.bool (decide (x.cps.toList<y.cps.toList))) s from q'))
structure L1 (h:Heap) (ks:List Value) (keys:List (List Key)):Prop where
 at_:∀(i:Nat) (ns:List Key),keys[i]?=some ns->∃a o its n,ks[i]?=some (.ref a)/\h.get? a=some o/\o.cls=.type "tuple"/\o.data=.seq its n/\Vals (ns.map kOf) its.toList
 len:ks.length=keys.length
 same:∀x∈keys,∀y∈keys,Bo x y=true
 ne:∀x∈keys,x≠[]
noncomputable def UO:Key->String
 | .inl _ => "int"
 | .inr _ => "str"
theorem firsts{h:Heap}:∀(ks:List Value) (keys:List (List Key)) (T:String),ks.length=keys.length->(∀(i:Nat) (ns:List Key),keys[i]?=some ns->∃a o its n,ks[i]?=some (.ref a)/\h.get? a=some o/\o.cls=.type "tuple"/\o.data=.seq its n/\Vals (ns.map kOf) its.toList) ->
  (∀x∈keys,∃k r,x=k::r/\UO k=T)->∃fs:List Value,KatTups h ks fs/\fs.length=keys.length/\∀v∈fs,typeOf v=pure (.type T)
 | [],[],T,_,_,_=>⟨[],trivial,rfl,fun v hv=>by cases hv⟩
 | [],_::_,T,hl,_,_=>by cases hl
 | _::_,[],T,hl,_,_=>by cases hl
 | k::ks,x::keys,T,hl,h1,h2=>by
  obtain⟨fs,g1,g2,g3⟩:=firsts ks keys T (by simpa using hl) (fun i ns e=>by
   obtain⟨a,o,its,n,e1,r⟩:=h1 (i+1) ns (by simpa using e)
   exact⟨a,o,its,n,by simpa using e1,r⟩) fun y hy=>h2 y (List.mem_cons_of_mem _ hy)
  obtain⟨a,o,its,n,e1,e2,e3,e4,e5⟩:=h1 0 x rfl
  have e1:k=.ref a:=by simpa using e1
  subst e1
  obtain⟨k,r,rfl,hk⟩:=h2 x List.mem_cons_self
  rw [List.map_cons] at e5
  cases hits:its.toList with
  | nil=>rw [hits] at e5; cases e5
  | cons f tl =>
   rw [hits] at e5
   cases e5 with
   | cons r1 r2 =>
    refine⟨f::fs,KatTups.cons e2 e3 e4 (by rw [← Array.getElem?_toList,hits]; rfl) g1,by rw [List.length_cons,List.length_cons,g2],fun v hv=>?_⟩
    rcases List.mem_cons.mp hv with rfl | hv
    ·cases k with
     | inl i=>obtain⟨t,rfl⟩:=r1; subst hk; rfl
     | inr i=>obtain⟨t,rfl⟩:=r1; subst hk; rfl
    ·exact g3 v hv
theorem L9{ks:List Value}{keys:List (List Key)}(K:L1 s.heap ks keys)(h2:2<=ks.length){G:Array Nat->Shared->Prop}(h:∀p,p.Perm (List.toArray (List.range ks.length))->So.Srt P7 (fun i=>keys.getD i []) p ks.length->G p s) :
  wpAny (model prog w) A (keyKind' ks.toArray) (fun κ s'=>(kas_sort ks.length).kasWp (kas_ask prog w A κ ks) G s') (fun _ _=>False) s:=by
 obtain⟨x0,xr,hx⟩:∃x0 xr,keys=x0::xr:=by
  cases e:keys with
  | nil=>have:=K.len; rw [e] at this; simp only [List.length_nil] at this; omega
  | cons x r=>exact⟨x,r,rfl⟩
 have m0:x0∈keys:=by rw [hx]; exact List.mem_cons_self
 obtain⟨k0,r0,e0⟩:∃k r,x0=k::r:=by
  cases e:x0 with
  | nil=>exact absurd e (K.ne x0 m0)
  | cons k r=>exact⟨k,r,rfl⟩
 have hty:∀x∈keys,∃k r,x=k::r/\UO k=UO k0:=fun x hm=>by
  cases e:x with
  | nil=>exact absurd e (K.ne x hm)
  | cons k r =>
   refine⟨k,r,rfl,?_⟩
   have hsm:=K.same x hm x0 m0
   rw [e,e0] at hsm
   have hsm:(HE k k0&&Bo r r0)=true:=hsm
   rw [Bool.and_eq_true] at hsm
   cases k with
   | inl i=>cases k0 with
    | inl j=>rfl
    | inr j=>cases hsm.1
   | inr i=>cases k0 with
    | inl j=>cases hsm.1
    | inr j=>rfl
 obtain⟨fs,g1,g2,g3⟩:=firsts ks keys (UO k0) K.len K.at_ hty
 refine kat_kind g1 (by rw [g2,← K.len]; omega) (fun v hv=>by rw [g3 v hv]; exact Looks.now) (by simp) ?_
 refine So.sort_ok (O:=P7) (key:=fun i=>keys.getD i []) (by omega) (fun i j C hi hj hC=>?_) h
 have hi':i<keys.length:=by rw [← K.len]; exact hi
 have hj':j<keys.length:=by rw [← K.len]; exact hj
 obtain⟨a,o,its,n,e1,e2,e3,e4,e5⟩:=K.at_ i keys[i] (List.getElem?_eq_getElem hi')
 obtain⟨a',o',its',n',e1',e2',e3',e4',e5'⟩:=K.at_ j keys[j] (List.getElem?_eq_getElem hj')
 unfold kas_ask
 rw [show ks.getD i Value.none=.ref a by rw [List.getD_eq_getElem?_getD,e1]; rfl,show ks.getD j Value.none=.ref a' by rw [List.getD_eq_getElem?_getD,e1']; rfl]
 have hsm:=K.same _ (List.getElem_mem hi') _ (List.getElem_mem hj')
 refine kat_lt e2 e4 e2' e4' (OQ keys[i] keys[j] _ _ 0 e5 e5' hsm ?_ ?_)
 ·have l1:=e5.length
  have l2:=e5'.length
  have l3:(keys[i].map kOf).length=keys[i].length:=List.length_map ..
  have l4:(keys[j].map kOf).length=keys[j].length:=List.length_map ..
  have l5:its.toList.length=its.size:=Array.length_toList
  have l6:its'.toList.length=its'.size:=Array.length_toList
  omega
 ·rw [II _ _ hsm]
  have g1:keys.getD i []=keys[i]:=by rw [List.getD_eq_getElem?_getD,List.getElem?_eq_getElem hi']; rfl
  have g2:keys.getD j []=keys[j]:=by rw [List.getD_eq_getElem?_getD,List.getElem?_eq_getElem hj']; rfl
  have hC':C (BM (keys.getD i []) (keys.getD j [])) s:=hC
  rw [g1,g2] at hC'
  exact hC'
theorem EG{v:Value}{kw:List (Str×Value)}{Q:Value->Shared->Prop}(ha1:argsOk "sorted" ⟨[v],kw⟩)(ha2:∀x,argsOk "list.sort" ⟨[.ref x],kw⟩)
  (hc:wpAny (model prog w) A.in1 (collect v) (fun vs s1=>vs.length<=sizeLine/\wpAny (model prog w) A.in1.in1 (Builtin.«list.sort» ⟨[.ref s1.heap.objs.size],kw⟩) (fun fin s'=>fin=.done (.ret .none)/\Q (.ref s1.heap.objs.size) s') E { s1 with heap:=s1.heap.push (seqObj "list" vs.toArray 0) }) E s) :
  wpAny (model prog w) A (call (.builtin "sorted") [v] kw) Q E s:=by
 refine call_function_entry_kw kind_sorted plain_sorted entry_sorted ha1 ?_
 unfold Builtin.«sorted»
 refine wpAny_bind (m:=checkCount "sorted" 1 1 _) (wpAny_pure ?_)
 refine wpAny_bind (wpAny_mono hc (fun vs s1 h=>?_) fun _ _ x=>x)
 refine wpAny_bind (wpAny_newList ?_ h.1)
 have hoL:(s1.heap.push (seqObj "list" vs.toArray 0)).get? s1.heap.objs.size=some (seqObj "list" vs.toArray 0):=Heap.get?_push_size _ rfl
 refine wpAny_bind (wpAny_holding (wpAny_call_entry_kw PyProof.Rows.slot_list_sort ⟨_,hoL,rfl⟩ PyProof.Rows.entry_list_sort (wpAny_mono h.2 (fun fin s' hf=>?_) fun _ _ x=>x) (ha2 _)))
 exact⟨_,hf.1,wpAny_pure ⟨_,rfl,hf.2⟩⟩
noncomputable def E1(h:Heap)(D:Addr)(vs:List Value):Heap:=((h.update D (Obj.mapSeq fun _=>(#[]:Array Value))).push (seqObj "tuple" vs.toArray 0)).push (seqObj "list" #[] 0)
theorem HC{h:Heap}{D:Addr}{vs:List Value}{b:Addr}{o:Obj}(hb:b≠D)(e:h.get? b=some o):(E1 h D vs).get? b=some o :=
 Heap.get?_push_of_some _ (Heap.get?_push_of_some _ ((Heap.get?_update_other _ _ (Ne.symm hb)).trans e))
theorem Nf{h:Heap}{D:Addr}{vs:List Value}{n:Nat}(ho:h.get? D=some (seqObj "list" vs.toArray n)):∃e1,(E1 h D vs).get? D=some (seqObj "list" #[] e1)/\(h.update D (Obj.mapSeq fun _=>(#[]:Array Value))).get? D=some (seqObj "list" #[] e1):=by
 obtain⟨e1,ho1⟩:∃e1,(h.update D (Obj.mapSeq fun _=>(#[]:Array Value))).get? D=some (seqObj "list" #[] e1):=⟨_,get?_update_seq ho fun _=>#[]⟩
 exact⟨e1,Heap.get?_push_of_some _ (Heap.get?_push_of_some _ ho1),ho1⟩
theorem JW{D:Addr}{vs:List Value}{n:Nat}{P:PySem.Fin->Shared->Prop}{G:Array Nat->Prop}(ho:s.heap.get? D=some (seqObj "list" vs.toArray n))(h64:vs.length<64)
  (hk:2<=vs.length->wpAny (model prog w) A (keyKind' vs.toArray) (fun κ s'=>(kas_sort vs.length).kasWp (kas_ask prog w A κ vs) (fun p s''=>s''={ s with heap:=E1 s.heap D vs }/\G p) s') (fun _ _=>False) { s with heap:=E1 s.heap D vs })
  (h1:vs.length<2->G (List.toArray (List.range vs.length))) (hfin:∀(p:Array Nat) (h':Heap) (c:Nat),p.size=vs.length->G p->(∀b o,b≠D->s.heap.get? b=some o->h'.get? b=some o)->h'.get? D=some (seqObj "list" (List.toArray (p.toList.map fun i=>vs.getD i Value.none)) c)->P (.done (.ret .none)) { s with heap:=h' }) :
  wpAny (model prog w) A (Builtin.«list.sort» ⟨[.ref D],[]⟩) P E s:=by
 obtain⟨e1,ho6,ho1⟩:=Nf ho
 have fin:∀(p:Array Nat),p.size=vs.length->G p->P (.done (.ret .none)) { s with heap:=(E1 s.heap D vs).update D (Obj.mapSeq fun _=>List.toArray (p.toList.map fun i=>vs.getD i Value.none)) }:=fun p hp hg=>by
  obtain⟨c2,hc2⟩:∃c2,((E1 s.heap D vs).update D (Obj.mapSeq fun _=>List.toArray (p.toList.map fun i=>vs.getD i Value.none))).get? D=some (seqObj "list" (List.toArray (p.toList.map fun i=>vs.getD i Value.none)) c2):=⟨_,get?_update_seq ho6 fun _=>List.toArray (p.toList.map fun i=>vs.getD i Value.none)⟩
  exact hfin p _ c2 hp hg (fun b o hb e=>(Heap.get?_update_other _ _ (Ne.symm hb)).trans (HC hb e)) hc2
 rw [list_sort_plain]
 refine wpAny_bind (listItems_at ho rfl ?_)
 refine wpAny_bind (listUpdate_at ho rfl ?_ (by rw [List.size_toArray,sizeLine_eq]; omega) (Nat.zero_le _))
 refine wpAny_bind (seqEpoch_at ho1 rfl ?_)
 refine wpAny_bind (wpAny_newTuple ?_ (by show vs.length<=_; rw [sizeLine_eq]; omega))
 refine wpAny_bind (wpAny_newList ?_ (Nat.zero_le _))
 refine wpAny_holding ?_
 show wpAny (model prog w) A _ P E { s with heap:=E1 s.heap D vs }
 dsimp only
 by_cases h2:vs.length<2
 ·have h2':vs.toArray.size<2:=by rw [List.size_toArray]; exact h2
  rw [if_pos h2',if_pos h2']
  refine wpAny_bind (wpAny_pure ?_)
  rw [StateT.run_pure]
  refine wpAny_bind (wpAny_pure ?_)
  dsimp only
  refine wpAny_bind (seqEpoch_at ho6 rfl ?_)
  have hsz:(List.toArray (List.range vs.length)).size=vs.length:=by simp
  have hout:(arrOf (SortSt.mk' general' (vs.toArray.zip vs.toArray) #[] 7 none)).map (·.2)=List.toArray ((List.toArray (List.range vs.length)).toList.map fun i=>vs.getD i Value.none):=by
   refine kat_snds rfl ?_
   have e:=kas_range (vs.toArray.zip vs.toArray)
   rw [show (vs.toArray.zip vs.toArray).size=vs.length by simp] at e
   exact e.symm
  rw [hout]
  refine wpAny_bind (listUpdate_at ho6 rfl ?_ (Nat.zero_le _) (by rw [List.size_toArray,List.length_map,Array.length_toList,hsz,sizeLine_eq]; omega))
  simp only [bne_self_eq_false,Bool.false_eq_true,if_false]
  exact wpAny_pure (fin _ hsz (h1 h2))
 ·have h2':¬vs.toArray.size<2:=by rw [List.size_toArray]; exact h2
  rw [if_neg h2',if_neg h2']
  refine wpAny_bind (wpAny_mono (hk (by omega)) (fun κ s0 hk=>?_) fun _ _ x=>x.elim)
  refine wpAny_bind (wpAny_mono (kat_run (Q:=fun st' s'=>∃p:Array Nat,p.size=vs.length/\arrOf st'=p.map (kas_item (vs.toArray.zip vs.toArray))/\failedOf st'=none/\s'={ s with heap:=E1 s.heap D vs }/\G p)
   rfl (by omega) h64 (fun p' st' s' a1 a2 a3 a4=>⟨p',a1,a2,a3,a4⟩) hk) ?_ fun _ _ e=>e)
  rintro ⟨⟨⟩,st'⟩ s' ⟨p,hp,har,hf,rfl,hg⟩
  dsimp only
  have hout:=kat_snds rfl har
  have hsz:(List.toArray (p.toList.map fun i=>vs.getD i Value.none)).size=vs.length:=by rw [List.size_toArray,List.length_map,Array.length_toList,hp]
  rw [hout]
  refine wpAny_bind (seqEpoch_at ho6 rfl ?_)
  refine wpAny_bind (listUpdate_at ho6 rfl ?_ (Nat.zero_le _) (Nat.le_trans (Nat.le_of_eq hsz) (by rw [sizeLine_eq]; omega)))
  rw [hf]
  simp only [bne_self_eq_false,Bool.false_eq_true,if_false]
  exact wpAny_pure (fin p hp hg)
end
section
variable {X:Cx}{pins:List (Addr×Obj)}{σ:L2.St}{H:Hp}{s:Shared}{h':Heap}
structure VT (X:Cx) (pins:List (Addr×Obj)) (D:Addr):Prop where
 new:X.s₀.heap.objs.size<=D
 loc:D≠X.env.locals
 cell:∀x c,X.env.cells.lookup x=some c->c≠D
 pin:∀p∈X.pn++pins,p.1≠D
 fs:D∉X.fs
structure KeysAt (K:Frag) (H:Hp) (vs:List V) (keys:List (List Key)):Prop where
 len:vs.length=keys.length
 at_:∀(i:Nat) (ns:List Key),keys[i]?=some ns->∃a,vs[i]?=some (.ref a)/\SqT K H a (ns.map kOf)
 same:∀x∈keys,∀y∈keys,Bo x y=true
 ne:∀x∈keys,x≠[]
noncomputable def J3(keys:List (List Key))(ix:List Nat):Prop:=ix.Perm (List.range keys.length)/\∀i j,i<=j->j<keys.length->BM (keys.getD (ix.getD j 0) []) (keys.getD (ix.getD i 0) [])=false
theorem KeysAt.tups{vs:List V}{us:List Value}{keys:List (List Key)}(I:Inv X pins σ H s)(r:Vals vs us)(k:KeysAt X.K H vs keys){h':Heap}(hk:∀b o,s.heap.get? b=some o->h'.get? b=some o):L1 h' us keys:=by
 refine⟨fun i ns e=>?_,r.length.symm.trans k.len,k.same,k.ne⟩
 obtain⟨a,e1,h1⟩:=k.at_ i ns e
 obtain⟨u,e2,r2⟩:=r.get e1
 cases r2
 obtain⟨its,r3,⟨o,ho,hc,n,hd⟩,_⟩:=I.tuple h1
 exact⟨a,o,its.toArray,n,e2,hk a o ho,hc,hd,by rw [List.toList_toArray]; exact r3⟩
theorem Ej:∀{vs:List V} {us:List Value},Vals vs us->∀i:Nat,RelV (vs.getD i .non) (us.getD i Value.none)
 | _,_,.nil,i=>by simp [RelV]
 | _,_,.cons r t,0=>by simpa using r
 | _,_,.cons r t,i+1=>by simpa using Ej t i
theorem Fg{f:Nat->V}{g:Nat->Value}(h:∀i,RelV (f i) (g i)):∀ix:List Nat,Vals (ix.map f) (ix.map g)
 | []=>.nil
 | i::ix=>.cons (h i) (Fg h ix)
theorem getD_list(p:Array Nat)(i:Nat):p.getD i 0=p.toList.getD i 0:=by simp
theorem Rx{keys:List (List Key)}{n:Nat}{p:Array Nat}(hn:keys.length=n)(h1:p.Perm (List.toArray (List.range n)))(h2:So.Srt P7 (fun i=>keys.getD i []) p n):J3 keys p.toList:=by
 subst hn
 refine⟨Array.perm_iff_toList_perm.mp h1,fun i j hij hj=>?_⟩
 have h:=h2 i j hij hj
 unfold So.KN at h
 rw [getD_list,getD_list] at h
 exact h
theorem HB{A':Around}{E':Value->Shared->Prop}{vs:List V}{us:List Value}{keys:List (List Key)}{Q:VK}(I:Inv X pins σ H s)(r:Vals vs us)(h64:vs.length<64)(k:KeysAt X.K H vs keys)
  (q:∀(ix:List Nat) (l:Addr),J3 keys ix->H l=none->Q (.ref l) (Ax H l (.lst (ix.map fun i=>vs.getD i .non)))) :
  wpAny (model X.prog X.w) A' (Builtin.«list.sort» ⟨[.ref s.heap.objs.size],[]⟩) (fun fin s'=>fin=.done (.ret .none)/\EP X pins σ Q (.ref s.heap.objs.size) s') E' { s with heap:=s.heap.push (seqObj "list" us.toArray 0) }:=by
 have hl:=r.length
 have hkl:keys.length=us.length:=k.len.symm.trans hl
 refine JW (G:=fun p=>p.Perm (List.toArray (List.range us.length))/\So.Srt P7 (fun i=>keys.getD i []) p us.length) (n:=0) (Heap.get?_push_size _ rfl) (by omega) (fun h2=>?_) (fun h1=>⟨Array.Perm.refl _,fun i j hij hj=>?_⟩) (fun p h' c hp hg hold hD=>⟨rfl,?_⟩)
 ·refine L9 (keys:=keys) (k.tups I r fun b o e=>?_) h2 (fun p a b=>⟨rfl,a,b⟩)
  exact HC (Nat.ne_of_lt (Heap.lt_size e)) (Heap.get?_push_of_some _ e)
 ·have:i=j:=by omega
  subst this
  exact KeyOrd.kle_refl _
 ·have hf:H s.heap.objs.size=none:=I.fresh
  have hix:(p.toList.map fun i=>vs.getD i .non).length=us.length:=by rw [List.length_map,Array.length_toList,hp]
  refine⟨.ref s.heap.objs.size,Ax H s.heap.objs.size (.lst (p.toList.map fun i=>vs.getD i .non)),I.laid (t':=s.toks) (fun b o e=>hold b o (Nat.ne_of_lt (Heap.lt_size e)) (Heap.get?_push_of_some _ e)) (Nat.le_refl _) ⟨by rw [hix,← hl,sizeLine_eq]; omega,_,c,Fg (Ej r) p.toList,hD⟩,rfl,q _ _ (Rx hkl hg.1 hg.2) hf⟩
theorem Jp{prog:Program}{w:World}{A:Around}{E:Value->Shared->Prop}{s:Shared}{l:Addr}{vs:List Value}{Q:List Value->Shared->Prop}(hl:IsTup s.heap l vs.toArray)
  (h:Q vs { s with heap:=(s.heap.push (seqObj "list" #[] 0)).update s.heap.objs.size (Obj.mapSeq (·++vs.toArray)) }) (hsz:vs.length<=sizeLine) :
  wpAny (model prog w) A (collect (.ref l)) Q E s:=by
 obtain⟨o,ho,hc,n,hd⟩:=id hl
 unfold collect
 refine wpAny_bind (wpAny_runValue (codeAny_builtin entry_proto_collect' ?_))
 show wpAny _ _ (do again (.builtin "list.__iadd__" ⟨[← newList [],.ref l],[]⟩)) _ _ s
 refine wpAny_bind (wpAny_newList (wpAny_pure ⟨Code.quiet_builtin _ (by decide +kernel),codeAny_builtin entry_list_iadd' ?_⟩))
 show wpAny _ _ (Builtin.List.listExtendWith (.ref s.heap.objs.size) (.ref l) (.ref s.heap.objs.size)) _ _ { s with heap:=s.heap.push (seqObj "list" #[] 0) }
 unfold Builtin.List.listExtendWith
 have ho':(s.heap.push (seqObj "list" #[] 0)).get? l=some o:=Heap.get?_push_of_some _ ho
 refine wpAny_bind (wpAny_typeOf (T := "tuple") ⟨o,ho',hc⟩ ?_)
 have ht:(Value.type "tuple"==Value.type "tuple")=true:=by rfl
 rw [if_pos (by rw [ht]; simp)]
 refine wpAny_bind (listItems_at ho' hd ?_)
 refine wpAny_bind (listItems_at (xs:=#[]) (n:=0) (Heap.get?_push_size _ rfl) rfl ?_)
 rw [if_neg (by simp)]
 refine wpAny_bind (listUpdate_at (xs:=#[]) (n:=0) (Heap.get?_push_size _ rfl) rfl ?_ (Nat.zero_le _) (by show (#[]++vs.toArray).size<=sizeLine+1; simp only [Array.size_append,List.size_toArray,List.length_nil]; omega))
 refine wpAny_pure ?_
 show wpAny (model prog w) A (do
   let o ← load s.heap.objs.size
   match o.data with
   | .seq xs _=>pure xs.toList
   | _=>unsupported "internal:collect") Q E { s with heap:=(s.heap.push (seqObj "list" #[] 0)).update s.heap.objs.size (Obj.mapSeq (·++vs.toArray)) }
 refine wpAny_bind (wpAny_load (get?_update_seq (Heap.get?_push_size _ rfl) _) ?_)
 show wpAny _ _ (pure ((#[]:Array Value)++vs.toArray).toList) Q E _
 rw [show ((#[]:Array Value)++vs.toArray).toList=vs by simp]
 exact wpAny_pure h
theorem Jr{h:Heap}{g:Array Value->Array Value}{b:Addr}{o:Obj}(e:h.get? b=some o):((h.push (seqObj "list" #[] 0)).update h.objs.size (Obj.mapSeq g)).get? b=some o :=
 (Heap.get?_update_other _ _ (Ne.symm (Nat.ne_of_lt (Heap.lt_size e)))).trans (Heap.get?_push_of_some _ e)
theorem O8{κ:Bool}{A':Around}{E':Value->Shared->Prop}{p:Addr}{vs:List V}{Q:List Value->Shared->Prop}(I:Inv X pins σ H s)(h:U3 κ X.K H p vs)(q:∀us s1,Vals vs us->vs.length<=sizeLine->Inv X pins σ H s1->Q us s1) :
  wpAny (model X.prog X.w) A' (collect (.ref p)) Q E' s:=by
 cases κ with
 | true =>
  obtain⟨its,r,pl,hz⟩:=I.list h
  exact collect_list pl.isList (q its _ r hz (I.kept (t':=s.toks) fun b o e=>Jr e)) (by rw [← r.length]; exact hz)
 | false =>
  obtain⟨its,r,pl,hz⟩:=I.tuple h
  exact Jp pl (q its _ r hz (I.kept (t':=s.toks) fun b o e=>Jr e)) (by rw [← r.length]; exact hz)
noncomputable def Ny(K:Frag):List V->Hp->VK->Prop:=fun xs H Q=>∃(κ:Bool) (p:Addr) (vs:List V) (keys:List (List Key)),xs=[.ref p]/\U3 κ K H p vs/\vs.length<64/\KeysAt K H vs keys /\
 ∀(ix:List Nat) (l:Addr),J3 keys ix->H l=none->Q (.ref l) (Ax H l (.lst (ix.map fun i=>vs.getD i .non)))
theorem K1:B6 X (.builtin "sorted") (Ny X.K):=by
 intro pins s σ H xs us Q I r h
 obtain⟨κ,p,vs,keys,rfl,hq,h64,hk,q⟩:=h
 obtain⟨u,rfl,rx⟩:=vals1 r
 cases rx
 refine EG (kw:=[]) (args_sorted1 _) (fun x=>args_list_sort _) (O8 I hq fun us s1 r1 hz I1=>⟨by rw [← r1.length]; exact hz,?_⟩)
 exact HB I1 r1 h64 hk q
end
end L2
namespace L2
open PySem PySem.Spec PyProof.Rows
noncomputable def Ey(H:Hp)(L:List Addr)(f:Addr->Obj):Hp:=fun b=>if b∈L then (H b).map (HO.frz (f b)) else H b
theorem ES{H:Hp}{L:List Addr}{f:Addr->Obj}{b:Addr}(h:b∉L):Ey H L f b=H b:=by unfold Ey; rw [if_neg h]
theorem Ln{H:Hp}{L:List Addr}{f:Addr->Obj}{b:Addr}{o:HO}(h:b∈L)(e:H b=some o):Ey H L f b=some (.frz (f b) o):=by unfold Ey; rw [if_pos h,e]; rfl
section
variable {X:Cx}{pins:List (Addr×Obj)}{σ:L2.St}{H:Hp}{s:Shared}
theorem Inv.frz{L:List Addr}(I:Inv X pins σ H s)(hL:∀b∈L,∃kvs,H b=some (.dK kvs)):∃f,Inv X pins σ (Ey H L f) s:=by
 have keep:∀(f:Addr->Obj) b o,H b=some o->(∀kvs,o≠.dK kvs)->Ey H L f b=some o:=fun f b o e n=>by
  rw [ES (fun hm=>by obtain⟨kvs,e2⟩:=hL b hm; rw [e] at e2; cases e2; exact n _ rfl)]
  exact e
 refine⟨fun b=>(s.heap.get? b).getD { cls:=.none,data:=.fields #[] },?_⟩
 refine I.step (g':=s.gens) (d':=s.drawn) (t':=s.toks) (h':=s.heap) (ch:=[]) (fun _ z=>nomatch z) (fun _ _ _ _ _ e _=>e) (fun b o _ _ _ e _=>⟨o.slots,e⟩) (fun b o _ e n=>?_) (fun b o _ e=>⟨o,e⟩) (fun b xs e=>keep _ b _ e fun _ z=>by cases z) (fun b o u e=>keep _ b _ e fun _ z=>by cases z) (fun b ps e=>⟨#[],by rw [keep _ b _ e fun _ z=>by cases z]; simp⟩) (fun _ h=>h) (fun b u e=>?_) I.bare
 ·unfold Ey
  split
  ·rw [n]; rfl
  ·exact n
 ·by_cases hb:b∈L
  ·obtain⟨kvs,e2⟩:=hL b hb
   rw [Ln hb e2] at e
   cases e
   obtain⟨z,y,vs,r,ob,es,ep,e3,c⟩:=(show ObjOk X.prog X.w H s.heap b (.dK kvs) from I.hok b _ e2)
   exact⟨by rw [e3]; rfl,z,y,vs,r,ob,es,ep,e3,c⟩
  ·rw [ES hb] at e
   exact(I.hok b u e).stay (fun _ _ _ q=>q) (fun c q=>keep _ c _ q fun _ z=>by cases z) fun c xs q=>keep _ c _ q fun _ z=>by cases z
noncomputable def Uh(t:TE):TE:=fun σ H Q=>t σ H fun v H1=>∃L:List Addr,(∀b∈L,∃kvs,H1 b=some (.dK kvs))/\∀f:Addr->Obj,Q v (Ey H1 L f)
theorem Rv{e:Expr}{t:TE}(h:PE X e t):PE X e (Uh t):=by
 intro pins s σ H Q I hq
 refine A_ (h pins s σ H _ I hq) fun u s1 ⟨v,H1,I1,r,L,hL,q⟩=>?_
 obtain⟨f,I2⟩:=I1.frz hL
 exact⟨v,_,I2,r,q f⟩
end
end L2
namespace Nt
open PySem PySem.Spec PyProof.Rows L2 Dp
noncomputable def D_(ts:List A7)(p:Str):List (Str×Int):=ts.flatMap fun t=>(if t.a=p then [(t.b,t.len)] else [])++(if t.b=p then [(t.a,t.len)] else [])
noncomputable def QF(ts:List A7)(p:Str):D:=.fdi ((D_ ts p).map fun x=>.inr x.1) ((D_ ts p).map fun x=>.int x.2)
noncomputable def Ek(N:Net):D:=.dic (N.ps.map .inr) (N.ps.map (QF N.ts))
noncomputable def Im:W2:=fun ss n P=>∃N:Net,ss=[.sh (Cb N)]/\N.Ok/\N.ps.length<=1000/\N.ts.length<=1000/\P (Ek N) n
noncomputable def kv(x:Str×Int):Key×V:=(.inr x.1,.int x.2)
structure Stp (H:Hp) (d:Addr) (as:List (Str×Addr)) (tb:Str->List (Key×V)) (H':Hp):Prop where
 old:∀b o,H b=some o->H' b=some o
 new:H d=none
 top:H' d=some (.dK (as.map fun x=>(.inr x.1,.ref x.2)))
 inn:∀x∈as,H x.2=none/\x.2≠d/\H' x.2=some (.dK (tb x.1))
 ads:(as.map (·.2)).Nodup
 nms:(as.map (·.1)).Nodup
theorem FO{as:List (Str×Addr)}(hn:(as.map (·.1)).Nodup){p:Str}{a:Addr}(h:(p,a)∈as):CV (as.map fun x=>((.inr x.1:Key),V.ref x.2)) (.inr p)=some (.ref a):=by
 induction as with
 | nil=>cases h
 | cons x r ih =>
  rw [List.map_cons,List.nodup_cons] at hn
  rcases List.mem_cons.mp h with e | h
  ·rw [← e]
   exact C8 rfl
  ·have hne:(Sum.inr x.1:Key)≠.inr p:=fun e=>hn.1 (by rw [Sum.inr.inj e]; exact List.mem_map.mpr ⟨_,h,rfl⟩)
   rw [List.map_cons]
   exact(C9 hne).trans (ih hn.2 h)
theorem KW{as:List (Str×Addr)}{p:Str}{v:V}(h:p∉as.map (·.1)):putK (as.map fun x=>((.inr x.1:Key),V.ref x.2)) (.inr p) v=(as.map fun x=>((.inr x.1:Key),V.ref x.2))++[(.inr p,v)]:=by
 unfold putK
 rw [if_neg]
 rw [List.any_eq_true]
 rintro ⟨y,hy,e⟩
 obtain⟨x,hx,rfl⟩:=List.mem_map.mp hy
 exact h (List.mem_map.mpr ⟨x,hx,Sum.inr.inj (of_decide_eq_true e)⟩)
theorem LU{xs:List (Str×Int)}{p:Str}{l:Int}(h:p∉xs.map (·.1)):putK (xs.map kv) (.inr p) (.int l)=(xs++[(p,l)]).map kv:=by
 unfold putK
 rw [if_neg,List.map_append]
 ·rfl
 ·rw [List.any_eq_true]
  rintro ⟨y,hy,e⟩
  obtain⟨x,hx,rfl⟩:=List.mem_map.mp hy
  exact h (List.mem_map.mpr ⟨x,hx,Sum.inr.inj (of_decide_eq_true e)⟩)
theorem Stp.more{H H':Hp}{d q:Addr}{as:List (Str×Addr)}{tb:Str->List (Key×V)}{p:Str}(s:Stp H d as tb H')(hq:H' q=none)(hp:p∉as.map (·.1))(ht:tb p=[]) :
  Stp H d (as++[(p,q)]) tb (Ax (Ax H' q (.dK [])) d (.dK (putK (as.map fun x=>((.inr x.1:Key),V.ref x.2)) (.inr p) (.ref q)))):=by
 have nq:q≠d:=fun e=>by rw [e,s.top] at hq; cases hq
 have hHq:H q=none:=by
  cases c:H q with
  | none=>rfl
  | some o=>rw [s.old q o c] at hq; cases hq
 refine⟨fun b o e=>?_,s.new,?_,fun x hx=>?_,?_,?_⟩
 ·have n1:b≠d:=fun z=>by rw [z,s.new] at e; cases e
  have n2:b≠q:=fun z=>by rw [z,hHq] at e; cases e
  rw [AI n1,AI n2]
  exact s.old b o e
 ·rw [AM,KW hp,List.map_append]; rfl
 ·rcases List.mem_append.mp hx with hx | hx
  ·obtain⟨h1,h2,h3⟩:=s.inn x hx
   have n2:x.2≠q:=fun z=>by rw [z,hq] at h3; cases h3
   exact⟨h1,h2,by rw [AI h2,AI n2]; exact h3⟩
  ·rw [List.mem_singleton.mp hx]
   exact⟨hHq,nq,by rw [AI nq,AM,ht]⟩
 ·rw [List.map_append,List.nodup_append]
  refine⟨s.ads,List.nodup_cons.mpr ⟨(fun h=>by cases h),List.nodup_nil⟩,fun a ha b hb e=>?_⟩
  obtain⟨x,hx,rfl⟩:=List.mem_map.mp ha
  have hb:b=q:=List.mem_singleton.mp hb
  obtain⟨h1,h2,h3⟩:=s.inn x hx
  rw [e,hb,hq] at h3
  cases h3
 ·rw [List.map_append,List.nodup_append]
  refine⟨s.nms,List.nodup_cons.mpr ⟨(fun h=>by cases h),List.nodup_nil⟩,fun a ha b hb e=>?_⟩
  have hb:b=p:=List.mem_singleton.mp hb
  exact hp (by rw [← hb,← e]; exact ha)
theorem Mb{as:List (Str×Addr)}(hn:(as.map (·.1)).Nodup){p:Str}{a b:Addr}(h1:(p,a)∈as)(h2:(p,b)∈as):a=b:=by
 have:=(FO hn h1).symm.trans (FO hn h2)
 exact V.ref.inj (Option.some.inj this)
theorem Ma{as:List (Str×Addr)}(hn:(as.map (·.2)).Nodup){p q:Str}{a:Addr}(h1:(p,a)∈as)(h2:(q,a)∈as):p=q:=by
 induction as with
 | nil=>cases h1
 | cons x r ih =>
  rw [List.map_cons,List.nodup_cons] at hn
  rcases List.mem_cons.mp h1 with e1 | g1
  ·rcases List.mem_cons.mp h2 with e2 | g2
   ·rw [← e1] at e2; exact(Prod.mk.inj e2).1.symm
   ·exact absurd (List.mem_map.mpr ⟨_,g2,by rw [← e1]⟩) hn.1
  ·rcases List.mem_cons.mp h2 with e2 | g2
   ·exact absurd (List.mem_map.mpr ⟨_,g1,by rw [← e2]⟩) hn.1
   ·exact ih hn.2 g1 g2
theorem Stp.put{H H':Hp}{d a:Addr}{as:List (Str×Addr)}{tb tb2:Str->List (Key×V)}{p:Str}{kvs:List (Key×V)}(s:Stp H d as tb H')(ha:(p,a)∈as)(h1:tb2 p=kvs)(h2:∀q,q≠p->tb2 q=tb q) :
  Stp H d as tb2 (Ax H' a (.dK kvs)):=by
 obtain⟨i1,i2,i3⟩:=s.inn _ ha
 refine⟨fun b o e=>?_,s.new,?_,fun x hx=>?_,s.ads,s.nms⟩
 ·have n1:b≠a:=fun z=>by rw [z] at e; rw [show H a=none from i1] at e; cases e
  rw [AI n1]
  exact s.old b o e
 ·rw [AI (Ne.symm i2)]
  exact s.top
 ·obtain⟨g1,g2,g3⟩:=s.inn x hx
  refine⟨g1,g2,?_⟩
  by_cases e:x.2=a
  ·have:x.1=p:=Ma s.ads (show (x.1,a)∈as by rw [← e]; exact hx) ha
   rw [e,AM,this,h1]
  ·have:x.1≠p:=fun z=>e (Mb s.nms (show (p,x.2)∈as by rw [← z]; exact hx) ha)
   rw [AI e,h2 _ this]
   exact g3
theorem JS(ts:List A7)(t:A7)(p:Str):D_ (ts++[t]) p=D_ ts p++((if t.a=p then [(t.b,t.len)] else [])++(if t.b=p then [(t.a,t.len)] else [])):=by
 unfold D_
 rw [List.flatMap_append,List.flatMap_cons,List.flatMap_nil,List.append_nil]
theorem Ld{ts:List A7}{p q:Str}(h:q∈(D_ ts p).map (·.1)):∃t∈ts,(t.a=p/\t.b=q)\/(t.b=p/\t.a=q):=by
 obtain⟨x,hx,rfl⟩:=List.mem_map.mp h
 obtain⟨t,ht,hx⟩:=List.mem_flatMap.mp hx
 refine⟨t,ht,?_⟩
 rcases List.mem_append.mp hx with hx | hx
 ·split at hx
  ·rename_i e; rw [List.mem_singleton.mp hx]; exact .inl ⟨e,rfl⟩
  ·cases hx
 ·split at hx
  ·rename_i e; rw [List.mem_singleton.mp hx]; exact .inr ⟨e,rfl⟩
  ·cases hx
theorem Le(ts:List A7)(p:Str):(D_ ts p).length<=2*ts.length:=by
 induction ts with
 | nil=>exact Nat.zero_le _
 | cons t r ih =>
  unfold D_ at ih ⊢
  rw [List.flatMap_cons,List.length_append,List.length_append,List.length_cons]
  have h1:(if t.a=p then [(t.b,t.len)] else []).length<=1:=by split; exact Nat.le_refl 1; exact Nat.zero_le _
  have h2:(if t.b=p then [(t.a,t.len)] else []).length<=1:=by split; exact Nat.le_refl 1; exact Nat.zero_le _
  omega
theorem Ov{ts:List A7}{t:A7}(hp:(ts++[t]).Pairwise Ce)(hlt:∀s∈ts++[t],cs s.a<cs s.b):t.b∉(D_ ts t.a).map (·.1)/\t.a∉(D_ ts t.b).map (·.1):=by
 rw [List.pairwise_append] at hp
 have key:∀s∈ts,¬((s.a=t.a/\s.b=t.b)\/(s.b=t.a/\s.a=t.b)):=fun s hs e=>by
  have h1:=hp.2.2 s hs t (List.mem_singleton.mpr rfl)
  have h2:=hlt s (List.mem_append_left _ hs)
  have h3:=hlt t (List.mem_append_right _ (List.mem_singleton.mpr rfl))
  rcases e with ⟨e1,e2⟩ | ⟨e1,e2⟩
  ·unfold Ce at h1
   rw [e1,e2] at h1
   rcases h1 with h | ⟨_,h⟩
   ·exact List.lt_irrefl _ h
   ·exact List.lt_irrefl _ h
  ·rw [e1,e2] at h2
   exact List.lt_irrefl _ (List.lt_trans h2 h3)
 refine⟨fun h=>?_,fun h=>?_⟩
 ·obtain⟨s,hs,e⟩:=Ld h
  exact key s hs e
 ·obtain⟨s,hs,e⟩:=Ld h
  exact key s hs (e.elim (fun z=>.inr ⟨z.2,z.1⟩) fun z=>.inl ⟨z.2,z.1⟩)
theorem Hw{xs:List Str}(h:rising xs):xs.Nodup:=h.imp fun {a b} hlt e=>by rw [e] at hlt; exact List.lt_irrefl _ hlt
theorem Kj{xs:List Str}(h:xs.Nodup){i:Nat}(hi:i<xs.length):xs[i]∉xs.take i:=by
 have e:xs=xs.take i++xs[i]::xs.drop (i+1):=by
  rw [← List.drop_eq_getElem_cons hi,List.take_append_drop]
 intro hm
 rw [e,List.nodup_append] at h
 exact h.2.2 _ hm _ List.mem_cons_self rfl
theorem Stp.at_{K:Frag}{M:Addr->Prop}{H H':Hp}{d:Addr}{as:List (Str×Addr)}{N:Net}(dom:∀a,M a->∃o,H a=some o)(s:Stp H d as (fun p=>(D_ N.ts p).map kv) H')(hp:as.map (·.1)=N.ps)(f:Addr->Obj):At K M (Ey H' (as.map (·.2)) f) (Ek N) (.ref d):=by
 have nd:∀b,H b=none->¬M b:=fun b e m=>by obtain⟨o,h⟩:=dom b m; rw [h] at e; cases e
 have zip1:∀as:List (Str×Addr),(as.map fun x=>((.inr x.1:Key),V.ref x.2))=((as.map (·.1)).map (.inr:Str->Key)).zip (as.map fun x=>V.ref x.2):=fun as=>by
  induction as with
  | nil=>rfl
  | cons x r ih=>rw [List.map_cons,ih]; rfl
 refine⟨d,as.map fun x=>.ref x.2,rfl,⟨nd d s.new,by rw [ES (fun hm=>by obtain⟨x,hx,e⟩:=List.mem_map.mp hm; exact(s.inn x hx).2.1 e),s.top,zip1,hp]⟩,by rw [List.length_map,List.length_map],?_⟩
 rw [← hp]
 have go:∀bs:List (Str×Addr),(∀x∈bs,x∈as)->Ats K M (Ey H' (as.map (·.2)) f) ((bs.map (·.1)).map (QF N.ts)) (bs.map fun x=>V.ref x.2):=fun bs=>by
  induction bs with
  | nil=>intro _; rfl
  | cons x r ih =>
   intro hx
   refine⟨.ref x.2,r.map fun x=>V.ref x.2,rfl,?_,ih fun y hy=>hx y (List.mem_cons_of_mem _ hy)⟩
   obtain⟨g1,g2,g3⟩:=s.inn x (hx x List.mem_cons_self)
   have zip2:∀xs:List (Str×Int),xs.map kv=(xs.map fun x=>(.inr x.1:Key)).zip (xs.map fun x=>V.int x.2):=fun xs=>by
    induction xs with
    | nil=>rfl
    | cons x r ih=>rw [List.map_cons,ih]; rfl
   refine⟨x.2,(D_ N.ts x.1).map fun x=>V.int x.2,rfl,⟨f x.2,nd _ g1,by rw [Ln (List.mem_map.mpr ⟨x,hx x List.mem_cons_self,rfl⟩) g3,zip2]⟩,by rw [List.length_map,List.length_map],?_⟩
   generalize D_ N.ts x.1=xs
   induction xs with
   | nil=>rfl
   | cons x r ih=>exact⟨.int x.2,_,rfl,rfl,ih⟩
 exact go as fun _ h=>h
end Nt
namespace L2
open PySem PySem.Spec PyProof.Rows PySem.W
section
variable {X:Cx}{pins:List (Addr×Obj)}{σ:L2.St}{H:Hp}{s:Shared}{h':Heap}
theorem OW{P:Program}{w:World}{k:Key}{u:Value}(h:(AR P w).is k u=true):RelV (kOf k) u:=by
 rcases Aw h with ⟨i,t,rfl,rfl⟩ | ⟨x,t,rfl,rfl⟩
 ·exact⟨t,rfl⟩
 ·exact⟨t,rfl⟩
theorem JM{α β:Type}{F:α->β->Prop}:∀{l₁:List α} {l₂:List β} {j:Nat} {a:α} {b:β},Paired F l₁ l₂->l₁[j]?=some a->l₂[j]?=some b->F a b
 | _,_,_,_,_,.nil,h,_=>by simp at h
 | _,_,0,_,_,.cons r t,h1,h2=>by
  have h1:=Option.some.inj (by simpa using h1)
  have h2:=Option.some.inj (by simpa using h2)
  subst h1 h2
  exact r
 | _,_,j+1,_,_,.cons r t,h1,h2=>JM (j:=j) t (by simpa using h1) (by simpa using h2)
end
end L2
namespace Dp
open PySem PySem.Spec PyProof.Rows L2
section
variable {X:Cx}{K:Frag}
end
noncomputable def A0:D->Option (List Key)
 | .tup xs=>GH xs
 | _=>none
noncomputable def FD(kf:D->Option (List Key))(xs:List D):Prop:=xs.Pairwise fun a b=>∀ka kb,kf a=some ka->kf b=some kb->BM kb ka=false
noncomputable def Keyed(kf:D->Option (List Key))(xs:List D):Prop:=(∀x∈xs,∃k,kf x=some k/\k≠[])/\∀x∈xs,∀y∈xs,∀ka kb,kf x=some ka->kf y=some kb->Bo ka kb=true
theorem range_getD(xs:List D):(List.range xs.length).map (fun i=>xs.getD i .non)=xs:=by
 apply List.ext_getElem
 ·simp
 ·intro i h1 h2
  simp [h2]
theorem P6{kf:D->Option (List Key)}{xs:List D}{keys:List (List Key)}{ix:List Nat}(hl:keys.length=xs.length)(hk:∀(i:Nat) (x:D),xs[i]?=some x->∃k,keys[i]?=some k/\kf x=some k)(h:J3 keys ix) :
  (ix.map fun i=>xs.getD i .non).Perm xs/\FD kf (ix.map fun i=>xs.getD i .non):=by
 obtain⟨hp,hs⟩:=h
 constructor
 ·have:=hp.map fun i=>xs.getD i D.non
  rw [hl,range_getD] at this
  exact this
 ·unfold FD
  rw [List.pairwise_iff_getElem]
  intro i j hi hj hij ka kb ea eb
  rw [List.getElem_map] at ea eb
  rw [List.length_map] at hi hj
  have il:ix.length=keys.length:=by rw [hp.length_eq,List.length_range]
  have g:∀i (h:i<ix.length) k,kf (xs.getD ix[i] .non)=some k->keys.getD (ix.getD i 0) []=k:=fun i h k e=>by
   have hm:ix[i]<keys.length:=List.mem_range.mp (hp.mem_iff.mp (List.getElem_mem h))
   have hx:ix[i]<xs.length:=by rw [← hl]; exact hm
   obtain⟨k',e1,e2⟩:=hk ix[i] xs[ix[i]] (List.getElem?_eq_getElem hx)
   have e3:xs.getD ix[i] .non=xs[ix[i]]:=by rw [List.getD_eq_getElem?_getD,List.getElem?_eq_getElem hx]; rfl
   rw [e3,e2] at e
   have e4:ix.getD i 0=ix[i]:=by rw [List.getD_eq_getElem?_getD,List.getElem?_eq_getElem h]; rfl
   rw [e4,List.getD_eq_getElem?_getD,e1]
   exact Option.some.inj e
  have:=hs i j (Nat.le_of_lt hij) (by rw [← il]; exact hj)
  rw [g i hi ka ea,g j hj kb eb] at this
  exact this
theorem Df{kf:D->Option (List Key)}:∀{xs:List D},(∀x∈xs,∃k,kf x=some k/\k≠[])->∃keys:List (List Key),keys.length=xs.length/\(∀(i:Nat) (x:D),xs[i]?=some x->∃k,keys[i]?=some k/\kf x=some k/\k≠[])
 | [],_=>⟨[],rfl,fun i x e=>by simp at e⟩
 | x::xs,h=>by
  obtain⟨k,e1,e2⟩:=h x List.mem_cons_self
  obtain⟨keys,l,g⟩:=Df (xs:=xs) fun y hy=>h y (List.mem_cons_of_mem _ hy)
  refine⟨k::keys,by rw [List.length_cons,List.length_cons,l],fun i y e=>?_⟩
  cases i with
  | zero =>
   have e:x=y:=by simpa using e
   subst e
   exact⟨k,rfl,e1,e2⟩
  | succ i =>
   obtain⟨k',a,b⟩:=g i y (by simpa using e)
   exact⟨k',by simpa using a,b⟩
section
variable {K:Frag}{M:Addr->Prop}{H:Hp}
theorem Ats.getD:∀{ds:List D} {vs:List V},Ats K M H ds vs->∀i:Nat,At K M H (ds.getD i .non) (vs.getD i .non)
 | [],vs,h,i=>by cases (show vs=[] from h); simp [At]
 | d::ds,vs,h,0=>by
  obtain⟨v,r,e,h1,h2⟩:=h
  subst e
  simpa using h1
 | d::ds,vs,h,i+1=>by
  obtain⟨v,r,e,h1,h2⟩:=h
  subst e
  simpa using Ats.getD h2 i
theorem Ats.pick{ds:List D}{vs:List V}(h:Ats K M H ds vs):∀ix:List Nat,Ats K M H (ix.map fun i=>ds.getD i .non) (ix.map fun i=>vs.getD i .non)
 | []=>rfl
 | i::ix=>⟨_,_,rfl,h.getD i,Ats.pick h ix⟩
theorem Eu{kf:D->Option (List Key)}{ds:List D}{vs:List V}{keys:List (List Key)}(hkf:∀d k v,d∈ds->kf d=some k->At K M H d v->∃a,v=.ref a/\SqT K H a (k.map kOf))(hs:Ats K M H ds vs)(hK:Keyed kf ds)(hl:keys.length=ds.length)(hk:∀(i:Nat) (x:D),ds[i]?=some x->∃k,keys[i]?=some k/\kf x=some k/\k≠[]):KeysAt K H vs keys:=by
 have from_:∀(i:Nat) (ns:List Key),keys[i]?=some ns->∃x,ds[i]?=some x/\kf x=some ns/\ns≠[]:=fun i ns e=>by
  have hi:i<ds.length:=by rw [← hl]; exact(List.getElem?_eq_some_iff.mp e).1
  obtain⟨k,e1,e2,e3⟩:=hk i ds[i] (List.getElem?_eq_getElem hi)
  rw [e] at e1
  cases e1
  exact⟨ds[i],List.getElem?_eq_getElem hi,e2,e3⟩
 refine⟨hs.length.trans hl.symm,fun i ns e=>?_,fun x hx y hy=>?_,fun x hx=>?_⟩
 ·obtain⟨d,e1,e2,_⟩:=from_ i ns e
  obtain⟨v,e3,h3⟩:=hs.get e1
  obtain⟨a,rfl,h4⟩:=hkf d ns v (List.mem_of_getElem? e1) e2 h3
  exact⟨a,e3,h4⟩
 ·obtain⟨i,hi⟩:=List.mem_iff_getElem?.mp hx
  obtain⟨j,hj⟩:=List.mem_iff_getElem?.mp hy
  obtain⟨d,e1,e2,_⟩:=from_ i x hi
  obtain⟨d',e1',e2',_⟩:=from_ j y hj
  exact hK.2 d (List.mem_of_getElem? e1) d' (List.mem_of_getElem? e1') x y e2 e2'
 ·obtain⟨i,hi⟩:=List.mem_iff_getElem?.mp hx
  obtain⟨d,e1,e2,e3⟩:=from_ i x hi
  exact e3
theorem Ew{d:D}{k:List Key}{v:V}(e:A0 d=some k)(h:At K M H d v):∃a,v=.ref a/\SqT K H a (k.map kOf):=by
 cases d with
 | tup xs =>
  obtain⟨a,vs,e1,hn,hs⟩:=h
  have:=ER (show GH xs=some k from e) hs
  subst this
  exact⟨a,e1,hn.sq⟩
 | _=>cases e
noncomputable def Oj(ds:List D)(P:D->Prop):Prop:=∃d xs,ds=[d]/\Np d=some xs/\xs.length<64/\Keyed A0 xs/\∀xs':List D,xs'.Perm xs->FD A0 xs'->P (.lst xs')
theorem Qe:CT K .fr (Ny K) Oj:=by
 intro U M H ds vs P Q dom vM hp w q
 obtain⟨d,xs,rfl,e,h64,hK,w⟩:=w
 obtain⟨v,rfl,hx⟩:=Ck hp
 obtain⟨κ,a,us,rfl,hs,sq⟩:=Ra (U:=U) hx e (fun _ z=>z) vM
 obtain⟨keys,hl,hk⟩:=Df hK.1
 refine⟨κ,a,us,keys,rfl,sq M H (Pres.refl _ _) (Ext.refl _ _),by rw [hs.length]; exact h64,Eu (fun d k v _=>Ew) hs hK hl hk,fun ix l ho hn=>?_⟩
 obtain⟨o1,o2⟩:=P6 (kf:=A0) hl (fun i x e=>by obtain⟨k,a,b,_⟩:=hk i x e; exact⟨k,a,b⟩) ho
 exact q _ _ (.lst (ix.map fun i=>xs.getD i .non)) (Am hn) (B5 hn (hs.pick ix)) (w _ o1 o2)
end
section
variable {X:Cx}{a e:Expr}{κa:Kd}{wa:DW}{pos p fp kp apos cpos:Pos}
noncomputable def Sz:Key->D
 | .inl i=>.int i
 | .inr x=>.str x
noncomputable def Li:Key->Prop
 | .inl _=>True
 | .inr x=>x.length<=sizeLine
theorem SV{K:Frag}{M:Addr->Prop}{H:Hp}{k:Key}(h:Li k):At K M H (Sz k) (kOf k):=by
 cases k with
 | inl i=>exact rfl
 | inr x=>exact⟨rfl,h⟩
end
end Dp
namespace L2
open PySem PySem.Spec PyProof.Rows
section
open PySem.MeetsSeq
open PySem.AutoSeq1 (wpAny_loadPart')
theorem Nv(l:Addr)(items:Array Value)(n:Nat)(x:Value)(e:Value->Bool)(j:Nat)(hj:j<items.size)(hit:e items[j]=true)(hs1:items.size<=sizeLine)(prog:Program)(w:World)(A:Around)(R:Result->Shared->Prop)(hp:Heap)(g:Array GenState)(d:Drawn)(tk:Nat)(os:_)
  (hl:hp.get? l=some { cls:=.type "list",dict:=none,data:=.seq items n,slots:=#[] }) (he:∀y,y∈items->PySem.SeqAt.EqAt A.in1 ⟨hp,g,d,tk,os⟩ y x (e y)) (h:R (.ok (.ret .none)) ⟨hp.update l (Obj.mapSeq fun xs=>xs.eraseIdxIfInBounds j),g,d,tk,os⟩) :
  ∀k i:Nat,j - i=k->i<=j->(∀m (hm:m<items.size),i<=m->m<j->e items[m]=false) ->
   wpAny (model prog w) A.in1 (Builtin.«list.remove.loop» ⟨[.ref l,x,rawInt i],[]⟩) (fun fin s'=>match fin with | .done f=>R (.ok f) s' | .again c'=>c'.quiet=true/\codeAny (model prog w) A c' R s') (fun e s'=>R (.error e) s') ⟨hp,g,d,tk,os⟩:=by
 intro k
 induction k with
 | zero =>
  intro i hk hij hno
  have hij':i=j:=by omega
  subst hij'
  wp_walk using wpAny_loadPart' hl
  have hi:items[((i:Nat):Int).toNat]?=some items[i]:=by simp [hj]
  rw [hi]
  refine wpAny_bind (he _ (Array.getElem_mem hj) prog w _ _ ?_)
  rw [hit]
  have hz':(items.eraseIdxIfInBounds i).size<=sizeLine+1:=Nat.le_trans (size_erased items _) (Nat.le_succ_of_le hs1)
  wp_walk using (wpAny_updateSeq hl rfl (hz:=hs1) (_hz':=hz')),wpAny_loadPart' hl
  simpa using h
 | succ k ih =>
  intro i hk hij hno
  have hlt:i<items.size:=by omega
  wp_walk using wpAny_loadPart' hl
  have hi:items[((i:Nat):Int).toNat]?=some items[i]:=by simp [hlt]
  have hc:((i:Int)+1)=((i+1:Nat):Int):=by push_cast; rfl
  rw [hi]
  refine wpAny_bind (he _ (Array.getElem_mem hlt) prog w _ _ ?_)
  rw [hno i hlt (Nat.le_refl _) (by omega)]
  wp_walk
  rw [hc]
  exact⟨plainId_quiet plain_remove_loop _,codeAny_builtin entry_remove_loop (by
   rw [Around.under_plainId plain_remove_loop _]
   exact ih (i+1) (by omega) (by omega) (fun m hm h1 h2=>hno m hm (by omega) h2))⟩
theorem Nw{prog:Program}{w:World}{A:Around}{E:Value->Shared->Prop}{s:Shared}{Q:Value->Shared->Prop}(l:Addr)(items:Array Value)(n:Nat)(x:Value)(e:Value->Bool)(j:Nat)(hj:j<items.size)(hit:e items[j]=true)(hno:∀m (hm:m<items.size),m<j->e items[m]=false)
  (hs1:items.size<=sizeLine) (hl:s.heap.get? l=some { cls:=.type "list",dict:=none,data:=.seq items n,slots:=#[] }) (he:∀y,y∈items->PySem.SeqAt.EqAt A.in1 s y x (e y))
  (h:Q .none { s with heap:=s.heap.update l (Obj.mapSeq fun xs=>xs.eraseIdxIfInBounds j) }):wpAny (model prog w) A (call (.builtin "list.remove") [.ref l,x]) Q E s:=by
 have key:wpAny (model prog w) A.in1 (Builtin.«list.remove» ⟨[.ref l,x],[]⟩) (fun fin s'=>match fin with | .done f=>wants Q E (.ok f) s' | .again c'=>c'.quiet=true/\codeAny (model prog w) A c' (wants Q E) s') (fun e s'=>wants Q E (.error e) s') s:=by
  obtain⟨hp,g,d,tk,os⟩:=s
  wp_walk using wpAny_loadPart' hl
  exact⟨plainId_quiet plain_remove_loop _,codeAny_builtin entry_remove_loop (by
   rw [Around.under_plainId plain_remove_loop _]
   exact Nv l items n x e j hj hit hs1 prog w A (wants Q E) hp g d tk os hl he h _ 0 rfl (Nat.zero_le _) (fun m hm _ h2=>hno m hm h2))⟩
 exact wpAny_call (codeAny_call_builtin PySem.F.slot_list_remove.plain PySem.F.entry_list_remove (PySem.F.slot_list_remove.check _ _ _ _ _ _ _ _ ⟨_,hl,rfl⟩ (PySem.F.args_list_remove_2 _ _) key))
end
section
variable {X:Cx}
noncomputable def LQ:V->List V->Hp->VK->Prop:=fun x vs H Q=>∃(l:Addr) (xs:List V) (y:V) (ds:List PyData) (d:PyData) (j:Nat),x=.ref l/\vs=[y]/\H l=some (.lst xs)/\RVs H ds xs/\RV H d y/\PyData.canLayAll0 ds=true/\d.canLay0=true/\d.depth<=100 /\
 (∃dj,ds[j]?=some dj/\PyData.eqv dj d=true)/\(∀m dm,m<j->ds[m]?=some dm->PyData.eqv dm d=false)/\Q .non (Ax H l (.lst (xs.eraseIdx j)))
theorem Md{k:Nat}(hr:Room k X.A):UH X "list.remove" LQ:=by
 intro pins s σ H x vs v us Q I rx rv h
 obtain⟨l,xs,y,ds,d,j,rfl,rfl,hH,hds,hd,c1,c2,dd,⟨dj,hj,hit⟩,hno,q⟩:=h
 cases rx
 obtain⟨u,rfl,ru⟩:=rv.one
 obtain⟨z,its,n,r,hl,e⟩:=I.lstM hH
 obtain⟨as,ra⟩:=RVs.reads I hds r
 obtain⟨bs,rb⟩:=RV.reads I hd ru
 have hm:=PySem.SeqAt.readsAll_map ds its as c1 ra
 have hlen:ds.length=its.length:=by rw [← hm,List.length_map]
 have hu:=hr.un
 have hmin:min (PyData.depthAll ds) d.depth<=d.depth:=Nat.min_le_right _ _
 have at_:∀m dm,ds[m]?=some dm->∀(h:m<its.toArray.size),PySem.SeqAt.readOf s.heap its.toArray[m]=dm:=fun m dm e h=>by
  rw [← hm,List.getElem?_map] at e
  have h':m<its.length:=by simpa using h
  rw [List.getElem?_eq_getElem h'] at e
  have e:=Option.some.inj e
  simpa using e
 have hjl:j<its.length:=by rw [← hlen]; exact(List.getElem?_eq_some_iff.mp hj).1
 refine Nw l its.toArray n u (fun y=>PyData.eqv (PySem.SeqAt.readOf s.heap y) d) j (by rw [List.size_toArray]; exact hjl) (by rw [at_ j dj hj]; exact hit) (fun m hm' hlt=>?_) (by rw [List.size_toArray]; omega) e (PySem.SeqAt.items_eqAt (vs:=its.toArray) (by rw [List.toList_toArray]; exact ra) rb c1 c2 (by omega)) ?_
 ·have hml:m<ds.length:=by rw [hlen]; simpa using hm'
  rw [at_ m ds[m] (List.getElem?_eq_getElem hml) hm']
  exact hno m ds[m] hlt (List.getElem?_eq_getElem hml)
 ·refine⟨.non,_,I.lset (t':=s.toks) (its':=its.eraseIdx j) hH e ?_ (r.eraseIdx j) ?_,rfl,q⟩
  ·show its.toArray.eraseIdxIfInBounds j=(its.eraseIdx j).toArray
   rw [List.eraseIdxIfInBounds_toArray]
  ·have:=Et xs j
   omega
end
end L2
namespace Dp
open PySem PySem.Spec PyProof.Rows L2
noncomputable def Tt(d:D)(ds:List D)(P:D->D->Prop):Prop:=∃(xs:List D) (y:D) (j:Nat),d=.lst xs/\ds=[y]/\Cz (.lst xs)/\Cz y/\(∃x,xs[j]?=some x/\GS x y=true)/\(∀m x,m<j->xs[m]?=some x->GS x y=false)/\P (.lst (xs.eraseIdx j)) .non
theorem T8{K:Frag}:Ss K LQ Tt:=by
 intro M H a d ds vs P Q m t hv w q
 obtain⟨xs,y,j,rfl,rfl,⟨n1,l1,_⟩,⟨n2,l2,d2⟩,⟨x,hx,hit⟩,hno,w⟩:=w
 obtain⟨us,h1,h2⟩:=t
 obtain⟨u,r,rfl,hu,hr⟩:=hv
 cases (show r=[] from hr)
 have get:∀(m:Nat) (p:PyData),(Av xs)[m]?=some p->∃x,xs[m]?=some x/\p=toPy x:=fun m p e=>by
  rw [DX,List.getElem?_map] at e
  obtain⟨x,e1,rfl⟩:=Option.map_eq_some_iff.mp e
  exact⟨x,e1,rfl⟩
 refine⟨a,us,u,Av xs,toPy y,j,rfl,rfl,h1,h2.rv n1,hu.rv n2,l1,l2,d2,⟨toPy x,by rw [DX,List.getElem?_map,hx]; rfl,hit⟩,fun m p hm e=>?_,q _ (.lst (xs.eraseIdx j)) .non _ ⟨us.eraseIdx j,AM,?_⟩ rfl w⟩
 ·obtain⟨x',e1,rfl⟩:=get m p e
  exact hno m x' hm e1
 ·exact(h2.eraseIdx j).pres (Dd m)
noncomputable def C7(c:FN)(wb:Af):Af:=fun D2 n ρ=>∃W:Nat->Nat->List Slot->Prop,(∃m,W m n ρ)/\∀m n ρ,W m n ρ ->
 c n ρ fun b n1=>if b=true then ∃N:Nat->List Slot->Prop,(∀n' ρ',N n' ρ'->∃m',m'<m/\W m' n' ρ')/\wb { D2 with nx:=N,ct:=N,bk:=D2.nx } n1 ρ else D2.nx n1 ρ
section
variable {X:Cx}{κ:Kd}{c:Expr}{body:List Stmt}{wc:FN}{wb:Af}{pos:Pos}
theorem EV(hp:PassesOwn (model X.prog X.w) X.A X.env X.xe)(hc:DT X c wc)(hb:PP X κ body wb):DS X κ (.While c body [] pos) (C7 wc wb):=by
 obtain⟨tc,c1,c2⟩:=hc
 obtain⟨tb,b1,b2⟩:=hb
 refine⟨_,N8 hp c1 b1,fun C M H n ρ σ D2 E R L w=>?_⟩
 obtain⟨W,⟨m0,w0⟩,turn⟩:=w
 refine⟨fun m σ' H'=>∃M' n' ρ',Rel X.K C M' H' n' ρ' σ'/\W m n' ρ',⟨m0,M,n,ρ,R,w0⟩,?_⟩
 rintro m σ' H' ⟨M',n',ρ',R',w'⟩
 refine c2 C M' H' n' ρ' σ' _ _ R' (turn m n' ρ' w') fun b H2 n2 e f p=>?_
 have R2:=R'.step e f
 cases b with
 | true =>
  rw [if_pos rfl] at p ⊢
  obtain⟨N,hN,p⟩:=p
  refine⟨fun σ3 H3=>∃M3 n3 ρ3,Rel X.K C M3 H3 n3 ρ3 σ3/\N n3 ρ3,fun σ3 H3 ⟨M3,n3,ρ3,R3,w3⟩=>?_,?_⟩
  ·obtain⟨m',hm,w4⟩:=hN n3 ρ3 w3
   exact⟨m',hm,M3,n3,ρ3,R3,w4⟩
  ·exact b2 C M' H2 n2 ρ' σ' { D2 with nx:=N,ct:=N,bk:=D2.nx } _ R2 ⟨fun M4 H4 n4 ρ4 σ4 R4 w4=>⟨M4,n4,ρ4,R4,w4⟩,L.rt,fun M4 H4 n4 ρ4 σ4 R4 w4=>L.nx M4 H4 n4 ρ4 σ4 R4 w4,fun M4 H4 n4 ρ4 σ4 R4 w4=>⟨M4,n4,ρ4,R4,w4⟩⟩ p
 | false =>
  rw [if_neg (by decide)] at p ⊢
  exact L.nx M' H2 n2 ρ' σ' R2 p
theorem DV{D2:E2}{n:Nat}{ρ:List Slot}(I:Nat->Nat->List Slot->Prop)(m0:Nat)(h0:I m0 n ρ)
  (hs:∀m n ρ (N:Nat->List Slot->Prop),I m n ρ->(∀m' n' ρ',m'<m->I m' n' ρ'->N n' ρ')->wc n ρ fun b n1=>if b=true then wb { D2 with nx:=N,ct:=N,bk:=D2.nx } n1 ρ else D2.nx n1 ρ)
  (mono:∀n ρ (P Q:Bool->Nat->Prop),(∀b n1,P b n1->Q b n1)->wc n ρ P->wc n ρ Q):C7 wc wb D2 n ρ:=by
 refine⟨I,⟨m0,h0⟩,fun m n ρ h=>?_⟩
 refine mono n ρ _ _ (fun b n1 p=>?_) (hs m n ρ (fun n' ρ'=>∃m',m'<m/\I m' n' ρ') h fun m' n' ρ' hm hi=>⟨m',hm,hi⟩)
 cases b with
 | true=>rw [if_pos rfl] at p ⊢; exact⟨_,fun _ _ z=>z,p⟩
 | false=>exact p
end
section
variable {X:Cx}{κ:Kd}{tg:Expr}{body:List Stmt}{b:BW}{wb:Af}{pos p:Pos}{x:Str}{i:Nat}
end
end Dp
namespace Nt
open PySem PySem.Spec PyProof.Rows L2 Dp
noncomputable def S7(s t:A7):Decidable (s=t) :=
 if h:s.a=t.a/\s.b=t.b/\s.len=t.len then .isTrue (by obtain⟨a,b,l⟩:=s; obtain⟨a',b',l'⟩:=t; obtain⟨h1,h2,h3⟩:=h; simp only at h1 h2 h3; subst h1 h2 h3; rfl) else .isFalse fun e=>h (by rw [e]; exact⟨rfl,rfl,rfl⟩)
noncomputable instance:DecidableEq A7:=S7
noncomputable abbrev EF(Pd:D->Nat->Prop):E2:={ nx:=fun n _=>Kd.fr=.sh/\Pd .non n,rt:=Pd }
noncomputable def UU(x:Str×Int):D:=.tup [.str x.1,.int x.2]
theorem La{α:Type}{R:α->α->Prop}(anti:∀a b,R a b->R b a->a=b):∀{l1 l2:List α},l1.Perm l2->l1.Pairwise R->l2.Pairwise R->l1=l2
 | [],l2,p,_,_=>(List.nil_perm.mp p).symm
 | a::l1,[],p,_,_=>absurd (List.perm_nil.mp p) (List.cons_ne_nil _ _)
 | a::l1,b::l2,p,h1,h2=>by
  have e:a=b:=by
   rcases List.mem_cons.mp (p.mem_iff.mp List.mem_cons_self) with e | h
   ·exact e
   ·rcases List.mem_cons.mp (p.mem_iff.mpr (List.mem_cons_self (a:=b) (l:=l2))) with e | h'
    ·exact e.symm
    ·exact anti a b ((List.pairwise_cons.mp h1).1 b h') ((List.pairwise_cons.mp h2).1 a h)
  subst e
  rw [La anti ((List.perm_cons a).mp p) (List.pairwise_cons.mp h1).2 (List.pairwise_cons.mp h2).2]
theorem S4{α:Type}{f:α->D}{g:D->α}(hg:∀x,g (f x)=x){xs:List D}{ts:List α}(h:xs.Perm (ts.map f)):∃ts':List α,ts'.Perm ts/\xs=ts'.map f:=by
 refine⟨xs.map g,?_,?_⟩
 ·have:=h.map g
  rw [List.map_map,show g∘f=id from funext hg,List.map_id] at this
  exact this
 ·rw [List.map_map]
  have:∀x∈xs,(f∘g) x=x:=fun x hx=>by
   obtain⟨t,_,rfl⟩:=List.mem_map.mp (h.mem_iff.mp hx)
   show f (g (f t))=f t
   rw [hg]
  rw [List.map_congr_left this,List.map_id']
noncomputable def Uy:D->A7
 | .tup [.str a,.str b,.int l]=>⟨a,b,l⟩
 | _=>⟨"","",0⟩
section
variable {ss:List Slot}{n:Nat}{Pd:D->Nat->Prop}
theorem IH{N:Net}(ok:N.Ok){x:Str}{p:Str×Int}(h:p∈D_ N.ts x):p.1∈N.ps/\1<=p.2/\p.2<=1000000/\∃t∈N.ts,t.len=p.2/\((t.a=x/\t.b=p.1)\/(t.b=x/\t.a=p.1)):=by
 unfold D_ at h
 obtain⟨t,ht,h⟩:=List.mem_flatMap.mp h
 obtain⟨m1,m2,m3,m4,m5⟩:=ok.tin t ht
 rcases List.mem_append.mp h with h | h
 ·split at h
  ·rename_i e
   rw [List.mem_singleton.mp h]
   exact⟨m2,m4,m5,t,ht,rfl,.inl ⟨e,rfl⟩⟩
  ·cases h
 ·split at h
  ·rename_i e
   rw [List.mem_singleton.mp h]
   exact⟨m1,m4,m5,t,ht,rfl,.inr ⟨e,rfl⟩⟩
  ·cases h
theorem C0(s t:A7):GS (Ac s) (Ac t)=true↔s=t:=by
 obtain⟨a,b,l⟩:=s
 obtain⟨a',b',l'⟩:=t
 show (a==a'&&(b==b'&&(l==l'&&true)))=true↔_
 rw [Bool.and_true,Bool.and_eq_true,Bool.and_eq_true,beq_iff_eq,beq_iff_eq,beq_iff_eq]
 constructor
 ·rintro ⟨rfl,rfl,rfl⟩; rfl
 ·rintro h; cases h; exact⟨rfl,rfl,rfl⟩
theorem HM{xs:List D}(h:∀d∈xs,item d):Cz (.lst xs):=by
 have d1:G5 xs<=1:=dps_le.mpr fun d hd=>(h d hd).2.2
 exact DD (B:=1000001) (by decide) (fines_iff.mpr fun d hd=>(h d hd).1) (by show G5 xs+1<=100; omega)
theorem HQ{α β:Type}(f:α->β):∀(l:List α) (i:Nat),(l.map f).eraseIdx i=(l.eraseIdx i).map f
 | [],i=>rfl
 | x::l,0=>rfl
 | x::l,i+1=>by
  show f x::(l.map f).eraseIdx i=f x::(l.eraseIdx i).map f
  rw [HQ f l i]
theorem SM(a b x:Str):([D.str a,D.str b].any fun u=>GS u (.str x))=(a==x||b==x):=by
 show (a==x||(b==x||false))=_
 rw [Bool.or_false]
end
noncomputable def FF(t:A7):List Key:=[.inr t.a,.inr t.b,.inl t.len]
noncomputable def Hb(ts:List A7):Prop:=ts.Pairwise fun s t=>BM (FF t) (FF s)=false
theorem Tw{a:Str}{x:D}(h:GS x (.str a)=true):x=.str a:=by
 cases x with
 | str b =>
  have h:(b==a)=true:=h
  rw [eq_of_beq h]
 | _=>cases h
theorem E7:∀{xs:List D} {ps:List Str},PyData.eqvAll (Av xs) (Av (ps.map .str))=true->xs=ps.map .str
 | [],[],_=>rfl
 | [],_::_,h=>by cases h
 | _::_,[],h=>by cases h
 | x::xs,p::ps,h=>by
  have h:(PyData.eqv (toPy x) (toPy (.str p))&&PyData.eqvAll (Av xs) (Av (ps.map .str)))=true:=h
  rw [Bool.and_eq_true] at h
  rw [Tw (a:=p) (x:=x) h.1,E7 h.2]
  rfl
theorem eqvAll_refl:∀ps:List Str,PyData.eqvAll (Av (ps.map .str)) (Av (ps.map .str))=true
 | []=>rfl
 | p::ps=>by
  show ((p==p)&&PyData.eqvAll (Av (ps.map .str)) (Av (ps.map .str)))=true
  rw [beq_self_eq_true,eqvAll_refl ps]
  rfl
theorem Ot{p:D}{ps:List Str}:GS p (.tup (ps.map .str))=true↔p=.tup (ps.map .str):=by
 constructor
 ·intro h
  cases p with
  | tup xs=>rw [E7 (xs:=xs) (ps:=ps) h]
  | _=>cases h
 ·rintro rfl
  exact eqvAll_refl ps
theorem Pe{s t:A7}(h:Ce s t):BM (FF s) (FF t)=true:=by
 show (if (Sum.inr s.a:Key)=.inr t.a then (if (Sum.inr s.b:Key)=.inr t.b then (if (Sum.inl s.len:Key)=.inl t.len then false else decide (s.len<t.len)) else decide (cs s.b<cs t.b)) else decide (cs s.a<cs t.a))=true
 rcases h with h | ⟨h,h'⟩
 ·rw [if_neg (fun e=>BH s.a (by rw [Sum.inr.inj e] at h ⊢; exact h)),decide_eq_true h]
 ·rw [if_pos (by rw [h]),if_neg (fun e=>BH s.b (by rw [Sum.inr.inj e] at h' ⊢; exact h')),decide_eq_true h']
theorem RX{N:Net}(ok:N.Ok){ts:List A7}(h:∀t∈ts,t∈N.ts)(hp:ts.Pairwise Ce):Net.Ok ⟨N.ps,ts⟩:=⟨ok.names,ok.rise,fun t ht=>ok.tin t (h t ht),hp⟩
end Nt
namespace L2
open PySem PySem.Spec PyProof.Rows PySem.W
section
variable {X:Cx}
end
end L2
namespace Dp
open PySem PySem.Spec PyProof.Rows L2
section
variable {X:Cx}{K:Frag}
noncomputable def NJ:List D->Option (List Int)
 | []=>some []
 | .int b::r=>(NJ r).map (b::·)
 | _::_=>none
theorem Lx{M:Addr->Prop}{H:Hp}:∀{ds:List D} {vs:List V} {bs:List Int},NJ ds=some bs->Ats K M H ds vs->vs=bs.map V.int
 | [],vs,bs,e,h=>by cases e; exact h
 | d::ds,vs,bs,e,h=>by
  obtain⟨v,r,e1,h1,h2⟩:=h
  cases d with
  | int b =>
   obtain⟨bs',e2,rfl⟩:=Option.map_eq_some_iff.mp (show (NJ ds).map (b::·)=some bs from e)
   rw [e1,Lx e2 h2,List.map_cons]
   congr 1
  | _=>cases e
theorem Jy{α:Type}(f:α->Int):∀l:List α,NJ (l.map fun a=>.int (f a))=some (l.map f)
 | []=>rfl
 | a::l=>by
  show (NJ (l.map fun a=>.int (f a))).map (f a::·)=_
  rw [Jy f l]
  rfl
end
end Dp
namespace Nt
open PySem PySem.Spec PyProof.Rows L2 Dp
section
variable {ss:List Slot}{n:Nat}{Pd:D->Nat->Prop}
theorem DA{b:BW}{tt:FN}{te:DW}{P:List D->Nat->Prop}(c:D->Bool)(g:D->D)(I:List Slot->Prop):∀(ds acc:List D) (n:Nat) (ρ:List Slot),
  (∀d∈ds,∀(ρ:List Slot) (n:Nat) (nx:D->Nat->List Slot->Prop) (sk:Nat->List Slot->Prop),I ρ->(∀ρ',I ρ'->c d=true->nx (g d) n ρ')->(∀ρ',I ρ'->c d=false->sk n ρ')->b d ρ fun ρ1=>tt n ρ1 fun c n1=>if c=true then te n1 ρ1 fun y n2=>nx y n2 ρ1 else sk n1 ρ1)->I ρ->P (acc++(ds.filter c).map g) n->CL b tt te P ds acc n ρ
 | [],acc,n,ρ,_,_,h=>by rw [List.filter_nil,List.map_nil,List.append_nil] at h; exact h
 | d::ds,acc,n,ρ,ht,hρ,h=>ht d List.mem_cons_self ρ n (fun y n2 ρ1=>CL b tt te P ds (acc++[y]) n2 ρ1) (fun n2 ρ1=>CL b tt te P ds acc n2 ρ1) hρ
  (fun ρ' hρ' hc=>DA c g I ds (acc++[g d]) n ρ' (fun d hd=>ht d (List.mem_cons_of_mem _ hd)) hρ' (by rw [List.filter_cons_of_pos hc] at h; rw [List.append_assoc]; exact h))
  (fun ρ' hρ' hc=>DA c g I ds acc n ρ' (fun d hd=>ht d (List.mem_cons_of_mem _ hd)) hρ' (by rw [List.filter_cons_of_neg (by rw [hc]; decide)] at h; exact h))
end
theorem P4{ts:List A7}(h:FD A0 (ts.map Ac)):Hb ts:=by
 unfold FD at h
 rw [List.pairwise_map] at h
 exact h.imp fun {s t} z=>z _ _ rfl rfl
theorem IJ{N:Net}(ok:N.Ok){t:A7}(h:t∈N.ts):Cz (Ac t):=by
 have it:=Jc ok _ (List.mem_map.mpr ⟨t,h,rfl⟩)
 exact DD (B:=1000001) (by decide) it.1 (by have:=it.2.2; omega)
theorem Qd{ts:List A7}{t:A7}:((ts.map Ac).any fun y=>GS y (Ac t))=decide (t∈ts):=by
 rw [Bool.eq_iff_iff,List.any_eq_true,decide_eq_true_eq]
 constructor
 ·rintro ⟨d,hd,e⟩
  obtain⟨s,hs,rfl⟩:=List.mem_map.mp hd
  rw [← (C0 s t).mp e]
  exact hs
 ·intro h
  exact⟨Ac t,List.mem_map.mpr ⟨t,h,rfl⟩,(C0 t t).mpr rfl⟩
section
variable {ss:List Slot}{n:Nat}{Pd:D->Nat->Prop}
end
section
variable {ss:List Slot}{n:Nat}{Pd:D->Nat->Prop}
end
theorem NX{s t:A7}(h:FF s=FF t):s=t:=by
 obtain⟨a,b,l⟩:=s
 obtain⟨a',b',l'⟩:=t
 unfold FF at h
 simp only [List.cons.injEq,Sum.inl.injEq,Sum.inr.injEq,and_true] at h
 obtain⟨rfl,rfl,rfl⟩:=h
 rfl
theorem KG{l1 l2:List A7}(p:l1.Perm l2)(h1:Hb l1)(h2:Hb l2):l1=l2:=La (fun a b x y=>NX (Cy _ _ y x)) p h1 h2
theorem K2{ts:List A7}(h:ts.Pairwise Ce):Hb ts:=h.imp fun {s t} z=>by
 cases e:BM (FF t) (FF s) with
 | false=>rfl
 | true =>
  have:=CM _ _ _ (Pe z) e
  rw [B4] at this
  cases this
section
variable {ss:List Slot}{n:Nat}{Pd:D->Nat->Prop}
end
end Nt
namespace L2
open PySem PySem.Spec PyProof.Rows PySem.W
section
variable {prog:Program}{w:World}{A:Around}{E:Value->Shared->Prop}{R:Result->Shared->Prop}{I:Addr}{fp wr:List Addr}{n:Nat}{P:Nat->Value->Prop}{St:Nat->Heap->Prop}
noncomputable def RI(prog:Program)(w:World)(A:Around)(op:CmpOp)(P:Nat->Value->Prop)(Cm:Heap->Prop)(bt:Nat->Nat->Bool):Prop :=
 ∀i j vi vj (s:Shared) (Q:Value->Shared->Prop) (E:Value->Shared->Prop),Cm s.heap->P i vi->P j vj->Q (.bool (bt i j)) s->wpAny (model prog w) A (richCompare op vi vj) Q E s
theorem Mf(W:Walks prog w A.in1 I fp wr n P St)(bt:Nat->Nat->Bool)(Cm:Heap->Prop)(hcmp:RI prog w A.in1 .Lt P Cm bt)(S:Addr)(hSf:S∉fp)(hmono:∀h h':Heap,Cm h->(∀b o,b∉wr->b≠S->h.get? b=some o->h'.get? b=some o)->Cm h') :
  ∀(k j:Nat) (s:Shared) (vb:Value) (c:Nat),n - (j+1)=k->j+1<=n->St (j+1) s.heap->Cm s.heap->P (argBest bt j) vb ->
  s.heap.get? S=some { cls:=.type "list",dict:=none,data:=.seq #[vb,vb] c,slots:=#[] } ->
  (∀v h' tk,P (argBest bt (n - 1)) v->(∀b o,b∉wr->b≠S->s.heap.get? b=some o->h'.get? b=some o)->R (.ok (.ret v)) { s with heap:=h',toks:=tk }) ->
  codeAny (model prog w) A (.builtin "min.loop" ⟨[.ref I,.none,.ref S],[]⟩) R s:=by
 have hSw:S∉wr:=fun h=>hSf (W.sub _ h)
 have hname:(toString "min"++toString ".loop" : String) = "min.loop":=by decide
 intro k
 induction k with
 | zero =>
  intro j s vb c hk hj hst hcm hPb hS hR
  have hin:j+1=n:=by omega
  refine codeAny_builtin PySem.F.entry_min_loop ?_
  rw [Around.under_plainId PySem.F.plain_min_loop _]
  show wpAny _ A.in1 (seqItems? (.ref S) >>= _) _ _ s
  refine wpAny_bind (wpAny_seqItems hS rfl ?_)
  show wpAny _ A.in1 (tryCatch (pyNext (.ref I)) _ >>= _) _ _ s
  refine wpAny_bind (wpAny_tryCatch (W.done s _ _ (hin▸hst) fun h' tk hk'=>?_))
  have hS':=hk' S _ hSw hS
  show wpAny _ A.in1 (updateSeq S (fun _=>#[]) >>= _) _ _ _
  refine wpAny_bind ?_
  refine wpAny_updateSeq hS' rfl (wpAny_bind (wpAny_letGo (wpAny_pure ?_)))
  refine hR vb _ tk (by rw [← hin]; exact hPb) fun b o hbw hbS e=>(Heap.get?_update_other _ _ (Ne.symm hbS)).trans (hk' b o hbw e)
 | succ k ih =>
  intro j s vb c hk hj hst hcm hPb hS hR
  have hlt:j+1<n:=by omega
  refine codeAny_builtin PySem.F.entry_min_loop ?_
  rw [Around.under_plainId PySem.F.plain_min_loop _]
  show wpAny _ A.in1 (seqItems? (.ref S) >>= _) _ _ s
  refine wpAny_bind (wpAny_seqItems hS rfl ?_)
  show wpAny _ A.in1 (tryCatch (pyNext (.ref I)) _ >>= _) _ _ s
  refine wpAny_bind (wpAny_tryCatch (W.item (j+1) s _ _ hlt hst fun v h' tk hP hst' hk'=>?_))
  have hS':=hk' S _ hSw hS
  have hcm':Cm h':=hmono _ _ hcm fun b o h1 _ e=>hk' b o h1 e
  show wpAny _ A.in1 (tryCatch (holding [v,v] (richCompare .Lt v vb >>= _)) _ >>= _) _ _ _
  refine wpAny_bind (wpAny_tryCatch (wpAny_holding (wpAny_bind (hcmp (j+1) (argBest bt j) v vb _ _ _ hcm' hP hPb ?_))))
  refine wpAny_bind (wpAny_holding (wpAny_truthy_bool ?_))
  refine wpAny_bind (wpAny_letGo (wpAny_pure ?_))
  cases hb:bt (j+1) (argBest bt j) with
  | true =>
   simp only [if_true]
   refine wpAny_bind ?_
   refine wpAny_updateSeq hS' rfl (wpAny_bind (wpAny_letGo ?_))
   rw [hname]
   refine wpAny_pure ⟨plainId_quiet PySem.F.plain_min_loop _,ih (j+1) _ v _ (by omega) hlt (W.frame _ _ _ hst' fun b hbf o e=>?_) (hmono _ _ hcm' fun b o _ h2 e=>(Heap.get?_update_other _ _ (Ne.symm h2)).trans e) (by simp only [argBest,hb,if_true]; exact hP) (Heap.get?_update_self _ hS' rfl)
    fun v' h'' tk'' hP' hk''=>?_⟩
   ·exact(Heap.get?_update_other _ _ (fun h:S=b=>hSf (by rw [h]; exact hbf))).trans e
   ·exact hR v' h'' tk'' hP' fun b o hbw hbS e=>hk'' b o hbw hbS ((Heap.get?_update_other _ _ (Ne.symm hbS)).trans (hk' b o hbw e))
  | false =>
   simp only [Bool.false_eq_true,if_false]
   refine wpAny_bind (wpAny_letGo ?_)
   rw [hname]
   refine wpAny_pure ⟨plainId_quiet PySem.F.plain_min_loop _,ih (j+1) _ vb c (by omega) hlt hst' hcm' (by simp only [argBest,hb,Bool.false_eq_true,if_false]; exact hPb) hS' fun v' h'' tk'' hP' hk''=>?_⟩
   exact hR v' h'' tk'' hP' fun b o hbw hbS e=>hk'' b o hbw hbS (hk' b o hbw e)
theorem Kl(W:Walks prog w A.in1 I fp wr n P St)(bt:Nat->Nat->Bool)(Cm:Heap->Prop)(hcmp:RI prog w A.in1 .Lt P Cm bt)(S:Addr)(hSf:S∉fp)(hmono:∀h h':Heap,Cm h->(∀b o,b∉wr->b≠S->h.get? b=some o->h'.get? b=some o)->Cm h')(hn:0<n){s:Shared}{c:Nat}(hst:St 0 s.heap)(hcm:Cm s.heap)
  (hS:s.heap.get? S=some { cls:=.type "list",dict:=none,data:=.seq #[] c,slots:=#[] })
  (hR:∀v h' tk,P (argBest bt (n - 1)) v->(∀b o,b∉wr->b≠S->s.heap.get? b=some o->h'.get? b=some o)->R (.ok (.ret v)) { s with heap:=h',toks:=tk }) :
  codeAny (model prog w) A (.builtin "min.loop" ⟨[.ref I,.none,.ref S],[]⟩) R s:=by
 have hSw:S∉wr:=fun h=>hSf (W.sub _ h)
 have hname:(toString "min"++toString ".loop" : String) = "min.loop":=by decide
 refine codeAny_builtin PySem.F.entry_min_loop ?_
 rw [Around.under_plainId PySem.F.plain_min_loop _]
 show wpAny _ A.in1 (seqItems? (.ref S) >>= _) _ _ s
 refine wpAny_bind (wpAny_seqItems hS rfl ?_)
 show wpAny _ A.in1 (tryCatch (pyNext (.ref I)) _ >>= _) _ _ s
 refine wpAny_bind (wpAny_tryCatch (W.item 0 s _ _ hn hst fun v h' tk hP hst' hk'=>?_))
 have hS':=hk' S _ hSw hS
 have hcm':Cm h':=hmono _ _ hcm fun b o h1 _ e=>hk' b o h1 e
 show wpAny _ A.in1 (updateSeq S (fun _=>#[v,v]) >>= _) _ _ _
 refine wpAny_bind ?_
 refine wpAny_updateSeq hS' rfl ?_
 rw [hname]
 refine wpAny_pure ⟨plainId_quiet PySem.F.plain_min_loop _,Mf W bt Cm hcmp S hSf hmono _ 0 _ v _ rfl hn (W.frame _ _ _ hst' fun b hbf o e=>?_) (hmono _ _ hcm' fun b o _ h2 e=>(Heap.get?_update_other _ _ (Ne.symm h2)).trans e) hP (Heap.get?_update_self _ hS' rfl) fun v' h'' tk'' hP' hk''=>?_⟩
 ·exact(Heap.get?_update_other _ _ (fun h:S=b=>hSf (by rw [h]; exact hbf))).trans e
 ·exact hR v' h'' tk'' hP' fun b o hbw hbS e=>hk'' b o hbw hbS ((Heap.get?_update_other _ _ (Ne.symm hbS)).trans (hk' b o hbw e))
theorem min_list{s:Shared}{l:Addr}{items:Array Value}{Q:Value->Shared->Prop}(bt:Nat->Nat->Bool)(hh:A.handled=none)(hl:s.heap.IsList l items)(hn:0<items.size)
  (hcmp:∀i j vi vj (s':Shared) (Q:Value->Shared->Prop) (E:Value->Shared->Prop),(∀b o,s.heap.get? b=some o->s'.heap.get? b=some o)->items[i]?=some vi->items[j]?=some vj->Q (.bool (bt i j)) s'->wpAny (model prog w) A.in1 (richCompare .Lt vi vj) Q E s')
  (h:∀v h' tk,items[argBest bt (items.size - 1)]?=some v->(∀b o,s.heap.get? b=some o->h'.get? b=some o)->Q v { s with heap:=h',toks:=tk }):wpAny (model prog w) A (call (.builtin "min") [.ref l]) Q E s:=by
 have hname:(toString "min"++toString ".loop" : String) = "min.loop":=by decide
 have hlt:l<s.heap.objs.size:=by obtain⟨_,e,_⟩:=hl; exact Heap.lt_size e
 refine call_function_tree PySem.F.kind_min PySem.F.plain_min PySem.F.entry_min (PySem.F.args_min1 _) ?_
 show wpAny _ A.in1 (Builtin.Builtins.bindParams "min" ["key","default"] 0 ⟨[],[]⟩ >>= _) _ _ s
 refine wpAny_bind (wpAny_of_eq (show Builtin.Builtins.bindParams "min" ["key","default"] 0 ⟨[],[]⟩=pure [none,none] from rfl) ?_)
 refine wpAny_bind (wpAny_pure ?_)
 refine wpAny_bind (wpAny_pyIter_list hl ?_)
 refine wpAny_bind (wpAny_newObj_type ?_)
 rw [hname]
 have W:=Walks.list (prog:=prog) (w:=w) (A:=A.in1) hh s.heap.objs.size l (Nat.ne_of_lt hlt) items
 have hs1:(s.heap.push { cls:=.type "list_iterator",data:=.fields #[.ref l,.int 0 0] }).objs.size=s.heap.objs.size+1:=Heap.size_push _ _
 refine wpAny_pure ⟨plainId_quiet PySem.F.plain_min_loop _,Kl W bt (fun h'=>∀b o,s.heap.get? b=some o->h'.get? b=some o) (fun i j vi vj s' Q E hc h1 h2 q=>hcmp i j vi vj s' Q E hc h1 h2 q) (s.heap.push { cls:=.type "list_iterator",data:=.fields #[.ref l,.int 0 0] }).objs.size (fun hm=>?_) (fun h1 h2 hc hk b o e=>hk b o (fun hm=>?_) ?_ (hc b o e)) hn ⟨⟨_,Heap.get?_push_of_some _ (Heap.get?_push_size _ rfl),rfl,rfl⟩,(hl.push _).push _⟩ (fun b o e=>Heap.get?_push_of_some _ (Heap.get?_push_of_some _ e)) (Heap.get?_push_size _ rfl) fun v h' tk hP hk=>?_⟩
 ·rw [hs1] at hm
  rcases List.mem_cons.mp hm with e | hm
  ·exact absurd e (Nat.succ_ne_self _)
  ·rw [← List.mem_singleton.mp hm] at hlt
   exact absurd hlt (Nat.not_lt.mpr (Nat.le_succ _))
 ·rw [List.mem_singleton.mp hm] at e
  exact absurd (Heap.lt_size e) (Nat.lt_irrefl _)
 ·rw [hs1]
  exact Nat.ne_of_lt (Nat.lt_succ_of_lt (Heap.lt_size e))
 ·refine h v h' tk hP fun b o e=>hk b o (fun hm=>?_) ?_ (Heap.get?_push_of_some _ (Heap.get?_push_of_some _ e))
  ·rw [List.mem_singleton.mp hm] at e
   exact absurd (Heap.lt_size e) (Nat.lt_irrefl _)
  ·rw [hs1]
   exact Nat.ne_of_lt (Nat.lt_succ_of_lt (Heap.lt_size e))
end
theorem Gg(keys:List (List Key)):∀m:Nat,argBest (fun i j=>BM (keys.getD i []) (keys.getD j [])) m<=m/\∀i,i<=m->BM (keys.getD i []) (keys.getD (argBest (fun i j=>BM (keys.getD i []) (keys.getD j [])) m) [])=false
 | 0=>⟨Nat.le_refl _,fun i hi=>by
  have:i=0:=by omega
  subst this
  exact B4 _⟩
 | m+1=>by
  obtain⟨h1,h2⟩:=Gg keys m
  unfold argBest
  by_cases c:BM (keys.getD (m+1) []) (keys.getD (argBest (fun i j=>BM (keys.getD i []) (keys.getD j [])) m) [])=true
  ·rw [if_pos c]
   refine⟨Nat.le_refl _,fun i hi=>?_⟩
   by_cases e:i=m+1
   ·subst e; exact B4 _
   ·cases z:BM (keys.getD i []) (keys.getD (m+1) []) with
    | false=>rfl
    | true =>
     have:=CM _ _ _ z c
     rw [h2 i (by omega)] at this
     cases this
  ·rw [if_neg c]
   refine⟨by omega,fun i hi=>?_⟩
   by_cases e:i=m+1
   ·subst e
    cases z:BM (keys.getD (m+1) []) (keys.getD (argBest (fun i j=>BM (keys.getD i []) (keys.getD j [])) m) []) with
    | false=>rfl
    | true=>exact absurd z c
   ·exact h2 i (by omega)
section
variable {X:Cx}
noncomputable def Qw(K:Frag):List V->Hp->VK->Prop:=fun xs H Q=>∃(p:Addr) (vs:List V) (keys:List (List Key)),xs=[.ref p]/\SqL K H p vs/\0<vs.length/\KeysAt K H vs keys /\
 ∀j v,vs[j]?=some v->(∀i,i<vs.length->BM (keys.getD i []) (keys.getD j [])=false)->Q v H
theorem NE{k:Nat}(hr:Room k X.A):B6 X (.builtin "min") (Qw X.K):=by
 intro pins s σ H xs us Q I r h
 obtain⟨p,vs,keys,rfl,hq,hn,hk,q⟩:=h
 obtain⟨u,rfl,rx⟩:=vals1 r
 cases rx
 obtain⟨its,r',pl,hz⟩:=I.list hq
 have hl:=r'.length
 have tk:=hk.tups I r' fun b o e=>e
 have hu:=hr.un
 refine min_list (fun i j=>BM (keys.getD i []) (keys.getD j [])) hr.hd pl.isList (by rw [List.size_toArray]; omega) (fun i j vi vj s' Q' E' hold h1 h2 q'=>?_) fun v h' tk' hv hold=>?_
 ·have hi:i<keys.length:=by rw [← hk.len,hl]; have:=(Array.getElem?_eq_some_iff.mp h1).1; simpa using this
  have hj:j<keys.length:=by rw [← hk.len,hl]; have:=(Array.getElem?_eq_some_iff.mp h2).1; simpa using this
  obtain⟨a,⟨cls,dd,data,sl⟩,xs,n,e1,e2,e3,e4,e5⟩:=tk.at_ i keys[i] (List.getElem?_eq_getElem hi)
  obtain⟨a',⟨cls',dd',data',sl'⟩,xs',n',e1',e2',e3',e4',e5'⟩:=tk.at_ j keys[j] (List.getElem?_eq_getElem hj)
  simp only at e3 e4 e3' e4'
  subst e3 e4 e3' e4'
  have e1:its.toArray[i]?=some (.ref a):=by rw [← e1]; simp
  have e1':its.toArray[j]?=some (.ref a'):=by rw [← e1']; simp
  rw [e1] at h1
  rw [e1'] at h2
  cases h1
  cases h2
  have hsm:=hk.same _ (List.getElem_mem hi) _ (List.getElem_mem hj)
  have g1:keys.getD i []=keys[i]:=by rw [List.getD_eq_getElem?_getD,List.getElem?_eq_getElem hi]; rfl
  have g2:keys.getD j []=keys[j]:=by rw [List.getD_eq_getElem?_getD,List.getElem?_eq_getElem hj]; rfl
  simp only [g1,g2] at q'
  rw [← II _ _ hsm] at q'
  exact richCompare_meets_room (op:=.Lt) ⟨_,hold _ _ e2,rfl⟩ ⟨_,hold _ _ e2',rfl⟩ PySem.F.slot_tuple_lt PySem.F.entry_tuple_lt (PySem.F.args_tuple_lt_2 _ _) (Dn a a' xs xs' n n' dd dd' sl sl' keys[i] keys[j] e5 e5' hsm)
   ⟨hold _ _ e2,hold _ _ e2',show Value.bool (D4 keys[i] keys[j])≠Value.notImplemented/\Q' (.bool (D4 keys[i] keys[j])) s' from⟨(fun x=>nomatch x),q'⟩⟩ (by show X.A.units+1<cLine; omega)
 ·obtain⟨b1,b2⟩:=Gg keys (its.toArray.size - 1)
  rw [List.size_toArray] at hv b1 b2
  have hj:argBest (fun i j=>BM (keys.getD i []) (keys.getD j [])) (its.length - 1)<vs.length:=by omega
  obtain⟨u,e1,ru⟩:=r'.get (List.getElem?_eq_getElem hj)
  have e2:its.toArray[argBest (fun i j=>BM (keys.getD i []) (keys.getD j [])) (its.length - 1)]?=some u:=by rw [← e1]; simp
  rw [e2] at hv
  cases hv
  exact⟨_,H,I.kept (t':=tk') hold,ru,q _ _ (List.getElem?_eq_getElem hj) fun i hi=>b2 i (by omega)⟩
end
end L2
namespace Dp
open PySem PySem.Spec PyProof.Rows L2
noncomputable def Q_(ds:List D)(P:D->Prop):Prop:=∃xs,ds=[.lst xs]/\0<xs.length/\Keyed A0 xs/\∀x∈xs,(∀y∈xs,∀kx ky,A0 x=some kx->A0 y=some ky->BM ky kx=false)->P x
theorem Se{K:Frag}:CT K .sh (Qw K) Q_:=by
 intro U M H ds vs P Q dom vM hp w q
 obtain⟨xs,rfl,hn,hK,w⟩:=w
 obtain⟨v,rfl,hx⟩:=Ck hp
 obtain⟨a,us,rfl,_,hq,hs⟩:=hx
 obtain⟨keys,hl,hk⟩:=Df hK.1
 have hlen:=hs.length
 refine⟨a,us,keys,rfl,.inl hq,by omega,Eu (fun d k v _=>Ew) hs hK hl hk,fun j v hv hle=>?_⟩
 have hj:j<xs.length:=by rw [← hlen]; exact(List.getElem?_eq_some_iff.mp hv).1
 obtain⟨v',e1,h1⟩:=hs.get (List.getElem?_eq_getElem hj)
 rw [hv] at e1
 cases e1
 refine q v H xs[j] .refl h1 (w _ (List.getElem_mem hj) fun y hy kx ky ex ey=>?_)
 obtain⟨i,hi⟩:=List.mem_iff_getElem?.mp hy
 have hil:i<xs.length:=(List.getElem?_eq_some_iff.mp hi).1
 obtain⟨k1,a1,b1,_⟩:=hk i y hi
 obtain⟨k2,a2,b2,_⟩:=hk j xs[j] (List.getElem?_eq_getElem hj)
 have:=hle i (by omega)
 rw [List.getD_eq_getElem?_getD,List.getD_eq_getElem?_getD,a1,a2] at this
 rw [ey] at b1
 rw [ex] at b2
 cases b1
 cases b2
 exact this
end Dp
namespace L2
open PySem PySem.Spec PyProof.Rows
noncomputable def U_(d:Addr)(o:Obj)(kvs:List (Key×V)):It :=
 ⟨fun i H=>H d=some (.frz o (.dK kvs))/\i<kvs.length,fun i H x H'=>∃T p,x=.ref T/\H T=none/\kvs[i]?=some p/\H'=Ax H T (.tup [kV p.1,p.2]),fun i H=>H d=some (.frz o (.dK kvs))/\kvs.length<=i⟩
theorem SF{P:Program}{w:World}{k:Key}{u:Value}(h:(AR P w).is k u=true):RelV (kV k) u:=by
 rcases Aw h with ⟨i,t,rfl,rfl⟩ | ⟨x,t,rfl,rfl⟩
 ·exact⟨t,rfl⟩
 ·exact⟨t,rfl⟩
theorem IU{X:Cx}{pins:List (Addr×Obj)}{σ:L2.St}{H:Hp}{s:Shared}{d:Addr}{o:Obj}{kvs:List (Key×V)}{es:Array DictEntry}{ep:Nat}(I:Inv X pins σ H s)(h:H d=some (.frz o (.dK kvs)))(hd:o.data=.dict es ep) :
  ∃ws,KV kvs ws/\s.heap.DictAt (AR X.prog X.w) d ws ep:=by
 obtain⟨e0,_,_,ws,kv,o',es',ep',e1,e2,e3,e4⟩:=(show ObjOk X.prog X.w H s.heap d (.frz o (.dK kvs)) from I.hok d _ h)
 rw [e0] at e1
 cases e1
 rw [hd] at e3
 cases e3
 exact⟨ws,kv,o,es,e0,e2,hd,e4⟩
theorem KC{P:Program}{w:World}{K:Frag}{els:List Expr}{j:Nat}{pos:Pos}(d it:Addr)(o:Obj)(kvs:List (Key×V))(es:Array DictEntry)(ep:Nat)(hdat:o.data=.dict es ep) :
  Turn P w K (.Tuple els j pos) (U_ d o kvs) [it] it (fun i h=>∃ok ov,IsItemIter h it d i kvs.length ep ok ov) where
 mem:=by simp
 obj:=fun i h ⟨ok,ov,st⟩ c hc=>by
  rw [List.mem_singleton.mp hc]
  exact⟨_,st,fun v q=>by cases q⟩
 keep:=fun i h h' ⟨ok,ov,st⟩ k=>⟨ok,ov,k it (by simp) _ st⟩
 item:=by
  intro X hP hw hK hc i pins s σ H E I hf st hg
  subst hP hw hK
  obtain⟨hH,hi⟩:=hg
  obtain⟨ok,ov,st⟩:=st
  obtain⟨ws,kv,D⟩:=IU I hH hdat
  have hl:=kv.length
  have hiw:i<ws.length:=by omega
  rw [hl] at st
  obtain⟨k,v,hkv⟩:∃k v,ws[i]=(k,v):=⟨_,_,rfl⟩
  have hx:ws[i]?=some (k,v):=by rw [List.getElem?_eq_getElem hiw,hkv]
  have hp:kvs[i]?=some kvs[i]:=List.getElem?_eq_getElem hi
  obtain⟨ek,rv⟩:=JM kv hp hx
  have ek:kvs[i].1=k:=ek
  refine wpAny_pyNext_items_item st D hx fun key h' hkey hout htup hsz hold=>⟨_,rfl,?_⟩
  refine wpAny_letOwnedTupleGo_items hout fun h2 hit2 hsame=>?_
  have hT:H s.heap.objs.size=none:=I.hok.fresh (Nat.le_refl _)
  have nit:s.heap.objs.size≠it:=Nat.ne_of_gt (Heap.lt_size st)
  have kk:∀c o,c∉[it]->s.heap.get? c=some o->h2.get? c=some o:=fun c o hc e=>by
   have hc:c≠it:=fun z=>hc (by rw [z]; exact List.mem_singleton.mpr rfl)
   exact(hsame.2 c hc).trans (hold c o hc e)
  have I2:Inv X pins σ (Ax H s.heap.objs.size (.tup [kV kvs[i].1,kvs[i].2])) { s with heap:=h2 }:=by
   refine I.turnLaid (t':=s.toks) (ch:=[it]) (fun c hc=>hf c hc) kk (Nat.le_refl _) ?_
   exact⟨by show 2<=sizeLine; decide,[key,v],.cons (SF (by rw [ek]; exact hkey)) (.cons rv .nil),⟨_,(hsame.2 _ nit).trans htup,rfl,_,rfl,rfl,rfl⟩⟩
  refine⟨.ref s.heap.objs.size,_,I2,rfl,⟨_,_,rfl,hT,hp,rfl⟩,⟨key,v,by rw [hl]; exact hit2⟩,fun c hc=>?_⟩
  rw [List.mem_singleton.mp hc,AI (Ne.symm nit)]
  exact(hf it (by simp)).1
 done:=by
  intro X hP hw hK hc i pins s σ H E I hf st hg
  subst hP hw hK
  obtain⟨hH,hi⟩:=hg
  obtain⟨ok,ov,st⟩:=st
  obtain⟨ws,kv,D⟩:=IU I hH hdat
  have hl:=kv.length
  rw [hl] at st
  refine wpAny_pyNext_items_end (I.ok.hd hc) st D (List.getElem?_eq_none (by omega)) fun h' ext=>⟨rfl,?_⟩
  exact I.turnedL (t':=s.toks) (ch:=[it]) (fun c hc=>hf c hc) fun c o hc e=>ext c o (fun z=>hc (by rw [z]; exact List.mem_singleton.mpr rfl)) e
 self:=fun A i s Q E ⟨ok,ov,st⟩ h=>PySem.W.kcp_self st h
noncomputable def SN(to:TE):TI:=fun σ H R=>to σ H fun x H1=>∃d o kvs,x=.ref d/\H1 d=some (.frz o (.dK kvs))/\∀r,H1 r=none->R (U_ d o kvs) (Ax H1 r (.ext fun h=>h.IsItemsView r d))
theorem OD{X:Cx}{e:Expr}{els:List Expr}{j:Nat}{tpos apos cpos:Pos}{to:TE}(ho:PE X e to)(hbase:attributeBase e "items" X.env (eval e X.env)=eval e X.env:=by rfl)(hline:(apos.endLine==cpos.line)=true:=by rfl) :
  PI X (.Tuple els j tpos) (.Call (.Attribute e "items" apos) [] [] cpos) (SN to):=by
 intro pins s σ H R I h
 refine wpAny_Call_method0_late hbase hline (A_ (ho pins s σ H _ I h) fun v s1 ⟨x,H1,I1,r1,d,o,kvs,ex,hd,q⟩=>?_)
 subst ex
 cases r1
 obtain⟨h1,h2,lo⟩:=Oc I1 (.inl ⟨kvs,.inr ⟨o,hd⟩⟩)
 obtain⟨_,_,ws,kv,D⟩:=GV I1.hok (.inr ⟨o,hd⟩)
 refine⟨"dict","dict.items",PySem.F.plainAttrs_dict,PySem.F.slot_dict_items,PySem.F.type_dict_items,h1,h2,Calls.callWith_builtin rfl (PySem.evalArgs_none ?_)⟩
 refine call_meetsIn PySem.F.slot_dict_items D.typeIs PySem.F.entry_dict_items (PySem.F.args_dict_items_1 _) (meets_dict_items (AR X.prog X.w) d lo) ⟨⟨ws,D⟩,?_⟩
 have hf:H1 s1.heap.objs.size=none:=I1.fresh
 have hv:(s1.heap.push { cls:=.type "dict_items",data:=.fields #[.ref d] }).IsItemsView s1.heap.objs.size d:=⟨_,Heap.get?_push_size _ rfl,rfl,rfl⟩
 have I2:Inv X pins σ (Ax H1 s1.heap.objs.size (.ext fun h=>h.IsItemsView s1.heap.objs.size d)) { s1 with heap:=s1.heap.push { cls:=.type "dict_items",data:=.fields #[.ref d] } } :=
  I1.laid (t':=s1.toks) (fun b o e=>Heap.get?_push_of_some _ e) (Nat.le_refl _) ⟨hv,⟨_,Heap.get?_push_size _ rfl⟩,fun h1 h2 ⟨o,e,c⟩ k=>⟨o,k o e,c⟩⟩
 have hd2:(Ax H1 s1.heap.objs.size (.ext fun h=>h.IsItemsView s1.heap.objs.size d)) d=some (.frz o (.dK kvs)):=by rw [AI (Ay hd hf)]; exact hd
 obtain⟨es,ep,hdat⟩:∃es ep,o.data=.dict es ep:=by
  obtain⟨e0,_,_,ws,kv,o',es',ep',e1,e2,e3,e4⟩:=(show ObjOk X.prog X.w H1 s1.heap d (.frz o (.dK kvs)) from I1.hok d _ hd)
  rw [e0] at e1
  cases e1
  exact⟨es',ep',e3⟩
 obtain⟨ws2,kv2,D2⟩:=IU I2 hd2 hdat
 have hl:=kv2.length
 refine wpAny_pyIter_items (s:={ s1 with heap:=s1.heap.push { cls:=.type "dict_items",data:=.fields #[.ref d] } }) hv D2 ?_
 refine⟨_,[(s1.heap.push { cls:=.type "dict_items",data:=.fields #[.ref d] }).objs.size],_,U_ d o kvs,_,rfl,I2.kept (t':=s1.toks) (fun b o e=>Heap.get?_push_of_some _ e),KC d _ o kvs es ep hdat,⟨.none,.none,by rw [hl]; exact Heap.get?_push_size _ rfl⟩,fun c hc=>?_,q _ hf⟩
 rw [List.mem_singleton.mp hc]
 exact I2.fpOk (Nat.le_refl _) I2.fresh
end L2
namespace Dp
open PySem PySem.Spec PyProof.Rows L2
noncomputable def wItems(wa:DW):EA:=fun n ρ P=>wa n ρ fun d n1=>∃ks ds,d=.fdi ks ds/\(∀k∈ks,Li k)/\P (L4 (ks.map Sz) ds) n1
theorem SG(k:Key):kV k=kOf k:=by cases k <;> rfl
section
variable {X:Cx}{a:Expr}{κa:Kd}{wa:DW}{els:List Expr}{j:Nat}{tpos apos cpos:Pos}
theorem Oy(ha:DE X a κa wa)(hbase:attributeBase a "items" X.env (eval a X.env)=eval a X.env:=by rfl)(hline:(apos.endLine==cpos.line)=true:=by rfl):DI X (.Tuple els j tpos) (.Call (.Attribute a "items" apos) [] [] cpos) (wItems wa):=by
 obtain⟨t,a1,a2⟩:=ha
 refine⟨_,OD a1 hbase hline,fun C M H n ρ σ P Rr R w q=>?_⟩
 refine a2 C M H n ρ σ _ _ R w fun v H1 d n1 ee f1 r1 p=>?_
 obtain⟨ks,ds,rfl,hfit,p⟩:=p
 have R1:=R.step ee f1
 obtain⟨ad,vs,rfl,⟨o,nM,hd⟩,hlen,hs⟩:∃a vs,v=.ref a/\NdF M H1 a ks vs/\ks.length=ds.length/\Ats X.K M H1 ds vs:=r1.tpOf R.dom R.vM
 have hl:=hs.length
 refine⟨ad,o,_,rfl,hd,fun r hr=>?_⟩
 have g:Grow H1 (Ax H1 r (.ext fun h=>h.IsItemsView r ad)):=Am hr
 refine q _ _ _ n1 (ee.trans g.ext) (f1.grow g) (fun i M' H' pr dom=>?_) p
 have pr2:Pres M H1 M' H':=g.pres.trans pr
 have hd':H' ad=some (.frz o (.dK (ks.zip vs))):=(pr2.nd nM hd).2
 have zl:(ks.zip vs).length=ks.length:=by rw [List.length_zip]; omega
 have zd:(L4 (ks.map Sz) ds).length=ks.length:=by unfold L4; rw [List.length_zipWith,List.length_map]; omega
 refine⟨fun e he=>?_,fun hle=>⟨hd',by omega⟩⟩
 have hi:i<ks.length:=by rw [← zd]; exact(List.getElem?_eq_some_iff.mp he).1
 have hid:i<ds.length:=by omega
 refine⟨⟨hd',by omega⟩,fun x H2 y=>?_⟩
 obtain⟨T,pp,rfl,hT,hp,rfl⟩:=y
 obtain⟨v',e1,h1⟩:=(hs.pres pr2).get (List.getElem?_eq_getElem hid)
 have e2:(ks.zip vs)[i]?=some (ks[i],v'):=by
  rw [List.getElem?_zip_eq_some]
  exact⟨List.getElem?_eq_getElem hi,e1⟩
 rw [e2] at hp
 cases hp
 have e3:e=.tup [Sz ks[i],ds[i]]:=by
  unfold L4 at he
  rw [List.getElem?_zipWith,List.getElem?_map,List.getElem?_eq_getElem hi,List.getElem?_eq_getElem hid] at he
  exact(Option.some.inj he).symm
 subst e3
 refine⟨Am hT,DH dom hT ⟨_,_,rfl,?_,_,_,rfl,h1,rfl⟩⟩
 show At X.K M' H' (Sz ks[i]) (kV ks[i])
 rw [SG]
 exact SV (hfit _ (List.getElem_mem hi))
end
section
variable {K:Frag}{C:Fm}{M:Addr->Prop}{H H':Hp}{n n':Nat}{ρ:List Slot}{σ:L2.St}
theorem Rel.hold(R:Rel K C M H n ρ σ){p:Addr}{o:HO}(hp:H p=none):Rel K C (fun b=>M b\/b=p) (Ax H p o) n ρ σ:=by
 have g:Grow H (Ax H p o):=Am hp
 have pr:Pres M H (fun b=>M b\/b=p) (Ax H p o):=D5 hp
 refine⟨R.len,fun a z=>.inl (R.sub a z),fun a z=>?_,R.ext.trans g.ext,R.fU,R.uV,fun a z=>.inl (R.vM a z),(R.feed.grow g).more p fun f hf q=>?_,fun i s q=>(R.sl i s q).pres pr (fun _ z=>.inl z) g.ext R.uV,fun q hq=>(R.pin q hq).trans pr,R.br0,R.new,R.two,fun q hq=>?_⟩
 ·rcases z with z | z
  ·obtain⟨u,h1⟩:=R.dom a z
   exact⟨u,g.all a u h1⟩
  ·rw [z]; exact⟨o,AM⟩
 ·obtain⟨_,_,_,_,_,h3,_⟩:=R.feed f hf
  have:=h3.2
  rw [q,hp] at this; cases this
 ·obtain⟨h1,h2,h3,h4⟩:=R.kept q hq
  exact⟨g.all _ _ h1,.inl h2,h3,h4⟩
end
noncomputable def FI(ks:List Key)(k:Key):Bool:=ks.any fun k0=>decide (k0=k)
theorem hasK_iff{ks:List Key}{k:Key}:FI ks k=true↔k∈ks:=by
 unfold FI
 rw [List.any_eq_true]
 exact⟨fun⟨x,hx,e⟩=>by rw [← of_decide_eq_true e]; exact hx,fun h=>⟨k,h,decide_eq_true rfl⟩⟩
noncomputable def B3(ks:List Key)(k:Key):List Key:=if FI ks k=true then ks else ks++[k]
noncomputable def B2{α:Type}(ks:List Key)(ds:List α)(k:Key)(d:α):List α:=if FI ks k=true then List.zipWith (fun k0 d0=>if k0=k then d else d0) ks ds else ds++[d]
theorem Qc{ks:List Key}{vs:List V}(hl:ks.length=vs.length)(k:Key):((ks.zip vs).any fun kv=>decide (kv.1=k))=FI ks k:=by
 rw [Bool.eq_iff_iff,List.any_eq_true,hasK_iff]
 constructor
 ·rintro ⟨⟨a,b⟩,hm,e⟩
  have e:a=k:=of_decide_eq_true e
  rw [← e]
  exact(List.of_mem_zip hm).1
 ·intro h
  obtain⟨i,hi,e⟩:=List.mem_iff_getElem.mp h
  refine⟨(ks[i],vs[i]'(by omega)),?_,by rw [e]; exact decide_eq_true rfl⟩
  exact List.mem_iff_getElem.mpr ⟨i,by rw [List.length_zip]; omega,by rw [List.getElem_zip]⟩
theorem N6{ks:List Key}{vs:List V}(hl:ks.length=vs.length)(k:Key)(v:V):putK (ks.zip vs) k v=(B3 ks k).zip (B2 ks vs k v):=by
 unfold putK B3 B2
 rw [Qc hl]
 by_cases h:FI ks k=true
 ·rw [if_pos h,if_pos h,if_pos h]
  have go:∀(ks:List Key) (vs:List V),((ks.zip vs).map fun kv=>if kv.1=k then (kv.1,v) else kv)=ks.zip (List.zipWith (fun k0 d0=>if k0=k then v else d0) ks vs):=by
   intro ks
   induction ks with
   | nil=>intro vs; rfl
   | cons a ks ih =>
    intro vs
    cases vs with
    | nil=>rfl
    | cons b vs =>
     show (if a=k then (a,v) else (a,b))::_=(a,if a=k then v else b)::_
     exact List.cons_eq_cons.mpr ⟨by split <;> rfl,ih vs⟩
  exact go ks vs
 ·rw [if_neg h,if_neg h,if_neg h,List.zip_append hl]
  rfl
theorem Ats.put{K:Frag}{M:Addr->Prop}{H:Hp}{k:Key}{d:D}{v:V}(hd:At K M H d v):∀{ks:List Key} {ds:List D} {vs:List V},Ats K M H ds vs->Ats K M H (List.zipWith (fun k0 d0=>if k0=k then d else d0) ks ds) (List.zipWith (fun k0 d0=>if k0=k then v else d0) ks vs)
 | [],ds,vs,h=>rfl
 | a::ks,[],vs,h=>by cases (show vs=[] from h); rfl
 | a::ks,e::ds,vs,h=>by
  obtain⟨u,r,rfl,h1,h2⟩:=h
  refine⟨_,_,rfl,?_,Ats.put hd h2⟩
  show At K M H (if a=k then d else e) (if a=k then v else u)
  by_cases e1:a=k
  ·rw [if_pos e1,if_pos e1]; exact hd
  ·rw [if_neg e1,if_neg e1]; exact h1
theorem Ats.putX{K:Frag}{M:Addr->Prop}{H:Hp}{k:Key}{d:D}{v:V}{ks:List Key}{ds:List D}{vs:List V}(hd:At K M H d v)(h:Ats K M H ds vs):Ats K M H (B2 ks ds k d) (B2 ks vs k v):=by
 unfold B2
 split
 ·exact Ats.put hd h
 ·exact h.append (Ats.one hd)
theorem LT{α:Type}{ks:List Key}{ds:List α}{k:Key}{d:α}(hl:ks.length=ds.length):(B3 ks k).length=(B2 ks ds k d).length:=by
 unfold B3 B2
 split
 ·rw [List.length_zipWith]; omega
 ·rw [List.length_append,List.length_append]; show ks.length+1=ds.length+1; omega
theorem G9:∀{ks:List Key} {ds:List D} {k:Key},k∉ks->BI ks ds k=none
 | [],ds,k,_=>by unfold BI; rfl
 | a::ks,[],k,_=>rfl
 | a::ks,d::ds,k,h=>by
  unfold BI
  rw [if_neg (fun e=>h (by rw [e]; exact List.mem_cons_self))]
  exact G9 fun z=>h (List.mem_cons_of_mem _ z)
theorem G8:∀{ks:List Key} {ds:List D} {k:Key},ks.length=ds.length->k∈ks->∃z,BI ks ds k=some z
 | [],ds,k,_,h=>by cases h
 | a::ks,[],k,h,_=>by cases h
 | a::ks,d::ds,k,hl,h=>by
  unfold BI
  by_cases e:a=k
  ·exact⟨d,if_pos e⟩
  ·rw [if_neg e]
   exact G8 (by simpa using hl) ((List.mem_cons.mp h).resolve_left fun z=>e z.symm)
theorem NT{ks:List Key}{ds:List D}{k:Key}{d:D}(hl:ks.length=ds.length)(j:Key):BI (B3 ks k) (B2 ks ds k d) j=if j=k then some d else BI ks ds j:=by
 unfold B3 B2
 by_cases h':FI ks k=true
 ·have h:=hasK_iff.mp h'
  rw [if_pos h',if_pos h']
  have go:∀(ks:List Key) (ds:List D),ks.length=ds.length->(j=k->k∈ks)->BI ks (List.zipWith (fun k0 d0=>if k0=k then d else d0) ks ds) j=if j=k then some d else BI ks ds j:=by
   intro ks
   induction ks with
   | nil =>
    intro ds _ hm
    by_cases e:j=k
    ·exact absurd (hm e) List.not_mem_nil
    ·rw [if_neg e]; cases ds <;> rfl
   | cons a ks ih =>
    intro ds hl hm
    cases ds with
    | nil=>cases hl
    | cons e ds =>
     show (if a=j then some (if a=k then d else e) else BI ks _ j)=if j=k then some d else if a=j then some e else BI ks ds j
     by_cases e1:a=j
     ·rw [if_pos e1,if_pos e1]
      by_cases e2:j=k
      ·rw [if_pos e2,if_pos (e1.trans e2)]
      ·rw [if_neg e2,if_neg (fun z=>e2 (e1.symm.trans z))]
     ·rw [if_neg e1,if_neg e1]
      refine ih ds (by simpa using hl) fun z=>(List.mem_cons.mp (hm z)).resolve_left fun w=>e1 (w.symm.trans z.symm)
  exact go ks ds hl fun _=>h
 ·have h:k∉ks:=fun z=>h' (hasK_iff.mpr z)
  rw [if_neg h',if_neg h']
  have go:∀(ks:List Key) (ds:List D),ks.length=ds.length->k∉ks->BI (ks++[k]) (ds++[d]) j=if j=k then some d else BI ks ds j:=by
   intro ks
   induction ks with
   | nil =>
    intro ds hl _
    cases ds with
    | nil =>
     show (if k=j then some d else none)=if j=k then some d else none
     by_cases e:j=k
     ·rw [if_pos e,if_pos e.symm]
     ·rw [if_neg e,if_neg (fun z=>e z.symm)]
    | cons e ds=>cases hl
   | cons a ks ih =>
    intro ds hl hm
    cases ds with
    | nil=>cases hl
    | cons e ds =>
     show (if a=j then some e else BI (ks++[k]) (ds++[d]) j)=if j=k then some d else if a=j then some e else BI ks ds j
     rw [ih ds (by simpa using hl) fun z=>hm (List.mem_cons_of_mem _ z)]
     by_cases e1:a=j
     ·rw [if_pos e1,if_pos e1,if_neg (fun z=>hm (by rw [← z,← e1]; exact List.mem_cons_self))]
     ·rw [if_neg e1,if_neg e1]
  exact go ks ds hl h
section
variable {X:Cx}{a b e:Expr}{κ κa κb:Kd}{wa wb:DW}{pos pos':Pos}
noncomputable def J9(wk wv:DW):DW:=fun n ρ P=>wk n ρ fun k n1=>wv n1 ρ fun d n2=>∃key,keyOf k=some key/\P (.dic [key] [d]) n2
theorem Jn(ha:DE X a κa wa)(hb:DE X b κb wb)(hk:κb≠.tp:=by intro z; cases z):DE X (.Dict [some a] [b] pos) .fr (J9 wa wb):=by
 obtain⟨t,h1,h2⟩:=ha
 obtain⟨u,g1,g2⟩:=hb
 refine⟨_,Pz (OA h1 g1 Pu) rfl rfl (List.cons_ne_nil _ _) (by show 1<=15; decide),fun C M H n ρ σ P Q R w q=>fun p hp=>?_⟩
 have R1:=R.hold (o:=.dK []) hp
 have np:¬C.U p:=fun z=>by
  obtain⟨o,w⟩:=R.dom p (R.vM p (R.uV p z))
  rw [hp] at w; cases w
 refine h2 C _ _ n ρ σ _ _ R1 w fun x H2 k n1 e1 f1 r1 p1=>?_
 have R2:=R1.step e1 f1
 refine g2 C _ _ n1 ρ σ _ _ R2 p1 fun y H3 d n2 e2 f2 r2 p2=>?_
 obtain⟨key,hkey,p2⟩:=p2
 have R3:=R2.step e2 f2
 have hat:At X.K (fun b=>M b\/b=p) H3 d y:=r2.shOf R2.dom hk
 have hp3:H3 p=some (.dK []):=e2.keep (e1.keep AM np) np
 have hx:x=kV key:=DF hkey (r1.tpOf R1.dom R1.vM)
 refine⟨hp3,[(key,y)],by rw [hx]; rfl,by show 1<=15; decide,?_⟩
 show Q (.ref p) (Ax H3 p (.dK [(key,y)]))
 refine q _ _ (.dic [key] [d]) n2 (fun b o eb=>?_) ?_ ⟨p,rfl,hp,[y],AM,rfl,?_⟩ p2
 ·have nb:b≠p:=Ay eb hp
  obtain⟨o1,z1,k1⟩:=e1 b o (by rw [AI nb]; exact eb)
  obtain⟨o2,z2,k2⟩:=e2 b o1 z1
  exact⟨o2,by rw [AI nb]; exact z2,fun nu=>(k2 nu).trans (k1 nu)⟩
 ·refine f2.pres ⟨fun b o eb nb=>by rw [AI (fun z=>nb (.inr z))]; exact eb,fun b z=>.inl (.inl z)⟩ fun f o hf eb=>?_
  rw [AI (fun z=>np (by rw [← z]; exact R.fU f hf))]
  exact eb
 ·exact⟨y,[],rfl,hat.pres (Dd (.inr rfl)),rfl⟩
noncomputable def Fe(i:Nat)(wk wv:DW):Af:=fun D2 n ρ=>∃ks ds,ρ[i]?=some (.ow (.dic ks ds))/\wv n ρ fun d n1=>wk n1 ρ fun k n2=>∃key,keyOf k=some key/\ks.length<sizeLine/\D2.nx n2 (ρ.set i (.ow (.dic (B3 ks key) (B2 ks ds key d))))
theorem IS{i k:Nat}{x:Expr}(hr:Room k X.A)(hx:PE X x (BR i))(ha:DE X a κa wa)(hb:DE X b κb wb)(hk:κb≠.tp:=by intro z; cases z)
  (hs:swapsWith b (some (.Subscript x a pos')) pos.line X.env=pure false:=by rfl):DS X κ (.Assign [.Subscript x a pos'] b pos) (Fe i wa wb):=by
 obtain⟨t,h1,h2⟩:=ha
 obtain⟨u,g1,g2⟩:=hb
 refine⟨_,FR (Jh hr) hx h1 g1 hs,fun C M H n ρ σ D2 E R L w=>?_⟩
 obtain⟨ks,ds,hd,w⟩:=w
 refine g2 C M H n ρ σ _ _ R w fun v H1 d n1 e1 f1 r1 p=>?_
 have R1:=R.step e1 f1
 obtain⟨ad,ea,m,nv,tt⟩:=R1.sl i _ hd
 refine⟨.ref ad,getD_some ea,?_⟩
 refine h2 C M H1 n1 ρ σ _ _ R1 p fun y H2 kk n2 e2 f2 r2 p=>?_
 obtain⟨key,hkey,hlt,p⟩:=p
 have R2:=R1.step e2 f2
 obtain⟨ad',ea',m',nv',tt'⟩:=R2.sl i _ hd
 rw [ea] at ea'
 cases ea'
 obtain⟨vs,hH,hl,hs'⟩:=tt'
 have hat:At X.K M H2 d v:=(r1.shOf R.dom hk).pres (R1.pres e2)
 have hvl:ks.length=vs.length:=by rw [hl,hs'.length]
 refine⟨ad,_,rfl,by rw [DF hkey (r2.tpOf R1.dom R1.vM)]; exact DPut.k hH (by rw [List.length_zip]; omega),L.nx M _ n2 _ σ (R2.mut (e:=.dic (B3 ks key) (B2 ks ds key d)) hd ea ⟨B2 ks vs key v,by rw [AM,N6 hvl],LT hl,(hs'.putX hat).pres (Dd m')⟩) p⟩
noncomputable def S6:D->Option Bool
 | .lst xs=>some (!xs.isEmpty)
 | .tup xs=>some (!xs.isEmpty)
 | .bl b=>some b
 | .non=>some false
 | _=>none
noncomputable def RL(wa:DW):FN:=fun n ρ P=>wa n ρ fun d n1=>∃c,S6 d=some c/\P c n1
theorem Hj{K:Frag}{M:Addr->Prop}{H:Hp}{ds:List D}{vs:List V}(h:Ats K M H ds vs):vs.isEmpty=ds.isEmpty:=by
 have:=h.length
 cases vs <;> cases ds <;> first | rfl | cases this
theorem RR{U M:Addr->Prop}{H:Hp}{K:Frag}{d:D}{x:V}{c:Bool}(h:AtT K U M H d x)(e:S6 d=some c):Sl K x H c:=by
 cases d with
 | lst ds=>cases e; obtain⟨a,vs,rfl,_,hq,hs⟩:=h; exact .inl ⟨vs,.inl hq,by rw [Hj hs]⟩
 | tup ds=>cases e; obtain⟨a,vs,rfl,hq,hs⟩:=h; exact .inr (.inl ⟨vs,.inl (.inl hq.2),by rw [Hj hs]⟩)
 | bl b=>cases e; rw [h.bl]; exact rfl
 | non=>cases e; rw [show x=.non from h]; exact rfl
 | _=>cases e
theorem SS(h:DE X e κ wa)(he:∀whole,isTrue e X.env whole=(do let v ← whole; standAt e.pos; holding [v] (truthy v)):=by intro _; rfl):DT X e (RL wa):=by
 obtain⟨t,h1,h2⟩:=h
 refine⟨_,N7 h1 he,fun C M H n ρ σ P Q R w q=>?_⟩
 refine h2 C M H n ρ σ _ _ R w fun v H' d n' e1 f1 r1 p=>?_
 obtain⟨c,hc,p⟩:=p
 exact⟨c,RR (r1.tpOf R.dom R.vM) hc,q c H' n' e1 f1 p⟩
noncomputable def FK(neg:Bool)(d e:D)(P:D->Prop):Prop:=e=.non/\P (.bl (if neg then !Jf d else Jf d))
theorem Lz{K:Frag}:Eh K .sh (fun x y H Q=>y=.non/\Q (.bl (decide (x=.non))) H) (FK false):=fun U M H d e x y P Q dom vM hx hy w q=>by
 obtain⟨rfl,w⟩:=w
 exact⟨hy,q _ H (.bl (Jf d)) .refl (by rw [Je hx]; rfl) w⟩
theorem K7{K:Frag}:Eh K .sh (fun x y H Q=>y=.non/\Q (.bl (!decide (x=.non))) H) (FK true):=fun U M H d e x y P Q dom vM hx hy w q=>by
 obtain⟨rfl,w⟩:=w
 exact⟨hy,q _ H (.bl (!Jf d)) .refl (by rw [Je hx]; rfl) w⟩
variable {apos cpos:Pos}{f:Expr}{κf:Kd}{wf:DW}
noncomputable def Qj(wa wk:DW):DW:=fun n ρ P=>wa n ρ fun d n1=>∃ks ds,HU d=some (ks,ds)/\wk n1 ρ fun k n2=>∃key,keyOf k=some key/\P ((BI ks ds key).getD .non) n2
theorem RM{U M:Addr->Prop}{H:Hp}{K:Frag}{d z:D}{x v:V}{ks:List Key}{ds:List D}{key:Key}(e:HU d=some (ks,ds))(h:AtT K U M H d x)(hz:At K M H z v):∃a o,x=.ref a/\DGet H a (kV key) o/\At K M H ((BI ks ds key).getD z) (o.getD v):=by
 obtain⟨a,vs,rfl,ha,hs⟩:=IV e h
 refine⟨a,CV (ks.zip vs) key,rfl,IX ha,?_⟩
 have h:=FP (k:=key) (ks:=ks) hs
 cases c:BI ks ds key with
 | none=>rw [c] at h; rw [show CV (ks.zip vs) key=none from h]; exact hz
 | some y=>rw [c] at h; obtain⟨u,h1,h2⟩:=h; rw [h1]; exact h2
theorem SL{U M:Addr->Prop}{H:Hp}{K:Frag}{d:D}{x:V}{ks:List Key}{ds:List D}(e:HU d=some (ks,ds))(h:AtT K U M H d x):∃a,x=.ref a/\VA H a:=by
 obtain⟨a,vs,rfl,ha,hs⟩:=IV e h
 exact⟨a,rfl,.inl ⟨_,ha⟩⟩
theorem QX{k:Nat}(hr:Room k X.A)(ha:DE X a κa wa)(hb:DE X b κb wb)(m:M1 X a "get" apos b cpos:=by exact⟨rfl,rfl,rfl,rfl⟩):DE X (.Call (.Attribute a "get" apos) [b] [] cpos) .sh (Qj wa wb):=by
 obtain⟨t,h1,h2⟩:=ha
 obtain⟨u,g1,g2⟩:=hb
 refine⟨_,OF (Jh hr) h1 g1 m,fun C M H n ρ σ P Q R w q=>?_⟩
 refine h2 C M H n ρ σ _ _ R w fun v H1 d n1 e1 f1 r1 p=>?_
 obtain⟨ks,ds,hd,p⟩:=p
 have R1:=R.step e1 f1
 obtain⟨ad,rfl,hI⟩:=SL hd (r1.tpOf R.dom R.vM)
 refine⟨ad,rfl,hI,?_⟩
 refine g2 C M H1 n1 ρ σ _ _ R1 p fun y H2 kk n2 e2 f2 r2 p=>?_
 obtain⟨key,hkey,p⟩:=p
 have R2:=R1.step e2 f2
 have hat:=(r1.tpOf R.dom R.vM).pres (R1.pres e2) e2 R.uV
 obtain⟨ad',o,ex,g,hz⟩:=RM (key:=key) hd hat (z:=.non) (v:=.non) rfl
 cases ex
 exact⟨o,by rw [DF hkey (r2.tpOf R1.dom R1.vM)]; exact g,q _ H2 _ n2 (e1.trans e2) f2 hz p⟩
end
end Dp
namespace L2
open PySem PySem.Spec PyProof.Rows
open AutoSeq1 (wpAny_loadPart')
theorem MZ:typeLookup (.type "list_reverseiterator") "__len__"=pure none:=by rw [typeLookup_type,builtinLookup_eq_fast]; kernel_rfl
theorem Oe:typeLookup (.type "list_reverseiterator") "__length_hint__"=pure (some (.builtin "list_reverseiterator.__length_hint__")):=by rw [typeLookup_type,builtinLookup_eq_fast]; kernel_rfl
theorem boot_reversed:bootBuiltins "reversed"=some (.type "reversed"):=by decide +kernel
section
variable {prog:Program}{w:World}{A:Around}{E:Value->Shared->Prop}{s:Shared}{I:Addr}{fp wr:List Addr}{G:Array GenState->Array GenState->Prop}{n:Nat}{P:Nat->Value->Prop}{St:Nat->Shared->Prop}
theorem Jq{Q:List Value->Shared->Prop}
  (W:WalksS prog w A.in1 I fp wr G n P St) (hT:∀i s,St i s->s.TypeIs (.ref I) "list_reverseiterator") (hst:St 0 s) (hfp:∀b∈fp,b<s.heap.objs.size) (hI:I∈fp)
  (hQ:∀s' acc,Moved wr G s s'->ItemsOf P acc n->Q acc.toList s') (hn:n<=sizeLine):wpAny (model prog w) A (collect (.ref I)) Q E s:=by
 have hSf:s.heap.objs.size∉fp:=fun hm=>Nat.lt_irrefl _ (hfp _ hm)
 have hSI:s.heap.objs.size≠I:=fun e=>hSf (e▸hI)
 unfold collect
 refine wpAny_bind (wpAny_runValue (codeAny_builtin F.entry_proto_collect ?_))
 rw [Around.under_plainId F.plain_proto_collect _]
 show wpAny _ A.in1 (newList [] >>= fun l=>again (.builtin "list.__iadd__" ⟨[l,.ref I],[]⟩)) _ _ s
 refine wpAny_bind (wpAny_newObj_type ?_)
 refine wpAny_pure ⟨plainId_quiet F.plain_list_iadd _,codeAny_builtin F.entry_list_iadd ?_⟩
 rw [Around.under_plainId F.plain_list_iadd _]
 have hst₁:=W.frame 0 s (s.heap.push { cls:=.type "list",data:=.seq ([]:List Value).toArray }) s.toks hst (Nat.le_refl _) fun b _ o e=>Heap.get?_push_of_some _ e
 have hS₁:(s.heap.push { cls:=.type "list",data:=.seq ([]:List Value).toArray }).get? s.heap.objs.size=some { cls:=.type "list",data:=.seq ([]:List Value).toArray }:=Heap.get?_push_size _ rfl
 have h1:Builtin.List.listSameRef (.ref s.heap.objs.size) (.ref I)=false:=by simp [Builtin.List.listSameRef,hSI]
 show wpAny _ A.in1 (Builtin.List.listExtendWith (.ref s.heap.objs.size) (.ref I) (.ref s.heap.objs.size)) _ _ _
 unfold Builtin.List.listExtendWith
 refine wpAny_bind (wpAny_typeOf (hT 0 _ hst₁) ?_)
 rw [if_neg (by rw [h1]; decide)]
 refine wpAny_bind (W.self 0 _ _ _ hst₁ ?_)
 refine wpAny_bind (wpAny_holding ?_)
 unfold Builtin.List.listLengthHint
 refine wpAny_bind (wpAny_specialOf (hT 0 _ hst₁) MZ ?_)
 show wpAny _ A.in1 (specialOf (Value.ref I) (Str.ofString "__length_hint__") >>= _) _ _ _
 refine wpAny_bind (wpAny_specialOf (hT 0 _ hst₁) Oe ?_)
 (generalize hid:("list_reverseiterator.__length_hint__" : String)=id0; wp_delta; rw [show splitId id0=some ("list_reverseiterator","__length_hint__") from by subst hid; decide +kernel]; subst hid)
 refine wpAny_bind (wpAny_isInstance (b:=true) (hT 0 _ hst₁) (by rw [isSubtype_type]; kernel_rfl) ?_)
 refine wpAny_pure ?_
 rw [if_neg (by decide)]
 refine wpAny_pure ⟨plainId_quiet F.plain_extend_loop _,codeAny_extend_loopS W hn _ hSf _ n 0 _ _ _ rfl (Nat.zero_le _) hst₁ hS₁ (ItemsOf.nil P) fun s' acc' c' hm hS' hacc=>?_⟩
 show wpAny _ A (load s.heap.objs.size >>= _) _ _ s'
 refine wpAny_bind (wpAny_load hS' ?_)
 exact wpAny_pure (hQ s' acc' (Moved.drop_new (o:={ cls:=.type "list",data:=.seq ([]:List Value).toArray }) (tk:=s.toks) hm (Nat.le_refl _)) hacc)
theorem GY{Q₁:Value->Shared->Prop}(W:WalksS prog w A.in1.in1 I fp wr G n P St)(hT:∀i s,St i s->s.TypeIs (.ref I) "list_reverseiterator")(hst:St 0 s)(hfp:∀b∈fp,b<s.heap.objs.size)(hI:I∈fp)
  (h:∀s' acc,Moved wr G s s'->ItemsOf P acc n->Q₁ (.ref s'.heap.objs.size) { s' with heap:=s'.heap.push { cls:=.type "tuple",data:=.seq acc } }) (hsz:n<=sizeLine) :
  codeAny (model prog w) A (.call (.builtin "tuple.__new__") ⟨[.type "tuple",.ref I],[]⟩) (wants Q₁ E) s:=by
 refine codeAny_of_tree ?_
 show wpAny _ A.in1 (do checkBuiltinCall "tuple.__new__" ⟨[.type "tuple",.ref I],[]⟩; again (.builtin "tuple.__new__" ⟨[.type "tuple",.ref I],[]⟩)) _ _ s
 refine wpAny_bind (wpAny_of_eq (F.newCall_tuple_1 _) (wpAny_pure ⟨plainId_quiet F.plain_tuple_new _,codeAny_builtin F.entry_tuple_new ?_⟩))
 rw [Around.under_plainId F.plain_tuple_new _]
 have hsub:=sub_tuple_self
 have hinit:=init_tuple_lookup
 have hmh:=madeHere_tuple
 have hTI:=hT 0 s hst
 wp_walk using wpAny_typeOf hTI,Jq (hn:=hsz) W hT hst hfp hI
 intro s' acc hm hacc
 show wpAny _ _ (Builtin.Tuple.tupleExact acc.toList.toArray >>= fun v=>ret v) _ _ _
 unfold Builtin.Tuple.tupleExact
 refine wpAny_bind (wpAny_newObj_type ?_ (by show acc.toList.toArray.size<=sizeLine; simp only [Array.toArray_toList]; rw [hacc.1]; exact hsz))
 refine wpAny_pure ?_
 have e:acc.toList.toArray=acc:=by simp
 rw [e]
 exact h s' acc hm hacc
theorem Gb{Q:Value->Shared->Prop}(W:WalksS prog w A.in1.in1.in1 I fp wr G n P St)(hT:∀i s,St i s->s.TypeIs (.ref I) "list_reverseiterator")(hst:St 0 s)(hfp:∀b∈fp,b<s.heap.objs.size)(hI:I∈fp)
  (hQ:∀s' acc,Moved wr G s s'->ItemsOf P acc n->Q (.ref s'.heap.objs.size) { s' with heap:=s'.heap.push { cls:=.type "tuple",data:=.seq acc } }) (hsz:n<=sizeLine) :
  wpAny (model prog w) A (call (.type "tuple") [.ref I]) Q E s:=by
 refine callType_codes (Q₁:=fun obj s₁=>s₁.TypeIs obj "tuple"/\Q obj s₁) F.called_tuple (F.typeCall_tuple_1 _) F.entry_object_init
  (GY (hsz:=hsz) W hT hst hfp hI fun s' acc hm hacc=>⟨⟨_,Heap.get?_push_size _ rfl,rfl⟩,hQ s' acc hm hacc⟩) fun obj s₁ h₁=>?_
 exact⟨h₁.1,F.args_object_init_2 obj _,object_init_meets F.called_tuple.init.lookup F.called_tuple.made (by decide) prog w A.in1 _ s₁ ⟨h₁.1,rfl,h₁.2⟩⟩
end
section
variable {X:Cx}{e:Expr}{te:TE}{p1 p2 q1 q2:Pos}
noncomputable def Pf(K:Frag)(te:TE):TE:=fun σ H Q=>te σ H fun x H1=>∃l xs,x=.ref l/\SqL K H1 l xs/\∀r,H1 r=none->Q (.ref r) (Ax H1 r (.tup xs.reverse))
theorem MR(hc:X.calm=true)(he:PE X e te)(hg1:Gl X "tuple")(hm1:X.mg "tuple"=none)(hg2:Gl X "reversed")(hm2:X.mg "reversed"=none)(h1:starEach [Expr.Call (.Name "reversed" p2) [e] [] q2] X.env=[(false,eval (Expr.Call (.Name "reversed" p2) [e] [] q2) X.env)]:=by rfl)
  (h2:starEach [e] X.env=[(false,eval e X.env)]:=by rfl):PE X (.Call (.Name "tuple" p1) [.Call (.Name "reversed" p2) [e] [] q2] [] q1) (Pf X.K te):=by
 intro pins s σ H Q I h
 refine wpAny_Call_Name_kw (CN I hg1 hm1 boot_tuple ?_)
 refine PyProof.Rows.callWith_type1 ?_ h1 rfl
 rw [h1]
 refine Calls.spliced_cons ?_
 refine wpAny_Call_Name_kw (CN I hg2 hm2 boot_reversed ?_)
 refine PyProof.Rows.callWith_type1 ?_ h2 rfl
 rw [h2]
 refine Calls.spliced_cons (A_ (he pins s σ H _ I h) fun u s1 ⟨x,H1,I1,r1,l,xs,ex,hq,q⟩=>Calls.spliced_nil ?_)
 subst ex
 cases r1
 obtain⟨its,r',pl,hz⟩:=I1.list hq
 have hlen:=r'.length
 have hl:s1.heap.IsList l its.toArray:=pl.isList
 have hlt:l<s1.heap.objs.size:=by obtain⟨_,e,_⟩:=id hl; exact Heap.lt_size e
 refine call_reversed_list hl (Calls.spliced_nil ?_)
 have hn1:H1 s1.heap.objs.size=none:=I1.fresh
 have I2:Inv X pins σ H1 { s1 with heap:=s1.heap.push (revObj l ((its.toArray.size:Int) - 1)) }:=I1.kept (t':=s1.toks) fun b o e=>Heap.get?_push_of_some _ e
 have fpk:Eg X pins H1 s1.heap.objs.size:=I1.fpOk (Nat.le_refl _) hn1
 refine Gb (s:={ s1 with heap:=s1.heap.push (revObj l ((its.toArray.size:Int) - 1)) }) (Walks.listRev (A:=X.A.in1.in1.in1) (I1.ok.hd hc) s1.heap.objs.size l (Nat.ne_of_lt hlt) its.toArray).toS (fun i s' hs=>hs.2.1.typeIs) ⟨Nat.zero_le _,⟨_,Heap.get?_push_size _ rfl,rfl,by show Data.fields _=_; simp [revObj]⟩,hl.push _⟩ (fun b hb=>?_) List.mem_cons_self (fun s' acc hm hacc=>?_) (by rw [List.size_toArray,← hlen]; exact hz)
 ·rcases List.mem_cons.mp hb with rfl | hb
  ·exact Heap.lt_size (Heap.get?_push_size _ rfl)
  ·obtain rfl:=List.mem_singleton.mp hb
   exact Nat.lt_of_lt_of_le hlt (by show s1.heap.objs.size<=(s1.heap.push _).objs.size; rw [size_push']; exact Nat.le_succ _)
 ·obtain⟨h',g',d',tk',os'⟩:=s'
  have e1:g'=s1.gens:=hm.gens
  have e2:d'=s1.drawn:=hm.drawn
  have e3:os'=s1.os:=hm.os
  subst e1 e2 e3
  have I3':=I2.turnedL (h':=h') (t':=tk') (ch:=[s1.heap.objs.size]) (fun c hc=>by rw [List.mem_singleton.mp hc]; exact fpk) fun b o hb e=>hm.heap b o hb e
  have I3:Inv X pins σ H1 { s1 with heap:=h',toks:=tk' }:=I3'
  have hv:acc.toList=its.reverse:=by
   refine List.ext_getElem? fun i=>?_
   obtain⟨a1,a2⟩:=hacc
   have e0:acc.toList[i]?=acc[i]?:=by simp
   rw [e0]
   by_cases hi:i<its.length
   ·have hi2:i<acc.size:=by rw [a1,List.size_toArray]; exact hi
    have a3:=a2 i acc[i] (Array.getElem?_eq_getElem hi2)
    rw [List.getElem?_reverse hi,Array.getElem?_eq_getElem hi2,← a3,List.size_toArray]
    simp
   ·rw [List.getElem?_eq_none (by rw [List.length_reverse]; omega)]
    exact Array.getElem?_eq_none (by rw [a1,List.size_toArray]; omega)
  have hv2:acc=its.reverse.toArray:=by rw [← hv]
  have rr:Vals xs.reverse its.reverse:=r'.reverse
  refine⟨.ref h'.objs.size,Ax H1 h'.objs.size (.tup xs.reverse),I3.laid (t':=tk') (fun b o e=>Heap.get?_push_of_some _ e) (Nat.le_refl _) (show ObjOk X.prog X.w _ _ _ (.tup xs.reverse) from⟨by rw [List.length_reverse]; exact hz,its.reverse,rr,by rw [hv2]; exact IsTupN.new _ _⟩),rfl,q _ (I3.hok.fresh (Nat.le_refl _))⟩
end
end L2
namespace Dp
open PySem PySem.Spec PyProof.Rows L2
noncomputable def LC(wa:DW):DW:=fun n ρ P=>wa n ρ fun d n1=>∃xs,d=.lst xs/\P (.tup xs.reverse) n1
section
variable {X:Cx}{a:Expr}{κa:Kd}{wa:DW}{p1 p2 q1 q2:Pos}
theorem M_(hc:X.calm=true)(ha:DE X a κa wa)(hg1:Gl X "tuple")(hm1:X.mg "tuple"=none)(hg2:Gl X "reversed")(hm2:X.mg "reversed"=none)(h1:starEach [Expr.Call (.Name "reversed" p2) [a] [] q2] X.env=[(false,eval (Expr.Call (.Name "reversed" p2) [a] [] q2) X.env)]:=by rfl)
  (h2:starEach [a] X.env=[(false,eval a X.env)]:=by rfl):DE X (.Call (.Name "tuple" p1) [.Call (.Name "reversed" p2) [a] [] q2] [] q1) .sh (LC wa):=by
 obtain⟨t,a1,a2⟩:=ha
 refine⟨_,MR hc a1 hg1 hm1 hg2 hm2 h1 h2,fun C M H n ρ σ P Q R w q=>?_⟩
 refine a2 C M H n ρ σ _ _ R w fun v H1 d n1 e1 f1 r1 p=>?_
 obtain⟨xs,rfl,p⟩:=p
 have R1:=R.step e1 f1
 obtain⟨ad,vs,rfl,nV,hq,hs⟩:=r1.tpOf R.dom R.vM
 refine⟨ad,vs,rfl,.inl hq,fun r hr=>?_⟩
 have g:Grow H1 (Ax H1 r (.tup vs.reverse)):=Am hr
 exact q _ _ (.tup xs.reverse) n1 (e1.trans g.ext) (f1.grow g) (DH R1.dom hr (hs.reverse)) p
end
end Dp
namespace Nt
open PySem PySem.Spec PyProof.Rows L2 Dp
noncomputable def Ed(N:Net)(x y:Str)(l:Int):Prop:=(y,l)∈D_ N.ts x
inductive Wk (N:Net) (s:Str):Str->Int->Prop
 | nil:Wk N s s 0
 | snoc {x y:Str} {d l:Int}:Wk N s x d->Ed N x y l->Wk N s y (d+l)
noncomputable def Gn(N:Net)(s x:Str)(d:Int):Prop:=Wk N s x d/\∀d',Wk N s x d'->d<=d'
theorem Ed.pos{N:Net}(ok:N.Ok){x y:Str}{l:Int}(h:Ed N x y l):1<=l/\l<=1000000:=by
 obtain⟨_,h1,h2,_⟩:=IH ok h
 exact⟨h1,h2⟩
theorem Ed.ins{N:Net}(ok:N.Ok){x y:Str}{l:Int}(h:Ed N x y l):y∈N.ps:=(IH ok h).1
theorem Wk.pos{N:Net}(ok:N.Ok){s x:Str}{d:Int}(h:Wk N s x d):0<=d:=by
 induction h with
 | nil=>exact Int.le_refl _
 | snoc _ he ih=>have:=he.pos ok; omega
theorem Ie{N:Net}{s:Str}{F:Str->Option Int}(h0:∃d,F s=some d/\d<=0)(hw:∀x d,F x=some d->Wk N s x d)(hc:∀x d y l,F x=some d->Ed N x y l->∃d',F y=some d'/\d'<=d+l) :
  (∀x d,F x=some d->Gn N s x d)/\∀x d,Wk N s x d->F x≠none:=by
 have main:∀x d,Wk N s x d->∃d',F x=some d'/\d'<=d:=by
  intro x d h
  induction h with
  | nil=>exact h0
  | snoc _ he ih =>
   obtain⟨d1,e1,h1⟩:=ih
   obtain⟨d2,e2,h2⟩:=hc _ _ _ _ e1 he
   exact⟨d2,e2,by omega⟩
 refine⟨fun x d e=>⟨hw x d e,fun d' h=>?_⟩,fun x d h e=>?_⟩
 ·obtain⟨d1,e1,h1⟩:=main x d' h
  rw [e] at e1
  cases e1
  exact h1
 ·obtain⟨d1,e1,_⟩:=main x d h
  rw [e] at e1
  cases e1
theorem Lr{N:Net}{t:A7}(ht:t∈N.ts):Ed N t.a t.b t.len/\Ed N t.b t.a t.len:=by
 constructor
 ·exact List.mem_flatMap.mpr ⟨t,ht,List.mem_append_left _ (by rw [if_pos rfl]; exact List.mem_singleton.mpr rfl)⟩
 ·exact List.mem_flatMap.mpr ⟨t,ht,List.mem_append_right _ (by rw [if_pos rfl]; exact List.mem_singleton.mpr rfl)⟩
theorem Ed.tie{N:Net}(ok:N.Ok){x y:Str}{l:Int}(h:Ed N x y l):∃t∈N.ts,t.len=l/\((t.a=x/\t.b=y)\/(t.b=x/\t.a=y)):=by
 obtain⟨_,_,_,t,ht,e,h⟩:=IH ok h
 exact⟨t,ht,e,h⟩
structure Dmap (ks:List Key) (ds:List D) (Cb:α->D) (F:Str->Option α):Prop where
 len:ks.length=ds.length
 at_:∀x:Str,BI ks ds (.inr x)=(F x).map Cb
 dom:∀k∈ks,∃x:Str,k=.inr x
 nd:ks.Nodup
theorem Dmap.mem{α:Type}{ks:List Key}{ds:List D}{Cb:α->D}{F:Str->Option α}(h:Dmap ks ds Cb F)(x:Str):(.inr x∈ks)↔F x≠none:=by
 constructor
 ·intro hm e
  obtain⟨z,hz⟩:=G8 h.len hm
  rw [h.at_,e] at hz
  cases hz
 ·intro hn
  by_cases hm:(Sum.inr x:Key)∈ks
  ·exact hm
  ·have:=G9 (ds:=ds) hm
   rw [h.at_] at this
   cases e:F x with
   | none=>exact absurd e hn
   | some a=>rw [e] at this; cases this
theorem Dmap.one{α:Type}{Cb:α->D}{s:Str}{a:α}:Dmap [.inr s] [Cb a] Cb (fun x=>if x=s then some a else none):=by
 refine⟨rfl,fun x=>?_,fun k hk=>⟨s,List.mem_singleton.mp hk⟩,List.nodup_cons.mpr ⟨List.not_mem_nil,List.nodup_nil⟩⟩
 show (if (Sum.inr s:Key)=.inr x then some (Cb a) else none)=(if x=s then some a else none).map Cb
 by_cases e:x=s
 ·rw [if_pos e,if_pos (by rw [e])]; rfl
 ·rw [if_neg e,if_neg (fun z=>e (Sum.inr.inj z).symm)]; rfl
noncomputable def Fs{α:Type}(F:Str->Option α)(x:Str)(a:α):Str->Option α:=fun y=>if y=x then some a else F y
theorem Bw{α:Type}{F:Str->Option α}{x:Str}{a:α}:Fs F x a x=some a:=if_pos rfl
theorem Bn{α:Type}{F:Str->Option α}{x y:Str}{a:α}(h:y≠x):Fs F x a y=F y:=if_neg h
theorem Dmap.put{α:Type}{ks:List Key}{ds:List D}{Cb:α->D}{F:Str->Option α}(h:Dmap ks ds Cb F)(x:Str)(a:α):Dmap (B3 ks (.inr x)) (B2 ks ds (.inr x) (Cb a)) Cb (Fs F x a):=by
 refine⟨LT h.len,fun y=>?_,fun k hk=>?_,?_⟩
 ·rw [NT h.len]
  unfold Fs
  by_cases e:y=x
  ·rw [if_pos e,if_pos (by rw [e])]; rfl
  ·rw [if_neg e,if_neg (fun z=>e (Sum.inr.inj z)),h.at_]
 ·unfold B3 at hk
  split at hk
  ·exact h.dom k hk
  ·rcases List.mem_append.mp hk with hk | hk
   ·exact h.dom k hk
   ·exact⟨x,List.mem_singleton.mp hk⟩
 ·unfold B3
  split
  ·exact h.nd
  ·rename_i hn
   rw [List.nodup_append]
   refine⟨h.nd,List.nodup_cons.mpr ⟨List.not_mem_nil,List.nodup_nil⟩,fun a ha b hb e=>hn (hasK_iff.mpr ?_)⟩
   rw [← List.mem_singleton.mp hb,← e]
   exact ha
theorem Dmap.le{α:Type}{ks:List Key}{ds:List D}{Cb:α->D}{F:Str->Option α}(h:Dmap ks ds Cb F){ps:List Str}(hp:∀x,F x≠none->x∈ps):ks.length<=ps.length:=by
 have:∀(ks:List Key) (ps:List Str),ks.Nodup->(∀k∈ks,∃x:Str,k=.inr x/\x∈ps)->ks.length<=ps.length:=by
  intro ks
  induction ks with
  | nil=>intro ps _ _; exact Nat.zero_le _
  | cons k ks ih =>
   intro ps hn hm
   obtain⟨x,rfl,hx⟩:=hm k List.mem_cons_self
   have hn:=List.nodup_cons.mp hn
   have h1:=ih (ps.erase x) hn.2 fun j hj=>by
    obtain⟨y,rfl,hy⟩:=hm j (List.mem_cons_of_mem _ hj)
    refine⟨y,rfl,(List.mem_erase_of_ne fun e=>?_).mpr hy⟩
    rw [e] at hj
    exact hn.1 hj
   rw [List.length_erase_of_mem hx] at h1
   have:=List.length_pos_of_mem hx
   rw [List.length_cons]
   omega
 refine this ks ps h.nd fun k hk=>?_
 obtain⟨x,rfl⟩:=h.dom k hk
 exact⟨x,rfl,hp x ((h.mem x).mp hk)⟩
noncomputable abbrev J4:=Str->Option (Int×Option Str)
structure Dj (N:Net) (s:Str) (F:J4) (Wt:List Str):Prop where
 start:F s=some (0,none)
 ins:∀x,F x≠none->x∈N.ps
 wk:∀x d p,F x=some (d,p)->Wk N s x d
 prev:∀x d p,F x=some (d,p)->(p=none/\x=s)\/∃y dy q l,p=some y/\F y=some (dy,q)/\y∉Wt/\Ed N y x l/\d=dy+l
 wfound:∀x∈Wt,F x≠none
 nd:Wt.Nodup
 done:∀x d p y l,F x=some (d,p)->x∉Wt->Ed N x y l->∃dy q,F y=some (dy,q)/\dy<=d+l
 near:∀x d p y dy q,F x=some (d,p)->x∉Wt->F y=some (dy,q)->y∈Wt->d<=dy
theorem Dj.init{N:Net}{s:Str}(hs:s∈N.ps):Dj N s (fun x=>if x=s then some (0,none) else none) [s]:=by
 have iff:∀x d p,(if x=s then some ((0:Int),(none:Option Str)) else none)=some (d,p)->x=s/\d=0/\p=none:=fun x d p e=>by
  by_cases h:x=s
  ·rw [if_pos h] at e; cases e; exact⟨h,rfl,rfl⟩
  ·rw [if_neg h] at e; cases e
 refine⟨if_pos rfl,fun x e=>?_,fun x d p e=>?_,fun x d p e=>?_,fun x hx=>?_,List.nodup_cons.mpr ⟨List.not_mem_nil,List.nodup_nil⟩,fun x d p y l e hx=>?_,fun x d p y dy q e hx=>?_⟩
 ·by_cases h:x=s
  ·rw [h]; exact hs
  ·exact absurd (if_neg h) e
 ·obtain⟨rfl,rfl,rfl⟩:=iff x d p e
  exact .nil
 ·obtain⟨rfl,rfl,rfl⟩:=iff x d p e
  exact .inl ⟨rfl,rfl⟩
 ·rw [List.mem_singleton.mp hx,if_pos rfl]
  intro z; cases z
 ·exact absurd (List.mem_singleton.mpr (iff x d p e).1) hx
 ·exact absurd (List.mem_singleton.mpr (iff x d p e).1) hx
structure Dm (N:Net) (s:Str) (F:J4) (Wt:List Str) (v:Str) (dv:Int) (seen:List (Str×Int)):Prop where
 start:F s=some (0,none)
 ins:∀x,F x≠none->x∈N.ps
 wk:∀x d p,F x=some (d,p)->Wk N s x d
 prev:∀x d p,F x=some (d,p)->(p=none/\x=s)\/∃y dy q l,p=some y/\F y=some (dy,q)/\y∉Wt/\Ed N y x l/\d=dy+l
 wfound:∀x∈Wt,F x≠none
 nd:Wt.Nodup
 done:∀x d p y l,F x=some (d,p)->x∉Wt->x≠v->Ed N x y l->∃dy q,F y=some (dy,q)/\dy<=d+l
 near:∀x d p y dy q,F x=some (d,p)->x∉Wt->F y=some (dy,q)->y∈Wt->d<=dy
 here:∃p,F v=some (dv,p)
 out:v∉Wt
 least:∀x d p,F x=some (d,p)->x∉Wt->d<=dv
 gone:∀y l,(y,l)∈seen->∃dy q,F y=some (dy,q)/\dy<=dv+l
theorem Dj.take{N:Net}{s:Str}{F:J4}{Wt:List Str}(h:Dj N s F Wt){v:Str}{dv:Int}{p:Option Str}(hv:v∈Wt)(e:F v=some (dv,p))(hmin:∀y∈Wt,∀dy q,F y=some (dy,q)->dv<=dy):Dm N s F (Wt.erase v) v dv []:=by
 have sub:∀x,x∈Wt.erase v->x∈Wt:=fun x hx=>List.mem_of_mem_erase hx
 have out:v∉Wt.erase v:=fun z=>(h.nd.mem_erase_iff.mp z).1 rfl
 have back:∀x,x∉Wt.erase v->x=v\/x∉Wt:=fun x hx=>by
  by_cases e:x=v
  ·exact .inl e
  ·exact .inr fun z=>hx (h.nd.mem_erase_iff.mpr ⟨e,z⟩)
 refine⟨h.start,h.ins,h.wk,fun x d q ex=>?_,fun x hx=>h.wfound x (sub x hx),h.nd.erase v,fun x d q y l ex hx nx he=>?_,fun x d q y dy q2 ex hx ey hy=>?_,⟨p,e⟩,out,fun x d q ex hx=>?_,fun y l hy=>by cases hy⟩
 ·rcases h.prev x d q ex with z | ⟨y,dy,q2,l,e1,e2,e3,e4,e5⟩
  ·exact .inl z
  ·exact .inr ⟨y,dy,q2,l,e1,e2,fun z=>e3 (sub y z),e4,e5⟩
 ·rcases back x hx with z | z
  ·exact absurd z nx
  ·exact h.done x d q y l ex z he
 ·rcases back x hx with z | z
  ·subst z
   rw [e] at ex
   cases ex
   exact hmin y (sub y hy) dy q2 ey
  ·exact h.near x d q y dy q2 ex z ey (sub y hy)
 ·rcases back x hx with z | z
  ·subst z
   rw [e] at ex
   cases ex
   exact Int.le_refl _
  ·exact h.near x d q v dv p ex z e hv
theorem Dm.finish{N:Net}{s:Str}{F:J4}{Wt:List Str}{v:Str}{dv:Int}{seen:List (Str×Int)}(h:Dm N s F Wt v dv seen)(hs:∀y l,Ed N v y l->(y,l)∈seen):Dj N s F Wt:=by
 refine⟨h.start,h.ins,h.wk,h.prev,h.wfound,h.nd,fun x d p y l e hx he=>?_,h.near⟩
 by_cases z:x=v
 ·subst z
  obtain⟨p',e'⟩:=h.here
  rw [e'] at e
  cases e
  exact h.gone y l (hs y l he)
 ·exact h.done x d p y l e hx z he
theorem Dm.find{N:Net}(ok:N.Ok){s:Str}{F:J4}{Wt:List Str}{v:Str}{dv:Int}{seen:List (Str×Int)}(h:Dm N s F Wt v dv seen){y:Str}{l:Int}(he:Ed N v y l)(hy:F y=none):Dm N s (Fs F y (dv+l,some v)) (Wt++[y]) v dv (seen++[(y,l)]):=by
 have hpos:=(he.pos ok).1
 obtain⟨pv,ev⟩:=h.here
 have ne:∀x d p,F x=some (d,p)->x≠y:=fun x d p e z=>by rw [z,hy] at e; cases e
 have keep:∀x d p,F x=some (d,p)->Fs F y (dv+l,some v) x=some (d,p):=fun x d p e=>by rw [Bn (ne x d p e)]; exact e
 have yW:y∉Wt:=fun z=>h.wfound y z hy
 have cases_:∀x d p,Fs F y (dv+l,some v) x=some (d,p)->(x=y/\d=dv+l/\p=some v)\/(x≠y/\F x=some (d,p)):=fun x d p e=>by
  by_cases z:x=y
  ·rw [z,Bw] at e; cases e; exact .inl ⟨z,rfl,rfl⟩
  ·rw [Bn z] at e; exact .inr ⟨z,e⟩
 have inW:∀x,x∉Wt++[y]->x∉Wt/\x≠y:=fun x hx=>⟨fun z=>hx (List.mem_append_left _ z),fun z=>hx (List.mem_append_right _ (by rw [z]; exact List.mem_singleton.mpr rfl))⟩
 have vW:v∉Wt++[y]:=fun z=>by
  rcases List.mem_append.mp z with z | z
  ·exact h.out z
  ·exact ne v dv pv ev (List.mem_singleton.mp z)
 refine⟨keep _ _ _ h.start,fun x hx=>?_,fun x d p e=>?_,fun x d p e=>?_,fun x hx=>?_,?_,fun x d p z l2 e hx nx he2=>?_,fun x d p z dz q e hx ez hz=>?_,⟨pv,keep _ _ _ ev⟩,vW,fun x d p e hx=>?_,fun z l2 hz=>?_⟩
 ·by_cases z:x=y
  ·rw [z]; exact he.ins ok
  ·rw [Bn z] at hx; exact h.ins x hx
 ·rcases cases_ x d p e with ⟨rfl,rfl,_⟩ | ⟨_,e⟩
  ·exact .snoc (h.wk v dv pv ev) he
  ·exact h.wk x d p e
 ·rcases cases_ x d p e with ⟨rfl,rfl,rfl⟩ | ⟨_,e⟩
  ·exact .inr ⟨v,dv,pv,l,rfl,keep _ _ _ ev,vW,he,rfl⟩
  ·rcases h.prev x d p e with z | ⟨u,du,q,l2,e1,e2,e3,e4,e5⟩
   ·exact .inl z
   ·refine .inr ⟨u,du,q,l2,e1,keep _ _ _ e2,fun z=>?_,e4,e5⟩
    rcases List.mem_append.mp z with z | z
    ·exact e3 z
    ·exact ne u du q e2 (List.mem_singleton.mp z)
 ·rcases List.mem_append.mp hx with hx | hx
  ·have:=h.wfound x hx
   cases e:F x with
   | none=>exact absurd e this
   | some a=>rw [keep x a.1 a.2 e]; intro z; cases z
  ·rw [List.mem_singleton.mp hx,Bw]; intro z; cases z
 ·rw [List.nodup_append]
  exact⟨h.nd,List.nodup_cons.mpr ⟨List.not_mem_nil,List.nodup_nil⟩,fun a ha b hb e=>yW (by rw [← List.mem_singleton.mp hb,← e]; exact ha)⟩
 ·obtain⟨w1,w2⟩:=inW x hx
  rcases cases_ x d p e with ⟨z,_⟩ | ⟨_,e⟩
  ·exact absurd z w2
  ·obtain⟨d3,q3,e3,h3⟩:=h.done x d p z l2 e w1 nx he2
   exact⟨d3,q3,keep _ _ _ e3,h3⟩
 ·obtain⟨w1,w2⟩:=inW x hx
  rcases cases_ x d p e with ⟨z,_⟩ | ⟨_,ex⟩
  ·exact absurd z w2
  ·rcases cases_ z dz q ez with ⟨_,e2,_⟩ | ⟨nz,ez⟩
   ·have:=h.least x d p ex w1
    omega
   ·rcases List.mem_append.mp hz with hz | hz
    ·exact h.near x d p z dz q ex w1 ez hz
    ·exact absurd (List.mem_singleton.mp hz) nz
 ·obtain⟨w1,w2⟩:=inW x hx
  rcases cases_ x d p e with ⟨z,_⟩ | ⟨_,e⟩
  ·exact absurd z w2
  ·exact h.least x d p e w1
 ·rcases List.mem_append.mp hz with hz | hz
  ·obtain⟨d3,q3,e3,h3⟩:=h.gone z l2 hz
   exact⟨d3,q3,keep _ _ _ e3,h3⟩
  ·cases List.mem_singleton.mp hz
   exact⟨_,_,Bw,Int.le_refl _⟩
theorem Dm.nearer{N:Net}(ok:N.Ok){s:Str}{F:J4}{Wt:List Str}{v:Str}{dv:Int}{seen:List (Str×Int)}(h:Dm N s F Wt v dv seen){y:Str}{l dy:Int}{qy:Option Str}(he:Ed N v y l)(hy:F y=some (dy,qy))(hlt:dv+l<dy):Dm N s (Fs F y (dv+l,some v)) Wt v dv (seen++[(y,l)]):=by
 have hpos:=(he.pos ok).1
 obtain⟨pv,ev⟩:=h.here
 have yW:y∈Wt:=by
  by_cases z:y∈Wt
  ·exact z
  ·have:=h.least y dy qy hy z
   omega
 have vy:v≠y:=fun z=>h.out (by rw [z]; exact yW)
 have keep:∀x,x∉Wt->Fs F y (dv+l,some v) x=F x:=fun x hx=>Bn fun z=>hx (by rw [z]; exact yW)
 have cases_:∀x d p,Fs F y (dv+l,some v) x=some (d,p)->(x=y/\d=dv+l/\p=some v)\/(x≠y/\F x=some (d,p)):=fun x d p e=>by
  by_cases z:x=y
  ·rw [z,Bw] at e; cases e; exact .inl ⟨z,rfl,rfl⟩
  ·rw [Bn z] at e; exact .inr ⟨z,e⟩
 have less:∀x d p,F x=some (d,p)->∃d' q,Fs F y (dv+l,some v) x=some (d',q)/\d'<=d:=fun x d p e=>by
  by_cases z:x=y
  ·subst z
   rw [hy] at e
   cases e
   exact⟨_,_,Bw,by omega⟩
  ·exact⟨d,p,by rw [Bn z]; exact e,Int.le_refl _⟩
 have sy:s≠y:=fun z=>by
  have:=h.start
  rw [z,hy] at this
  cases this
  have:=(h.wk v dv pv ev).pos ok
  omega
 refine⟨by rw [Bn sy]; exact h.start,fun x hx=>?_,fun x d p e=>?_,fun x d p e=>?_,fun x hx=>?_,h.nd,fun x d p z l2 e hx nx he2=>?_,fun x d p z dz q e hx ez hz=>?_,⟨pv,by rw [Bn vy]; exact ev⟩,h.out,fun x d p e hx=>?_,fun z l2 hz=>?_⟩
 ·by_cases z:x=y
  ·rw [z]; exact he.ins ok
  ·rw [Bn z] at hx; exact h.ins x hx
 ·rcases cases_ x d p e with ⟨rfl,rfl,_⟩ | ⟨_,e⟩
  ·exact .snoc (h.wk v dv pv ev) he
  ·exact h.wk x d p e
 ·rcases cases_ x d p e with ⟨rfl,rfl,rfl⟩ | ⟨_,e⟩
  ·exact .inr ⟨v,dv,pv,l,rfl,by rw [Bn vy]; exact ev,h.out,he,rfl⟩
  ·rcases h.prev x d p e with z | ⟨u,du,q,l2,e1,e2,e3,e4,e5⟩
   ·exact .inl z
   ·exact .inr ⟨u,du,q,l2,e1,by rw [keep u e3]; exact e2,e3,e4,e5⟩
 ·by_cases z:x=y
  ·rw [z,Bw]; intro w; cases w
  ·rw [Bn z]; exact h.wfound x hx
 ·rw [keep x hx] at e
  obtain⟨d3,q3,e3,h3⟩:=h.done x d p z l2 e hx nx he2
  obtain⟨d4,q4,e4,h4⟩:=less z d3 q3 e3
  exact⟨d4,q4,e4,by omega⟩
 ·rw [keep x hx] at e
  rcases cases_ z dz q ez with ⟨rfl,rfl,_⟩ | ⟨nz,ez⟩
  ·have:=h.least x d p e hx
   omega
  ·exact h.near x d p z dz q e hx ez hz
 ·rw [keep x hx] at e
  exact h.least x d p e hx
 ·rcases List.mem_append.mp hz with hz | hz
  ·obtain⟨d3,q3,e3,h3⟩:=h.gone z l2 hz
   obtain⟨d4,q4,e4,h4⟩:=less z d3 q3 e3
   exact⟨d4,q4,e4,by omega⟩
  ·cases List.mem_singleton.mp hz
   exact⟨_,_,Bw,Int.le_refl _⟩
theorem Dm.skip{N:Net}{s:Str}{F:J4}{Wt:List Str}{v:Str}{dv:Int}{seen:List (Str×Int)}(h:Dm N s F Wt v dv seen){y:Str}{l dy:Int}{qy:Option Str}(hy:F y=some (dy,qy))(hle:dy<=dv+l):Dm N s F Wt v dv (seen++[(y,l)]):=by
 refine⟨h.start,h.ins,h.wk,h.prev,h.wfound,h.nd,h.done,h.near,h.here,h.out,h.least,fun z l2 hz=>?_⟩
 rcases List.mem_append.mp hz with hz | hz
 ·exact h.gone z l2 hz
 ·cases List.mem_singleton.mp hz
  exact⟨_,_,hy,hle⟩
structure Told (N:Net) (s:Str) (F:J4):Prop where
 start:F s=some (0,none)
 ins:∀x,F x≠none->x∈N.ps
 least:∀x d p,F x=some (d,p)->Gn N s x d
 all:∀x d,Wk N s x d->F x≠none
 prev:∀x d p,F x=some (d,p)->(p=none/\x=s)\/∃y dy q l,p=some y/\F y=some (dy,q)/\Ed N y x l/\d=dy+l
theorem Dj.told{N:Net}{s:Str}{F:J4}(h:Dj N s F []):Told N s F:=by
 have cl:=Ie (N:=N) (s:=s) (F:=fun x=>(F x).map (·.1)) ⟨0,by rw [h.start]; rfl,Int.le_refl _⟩ (fun x d e=>by
  obtain⟨⟨d',p⟩,e1,e2⟩:=Option.map_eq_some_iff.mp e
  cases e2
  exact h.wk x _ p e1) (fun x d y l e he=>by
  obtain⟨⟨d',p⟩,e1,e2⟩:=Option.map_eq_some_iff.mp e
  cases e2
  obtain⟨dy,q,e3,h3⟩:=h.done x _ p y l e1 List.not_mem_nil he
  exact⟨dy,by rw [e3]; rfl,h3⟩)
 refine⟨h.start,h.ins,fun x d p e=>cl.1 x d (by rw [e]; rfl),fun x d hw e=>cl.2 x d hw (by rw [e]; rfl),fun x d p e=>?_⟩
 rcases h.prev x d p e with z | ⟨y,dy,q,l,e1,e2,_,e4,e5⟩
 ·exact .inl z
 ·exact .inr ⟨y,dy,q,l,e1,e2,e4,e5⟩
noncomputable abbrev Kn:=Str->Option Int
structure Bf (N:Net) (s:Str) (c:Nat) (K:Kn):Prop where
 start:∃d,K s=some d/\d<=0
 ins:∀x,K x≠none->x∈N.ps
 wk:∀x d,K x=some d->Wk N s x d
 top:∀x d,K x=some d->d<=1000000*(c:Int)
structure VM (N:Net) (s:Str) (K:Kn):Prop where
 ins:∀x,K x≠none->x∈N.ps
 least:∀x d,K x=some d->Gn N s x d
 all:∀x d,Wk N s x d->K x≠none
 top:∀x d,K x=some d->d<=30000000
noncomputable def walk(N:Net):List Str->Int->Prop
 | [],_=>False
 | [_],d=>d=0
 | x::y::r,d=>∃l e,Ed N x y l/\walk N (y::r) e/\d=l+e
theorem L6{N:Net}{x y:Str}{r:List Str}{d l:Int}(he:Ed N x y l)(h:walk N (y::r) d):walk N (x::y::r) (l+d):=⟨l,d,he,h,rfl⟩
noncomputable def VW(N:Net)(a b:Str):Option Int->Prop
 | some d=>Gn N a b d
 | none=>∀d,¬Wk N a b d
theorem Told.far{N:Net}{s:Str}{F:J4}(h:Told N s F)(x:Str):VW N s x ((F x).map (·.1)):=by
 cases e:F x with
 | none=>exact fun d hw=>h.all x d hw e
 | some a=>exact h.least x a.1 a.2 e
noncomputable def Way(N:Net)(a b:Str)(o:Option (List Str)):Prop:=match o with
 | some w=>∃d r,w=a::r/\w.getLast?=some b/\walk N w d/\Gn N a b d/\w.length<=30/\∀x∈w,x∈N.ps
 | none=>∀d,¬Wk N a b d
noncomputable def Ta:Option Str->D
 | some y=>.str y
 | none=>.non
noncomputable def Ry:Option (List Str)->D
 | some w=>.tup (w.map .str)
 | none=>.non
noncomputable def GU(p:Int×Option Str):D:=.tup [.int p.1,Ta p.2]
noncomputable def okN(N:Net):Prop:=N.Ok/\N.ps.length<=25/\N.ts.length<=60
noncomputable def J1:W2:=fun ss n P=>∃(Wt:List Str) (ks:List Key) (ds:List D) (F:J4),ss=[.br (.lst (Wt.map .str)),.br (.dic ks ds)]/\Dmap ks ds GU F/\(∀x∈Wt,F x≠none)/\Wt≠[]/\Wt.length<=100 /\
 ∀v∈Wt,(∀y∈Wt,∀dv pv dy py,F v=some (dv,pv)->F y=some (dy,py)->dv<=dy)->P (.str v) n
noncomputable def Gm:W2:=fun ss n P=>∃(N:Net) (s:Str),ss=[.sh (Cb N),.sh (.str s)]/\okN N/\s∈N.ps/\∀(ks:List Key) (ds:List D) (F:J4),Dmap ks ds GU F->Told N s F->P (.dic ks ds) n
noncomputable def NN:W2:=fun ss n P=>∃(N:Net) (a b:Str),ss=[.sh (Cb N),.sh (.str a),.sh (.str b)]/\okN N/\a∈N.ps/\b∈N.ps/\∀o,Way N a b o->P (Ry o) n
noncomputable def Eb:Af:=(Bt (AW B9 (Cr Q_ (AC (Bu [some 1,none] (Bv (Ab 0)) (Ao 1) Cs (CB (AC (AW B9 (AW DJ (Ab 0) (AB 1)) (wC (D.int 0))) (AC (AB 1) AN)))) AN)) (wC (D.int 1))))
noncomputable def Ec:Af:=(AU (A4 2 (AX Im (AD (AT (AB 0)) AZ)))
 (AU (CW 3 (J9 (AB 1) (CB (AC (wC (D.int 0)) (AC (wC D.non) AN)))))
 (AU (CW 4 (Dx (AC (AB 1) AN)))
 (AU (C7 (RL (Ab 4)) (AU (A4 5 (AX J1 (AD (Ei (Ab 4)) (AD (Ei (Ab 3)) AZ))))
 (AU (L7 4 "list" Tt (AC (AB 5) AN))
 (FE (wItems (AW DJ (AB 2) (AB 5))) (K3 2 (Bs (Ao 6) (Bs (Ao 7) Gd))) (AU (A4 8 (AW Az (AW B9 (AW DJ (Ab 3) (AB 5)) (wC (D.int 0))) (AB 7)))
 (CU (Aa (AW (M6 true) (AB 6) (Ab 3))) (AU (L7 4 "list" FL (AC (AB 6) AN))
 (Fe 3 (AB 6) (CB (AC (AB 8) (AC (AB 5) AN))))) (CU (Aa (AW EU (AB 8) (AW B9 (AW DJ (Ab 3) (AB 6)) (wC (D.int 0))))) (Fe 3 (AB 6) (CB (AC (AB 8) (AC (AB 5) AN)))) Bj)))))))
 (NS 3)))))
noncomputable def Ju:Af:=(AU (A4 3 (AX Gm (AD (AT (AB 0)) (AD (AT (AB 1)) AZ))))
 (AU (CU (Aa (AW (M6 true) (AB 2) (AB 3))) (Bt (wC D.non)) Bj)
 (AU (CW 4 (Dx AN))
 (AU (A4 5 (AB 2))
 (AU (C7 (Aa (AW (FK true) (AB 5) (wC D.non))) (AU (L7 4 "list" FL (AC (AB 5) AN))
 (A4 5 (AW B9 (AW DJ (AB 3) (AB 5)) (wC (D.int 1))))))
 (Bt (LC (Ab 4))))))))
theorem U0{i j:Int}{x y:Str}(h:BM [.inl j,.inr y] [.inl i,.inr x]=false):i<=j:=by
 have h:(if (Sum.inl j:Key)=.inl i then (if (Sum.inr y:Key)=.inr x then false else decide (y.cps.toList<x.cps.toList)) else decide (j<i))=false:=h
 by_cases e:j=i
 ·omega
 ·rw [if_neg (fun z=>e (Sum.inl.inj z)),decide_eq_false_iff_not] at h
  omega
section
variable {ss:List Slot}{n:Nat}{Pd:D->Nat->Prop}
theorem Gv(h:J1 ss n Pd):Eb (EE Pd) n (ss++List.replicate 0 .no):=by
 obtain⟨Wt,ks,ds,F,rfl,M,hF,hne,hl,p⟩:=h
 unfold Eb
 refine⟨by show (Wt.map D.str).length<=10000000; rw [List.length_map]; omega,?_⟩
 have dist:∀x∈Wt,∃d q,F x=some (d,q):=fun x hx=>by
  cases e:F x with
  | none=>exact absurd e (hF x hx)
  | some a=>exact⟨a.1,a.2,rfl⟩
 refine Co (fun d=>match d with | .str x=>.tup [.int ((F x).getD (0,none)).1,.str x] | d=>d) (fun ρ=>∃s,ρ=[.br (.dic ks ds),s]) _ _ _ _ ?_ ⟨_,rfl⟩ ?_
 ·rintro d hd ρ m nx ⟨s,rfl⟩ hnx
  obtain⟨x,hx,rfl⟩:=List.mem_map.mp hd
  obtain⟨dx,q,ex⟩:=dist x hx
  refine⟨ks,ds,_,GU (dx,q),rfl,rfl,by rw [M.at_,ex]; rfl,_,AV (j:=0) rfl,(by decide:2<=sizeLine),?_⟩
  have this:nx (.tup [.int ((F x).getD (0,none)).1,.str x]) m [.br (.dic ks ds),.sh (.str x)]:=hnx [.br (.dic ks ds),.sh (.str x)] ⟨_,rfl⟩
  rw [show ((F x).getD (0,none)).1=dx by rw [ex]; rfl] at this
  exact this
 rw [List.nil_append,List.map_map]
 refine⟨_,rfl,?_,⟨fun x hx=>?_,fun x hx y hy ka kb ea eb=>?_⟩,fun x hx hmin=>?_⟩
 ·rw [List.length_map]
  cases Wt with
  | nil=>exact absurd rfl hne
  | cons a r=>exact Nat.succ_pos _
 ·obtain⟨z,_,rfl⟩:=List.mem_map.mp hx
  exact⟨_,rfl,List.cons_ne_nil _ _⟩
 ·obtain⟨z,_,rfl⟩:=List.mem_map.mp hx
  obtain⟨u,_,rfl⟩:=List.mem_map.mp hy
  cases (show some [Sum.inl _,Sum.inr _]=some ka from ea)
  cases (show some [Sum.inl _,Sum.inr _]=some kb from eb)
  rfl
 ·obtain⟨v,hv,rfl⟩:=List.mem_map.mp hx
  refine⟨_,AV (j:=1) rfl,p v hv fun y hy dv pv dy py ev ey=>?_⟩
  have:=U0 (hmin _ (List.mem_map.mpr ⟨y,hy,rfl⟩) _ _ rfl rfl)
  rw [ev,ey] at this
  exact this
theorem Bq(x:Str):keyOf (.str x)=some (.inr x):=rfl
theorem Mc{N:Net}(ok:N.Ok){xs:List Str}(h:∀x∈xs,x∈N.ps):Cz (.lst (xs.map .str)):=by
 have it:∀d∈xs.map D.str,item d:=fun d hd=>by
  obtain⟨x,hx,rfl⟩:=List.mem_map.mp hd
  exact CH (ok.names x (h x hx))
 exact HM it
theorem J6{N:Net}{Wt:List Str}(hn:Wt.Nodup)(h:∀x∈Wt,x∈N.ps):Wt.length<=N.ps.length:=by
 have:∀(xs ps:List Str),xs.Nodup->(∀x∈xs,x∈ps)->xs.length<=ps.length:=by
  intro xs
  induction xs with
  | nil=>intro ps _ _; exact Nat.zero_le _
  | cons x xs ih =>
   intro ps hn hm
   have hx:=hm x List.mem_cons_self
   have hn:=List.nodup_cons.mp hn
   have h1:=ih (ps.erase x) hn.2 fun j hj=>(List.mem_erase_of_ne fun e=>hn.1 (by rw [← e]; exact hj)).mpr (hm j (List.mem_cons_of_mem _ hj))
   rw [List.length_erase_of_mem hx] at h1
   have:=List.length_pos_of_mem hx
   rw [List.length_cons]
   omega
 exact this Wt N.ps hn h
theorem JI(ks:List Key)(k:Key):(B3 ks k).length=if FI ks k=true then ks.length else ks.length+1:=by
 unfold B3
 split
 ·rfl
 ·rw [List.length_append]; rfl
theorem Dmap.has{α:Type}{ks:List Key}{ds:List D}{Cb:α->D}{F:Str->Option α}(h:Dmap ks ds Cb F){x:Str}:(F x=none->FI ks (.inr x)=false)/\(F x≠none->FI ks (.inr x)=true):=by
 constructor
 ·intro e
  cases c:FI ks (.inr x) with
  | false=>rfl
  | true=>exact absurd e ((h.mem x).mp (hasK_iff.mp c))
 ·intro e
  exact hasK_iff.mpr ((h.mem x).mpr e)
theorem MA{N:Net}{x:Str}(hx:x∈N.ps):BI (N.ps.map .inr) (N.ps.map (QF N.ts)) (.inr x)=some (QF N.ts x):=by
 have go:∀ps:List Str,x∈ps->BI (ps.map .inr) (ps.map (QF N.ts)) (.inr x)=some (QF N.ts x):=by
  intro ps
  induction ps with
  | nil=>intro h; cases h
  | cons q ps ih =>
   intro h
   show (if (Sum.inr q:Key)=.inr x then some (QF N.ts q) else BI (ps.map .inr) (ps.map (QF N.ts)) (.inr x))=_
   by_cases e:q=x
   ·rw [if_pos (by rw [e]),e]
   ·rw [if_neg (fun z=>e (Sum.inr.inj z))]
    exact ih ((List.mem_cons.mp h).resolve_left fun z=>e z.symm)
 exact go N.ps hx
theorem PX(l:List (Str×Int)):L4 ((l.map fun x=>(.inr x.1:Key)).map Sz) (l.map fun x=>.int x.2)=l.map UU:=by
 induction l with
 | nil=>rfl
 | cons p l ih =>
  show D.tup [.str p.1,.int p.2]::L4 _ _=UU p::l.map UU
  rw [← ih]
  rfl
theorem Gw(h:Gm ss n Pd):Ec (EF Pd) n (ss++List.replicate 7 .no):=by
 obtain⟨N,s,rfl,⟨ok,lp,lt⟩,hs,p⟩:=h
 have szl:=PySem.sizeLine_eq
 unfold Ec
 refine⟨N,rfl,ok,by omega,by omega,?_⟩
 refine⟨(by decide:2<=sizeLine),_,Bq s,(by decide:1<=sizeLine),?_⟩
 refine DV (fun m n' ρ=>n'=n/\∃(Wt:List Str) (ks:List Key) (ds:List D) (F:J4) (s5 s6 s7 s8:Slot),ρ=[.sh (Cb N),.sh (.str s),.sh (Ek N),.ow (.dic ks ds),.ow (.lst (Wt.map .str)),s5,s6,s7,s8]/\Dmap ks ds GU F/\Dj N s F Wt/\m+ks.length=N.ps.length+Wt.length) (N.ps.length) ⟨rfl,[s],[.inr s],[GU (0,none)],_,_,_,_,_,rfl,Dmap.one,Dj.init hs,rfl⟩ ?_ ?_
 ·rintro m n' ρ N' ⟨rfl,Wt,ks,ds,F,s5,s6,s7,s8,rfl,M,J,hm⟩ hN
  cases Wt with
  | nil =>
   exact⟨false,rfl,_,rfl,p ks ds F M J.told⟩
  | cons w0 Wr =>
   refine⟨true,rfl,?_⟩
   have insW:∀x∈w0::Wr,x∈N.ps:=fun x hx=>J.ins x (J.wfound x hx)
   have wl:=J6 J.nd insW
   refine⟨w0::Wr,ks,ds,F,rfl,M,J.wfound,List.cons_ne_nil _ _,by omega,fun v hv hmin=>?_⟩
   obtain⟨dv,pv,ev⟩:∃d q,F v=some (d,q):=by
    cases e:F v with
    | none=>exact absurd e (J.wfound v hv)
    | some a=>exact⟨a.1,a.2,rfl⟩
   have D0:=J.take hv ev fun y hy dy q ey=>hmin y hy dv pv dy q ev ey
   have hvp:=insW v hv
   have hidx:(w0::Wr).idxOf v<(w0::Wr).length:=List.idxOf_lt_length_of_mem hv
   have hget:(w0::Wr)[(w0::Wr).idxOf v]?=some v:=by rw [List.getElem?_eq_getElem hidx,List.getElem_idxOf]
   have ee:((w0::Wr).map D.str).eraseIdx ((w0::Wr).idxOf v)=((w0::Wr).erase v).map D.str:=by
    rw [List.erase_eq_eraseIdx_of_idxOf (rfl:(w0::Wr).idxOf v=_),HQ]
   refine⟨_,rfl,rfl,_,_,(w0::Wr).idxOf v,rfl,rfl,Mc ok insW,GG (ok.names v hvp),⟨.str v,by rw [List.getElem?_map,hget]; rfl,by show (v==v)=true; exact beq_self_eq_true v⟩,fun k x hk hx=>?_,?_⟩
   ·rw [List.getElem?_map] at hx
    obtain⟨t,ht,rfl⟩:=Option.map_eq_some_iff.mp hx
    have hkl:k<(w0::Wr).length:=(List.getElem?_eq_some_iff.mp ht).1
    have hh:=List.not_of_lt_findIdx (p:=fun y=>y==v) (xs:=w0::Wr) hk
    have e2:(w0::Wr)[k]=t:=(List.getElem?_eq_some_iff.mp ht).2
    have h3:((w0::Wr)[k]==v)=false:=hh
    rw [e2] at h3
    exact h3
   rw [ee]
   refine⟨_,_,_,QF N.ts v,rfl,Bq v,MA hvp,_,_,rfl,fun k hk=>?_,?_⟩
   ·obtain⟨q,hq,rfl⟩:=List.mem_map.mp hk
    have:=(ok.names _ (IH ok hq).1).2.1
    show q.1.length<=sizeLine
    omega
   rw [PX]
   have el:=List.length_erase_of_mem hv
   have inner:∀(rest seen:List (Str×Int)) (Wt:List Str) (ks:List Key) (ds:List D) (F:J4) (s6 s7 s8:Slot),seen++rest=D_ N.ts v->Dmap ks ds GU F->Dm N s F Wt v dv seen->m+ks.length=N.ps.length+Wt.length+1 ->
     Bb (K3 2 (Bs (Ao 6) (Bs (Ao 7) Gd))) (AU (A4 8 (AW Az (AW B9 (AW DJ (Ab 3) (AB 5)) (wC (D.int 0))) (AB 7)))
 (CU (Aa (AW (M6 true) (AB 6) (Ab 3))) (AU (L7 4 "list" FL (AC (AB 6) AN))
 (Fe 3 (AB 6) (CB (AC (AB 8) (AC (AB 5) AN))))) (CU (Aa (AW EU (AB 8) (AW B9 (AW DJ (Ab 3) (AB 6)) (wC (D.int 0))))) (Fe 3 (AB 6) (CB (AC (AB 8) (AC (AB 5) AN)))) Bj))) { EF Pd with nx:=N',ct:=N',bk:=NS 3 (EF Pd) } (rest.map UU) n' [.sh (Cb N),.sh (.str s),.sh (Ek N),.ow (.dic ks ds),.ow (.lst (Wt.map .str)),.sh (.str v),s6,s7,s8]:=by
    intro rest
    induction rest with
    | nil =>
     intro seen Wt ks ds F s6 s7 s8 e M D0 hm
     rw [List.append_nil] at e
     exact hN (m - 1) n' _ (by have:=M.le D0.ins; omega) ⟨rfl,Wt,ks,ds,F,_,_,_,_,rfl,M,D0.finish fun y l hy=>by rw [e]; exact hy,by have:=M.le D0.ins; omega⟩
    | cons q rest ih =>
     intro seen Wt ks ds F s6 s7 s8 e M D0 hm
     obtain⟨y,l⟩:=q
     have he:Ed N v y l:=by show (y,l)∈D_ N.ts v; rw [← e]; exact List.mem_append_right _ List.mem_cons_self
     have e':(seen++[(y,l)])++rest=D_ N.ts v:=by rw [List.append_assoc]; exact e
     obtain⟨pv,ev⟩:=D0.here
     have kl:=M.le D0.ins
     have hyp:=he.ins ok
     have insW:∀x∈Wt,x∈N.ps:=fun x hx=>D0.ins x (D0.wfound x hx)
     have wl:=J6 D0.nd insW
     refine⟨rfl,rfl,?_⟩
     refine⟨ks,ds,_,GU (dv,pv),rfl,Bq v,by rw [M.at_,ev]; rfl,_,AV (j:=0) rfl,?_⟩
     refine⟨ks,ds,_,rfl,Bq y,?_⟩
     show if (!(BI ks ds (.inr y)).isSome)=true then _ else _
     cases ey:F y with
     | none =>
      have hno:=(M.has (x:=y)).1 ey
      rw [M.at_,ey]
      refine Jd ⟨_,rfl,rfl,_,_,rfl,rfl,by rw [List.length_map]; omega,?_⟩
      refine⟨ks,ds,rfl,(by decide:2<=sizeLine),_,Bq y,by omega,?_⟩
      have:=ih (seen++[(y,l)]) (Wt++[y]) (B3 ks (.inr y)) (B2 ks ds (.inr y) (GU (dv+l,some v))) _ (.sh (.str y)) (.sh (.int l)) (.sh (.int (dv+l))) e' (M.put y (dv+l,some v)) (D0.find ok he ey) (by rw [JI,if_neg (by rw [hno]; decide),List.length_append,List.length_singleton]; omega)
      rw [List.map_append] at this
      exact this
     | some a =>
      obtain⟨dy,qy⟩:=a
      have hyes:=(M.has (x:=y)).2 (by rw [ey]; intro z; cases z)
      rw [M.at_,ey]
      refine FG ⟨ks,ds,_,GU (dy,qy),rfl,Bq y,by rw [M.at_,ey]; rfl,_,AV (j:=0) rfl,?_⟩
      show if decide (dv+l<dy)=true then _ else _
      by_cases c:dv+l<dy
      ·rw [decide_eq_true c]
       refine Jd ⟨ks,ds,rfl,(by decide:2<=sizeLine),_,Bq y,by omega,?_⟩
       exact ih (seen++[(y,l)]) Wt (B3 ks (.inr y)) (B2 ks ds (.inr y) (GU (dv+l,some v))) _ (.sh (.str y)) (.sh (.int l)) (.sh (.int (dv+l))) e' (M.put y (dv+l,some v)) (D0.nearer ok he ey c) (by rw [JI,if_pos hyes]; omega)
      ·rw [decide_eq_false c]
       exact FG (ih (seen++[(y,l)]) Wt ks ds F (.sh (.str y)) (.sh (.int l)) (.sh (.int (dv+l))) e' M (D0.skip ey (by omega)) hm)
   exact inner (D_ N.ts v) [] ((w0::Wr).erase v) ks ds F _ _ _ rfl M D0 (by have:=List.length_pos_of_mem hv; omega)
 ·rintro n' ρ P Q hPQ h
  unfold RL Ab at h ⊢
  split at h
  all_goals first
   | exact h.elim
   | (obtain⟨c,hc,h⟩:=h; exact⟨c,hc,hPQ _ _ h⟩)
end
structure WInv (N:Net) (F:J4) (b:Str) (db:Int) (acc:List Str) (pl:Option Str):Prop where
 st:(acc=[]/\pl=some b)\/∃z r dz,acc.reverse=z::r/\F z=some (dz,pl)/\walk N acc.reverse (db - dz)/\acc.reverse.getLast?=some b
 nd:acc.Nodup
 ins:∀x∈acc,x∈N.ps
 less:∀y dy q,pl=some y->F y=some (dy,q)->∀x∈acc,∃dx qx,F x=some (dx,qx)/\dy<dx
 fnd:∀y,pl=some y->F y≠none
noncomputable def wm(F:J4):Option Str->Nat
 | none=>0
 | some y=>((F y).getD (0,none)).1.toNat+1
theorem WInv.step{N:Net}(ok:N.Ok){a:Str}{F:J4}(T:Told N a F){b:Str}{db:Int}{qb:Option Str}(eb:F b=some (db,qb)){acc:List Str}{y:Str}{dy:Int}{qy:Option Str}(h:WInv N F b db acc (some y))(ey:F y=some (dy,qy)):WInv N F b db (acc++[y]) qy/\wm F qy<wm F (some y):=by
 have hy0:=(T.least y dy qy ey).1.pos ok
 have nx:∀w dw q,qy=some w->F w=some (dw,q)->dw<dy:=fun w dw q e ew=>by
  rcases T.prev y dy qy ey with ⟨z,_⟩ | ⟨w',dw',q',l,e1,e2,e3,e4⟩
  ·rw [e] at z; cases z
  ·rw [e] at e1
   cases e1
   rw [ew] at e2
   cases e2
   have:=(e3.pos ok).1
   omega
 have hf:∀w,qy=some w->F w≠none:=fun w e=>by
  rcases T.prev y dy qy ey with ⟨z,_⟩ | ⟨w',dw',q',l,e1,e2,_⟩
  ·rw [e] at z; cases z
  ·rw [e] at e1
   cases e1
   rw [e2]
   intro z; cases z
 refine⟨⟨.inr ?_,?_,fun x hx=>?_,fun w dw q e ew x hx=>?_,hf⟩,?_⟩
 ·rw [List.reverse_append,List.reverse_singleton,List.singleton_append]
  rcases h.st with ⟨rfl,e⟩ | ⟨z,r,dz,e1,e2,e3,e4⟩
  ·cases e
   rw [eb] at ey
   cases ey
   exact⟨_,_,_,rfl,eb,(by show db - db=0; omega),rfl⟩
  ·refine⟨y,acc.reverse,dy,rfl,ey,?_,?_⟩
   ·rw [e1] at e3 ⊢
    rcases T.prev z dz (some y) e2 with ⟨w,_⟩ | ⟨w',dw',q',l,k1,k2,k3,k4⟩
    ·cases w
    ·cases k1
     rw [ey] at k2
     cases k2
     have:=L6 k3 e3
     rw [show l+(db - dz)=db - dy by omega] at this
     exact this
   ·rw [e1] at e4 ⊢
    exact e4
 ·rw [List.nodup_append]
  refine⟨h.nd,List.nodup_cons.mpr ⟨List.not_mem_nil,List.nodup_nil⟩,fun x hx z hz e=>?_⟩
  rw [List.mem_singleton.mp hz] at e
  obtain⟨dx,qx,ex,hlt⟩:=h.less y dy qy rfl ey x hx
  rw [e,ey] at ex
  cases ex
  omega
 ·rcases List.mem_append.mp hx with hx | hx
  ·exact h.ins x hx
  ·rw [List.mem_singleton.mp hx]
   exact T.ins y (by rw [ey]; intro z; cases z)
 ·have h1:=nx w dw q e ew
  rcases List.mem_append.mp hx with hx | hx
  ·obtain⟨dx,qx,ex,hlt⟩:=h.less y dy qy rfl ey x hx
   exact⟨dx,qx,ex,by omega⟩
  ·rw [List.mem_singleton.mp hx]
   exact⟨dy,qy,ey,h1⟩
 ·cases qy with
  | none=>exact Nat.succ_pos _
  | some w =>
   cases ew:F w with
   | none=>exact absurd ew (hf w rfl)
   | some p =>
    have h1:=nx w p.1 p.2 rfl ew
    have h2:=(T.least w p.1 p.2 ew).1.pos ok
    show ((F w).getD (0,none)).1.toNat+1<((F y).getD (0,none)).1.toNat+1
    rw [ew,ey]
    show p.1.toNat+1<dy.toNat+1
    omega
section
variable {ss:List Slot}{n:Nat}{Pd:D->Nat->Prop}
theorem MK(h:NN ss n Pd):Ju (EE Pd) n (ss++List.replicate 3 .no):=by
 obtain⟨N,a,b,rfl,okn,ha,hb,p⟩:=h
 have szl:=PySem.sizeLine_eq
 have ok:=okn.1
 unfold Ju
 refine⟨N,a,rfl,okn,ha,fun ks ds F M T=>?_⟩
 refine⟨ks,ds,_,rfl,Bq b,?_⟩
 show if (!(BI ks ds (.inr b)).isSome)=true then _ else _
 have hfar:=T.far b
 cases eb:F b with
 | none =>
  rw [M.at_,eb]
  rw [eb] at hfar
  exact Jd (p none hfar)
 | some x =>
  obtain⟨db,qb⟩:=x
  rw [M.at_,eb]
  refine FG ⟨z0,?_⟩
  refine DV (fun m n' ρ=>n'=n/\∃(acc:List Str) (pl:Option Str),ρ=[.sh (Cb N),.sh (.str a),.sh (.str b),.sh (.dic ks ds),.ow (.lst (acc.map .str)),.sh (Ta pl)]/\WInv N F b db acc pl/\m=wm F pl) (wm F (some b)) ⟨rfl,[],some b,rfl,⟨.inl ⟨rfl,rfl⟩,List.nodup_nil,(fun x hx=>by cases hx),(fun _ _ _ _ _ x hx=>by cases hx),fun y e=>by cases e; rw [eb]; intro z; cases z⟩,rfl⟩ ?_ ?_
  ·rintro m n' ρ N' ⟨rfl,acc,pl,rfl,J,rfl⟩ hN
   have wl:=J6 J.nd J.ins
   have l25:=okn.2.1
   cases pl with
   | none =>
    refine⟨rfl,_,rfl,?_⟩
    rcases J.st with ⟨_,e⟩ | ⟨z,r,dz,e1,e2,e3,e4⟩
    ·cases e
    ·have hz:z=a:=by
      rcases T.prev z dz none e2 with ⟨_,w⟩ | ⟨w',dw',q',l,k1,_⟩
      ·exact w
      ·cases k1
     subst hz
     rw [T.start] at e2
     cases e2
     rw [← List.map_reverse]
     refine p (some acc.reverse) ⟨db - 0,r,e1,e4,e3,?_,by rw [List.length_reverse]; omega,fun x hx=>J.ins x (List.mem_reverse.mp hx)⟩
     rw [show db - 0=db by omega]
     exact T.least b db qb eb
   | some y =>
    cases ey:F y with
    | none=>exact absurd ey (J.fnd y rfl)
    | some q =>
     obtain⟨dy,qy⟩:=q
     obtain⟨J2,lt2⟩:=J.step ok T eb ey
     refine⟨rfl,?_⟩
     refine⟨_,rfl,rfl,_,_,rfl,rfl,by rw [List.length_map]; omega,?_⟩
     refine⟨ks,ds,_,GU (dy,qy),rfl,Bq y,by rw [M.at_,ey]; rfl,_,AV (j:=1) rfl,?_⟩
     refine hN (wm F qy) _ _ lt2 ⟨rfl,acc++[y],qy,?_,J2,rfl⟩
     rw [List.map_append]
     rfl
  ·rintro n' ρ P Q hPQ h
   unfold Aa AW AB wC FK at h ⊢
   split at h
   ·exact⟨h.1,hPQ _ _ h.2⟩
   ·exact h.elim
end
section
variable {ss:List Slot}{n:Nat}{Pd:D->Nat->Prop}
end
section
variable {ss:List Slot}{n:Nat}{Pd:D->Nat->Prop}
end
theorem RW{N:Net}(okn:okN N):G3 1000001 (Cb N)/\Pl (Cb N)<=48000/\PU (Cb N)<=3:=RP (QM okn.1) (Jc okn.1) (by rw [List.length_map]; have:=okn.2.1; omega) (by rw [List.length_map]; have:=okn.2.2; omega)
end Nt
namespace Dp
open PySem PySem.Spec PyProof.Rows L2
noncomputable def Qk(i:Nat)(b:BW)(body:Af):Af:=fun D2 n ρ=>∃d ds,ρ[i]?=some (.br d)/\Np d=some ds/\Bb b body D2 ds n ρ
section
variable {X:Cx}{κ:Kd}{tg:Expr}{body:List Stmt}{b:BW}{wb:Af}{pos p:Pos}{x:Str}{i:Nat}
theorem Rel.lessKp{K:Frag}{C:Fm}{q:Addr×HO}{M:Addr->Prop}{H:Hp}{n:Nat}{ρ:List Slot}{σ:L2.St}(R:Rel K { C with kp:=q::C.kp } M H n ρ σ):Rel K C M H n ρ σ :=
 ⟨R.len,R.sub,R.dom,R.ext,R.fU,R.uV,R.vM,R.feed,R.sl,R.pin,R.br0,R.new,R.two,fun p hp=>R.kept p (List.mem_cons_of_mem _ hp)⟩
theorem QV(hp:PassesOwn (model X.prog X.w) X.A X.env X.xe)(hc:X.calm=true)(h:PE X (.Name x p) (BR i))(hg:DG X tg b)(hb:PP X κ body wb)
  (hs:∀y,foldedSetIterable (.Name x p) X.env y=pure y:=by intro _; rfl):DS X κ (.For tg (.Name x p) body [] pos) (Qk i b wb):=by
 obtain⟨g,g1,g2⟩:=hg
 obtain⟨tb,b1,b2⟩:=hb
 refine⟨_,IA hp hc (Ka h) g1 b1 hs,fun C M H n ρ σ D2 E R L w=>?_⟩
 obtain⟨d,ds,hi,hd,w⟩:=w
 obtain⟨v,e1,hAt⟩:=R.sl i _ hi
 cases d with
 | tup ds' =>
  cases hd
  obtain⟨a,vs,rfl,hn,hat⟩:=hAt
  refine⟨.ref a,getD_some e1,.inr (.inl ⟨a,rfl,⟨vs,hn.sq⟩,?_⟩)⟩
  obtain⟨kp',ek⟩:∃kp',kp'=C.kp:=⟨_,rfl⟩
  have R1:Rel X.K { C with kp:=kp' } M H n ρ σ:=by rw [ek]; exact R
  have less:∀{M H n ρ σ},Rel X.K { C with kp:=kp' } M H n ρ σ->Rel X.K C M H n ρ σ:=fun R=>by rw [ek] at R; exact R
  have st:∀M' H' n' ρ' σ',Rel X.K { C with kp:=kp',pins:=(M,H)::C.pins } M' H' n' ρ' σ'->SqT X.K H' a vs:=fun M' H' n' ρ' σ' R'=>(hn.pres (R'.pin (M,H) List.mem_cons_self)).sq
  refine⟨fun i m σ' H'=>m=ds.length - i/\i<=ds.length/\∃M' n' ρ',Rel X.K { C with kp:=kp',pins:=(M,H)::C.pins } M' H' n' ρ' σ'/\Bb b wb D2 (ds.drop i) n' ρ',⟨ds.length,by simp,Nat.zero_le _,M,n,ρ,R1.pinned,w⟩,?_⟩
  rintro i m σ' H' ⟨rfl,hil,M',n',ρ',R',w'⟩
  have pr:Pres M H M' H':=R'.pin (M,H) List.mem_cons_self
  have hq:=st M' H' n' ρ' σ' R'
  by_cases hlt:i<ds.length
  ·have ed:ds.drop i=ds[i]::ds.drop (i+1):=List.drop_eq_getElem_cons hlt
   rw [ed] at w'
   obtain⟨v,ev,hv⟩:=(hat.pres pr).get (List.getElem?_eq_getElem hlt)
   refine .inr ⟨⟨vs,v,hq,ev⟩,fun σ2 H2=>∃M2 n2 ρ2,Rel X.K { C with kp:=kp',pins:=(M,H)::C.pins } M2 H2 n2 ρ2 σ2/\Bb b wb D2 (ds.drop (i+1)) n2 ρ2,fun σ2 H2 ⟨M2,n2,ρ2,R2',w2⟩=>⟨ds.length - (i+1),by omega,rfl,hlt,M2,n2,ρ2,R2',w2⟩,fun y H2 hy=>?_⟩
   obtain⟨e2,hy⟩:=hy
   subst e2
   have:some v=some y:=ev.symm.trans (hy vs hq)
   cases this
   refine g2 _ M' H2 n' ρ' σ' ds[i] v _ _ R' hv w' fun ρ3 σ3 R3 w3=>?_
   refine b2 _ M' H2 n' ρ3 σ3 { D2 with nx:=Bb b wb D2 (ds.drop (i+1)),ct:=Bb b wb D2 (ds.drop (i+1)),bk:=D2.nx } _ R3 ⟨fun M4 H4 n4 ρ4 σ4 R4 w4=>⟨M4,n4,ρ4,R4,w4⟩,L.rt,fun M4 H4 n4 ρ4 σ4 R4 w4=>L.nx M4 H4 n4 ρ4 σ4 (less R4.unpin) w4,fun M4 H4 n4 ρ4 σ4 R4 w4=>⟨M4,n4,ρ4,R4,w4⟩⟩ w3
  ·have e:i=ds.length:=by omega
   subst e
   rw [List.drop_length] at w'
   exact .inl ⟨⟨vs,hq,by rw [hat.length]; exact Nat.le_refl _⟩,L.nx M' H' n' ρ' σ' (less R'.unpin) w'⟩
 | lst ds' =>
  cases hd
  obtain⟨a,vs,rfl,nV,hH,hat⟩:=hAt
  obtain⟨o,ho,hro⟩:∃o,H a=some o/\∀H':Hp,H' a=some o->SqL X.K H' a vs:=by
   rcases hH with z | ⟨u,z⟩
   ·exact⟨_,z,fun H' e=>.inl (.inl e)⟩
   ·exact⟨_,z,fun H' e=>.inl (.inr ⟨u,e⟩)⟩
  refine⟨.ref a,getD_some e1,.inl ⟨a,rfl,⟨vs,hro H ho⟩,?_⟩⟩
  obtain⟨kp',R1,less,st⟩:∃kp',Rel X.K { C with kp:=kp' } M H n ρ σ/\(∀{M H n ρ σ},Rel X.K { C with kp:=kp' } M H n ρ σ->Rel X.K C M H n ρ σ)/\(∀M' H' n' ρ' σ',Rel X.K { C with kp:=kp',pins:=(M,H)::C.pins } M' H' n' ρ' σ'->SqL X.K H' a vs):=by
   by_cases hM:M a
   ·refine⟨(a,o)::C.kp,⟨R.len,R.sub,R.dom,R.ext,R.fU,R.uV,R.vM,R.feed,R.sl,R.pin,R.br0,R.new,R.two,fun q hq=>?_⟩,fun R=>R.lessKp,fun M' H' n' ρ' σ' R'=>hro H' (R'.kept (a,o) List.mem_cons_self).1⟩
    rcases List.mem_cons.mp hq with rfl | hq
    ·refine⟨ho,hM,nV,fun j e q z=>?_⟩
     obtain⟨u,hu⟩:=R.br0 i _ a hi e1
     have:=(R.new j _ a q rfl z).2
     rw [hu] at this
     cases this
    ·exact R.kept q hq
   ·exact⟨C.kp,R,fun R=>R,fun M' H' n' ρ' σ' R'=>hro H' ((R'.pin (M,H) List.mem_cons_self).1 a o ho hM)⟩
  refine⟨fun i m σ' H'=>m=ds.length - i/\i<=ds.length/\∃M' n' ρ',Rel X.K { C with kp:=kp',pins:=(M,H)::C.pins } M' H' n' ρ' σ'/\Bb b wb D2 (ds.drop i) n' ρ',⟨ds.length,by simp,Nat.zero_le _,M,n,ρ,R1.pinned,w⟩,?_⟩
  rintro i m σ' H' ⟨rfl,hil,M',n',ρ',R',w'⟩
  have pr:Pres M H M' H':=R'.pin (M,H) List.mem_cons_self
  have hq:=st M' H' n' ρ' σ' R'
  by_cases hlt:i<ds.length
  ·have ed:ds.drop i=ds[i]::ds.drop (i+1):=List.drop_eq_getElem_cons hlt
   rw [ed] at w'
   obtain⟨v,ev,hv⟩:=(hat.pres pr).get (List.getElem?_eq_getElem hlt)
   refine .inr ⟨⟨vs,v,hq,ev⟩,fun σ2 H2=>∃M2 n2 ρ2,Rel X.K { C with kp:=kp',pins:=(M,H)::C.pins } M2 H2 n2 ρ2 σ2/\Bb b wb D2 (ds.drop (i+1)) n2 ρ2,fun σ2 H2 ⟨M2,n2,ρ2,R2',w2⟩=>⟨ds.length - (i+1),by omega,rfl,hlt,M2,n2,ρ2,R2',w2⟩,fun y H2 hy=>?_⟩
   obtain⟨e2,hy⟩:=hy
   subst e2
   have:some v=some y:=ev.symm.trans (hy vs hq)
   cases this
   refine g2 _ M' H2 n' ρ' σ' ds[i] v _ _ R' hv w' fun ρ3 σ3 R3 w3=>?_
   refine b2 _ M' H2 n' ρ3 σ3 { D2 with nx:=Bb b wb D2 (ds.drop (i+1)),ct:=Bb b wb D2 (ds.drop (i+1)),bk:=D2.nx } _ R3 ⟨fun M4 H4 n4 ρ4 σ4 R4 w4=>⟨M4,n4,ρ4,R4,w4⟩,L.rt,fun M4 H4 n4 ρ4 σ4 R4 w4=>L.nx M4 H4 n4 ρ4 σ4 (less R4.unpin) w4,fun M4 H4 n4 ρ4 σ4 R4 w4=>⟨M4,n4,ρ4,R4,w4⟩⟩ w3
  ·have e:i=ds.length:=by omega
   subst e
   rw [List.drop_length] at w'
   exact .inl ⟨⟨vs,hq,by rw [hat.length]; exact Nat.le_refl _⟩,L.nx M' H' n' ρ' σ' (less R'.unpin) w'⟩
 | _=>cases hd
end
end Dp
namespace Nt
open PySem PySem.Spec PyProof.Rows L2 Dp
noncomputable def sub(N:Net)(kept:List A7):Net:=⟨N.ps,N.ts.filter fun u=>decide (u∈kept)⟩
noncomputable def Tf(N:Net)(t b:Int)(u:A7):Prop:=∃d,Gn N u.a u.b d/\d*b<=u.len*t
noncomputable def D8:W2:=fun ss n P=>∃(N:Net) (z:D) (ts:List A7),ss=[.sh (Cb N),.br z]/\Np z=some (ts.map Ac)/\ts.length<64/\∀ts':List A7,ts'.Perm ts->Hb ts'->P (Cb ⟨N.ps,ts'⟩) n
noncomputable def Jv:Af:=(Bt (CB (AC (AW B9 (AB 0) (wC (D.int 0))) (AC (Cr CF (AC (Cr Oj (AC (Ab 1) AN)) AN)) AN))))
section
variable {ss:List Slot}{n:Nat}{Pd:D->Nat->Prop}
theorem MM(h:D8 ss n Pd):Jv (EE Pd) n (ss++List.replicate 0 .no):=by
 obtain⟨N,z,ts,rfl,hz,h64,p⟩:=h
 unfold Jv
 refine⟨_,AV (j:=0) rfl,z,_,rfl,hz,by rw [List.length_map]; exact h64,⟨fun x hx=>?_,fun x hx y hy ka kb ea eb=>?_⟩,fun xs' hp ho=>?_⟩
 ·obtain⟨t,_,rfl⟩:=List.mem_map.mp hx
  exact⟨FF t,rfl,List.cons_ne_nil _ _⟩
 ·obtain⟨t,_,rfl⟩:=List.mem_map.mp hx
  obtain⟨u,_,rfl⟩:=List.mem_map.mp hy
  cases (show some (FF t)=some ka from ea)
  cases (show some (FF u)=some kb from eb)
  rfl
 ·obtain⟨ts',h1,rfl⟩:=S4 (g:=Uy) (fun _=>rfl) hp
  exact⟨z2,p ts' h1 (P4 ho)⟩
end
section
variable {ss:List Slot}{n:Nat}{Pd:D->Nat->Prop}
end
section
variable {ss:List Slot}{n:Nat}{Pd:D->Nat->Prop}
end
theorem Nk{N:Net}(okn:okN N):LN (Cb N):=by
 obtain⟨f1,f2,f3⟩:=RW okn
 exact Po (B:=1000001) (by decide) f1 (by omega) (by omega)
inductive Cn (K:List A7) (x:Str):Str->Prop
 | refl:Cn K x x
 | step {y z:Str}:Cn K x y->(∃t∈K,(t.a=y/\t.b=z)\/(t.b=y/\t.a=z))->Cn K x z
end Nt
namespace Dp
open PySem PySem.Spec PyProof.Rows L2
section
variable {X:Cx}{κ κe:Kd}{tg e:Expr}{b:BW}{we:DW}{pos p apos cpos:Pos}{x:Str}{i:Nat}
theorem MG{k n:Nat}(h:k<n):seqIndex? (k:Int) n=some k:=by
 refine(IK ?_).1
 unfold OX
 rw [if_pos (by omega),if_pos (by omega)]
 simp
end
noncomputable def LF(j i:Nat)(we:DW):Af:=fun D2 n ρ=>∃ys xs,i≠j/\ρ[j]?=some (.ow (.lst ys))/\ρ[i]?=some (.ow (.lst xs))/\we n ρ fun d n1=>∃(k:Nat) (x:D),d=.int (k:Int)/\xs[k]?=some x/\k<2 ^ 60/\ys.length<sizeLine/\D2.nx n1 ((ρ.set i (.ow (.lst (xs.eraseIdx k)))).set j (.ow (.lst (ys++[x]))))
section
variable {X:Cx}{κ κe:Kd}{e:Expr}{we:DW}{pos p apos cpos p2 apos2 cpos2:Pos}{x y:Str}{i j:Nat}
noncomputable abbrev Ts(X:Cx)(cpos:Pos)(e:Expr):Bool:=((backTo cpos (starEach [e] X.env)).all (fun x=>!x.1)&&(backToKw cpos (keywordEach [] X.env)).all (fun x=>x.1.isSome)
   && decide ([e].length+([]:List Keyword).length+(if ([]:List Keyword).isEmpty then 0 else 1)<30))
theorem M8(hy:PE X (.Name y p2) (BR j))(h:PE X (.Name x p) (BR i))(ha:DE X e κe we)
  (hbase:attributeBase (.Name x p) "pop" X.env (eval (.Name x p) X.env)=eval (.Name x p) X.env:=by rfl) (hfew:Ts X cpos e=true:=by rfl)
  (hline:(apos.endLine==cpos.line)=true:=by rfl) (hst:starEach [e] X.env=(false,eval e X.env)::starEach [] X.env:=by rfl) (hplain:(backTo cpos (starEach [] X.env)).any (·.1)=false:=by rfl)
  (hbase2:attributeBase (.Name y p2) "append" X.env (eval (.Name y p2) X.env)=eval (.Name y p2) X.env:=by rfl) (hfew2:Ts X cpos2 (.Call (.Attribute (.Name x p) "pop" apos) [e] [] cpos)=true:=by rfl)
  (hline2:(apos2.endLine==cpos2.line)=true:=by rfl) (hst2:starEach [.Call (.Attribute (.Name x p) "pop" apos) [e] [] cpos] X.env=(false,eval (.Call (.Attribute (.Name x p) "pop" apos) [e] [] cpos) X.env)::starEach [] X.env:=by rfl) (hplain2:(backTo cpos2 (starEach [] X.env)).any (·.1)=false:=by rfl)
  (hsw:swapsWith (.Call (.Attribute (.Name y p2) "append" apos2) [.Call (.Attribute (.Name x p) "pop" apos) [e] [] cpos] [] cpos2) none pos.line X.env=pure false:=by rfl) :
  DS X κ (.Expr (.Call (.Attribute (.Name y p2) "append" apos2) [.Call (.Attribute (.Name x p) "pop" apos) [e] [] cpos] [] cpos2) pos) (LF j i we):=by
 obtain⟨t,a1,a2⟩:=ha
 refine⟨_,LV (Lc PySem.F.plainAttrs_list PySem.F.slot_list_append PySem.F.type_list_append BY hy (BL (Lc PySem.F.plainAttrs_list PySem.F.slot_list_pop PySem.F.type_list_pop OL h (BL a1 B8 hst) hbase hfew hline hst hplain) B8 hst2) hbase2 hfew2 hline2 hst2 hplain2) hsw,fun C M H n ρ σ D2 E R L w=>?_⟩
 obtain⟨ys,xs,hij,hj,hi,w⟩:=w
 obtain⟨b,e2,m2,nv2,tt2⟩:=R.sl j _ hj
 refine⟨.ref b,getD_some e2,IL (show Ti "list" (.lst ys) from rfl) (tt2.att nv2),?_⟩
 obtain⟨a,e1,m,nv,tt⟩:=R.sl i _ hi
 refine⟨.ref a,getD_some e1,IL (show Ti "list" (.lst xs) from rfl) (tt.att nv),?_⟩
 refine a2 C M H n ρ σ _ _ R w fun v H1 d n1 ee f1 r1 p=>?_
 obtain⟨k,z,rfl,hx,hk,hl,p⟩:=p
 have R1:=R.step ee f1
 obtain⟨a',e1',m',nv',vs,hH,hat⟩:=R1.sl i _ hi
 rw [e1] at e1'
 cases e1'
 obtain⟨v',ev,hv⟩:=hat.get hx
 have hkl:k<vs.length:=(List.getElem?_eq_some_iff.mp ev).1
 refine⟨a,vs,(k:Int),k,v',rfl,by rw [Od r1],hH,by omega,by omega,MG hkl,ev,?_⟩
 have R2:=R1.mut (e:=.lst (xs.eraseIdx k)) hi e1 (o:=.lst (vs.eraseIdx k)) ⟨vs.eraseIdx k,AM,(hat.eraseIdx k).pres (Dd m')⟩
 have hj2:(ρ.set i (.ow (.lst (xs.eraseIdx k))))[j]?=some (.ow (.lst ys)):=by rw [List.getElem?_set_ne hij]; exact hj
 obtain⟨b',e2',m2',nv2',us,hH2,hat2⟩:=R2.sl j _ hj2
 rw [e2] at e2'
 cases e2'
 exact FC M _ b (.lst ys) [z] [v'] _ _ m2' ⟨us,hH2,hat2⟩ (Ats.one (hv.pres (Dd m'))) ⟨ys,z,rfl,rfl,hl,p⟩ fun o d' zz vv t2 hz pp=>L.nx M _ n1 _ σ (R2.mut hj2 e2 t2) pp
end
end Dp
namespace Nt
open PySem PySem.Spec PyProof.Rows L2 Dp
section
variable {ss:List Slot}{n:Nat}{Pd:D->Nat->Prop}
end
section
variable {ss:List Slot}{n:Nat}{Pd:D->Nat->Prop}
end
section
variable {ss:List Slot}{n:Nat}{Pd:D->Nat->Prop}
end
end Nt
namespace Dp
open PySem PySem.Spec PyProof.Rows L2
section
variable {X:Cx}{pos:Pos}
end
section
variable {X:Cx}{κe:Kd}{tg elt iter:Expr}{ifs:List Expr}{sc:Scope}{pos:Pos}{src:EA}{b:BW}{tt:FN}{te:DW}
end
end Dp
namespace Nt
open PySem PySem.Spec PyProof.Rows L2 Dp
section
variable {ss:List Slot}{n:Nat}{Pd:D->Nat->Prop}
structure VY (N:Net) (ks:List Key) (ds:List D) (F:Str->Option Str):Prop where
 m:Dmap ks ds D.str F
 i:∀x,F x≠none->x∈N.ps
end
end Nt
namespace L2
open PySem PySem.Spec PyProof.Rows
open AutoSeq1 (wpAny_loadPart')
section
variable {prog:Program}{w:World}{A:Around}{E:Value->Shared->Prop}{s:Shared}
end
structure VC (κ:Bool) (e it a:Addr) (k:Nat) (h:Heap):Prop where
 e:∃old,IsEnum h e it (k:Int) old
 i:Sw κ h it a k
section
variable {X:Cx}{e1:Expr}{es:List Expr}{j:Nat}{tpos p pos:Pos}{te:TE}
end
end L2
namespace Dp
open PySem PySem.Spec PyProof.Rows L2
section
variable {K:Frag}
end
section
variable {X:Cx}{e1:Expr}{es:List Expr}{j:Nat}{tpos p pos:Pos}{κ:Kd}{wa:DW}
end
end Dp
namespace L2
open PySem PySem.Spec PyProof.Rows
section
variable {X:Cx}{e1 tg:Expr}{p pos:Pos}{te:TE}
end
end L2
namespace Dp
open PySem PySem.Spec PyProof.Rows L2
section
variable {X:Cx}{e1 tg:Expr}{p pos:Pos}{κ:Kd}{wa:DW}
end
end Dp
namespace Nt
open PySem PySem.Spec PyProof.Rows L2 Dp
noncomputable def Bc(M:Net)(u:A7):Net:=⟨M.ps,M.ts.filter fun v=>decide (v≠u)⟩
noncomputable def Cq:W2:=fun ss n P=>∃(M:Net) (u:A7),ss=[.sh (Cb M),.sh (.lst [Ac u])]/\okN M/\(isN u.a/\isN u.b/\1<=u.len/\u.len<=1000000)/\P (Cb (Bc M u)) n
noncomputable def FA:Af:=(Bt (AX D8 (AD (AT (AB 0)) (AD (Ei (Bu [some 1,none] (Bv (AW B9 (AB 0) (wC (D.int 1)))) (Ao 1) (Aa (AW (QS true) (AB 1) (AB 0))) (AB 1))) AZ))))
theorem DK{M:Net}(okm:okN M)(u:A7):okN (Bc M u):=⟨RX okm.1 (fun t h=>(List.mem_filter.mp h).1) (okm.1.trise.filter _),okm.2.1,Nat.le_trans (List.length_filter_le _ _) okm.2.2⟩
theorem Fn{N:Net}(ok:N.Ok){ts ts':List A7}(h:ts.Pairwise Ce)(hp:ts'.Perm ts)(hb:Hb ts'):ts'=ts:=KG hp hb (K2 h)
section
variable {ss:List Slot}{n:Nat}{Pd:D->Nat->Prop}
theorem KD{M:Net}(ok:M.Ok):∀t∈M.ts,isN t.a/\isN t.b/\1<=t.len/\t.len<=1000000:=fun t ht=>by
 obtain⟨a,b,_,c⟩:=ok.tin t ht
 exact⟨ok.names _ a,ok.names _ b,c⟩
theorem OS{t:A7}(h:isN t.a/\isN t.b/\1<=t.len/\t.len<=1000000):Cz (Ac t)/\Cz (.lst [Ac t]):=by
 have hi:item (Ac t):=Jb (CH h.1) (CH h.2.1) h.1.2.1 h.2.1.2.1 (by have:=h.2.2; omega)
 exact⟨DD (B:=1000001) (by decide) hi.1 (by have:=hi.2.2; omega),HM fun d hd=>by rw [List.mem_singleton.mp hd]; exact hi⟩
theorem Hy(h:Cq ss n Pd):FA (EE Pd) n (ss++List.replicate 0 .no):=by
 obtain⟨M,u,rfl,okm,hu,p⟩:=h
 have ok:=okm.1
 have l60:=okm.2.2
 unfold FA
 refine⟨_,AV (j:=1) rfl,by show (M.ts.map Ac).length<=10000000; rw [List.length_map]; omega,?_⟩
 refine DA (fun d=>!(([Ac u]).any fun y=>GS y d)) id (fun ρ=>∃s,ρ=[.sh (.lst [Ac u]),s]) _ _ _ _ ?_ ⟨_,rfl⟩ ?_
 ·rintro d hd ρ m nx sk ⟨s,rfl⟩ h1 h2
  obtain⟨t,ht,rfl⟩:=List.mem_map.mp hd
  refine⟨IJ ok ht,(OS hu).2,_,rfl,?_⟩
  exact CD (fun c=>h1 _ ⟨_,rfl⟩ c) fun c=>h2 _ ⟨_,rfl⟩ (Bool.eq_false_iff.mpr c)
 ·rw [List.nil_append,List.map_id]
  have e:(M.ts.map Ac).filter (fun d=>!(([Ac u]).any fun y=>GS y d))=(Bc M u).ts.map Ac:=by
   rw [List.filter_map]
   congr 1
   refine List.filter_congr fun t _=>?_
   show (!((([u]:List A7).map Ac).any fun y=>GS y (Ac t)))=decide (t≠u)
   rw [Qd,decide_not]
   congr 1
   rw [Bool.eq_iff_iff,decide_eq_true_eq,decide_eq_true_eq,List.mem_singleton]
  rw [e]
  have okd:=DK okm u
  refine⟨M,_,(Bc M u).ts,rfl,rfl,by have:=okd.2.2; omega,fun ts' p1 p2=>?_⟩
  rw [Fn okd.1 okd.1.trise p1 p2]
  exact p
end
noncomputable def tj(t:A7)(x y:Str):Prop:=(t.a=x/\t.b=y)\/(t.b=x/\t.a=y)
inductive Us (K:List A7) (x:Str):Str->Nat->Prop
 | nil:Us K x x 0
 | snoc {y z:Str} {n:Nat} {t:A7}:Us K x y n->t∈K->tj t y z->Us K x z (n+1)
theorem Us.cat{K:List A7}{x y z:Str}{n m:Nat}(h:Us K x y n)(g:Us K y z m):Us K x z (n+m):=by
 induction g with
 | nil=>exact h
 | snoc _ ht e ih=>exact .snoc ih ht e
theorem Us.one{K:List A7}{x y:Str}{t:A7}(ht:t∈K)(e:tj t x y):Us K x y 1:=.snoc .nil ht e
theorem Us.mono{K K':List A7}(hk:∀t∈K,t∈K'){x y:Str}{n:Nat}(h:Us K x y n):Us K' x y n:=by
 induction h with
 | nil=>exact .nil
 | snoc _ ht e ih=>exact .snoc ih (hk _ ht) e
theorem Us.wk{N:Net}{K:List A7}{M:Int}(hk:∀t∈K,t∈N.ts/\t.len<=M){x y:Str}{n:Nat}(h:Us K x y n):∃d,Wk N x y d/\d<=(n:Int)*M:=by
 induction h with
 | nil=>exact⟨0,.nil,by rw [Int.natCast_zero,Int.zero_mul]; exact Int.le_refl _⟩
 | @snoc y z n t _ ht e ih =>
  obtain⟨d,hd,hl⟩:=ih
  obtain⟨h1,h2⟩:=hk t ht
  have e3:((n+1:Nat):Int)*M=(n:Int)*M+M:=by rw [Int.natCast_add,Int.add_mul,Int.natCast_one,Int.one_mul]
  refine⟨d+t.len,.snoc hd ?_,by omega⟩
  rcases e with ⟨rfl,rfl⟩ | ⟨rfl,rfl⟩
  ·exact(Lr h1).1
  ·exact(Lr h1).2
noncomputable def firm(N:Net)(t b:Int)(L:List A7):Prop:=∀pre z post,L=pre++z::post->¬Tf (sub N pre) t b z
structure Kept (N:Net) (t b:Int) (L:List A7):Prop where
 ok:okN N
 firm:firm N t b L
 ins:∀u∈L,u∈N.ts
 up:L.Pairwise fun u v=>u.len<=v.len
 b1:1<=b
noncomputable def one(t:A7):A7:=⟨t.a,t.b,1⟩
noncomputable def alike(N:Net):Net:=⟨N.ps,N.ts.map one⟩
theorem Di{N:Net}(okn:okN N):okN (alike N):=by
 refine⟨⟨okn.1.names,okn.1.rise,fun t ht=>?_,?_⟩,okn.2.1,by show (N.ts.map one).length<=60; rw [List.length_map]; exact okn.2.2⟩
 ·obtain⟨s,hs,rfl⟩:=List.mem_map.mp ht
  obtain⟨h1,h2,h3,_⟩:=okn.1.tin s hs
  exact⟨h1,h2,h3,Int.le_refl 1,(by decide:(1:Int)<=1000000)⟩
 ·exact List.pairwise_map.mpr (okn.1.trise.imp fun {s t} z=>z)
theorem Fc{N:Net}(ok:N.Ok)(h1:∀t∈N.ts,t.len=1):∀{w:List Str} {d:Int},walk N w d->(w.length:Int)=d+1
 | [],d,h=>h.elim
 | [x],d,h=>by
  have:d=0:=h
  subst this
  rfl
 | x::y::r,d,h=>by
  obtain⟨l,e,he,hw,rfl⟩:=h
  obtain⟨t,ht,e1,_⟩:=he.tie ok
  have:=Fc ok h1 hw
  have:=h1 t ht
  have e3:((x::y::r).length:Int)=((y::r).length:Int)+1:=by rw [List.length_cons]; omega
  omega
theorem Wk.us{N:Net}(ok:N.Ok)(h1:∀t∈N.ts,t.len=1){s x:Str}{d:Int}(h:Wk N s x d):∃n:Nat,(n:Int)=d/\Us N.ts s x n:=by
 induction h with
 | nil=>exact⟨0,rfl,.nil⟩
 | snoc _ he ih =>
  obtain⟨n,e,hu⟩:=ih
  obtain⟨t,ht,e1,e2⟩:=he.tie ok
  have:=h1 t ht
  exact⟨n+1,by omega,.snoc hu ht e2⟩
theorem Us.ones{K:List A7}{x y:Str}{n:Nat}{K':List A7}(hk:∀s∈K,∃u∈K',s=Nt.one u)(h:Us K x y n):Us K' x y n:=by
 induction h with
 | nil=>exact .nil
 | snoc _ ht e ih =>
  obtain⟨u,hu,rfl⟩:=hk _ ht
  exact .snoc ih hu e
theorem CI{N:Net}{u:A7}:(∀t∈(Bc (alike N) (one u)).ts,t.len=1)/\∀s∈(Bc (alike N) (one u)).ts,∃v∈N.ts.filter (fun v=>decide (v≠u)),s=one v:=by
 constructor
 ·intro t ht
  obtain⟨s,_,rfl⟩:=List.mem_map.mp (List.mem_filter.mp ht).1
  rfl
 ·intro s hs
  obtain⟨h1,h2⟩:=List.mem_filter.mp hs
  obtain⟨v,hv,rfl⟩:=List.mem_map.mp h1
  exact⟨v,List.mem_filter.mpr ⟨hv,decide_eq_true fun e=>of_decide_eq_true h2 (by rw [e])⟩,rfl⟩
noncomputable def U5(N:Net)(o:Option (List Str)):Prop:=match o with
 | none=>∀u∈N.ts,∀d,¬Wk (Bc (alike N) (one u)) u.a u.b d
 | some w=>(∃u∈N.ts,Way (Bc (alike N) (one u)) u.a u.b (some w))/\∀u∈N.ts,∀d,Wk (Bc (alike N) (one u)) u.a u.b d->(w.length:Int)<=d+1
theorem Cn.exit{K:List A7}{x y:Str}(h:Cn K x y):x=y\/∃t∈K,∃x',tj t x x'/\Cn (K.filter fun s=>decide (¬(s.a=x\/s.b=x))) x' y:=by
 induction h with
 | refl=>exact .inl rfl
 | @step y z _ e ih =>
  obtain⟨s,hs,e⟩:=e
  by_cases c:s.a=x\/s.b=x
  ·by_cases cz:x=z
   ·exact .inl cz
   ·have:tj s x z:=by
     rcases e with ⟨e1,e2⟩ | ⟨e1,e2⟩
     ·rcases c with c | c
      ·exact .inl ⟨c,e2⟩
      ·exact absurd (c.symm.trans e2) cz
     ·rcases c with c | c
      ·exact absurd (c.symm.trans e2) cz
      ·exact .inr ⟨c,e2⟩
    exact .inr ⟨s,hs,z,this,.refl⟩
  ·rcases ih with rfl | ⟨t,ht,x',h1,h2⟩
   ·exact absurd (e.elim (fun e=>.inl e.1) fun e=>.inr e.1) c
   ·exact .inr ⟨t,ht,x',h1,.step h2 ⟨s,List.mem_filter.mpr ⟨hs,decide_eq_true c⟩,e⟩⟩
theorem Cn.short:∀(k:Nat) {K:List A7},K.length<=k->∀{x y:Str},Cn K x y->∃n,n<=K.length/\Us K x y n
 | k,K,hk,x,y,h=>by
  rcases h.exit with rfl | ⟨t,ht,x',h1,h2⟩
  ·exact⟨0,Nat.zero_le _,.nil⟩
  ·have hlt:(K.filter fun s=>decide (¬(s.a=x\/s.b=x))).length<K.length:=by
    refine List.length_filter_lt_length_iff_exists.mpr ⟨t,ht,fun z=>of_decide_eq_true z ?_⟩
    exact h1.elim (fun e=>.inl e.1) fun e=>.inr e.1
   cases k with
   | zero=>omega
   | succ k =>
    obtain⟨n,h3,h4⟩:=Cn.short k (by omega) h2
    have:=(Us.one ht h1).cat (h4.mono fun s hs=>(List.mem_filter.mp hs).1)
    exact⟨1+n,by omega,this⟩
end Nt
namespace L2
open PySem PySem.Spec PyProof.Rows PySem.W
theorem Lv(bt:Nat->Nat->Bool)(f:Nat->Int)(le:Int->Int->Prop)(rfl':∀a,le a a)(tr:∀a b c,le a b->le b c->le a c)(hb:∀i j,(bt i j=true->le (f j) (f i))/\(bt i j=false->le (f i) (f j))):∀m:Nat,argBest bt m<=m/\∀i,i<=m->le (f i) (f (argBest bt m))
 | 0=>⟨Nat.le_refl _,fun i hi=>by rw [Nat.le_zero.mp hi]; exact rfl' _⟩
 | m+1=>by
  obtain⟨h1,h2⟩:=Lv bt f le rfl' tr hb m
  unfold argBest
  cases c:bt (m+1) (argBest bt m) with
  | true =>
   rw [if_pos rfl]
   refine⟨Nat.le_refl _,fun i hi=>?_⟩
   rcases Nat.lt_or_ge i (m+1) with z | z
   ·exact tr _ _ _ (h2 i (Nat.lt_succ_iff.mp z)) ((hb _ _).1 c)
   ·rw [Nat.le_antisymm hi z]; exact rfl' _
  | false =>
   rw [if_neg Bool.false_ne_true]
   refine⟨Nat.le_succ_of_le h1,fun i hi=>?_⟩
   rcases Nat.lt_or_ge i (m+1) with z | z
   ·exact h2 i (Nat.lt_succ_iff.mp z)
   ·rw [Nat.le_antisymm hi z]; exact(hb _ _).2 c
section
variable {X:Cx}
noncomputable def Qy(K:Frag):List V->Hp->VK->Prop:=fun xs H Q=>∃(p:Addr) (is:List Int),xs=[.ref p]/\SqL K H p (is.map V.int)/\is≠[]/\∀m∈is,(∀i∈is,m<=i)->Q (.int m) H
theorem NG(hc:X.calm=true):B6 X (.builtin "min") (Qy X.K):=by
 intro pins s σ H xs us Q I r h
 obtain⟨p,is,rfl,hq,hne,q⟩:=h
 obtain⟨u,rfl,rx⟩:=vals1 r
 cases rx
 obtain⟨its,r',pl,hz⟩:=I.list hq
 have hlen:=r'.length
 rw [List.length_map] at hlen
 have hpos:=List.length_pos_iff.mpr hne
 have hl:s.heap.IsList p its.toArray:=pl.isList
 have hlt:p<s.heap.objs.size:=by obtain⟨_,e,_⟩:=id hl; exact Heap.lt_size e
 have hval:∀(i:Nat) (v:Value),its.toArray[i]?=some v->∃t,v=Value.int ((is[i]?).getD 0) t:=fun i v hP=>by
  have hv:its[i]?=some v:=by simpa using hP
  have hi:i<its.length:=(List.getElem?_eq_some_iff.mp hv).1
  have eb:is[i]?=some (is[i]'(by omega)):=List.getElem?_eq_getElem (by omega)
  obtain⟨u,eu,ru⟩:=r'.get (i:=i) (x:=.int (is[i]'(by omega))) (by rw [List.getElem?_map,eb]; rfl)
  rw [hv] at eu
  cases eu
  obtain⟨t,rfl⟩:=ru
  exact⟨t,by rw [eb]; rfl⟩
 refine call_min_walkS (wpAny_pyIter_list hl ?_)
 refine⟨s.heap.objs.size,_,_,_,_,_,_,_,rfl,(Walks.list (A:=X.A.in1) (I.ok.hd hc) _ p (Nat.ne_of_lt hlt) its.toArray).toS,
  ⟨⟨_,Heap.get?_push_size _ rfl,rfl,rfl⟩,hl.push _⟩,fun b hb=>?_,by rw [List.size_toArray]; omega,CmpOf.ints_lt (fun i=>(is[i]?).getD 0) hval,fun v s' hP hm=>?_⟩
 ·rcases List.mem_cons.mp hb with rfl | hb
  ·exact Heap.lt_size (Heap.get?_push_size _ rfl)
  ·obtain rfl:=List.mem_singleton.mp hb
   exact Nat.lt_of_lt_of_le hlt (by show s.heap.objs.size<=(s.heap.push _).objs.size; rw [size_push']; exact Nat.le_succ _)
 ·obtain⟨h',g',d',tk',os'⟩:=s'
  have e1:g'=s.gens:=hm.gens
  have e2:d'=s.drawn:=hm.drawn
  have e3:os'=s.os:=hm.os
  subst e1 e2 e3
  obtain⟨t,rfl⟩:=hval _ _ hP
  obtain⟨b1,b2⟩:=Lv _ (fun i=>(is[i]?).getD 0) (fun a b=>b<=a) Int.le_refl (fun _ _ _ h1 h2=>Int.le_trans h2 h1) (fun i j=>⟨fun z=>Int.le_of_lt (of_decide_eq_true z),fun z=>Int.not_lt.mp (of_decide_eq_false z)⟩) (its.toArray.size - 1)
  rw [List.size_toArray] at b1 b2 ⊢
  refine⟨.int _,H,I.kept (t':=tk') fun b x e=>hm.heap b x (fun hb=>by rw [List.mem_singleton.mp hb] at e; exact Nat.lt_irrefl _ (Heap.lt_size e)) (Heap.get?_push_of_some _ e),⟨t,rfl⟩,q _ ?_ fun i hi=>?_⟩
  ·have hj:argBest _ (its.length - 1)<is.length:=Nat.lt_of_le_of_lt b1 (by omega)
   rw [List.getElem?_eq_getElem hj]
   exact List.getElem_mem hj
  ·obtain⟨k,hk⟩:=List.mem_iff_getElem?.mp hi
   have hkl:k<is.length:=(List.getElem?_eq_some_iff.mp hk).1
   have:=b2 k (by omega)
   simp only [hk,Option.getD_some] at this
   exact this
end
end L2
namespace Dp
open PySem PySem.Spec PyProof.Rows L2
noncomputable def RA(ds:List D)(P:D->Prop):Prop:=∃xs is,ds=[.lst xs]/\NJ xs=some is/\is≠[]/\∀m∈is,(∀i∈is,m<=i)->P (.int m)
theorem Sg{K:Frag}:CT K .sh (Qy K) RA:=by
 intro U M H ds vs P Q dom vM hp w q
 obtain⟨xs,is,rfl,e,hne,w⟩:=w
 obtain⟨v,rfl,hx⟩:=Ck hp
 obtain⟨a,us,rfl,_,ha,hs⟩:=hx
 have:=Lx e hs
 subst this
 exact⟨a,is,rfl,.inl ha,hne,fun m hm hle=>q _ H (.int m) .refl rfl (w m hm hle)⟩
end Dp
namespace Nt
open PySem PySem.Spec PyProof.Rows L2 Dp
noncomputable def D7:W2:=fun ss n P=>∃N:Net,ss=[.sh (Cb N)]/\okN N/\∀o,U5 N o->P (Ry o) n
noncomputable def Ea:Af:=(AU (A4 1 (AX D8 (AD (AT (AB 0)) (AD (Ei (Bu [none,none,none] (Bv (AW B9 (AB 0) (wC (D.int 1)))) (K3 3 (Bs (Ao 0) (Bs (Ao 1) (Bs (Ao 2) Gd)))) Cs (CB (AC (AB 0) (AC (AB 1) (AC (wC (D.int 1)) AN)))))) AZ))))
 (AU (A4 2 (wC D.non))
 (AU (FE (Bv (AW B9 (AB 1) (wC (D.int 1)))) (Ao 3) (AU (A4 4 (AX NN (AD (AT (AX Cq (AD (AT (AB 1)) (AD (AT (Dx (AC (AB 3) AN))) AZ)))) (AD (AT (AW B9 (AB 3) (wC (D.int 0)))) (AD (AT (AW B9 (AB 3) (wC (D.int 1)))) AZ)))))
 (CU (Ff (Aa (AW (FK true) (AB 4) (wC D.non))) (J8 (Aa (AW (FK false) (AB 2) (wC D.non))) (Aa (AW EU (Cr Dl (AC (AB 4) AN)) (Cr Dl (AC (AB 2) AN)))))) (A4 2 (AB 4)) Bj)))
 (Bt (AB 2)))))
noncomputable def Te:D->D
 | .tup [a,b,_]=>.tup [a,b,.int 1]
 | d=>d
theorem OI(ts:List A7):(ts.map Ac).map Te=(ts.map one).map Ac:=by
 rw [List.map_map,List.map_map]
 rfl
noncomputable def RndL(N:Net)(us:List A7)(o:Option (List Str)):Prop:=match o with
 | none=>∀u∈us,∀d,¬Wk (Bc (alike N) (one u)) u.a u.b d
 | some w=>(∃u∈us,Way (Bc (alike N) (one u)) u.a u.b (some w))/\∀u∈us,∀d,Wk (Bc (alike N) (one u)) u.a u.b d->(w.length:Int)<=d+1
theorem LA{N:Net}(okn:okN N){u:A7}{w:List Str}(h:Way (Bc (alike N) (one u)) u.a u.b (some w)):∃d,Gn (Bc (alike N) (one u)) u.a u.b d/\(w.length:Int)=d+1:=by
 obtain⟨d,_,_,_,hw,hl,_⟩:=h
 exact⟨d,hl,Fc (DK (Di okn) (one u)).1 CI.1 hw⟩
theorem RndL.same{N:Net}(okn:okN N){us:List A7}{o:Option (List Str)}{u:A7}(h:RndL N us o)(hn:∀w,o=some w->∀d,Wk (Bc (alike N) (one u)) u.a u.b d->(w.length:Int)<=d+1)(h0:o=none->∀d,¬Wk (Bc (alike N) (one u)) u.a u.b d):RndL N (us++[u]) o:=by
 cases o with
 | none =>
  intro v hv
  rcases List.mem_append.mp hv with hv | hv
  ·exact h v hv
  ·rw [List.mem_singleton.mp hv]; exact h0 rfl
 | some w =>
  obtain⟨⟨v,hv,hw⟩,h2⟩:=h
  refine⟨⟨v,List.mem_append_left _ hv,hw⟩,fun v hv=>?_⟩
  rcases List.mem_append.mp hv with hv | hv
  ·exact h2 v hv
  ·rw [List.mem_singleton.mp hv]; exact hn w rfl
theorem RndL.new{N:Net}(okn:okN N){us:List A7}{o:Option (List Str)}{u:A7}{w:List Str}(h:RndL N us o)(hw:Way (Bc (alike N) (one u)) u.a u.b (some w))(hl:∀w0,o=some w0->w.length<w0.length):RndL N (us++[u]) (some w):=by
 refine⟨⟨u,List.mem_append_right _ (List.mem_singleton.mpr rfl),hw⟩,fun v hv d hd=>?_⟩
 rcases List.mem_append.mp hv with hv | hv
 ·cases o with
  | none=>exact absurd hd (h v hv d)
  | some w0 =>
   have:=h.2 v hv d hd
   have:=hl w0 rfl
   omega
 ·rw [List.mem_singleton.mp hv] at hd
  obtain⟨d',h1,h2⟩:=LA okn hw
  have:=h1.2 d hd
  omega
section
variable {ss:List Slot}{n:Nat}{Pd:D->Nat->Prop}
theorem JG(h:D7 ss n Pd):Ea (EE Pd) n (ss++List.replicate 4 .no):=by
 obtain⟨N,rfl,okn,p⟩:=h
 have ok:=okn.1
 have l60:=okn.2.2
 have oka:=Di okn
 unfold Ea
 refine⟨_,AV (j:=1) rfl,by show (N.ts.map Ac).length<=10000000; rw [List.length_map]; omega,?_⟩
 refine Co Te (fun ρ=>∃s0 s1 s2,ρ=[s0,s1,s2]) _ _ _ _ ?_ ⟨_,_,_,rfl⟩ ?_
 ·rintro d hd ρ m nx ⟨s0,s1,s2,rfl⟩ h1
  obtain⟨t,ht,rfl⟩:=List.mem_map.mp hd
  exact⟨rfl,rfl,z3,h1 _ ⟨_,_,_,rfl⟩⟩
 rw [List.nil_append,OI]
 refine⟨N,_,(alike N).ts,rfl,rfl,by have:=oka.2.2; omega,fun ts' p1 p2=>?_⟩
 rw [Fn oka.1 oka.1.trise p1 p2]
 refine⟨.tup ((alike N).ts.map Ac),AV (j:=1) rfl,?_⟩
 have go:∀(rest done:List A7) (o:Option (List Str)) (s3 s4:Slot),done++rest=N.ts->RndL N done o ->
   Bb (Ao 3) (AU (A4 4 (AX NN (AD (AT (AX Cq (AD (AT (AB 1)) (AD (AT (Dx (AC (AB 3) AN))) AZ)))) (AD (AT (AW B9 (AB 3) (wC (D.int 0)))) (AD (AT (AW B9 (AB 3) (wC (D.int 1)))) AZ)))))
 (CU (Ff (Aa (AW (FK true) (AB 4) (wC D.non))) (J8 (Aa (AW (FK false) (AB 2) (wC D.non))) (Aa (AW EU (Cr Dl (AC (AB 4) AN)) (Cr Dl (AC (AB 2) AN)))))) (A4 2 (AB 4)) Bj)) { EE Pd with nx:=Bt (AB 2) (EE Pd) } ((rest.map one).map Ac) n [.sh (Cb N),.sh (Cb (alike N)),.sh (Ry o),s3,s4]:=by
  intro rest
  induction rest with
  | nil =>
   intro done o s3 s4 e h
   rw [List.append_nil] at e
   subst e
   refine p o ?_
   cases o with
   | none=>exact h
   | some w=>exact h
  | cons u rest ih =>
   intro done o s3 s4 e h
   have hu:u∈N.ts:=by rw [← e]; exact List.mem_append_right _ List.mem_cons_self
   have e':(done++[u])++rest=N.ts:=by rw [List.append_assoc]; exact e
   obtain⟨m1,m2,_⟩:=ok.tin u hu
   refine⟨z1,alike N,one u,rfl,oka,KD oka.1 (one u) (List.mem_map.mpr ⟨u,hu,rfl⟩),?_⟩
   refine⟨_,AV (j:=0) rfl,_,AV (j:=1) rfl,Bc (alike N) (one u),u.a,u.b,rfl,DK oka _,m1,m2,fun o2 h2=>⟨rfl,?_⟩⟩
   cases o2 with
   | none =>
    exact ih (done++[u]) o _ _ e' (h.same okn (fun w _ d hd=>absurd hd (h2 d)) fun _=>h2)
   | some w =>
    obtain⟨d,hd,hl⟩:=LA okn h2
    refine⟨rfl,?_⟩
    cases o with
    | none=>exact ih (done++[u]) (some w) _ _ e' (h.new okn h2 fun w0 z=>by cases z)
    | some w0 =>
     refine⟨_,_,rfl,rfl,_,_,rfl,rfl,CD (fun c=>?_) fun c=>?_⟩
     ·refine ih (done++[u]) (some w) _ _ e' (h.new okn h2 fun w1 z=>?_)
      cases z
      have c:=of_decide_eq_true c
      rw [List.length_map,List.length_map] at c
      omega
     ·refine ih (done++[u]) (some w0) _ _ e' (h.same okn (fun w1 z d2 hd2=>?_) fun z=>by cases z)
      cases z
      have c:¬(((w.map D.str).length:Nat):Int)<((w0.map D.str).length:Nat):=fun z=>c (decide_eq_true z)
      rw [List.length_map,List.length_map] at c
      have:=hd.2 d2 hd2
      omega
 exact go N.ts [] none _ _ rfl fun u hu=>by cases hu
end
end Nt
set_option maxRecDepth 10000
namespace St
open PySem PySem.SetTable
theorem PB{t t':SetTable}(h:t.mask=t'.mask)(p:Probe):t.advance p=t'.advance p:=by
 unfold SetTable.advance; rw [h]
noncomputable def st(t:SetTable)(p:Probe):Nat->Probe
 | 0=>p
 | n+1=>t.advance (st t p n)
theorem DZ{t t':SetTable}(h:t.mask=t'.mask)(p:Probe):∀n,st t p n=st t' p n
 | 0=>rfl
 | n+1=>by simp only [st,DZ h p n,PB h]
theorem Fl(t:SetTable)(p:Probe)(a:Nat):∀b,st t p (a+b)=st t (st t p a) b
 | 0=>rfl
 | b+1=>by rw [← Nat.add_assoc]; simp only [st,Fl t p a b]
theorem JD(t:SetTable)(p:Probe)(h:p.dummy=none):∀n,(st t p n).dummy=none
 | 0=>h
 | n+1=>by
  have:=JD t p h n
  simp only [st,SetTable.advance]
  split <;> simpa using this
structure Ok (t:SetTable) (p:Probe):Prop where
 more:p.more<=9
 i:p.i<=t.mask
 j:p.j+p.more<=t.mask
 per:p.perturb<2 ^ 64
theorem Dc{m i:Nat}(h:i<=m):runEnd m i<=m/\i<=runEnd m i/\runEnd m i<=i+9:=by
 unfold runEnd; split <;> omega
noncomputable def DC(t:SetTable)(p:Probe):Probe :=
 { p with j:=(leap t.mask p.i p.perturb).1,more:=runEnd t.mask (leap t.mask p.i p.perturb).1 - (leap t.mask p.i p.perturb).1,i:=(leap t.mask p.i p.perturb).1,perturb:=(leap t.mask p.i p.perturb).2 }
theorem EQ{t:SetTable}{p:Probe}(h:p.perturb<2 ^ 64):Ok t (DC t p)/\(DC t p).j=(DC t p).i:=by
 have hi:(leap t.mask p.i p.perturb).1<=t.mask:=by
  exact Nat.le_of_lt_succ (Nat.mod_lt _ (Nat.succ_pos t.mask))
 obtain⟨a,b,c⟩:=Dc hi
 refine⟨⟨?_,?_,?_,?_⟩,rfl⟩
 ·show runEnd _ _ - _<=9; omega
 ·exact hi
 ·show (leap t.mask p.i p.perturb).1+(runEnd t.mask (leap t.mask p.i p.perturb).1 - (leap t.mask p.i p.perturb).1)<=_; omega
 ·show p.perturb / 32<_; omega
theorem SZ{t:SetTable}{p:Probe}(h:Ok t p):Ok t (t.advance p):=by
 unfold SetTable.advance
 split
 ·rename_i hm
  have:=h.more; have:=h.j
  exact⟨by show p.more - 1<=9; omega,h.i,by show p.j+1+(p.more - 1)<=_; omega,h.per⟩
 ·exact(EQ h.per).1
theorem Qm{t:SetTable}{p:Probe}(h:Ok t p):∀n,Ok t (st t p n)
 | 0=>h
 | n+1=>SZ (Qm h n)
theorem Fk(t:SetTable)(x:Int):Ok t (t.probeStart x):=by
 have hi:bits x % (t.mask+1)<=t.mask:=by
  exact Nat.le_of_lt_succ (Nat.mod_lt _ (Nat.succ_pos t.mask))
 obtain⟨a,b,c⟩:=Dc hi
 refine⟨?_,hi,?_,?_⟩
 ·show runEnd _ _ - _<=9; omega
 ·show bits x % (t.mask+1)+(runEnd t.mask (bits x % (t.mask+1)) - bits x % (t.mask+1))<=_; omega
 ·show bits x<_
  unfold bits
  have h1:=Int.emod_lt_of_pos x (show (0:Int)<2 ^ 64 by decide)
  have h2:=Int.emod_nonneg x (show (2 ^ 64:Int)≠0 by decide)
  omega
theorem KJ(t:SetTable):∀(m:Nat) (p:Probe),p.more=m->st t p (m+1)=DC t p
 | 0,p,h=>by
  show t.advance p=_
  unfold SetTable.advance
  rw [if_neg (by omega)]; rfl
 | m+1,p,h=>by
  have e:st t p (m+1+1)=st t (t.advance p) (m+1):=by
   have:=Fl t p 1 (m+1)
   rw [show 1+(m+1)=m+1+1 by omega] at this
   exact this
  have ha:t.advance p={ p with j:=p.j+1,more:=p.more - 1 }:=by
   unfold SetTable.advance; rw [if_pos (by omega)]
  rw [e,KJ t m (t.advance p) (by rw [ha]; show p.more - 1=m; omega),ha]
  rfl
noncomputable def lp(t:SetTable)(p:Probe):Nat->Probe
 | 0=>p
 | n+1=>DC t (lp t p n)
theorem Lg{t:SetTable}{p:Probe}(h:Ok t p):∀n,Ok t (lp t p n)
 | 0=>h
 | n+1=>(EQ (Lg h n).per).1
theorem Q7{t:SetTable}{p:Probe}(h:Ok t p):∀n,∃k,k<=10*n/\st t p k=lp t p n
 | 0=>⟨0,by omega,rfl⟩
 | n+1=>by
  obtain⟨k,hk,e⟩:=Q7 h n
  have hm:=(Lg h n).more
  refine⟨k+((lp t p n).more+1),by omega,?_⟩
  rw [Fl,e,KJ t _ _ rfl]; rfl
theorem ON(t:SetTable)(p:Probe):∀n,(lp t p n).perturb=p.perturb / 32 ^ n
 | 0=>by simp [lp]
 | n+1=>by
  show (lp t p n).perturb / 32=_
  rw [ON t p n,Nat.div_div_eq_div_mul,Nat.pow_succ]
noncomputable def it(m:Nat)(i:Nat):Nat->Nat
 | 0=>i
 | n+1=>(it m i n*5+1) % (m+1)
theorem OO{t:SetTable}{p:Probe}(h:p.perturb<2 ^ 64):∀n,(lp t p (13+n)).i=it t.mask (lp t p 13).i n
 | 0=>rfl
 | n+1=>by
  show (leap t.mask (lp t p (13+n)).i (lp t p (13+n)).perturb).1=_
  have hz:(lp t p (13+n)).perturb / 32=0:=by
   rw [ON,Nat.div_div_eq_div_mul]
   apply Nat.div_eq_of_lt
   have h1:32 ^ 13<=32 ^ (13+n):=Nat.pow_le_pow_right (by decide) (by omega)
   have h2:(2:Nat) ^ 64<=32 ^ 13:=by decide
   omega
  simp only [leap,hz,OO h n,it]
noncomputable def PV(m:Nat):Prop:=∀a,a<=m->∀b,b<=m->∃n,n<=m/\it m a n=b
noncomputable def T5(m:Nat):Bool:=(List.range (m+1)).all fun a=>(List.range (m+1)).all fun b=>(List.range (m+1)).any fun n=>it m a n==b
theorem O5{m:Nat}(h:T5 m=true):PV m:=by
 intro a ha b hb
 simp only [T5,List.all_eq_true,List.mem_range,List.any_eq_true,beq_iff_eq] at h
 obtain⟨n,hn,e⟩:=h a (by omega) b (by omega)
 exact⟨n,by omega,e⟩
theorem Uz:PV 7:=O5 (by decide +kernel)
theorem T6:PV 31:=O5 (by decide +kernel)
theorem OP{t:SetTable}{p:Probe}(C:PV t.mask)(h:Ok t p){b:Nat}(hb:b<=t.mask):∃n,n<=13+t.mask/\(lp t p n).j=b/\(lp t p n).i=b:=by
 obtain⟨n,hn,e⟩:=C _ (Lg h 13).i b hb
 refine⟨13+n,by omega,?_,?_⟩
 ·have:(lp t p (13+n)).j=(lp t p (13+n)).i:=by
   rw [show 13+n=(12+n)+1 by omega]
   exact(EQ (Lg h (12+n)).per).2
  rw [this,OO h.per,e]
 ·rw [OO h.per,e]
theorem RY{t:SetTable}{p:Probe}(C:PV t.mask)(h:Ok t p){b:Nat}(hb:b<=t.mask):∃k,k<=10*(13+t.mask)/\(st t p k).j=b:=by
 obtain⟨n,hn,e,_⟩:=OP C h hb
 obtain⟨k,hk,f⟩:=Q7 h n
 exact⟨k,by omega,by rw [f,e]⟩
noncomputable def Up(xs:Array Nat):Prop:=∀i k:Nat,i<k->∀a b:Nat,xs[i]?=some a->xs[k]?=some b->a<b
theorem O9(xs:Array Nat)(j:Nat)(U:Up xs):∀(f lo hi:Nat),hi - lo<=f->lo<=hi->hi<=xs.size ->
  (∀i a:Nat,i<lo->xs[i]?=some a->a<j)->(∀i a:Nat,hi<=i->xs[i]?=some a->j<=a) ->
  lo<=below.go xs j f lo hi/\below.go xs j f lo hi<=hi/\(∀i a:Nat,i<below.go xs j f lo hi->xs[i]?=some a->a<j)/\(∀i a:Nat,below.go xs j f lo hi<=i->xs[i]?=some a->j<=a):=by
 intro f
 induction f with
 | zero =>
  intro lo hi h1 h2 h3 h4 h5
  have e:lo=hi:=by omega
  subst e
  exact⟨Nat.le_refl _,Nat.le_refl _,h4,h5⟩
 | succ f ih =>
  intro lo hi h1 h2 h3 h4 h5
  unfold below.go
  split
  ·rename_i hlt
   have hm:(lo+hi) / 2<xs.size:=by omega
   have hg:xs[(lo+hi) / 2]?=some xs[(lo+hi) / 2]:=Array.getElem?_eq_getElem hm
   have hd:xs.getD ((lo+hi) / 2) j=xs[(lo+hi) / 2]:=by
    rw [Array.getD_eq_getD_getElem?,hg]; rfl
   dsimp only
   rw [hd]
   split
   ·rename_i hc
    obtain⟨a,b,c,d⟩:=ih ((lo+hi) / 2+1) hi (by omega) (by omega) h3 (by
     intro i a hi' he
     by_cases h:i=(lo+hi) / 2
     ·subst h; rw [hg] at he; cases he; exact hc
     ·exact Nat.lt_trans (U i _ (by omega) a _ he hg) hc) h5
    exact⟨by omega,b,c,d⟩
   ·rename_i hc
    obtain⟨a,b,c,d⟩:=ih lo ((lo+hi) / 2) (by omega) (by omega) (by omega) h4 (by
     intro i a hi' he
     by_cases h:i=(lo+hi) / 2
     ·subst h; rw [hg] at he; cases he; omega
     ·have:=U _ i (by omega) _ a hg he
      omega)
    exact⟨a,by omega,c,d⟩
  ·have e:lo=hi:=by omega
   subst e
   exact⟨Nat.le_refl _,Nat.le_refl _,h4,h5⟩
theorem C4(xs:Array Nat)(j:Nat)(U:Up xs):below xs j<=xs.size/\(∀i a:Nat,i<below xs j->xs[i]?=some a->a<j)/\(∀i a:Nat,below xs j<=i->xs[i]?=some a->j<=a):=by
 obtain⟨_,b,c,d⟩:=O9 xs j U xs.size 0 xs.size (by omega) (by omega) (Nat.le_refl _) (by intro i a h; omega) (by
  intro i a h he
  rw [Array.getElem?_eq_none h] at he; cases he)
 exact⟨b,c,d⟩
theorem below_at{xs:Array Nat}{j i:Nat}(U:Up xs)(h:xs[i]?=some j):below xs j=i:=by
 obtain⟨_,c,d⟩:=C4 xs j U
 rcases Nat.lt_trichotomy (below xs j) i with l | l | l
 ·exfalso
  have hs:i<xs.size:=by
   rcases Nat.lt_or_ge i xs.size with q | q
   ·exact q
   ·rw [Array.getElem?_eq_none q] at h; cases h
  have hb:below xs j<xs.size:=by omega
  have:=d _ _ (Nat.le_refl _) (Array.getElem?_eq_getElem hb)
  have:=U _ _ l _ _ (Array.getElem?_eq_getElem hb) h
  omega
 ·exact l
 ·exfalso
  have:=c i j l h
  omega
theorem HD{t:SetTable}{j i:Nat}(U:Up t.place)(h:t.place[i]?=some j):t.slot j=.live i:=by
 unfold SetTable.slot
 rw [below_at U h]
 simp [h]
theorem KL{t:SetTable}{j:Nat}(hd:t.dummies=#[])(h:∀i:Nat,t.place[i]?≠some j):t.slot j=.empty:=by
 unfold SetTable.slot
 have e:(t.place[below t.place j]?==some j)=false:=by
  have:=h (below t.place j)
  simpa using this
 simp [e,hd,SetTable.has]
theorem nd_len{α:Type}[DecidableEq α]:∀{l m:List α},l.Nodup->l ⊆ m->l.length<=m.length
 | [],m,_,_=>Nat.zero_le _
 | a::l,m,h,s=>by
  have ha:a∈m:=s (.head _)
  have hn:=List.nodup_cons.mp h
  have:=nd_len (l:=l) (m:=m.erase a) hn.2 (fun x hx=>(List.mem_erase_of_ne (fun(e:x=a)=>hn.1 (e▸hx))).mpr (s (.tail _ hx)))
  rw [List.length_erase_of_mem ha] at this
  have:=List.length_pos_of_mem ha
  rw [List.length_cons]; omega
noncomputable def In(t:SetTable)(j:Nat):Prop:=∃i:Nat,t.place[i]?=some j
structure Tab (t:SetTable) (hs:Nat->Option Int):Prop where
 cov:PV t.mask
 dum:t.dummies=#[]
 up:Up t.place
 le:∀i j:Nat,t.place[i]?=some j->j<=t.mask
 few:t.place.size<=t.mask
 has:∀i j:Nat,t.place[i]?=some j->∃x,hs i=some x/\∃k:Nat,(st t (t.probeStart x) k).j=j/\∀k':Nat,k'<k->In t (st t (t.probeStart x) k').j
theorem Tab.free{t:SetTable}{hs:Nat->Option Int}(T:Tab t hs):∃b,b<=t.mask/\¬In t b:=by
 apply Classical.byContradiction
 intro hn
 have hall:∀b,b<=t.mask->In t b:=fun b hb=>Classical.byContradiction fun h=>hn ⟨b,hb,h⟩
 have hsub:List.range (t.mask+1) ⊆ t.place.toList:=by
  intro b hb
  obtain⟨i,hi⟩:=hall b (by have:=List.mem_range.mp hb; omega)
  exact List.mem_of_getElem? (by simpa using hi)
 have:=nd_len (List.nodup_range (n:=t.mask+1)) hsub
 simp at this
 have:=T.few
 omega
theorem Tab.first{t:SetTable}{hs:Nat->Option Int}(T:Tab t hs){p:Probe}(h:Ok t p):∃N,N<=10*(13+t.mask)/\¬In t (st t p N).j/\∀k,k<N->In t (st t p k).j:=by
 obtain⟨b,hb,hn⟩:=T.free
 obtain⟨k,hk,e⟩:=RY T.cov h hb
 have:∀k,¬In t (st t p k).j->∃N,N<=k/\¬In t (st t p N).j/\∀k,k<N->In t (st t p k).j:=by
  intro k
  induction k using Nat.strongRecOn with
  | ind k ih =>
   intro hk
   by_cases hq:∀k',k'<k->In t (st t p k').j
   ·exact⟨k,Nat.le_refl _,hk,hq⟩
   ·have ⟨k',hk'⟩:=Classical.not_forall.mp hq
    have ⟨h1,h2⟩:=Classical.not_imp.mp hk'
    obtain⟨N,a,b,c⟩:=ih k' h1 h2
    exact⟨N,by omega,b,c⟩
 obtain⟨N,a,b,c⟩:=this k (by rw [e]; exact hn)
 exact⟨N,by omega,b,c⟩
theorem N_{t:SetTable}(dum:t.dummies=#[])(U:Up t.place)(ha:Nat->Int)(x:Int)(p:Probe)(hp:p.dummy=none){N:Nat}(hN:¬In t (st t p N).j)(hin:∀k,k<N->In t (st t p k).j) :
  ∀(f n:Nat),n<=N->N - n<f ->
   (SetTable.probe.go t ha x f (st t p n)=some (.empty (st t p N).j none)/\∀k i:Nat,n<=k->k<N->t.place[i]?=some (st t p k).j->ha i≠x) \/
   (∃m i:Nat,n<=m/\m<N/\t.place[i]?=some (st t p m).j/\ha i=x/\SetTable.probe.go t ha x f (st t p n)=some (.candidate (st t p m).j i (st t p (m+1)))/\∀k i:Nat,n<=k->k<m->t.place[i]?=some (st t p k).j->ha i≠x):=by
 intro f
 induction f with
 | zero=>intro n _ h; omega
 | succ f ih =>
  intro n hn hf
  unfold SetTable.probe.go
  by_cases he:n=N
  ·subst he
   rw [KL dum (fun i hi=>hN ⟨i,hi⟩)]
   left
   refine⟨?_,fun k i h1 h2=>by omega⟩
   dsimp only
   rw [JD t p hp]
  ·obtain⟨i,hi⟩:=hin n (by omega)
   rw [HD U hi]
   dsimp only
   by_cases hx:ha i=x
   ·right
    refine⟨n,i,Nat.le_refl _,by omega,hi,hx,?_,fun k i h1 h2=>by omega⟩
    simp only [hx,beq_self_eq_true,↓reduceIte]; rfl
   ·have hb:(ha i==x)=false:=by simpa using hx
    simp only [hb,Bool.false_eq_true,↓reduceIte]
    have uniq:∀i',t.place[i']?=some (st t p n).j->ha i'≠x:=by
     intro i' hi'
     have:=below_at U hi; have:=below_at U hi'
     have:i'=i:=by omega
     subst this; exact hx
    rcases ih (n+1) (by omega) (by omega) with ⟨a,b⟩ | ⟨m,i',h1,h2,h3,h4,h5,h6⟩
    ·left
     refine⟨a,fun k i' h1 h2 h3=>?_⟩
     by_cases hk:k=n
     ·subst hk; exact uniq i' h3
     ·exact b k i' (by omega) h2 h3
    ·right
     refine⟨m,i',by omega,h2,h3,h4,h5,fun k i'' q1 q2 q3=>?_⟩
     by_cases hk:k=n
     ·subst hk; exact uniq i'' q3
     ·exact h6 k i'' (by omega) q2 q3
theorem FV{α:Type}(xs:Array α){p:Nat}(x:α)(hp:p<=xs.size)(i:Nat):(insertAt xs p x)[i]?=if i<p then xs[i]? else if i=p then some x else xs[i - 1]?:=by
 have e:(insertAt xs p x).toList=xs.toList.take p++x::xs.toList.drop p:=by
  simp [insertAt,List.extract_eq_take_drop,List.take_of_length_le]
 rw [← Array.getElem?_toList,e]
 have hl:(xs.toList.take p).length=p:=by simp; omega
 by_cases h1:i<p
 ·rw [if_pos h1,List.getElem?_append_left (by omega),List.getElem?_take_of_lt h1,Array.getElem?_toList]
 ·rw [if_neg h1,List.getElem?_append_right (by omega),hl]
  by_cases h2:i=p
  ·rw [if_pos h2]; subst h2; simp
  ·rw [if_neg h2,show i - p=(i - p - 1)+1 by omega,List.getElem?_cons_succ,List.getElem?_drop,Array.getElem?_toList]
   congr 1; omega
theorem GN{α:Type}(xs:Array α){p:Nat}(x:α)(hp:p<=xs.size):(insertAt xs p x).size=xs.size+1:=by
 have e:(insertAt xs p x).toList=xs.toList.take p++x::xs.toList.drop p:=by
  simp [insertAt,List.extract_eq_take_drop,List.take_of_length_le]
 have:=congrArg List.length e
 simp at this
 omega
theorem Ps{t:SetTable}{es:Array (Int×Value)}{x:Int}{v:Value}{N:Nat}(T:Tab t (fun i=>es[i]?.map (·.1)))(hs:t.place.size=es.size)(hroom:t.place.size+1<=t.mask)
  (hN:¬In t (st t (t.probeStart x) N).j) (hin:∀k,k<N->In t (st t (t.probeStart x) k).j) :
  Tab (t.put (st t (t.probeStart x) N).j).1 (fun i=>(insertAt es (t.put (st t (t.probeStart x) N).j).2 (x,v))[i]?.map (·.1))/\(t.put (st t (t.probeStart x) N).j).1.place.size=es.size+1
   /\ (t.put (st t (t.probeStart x) N).j).2<=es.size:=by
 generalize hj:(st t (t.probeStart x) N).j=j at *
 obtain⟨b1,b2,b3⟩:=C4 t.place j T.up
 have hle:j<=t.mask:=by
  rw [← hj]; have:=(Qm (Fk t x) N).j; omega
 have hd:(t.put j).1.dummies=#[]:=by
  show (if has t.dummies j then eraseAt t.dummies (below t.dummies j) else t.dummies)=#[]
  rw [T.dum]; simp [has]
 have hp:∀i,(t.put j).1.place[i]?=if i<below t.place j then t.place[i]? else if i=below t.place j then some j else t.place[i - 1]?:=fun i=>FV t.place j b1 i
 have hq:∀i,(insertAt es (t.put j).2 (x,v))[i]?=if i<below t.place j then es[i]? else if i=below t.place j then some (x,v) else es[i - 1]?:=fun i=>FV es (x,v) (hs▸b1) i
 have hm:(t.put j).1.mask=t.mask:=rfl
 have hst:∀p n,st (t.put j).1 p n=st t p n:=fun p n=>DZ hm p n
 have hps:∀y,(t.put j).1.probeStart y=t.probeStart y:=fun y=>rfl
 have hIn:∀b,In t b->In (t.put j).1 b:=by
  rintro b ⟨i,hi⟩
  by_cases h:i<below t.place j
  ·exact⟨i,by rw [hp,if_pos h]; exact hi⟩
  ·exact⟨i+1,by rw [hp,if_neg (by omega),if_neg (by omega)]; exact hi⟩
 refine⟨⟨T.cov,hd,?_,?_,?_,?_⟩,by rw [← hs]; exact GN _ _ b1,hs▸b1⟩
 ·intro i k hik a b ha hb
  rw [hp] at ha hb
  by_cases h1:k<below t.place j
  ·rw [if_pos h1] at hb; rw [if_pos (by omega)] at ha; exact T.up i k hik a b ha hb
  ·rw [if_neg h1] at hb
   by_cases h2:k=below t.place j
   ·rw [if_pos h2] at hb; cases hb
    rw [if_pos (by omega)] at ha
    exact b2 i a (by omega) ha
   ·rw [if_neg h2] at hb
    by_cases h3:i<below t.place j
    ·rw [if_pos h3] at ha; exact T.up i (k - 1) (by omega) a b ha hb
    ·rw [if_neg h3] at ha
     by_cases h4:i=below t.place j
     ·rw [if_pos h4] at ha; cases ha
      have h5:=b3 (k - 1) b (by omega) hb
      have h6:b≠j:=by rintro rfl; exact hN ⟨_,hb⟩
      omega
     ·rw [if_neg h4] at ha; exact T.up (i - 1) (k - 1) (by omega) a b ha hb
 ·intro i a ha
  rw [hp] at ha
  split at ha
  ·exact T.le _ _ ha
  ·split at ha
   ·cases ha; exact hle
   ·exact T.le _ _ ha
 ·show (insertAt t.place (below t.place j) j).size<=t.mask
  rw [GN _ _ b1]; exact hroom
 ·intro i a ha
  rw [hp] at ha
  show ∃y:Int,Option.map (fun e:Int×Value=>e.1) (insertAt es (t.put j).2 (x,v))[i]?=some y/\_
  rw [hq]
  have old:∀i':Nat,t.place[i']?=some a->∃y:Int,Option.map (fun e:Int×Value=>e.1) es[i']?=some y/\∃k:Nat,(st (t.put j).1 ((t.put j).1.probeStart y) k).j=a/\∀k':Nat,k'<k->In (t.put j).1 (st (t.put j).1 ((t.put j).1.probeStart y) k').j:=by
   intro i' hi'
   obtain⟨y,hy,k,hk,hk'⟩:=T.has i' a hi'
   refine⟨y,hy,k,by rw [hst,hps]; exact hk,fun k' h=>?_⟩
   rw [hst,hps]; exact hIn _ (hk' k' h)
  by_cases h1:i<below t.place j
  ·rw [if_pos h1] at ha ⊢; exact old i ha
  ·rw [if_neg h1] at ha ⊢
   by_cases h2:i=below t.place j
   ·rw [if_pos h2] at ha ⊢; cases ha
    refine⟨x,rfl,N,by rw [hst,hps]; exact hj,fun k' h=>?_⟩
    rw [hst,hps]; exact hIn _ (hin k' h)
   ·rw [if_neg h2] at ha ⊢; exact old (i - 1) ha
noncomputable def s0(m i per:Nat):Probe:={ j:=i,more:=runEnd m i - i,i:=i,perturb:=per,dummy:=none }
theorem Nd(t:SetTable)(p:Probe):∀k,k<=p.more->(st t p k).j=p.j+k/\(st t p k).more=p.more - k
 | 0,_=>⟨rfl,rfl⟩
 | k+1,h=>by
  obtain⟨a,b⟩:=Nd t p k (by omega)
  show (t.advance (st t p k)).j=_/\(t.advance (st t p k)).more=_
  unfold SetTable.advance
  rw [if_pos (by omega)]
  exact⟨by show (st t p k).j+1=_; omega,by show (st t p k).more - 1=_; omega⟩
theorem Mz{t:SetTable}{o:Array (Option Nat)}:∀(f i per:Nat),i<=t.mask->per<2 ^ 64->layClean.free t.mask o f i per=none->∀n,n<f->(o.getD (lp t (s0 t.mask i per) n).i (some 0)).isNone=false:=by
 intro f
 induction f with
 | zero=>intro i per _ _ _ n h; omega
 | succ f ih =>
  intro i per hi hper h n hn
  unfold layClean.free at h
  obtain⟨r1,r2,r3⟩:=Dc hi
  split at h
  ·cases h
  ·rename_i hnone
   rw [List.find?_eq_none] at hnone
   cases n with
   | zero =>
    exact Bool.eq_false_iff.mpr (hnone 0 (List.mem_range.mpr (by omega)))
   | succ n =>
    dsimp only at h
    have hk:=(EQ (t:=t) (p:=s0 t.mask i per) hper).1
    have:=ih _ _ hk.i hk.per h n (by omega)
    have e:∀n,lp t (s0 t.mask i per) (n+1)=lp t (DC t (s0 t.mask i per)) n:=by
     intro n
     induction n with
     | zero=>rfl
     | succ n ih=>show DC t (lp t (s0 t.mask i per) (n+1))=DC t (lp t _ n); rw [ih]
    rw [e]; exact this
theorem Mx{t:SetTable}{o:Array (Option Nat)}(ho:o.size=t.mask+1):∀(f i per j:Nat),i<=t.mask->per<2 ^ 64->layClean.free t.mask o f i per=some j ->
  o[j]?=some none/\∃k,(st t (s0 t.mask i per) k).j=j/\∀k',k'<k->∃q,o[(st t (s0 t.mask i per) k').j]?=some (some q):=by
 intro f
 induction f with
 | zero=>intro i per j _ _ h; unfold layClean.free at h; cases h
 | succ f ih =>
  intro i per j hi hper h
  unfold layClean.free at h
  obtain⟨r1,r2,r3⟩:=Dc hi
  have taken:∀k,k<=runEnd t.mask i - i->(o.getD (i+k) (some 0)).isNone=false->∃q,o[(st t (s0 t.mask i per) k).j]?=some (some q):=by
   intro k hk hq
   rw [(Nd t (s0 t.mask i per) k hk).1]
   show ∃q,o[i+k]?=some (some q)
   have hb:i+k<o.size:=by omega
   rw [Array.getD_eq_getD_getElem?,Array.getElem?_eq_getElem hb] at hq
   rw [Array.getElem?_eq_getElem hb]
   cases hx:o[i+k] with
   | none=>rw [hx] at hq; cases hq
   | some q=>exact⟨q,rfl⟩
  split at h
  ·rename_i k hk
   cases h
   rw [List.find?_range_eq_some] at hk
   obtain⟨h1,h2,h3⟩:=hk
   have h2:=List.mem_range.mp h2
   have hb:i+k<o.size:=by omega
   refine⟨?_,k,(Nd t (s0 t.mask i per) k (by show k<=runEnd _ _ - _; omega)).1,fun k' hk'=>taken k' (by omega) ?_⟩
   ·rw [Array.getD_eq_getD_getElem?,Array.getElem?_eq_getElem hb] at h1
    rw [Array.getElem?_eq_getElem hb]
    cases hx:o[i+k] with
    | none=>rfl
    | some q=>rw [hx] at h1; cases h1
   ·have:=h3 k' hk'
    simpa using this
  ·rename_i hnone
   rw [List.find?_eq_none] at hnone
   dsimp only at h
   have hk:=(EQ (t:=t) (p:=s0 t.mask i per) hper).1
   obtain⟨a,k,b,c⟩:=ih (leap t.mask i per).1 (leap t.mask i per).2 j hk.i hk.per h
   have hr:st t (s0 t.mask i per) (runEnd t.mask i - i+1)=s0 t.mask (leap t.mask i per).1 (leap t.mask i per).2:=KJ t _ (s0 t.mask i per) rfl
   refine⟨a,runEnd t.mask i - i+1+k,?_,fun k' hk'=>?_⟩
   ·rw [Fl,hr]; exact b
   ·by_cases hc:k'<=runEnd t.mask i - i
    ·refine taken k' hc ?_
     exact Bool.eq_false_iff.mpr (hnone k' (List.mem_range.mpr (by omega)))
    ·have:=c (k' - (runEnd t.mask i - i+1)) (by omega)
     rw [← hr,← Fl,show runEnd t.mask i - i+1+(k' - (runEnd t.mask i - i+1))=k' by omega] at this
     exact this
structure Lay (t:SetTable) (done:List Int) (o:Array (Option Nat)):Prop where
 size:o.size=t.mask+1
 own:∀j q:Nat,o[j]?=some (some q)->∃x,done[q]?=some x/\∃k:Nat,(st t (t.probeStart x) k).j=j/\∀k':Nat,k'<k->∃q':Nat,o[(st t (t.probeStart x) k').j]?=some (some q')
 all:∀q:Nat,q<done.length->∃j:Nat,o[j]?=some (some q)
 inj:∀j j' q:Nat,o[j]?=some (some q)->o[j']?=some (some q)->j=j'
theorem Lay.room{t:SetTable}{done:List Int}{o:Array (Option Nat)}(L:Lay t done o)(h:done.length<=t.mask):∃j,j<=t.mask/\o[j]?=some none:=by
 apply Classical.byContradiction
 intro hn
 have hall:∀j,j<=t.mask->∃q,o[j]?=some (some q):=by
  intro j hj
  have hb:j<o.size:=by rw [L.size]; omega
  cases hx:o[j] with
  | none=>exact absurd ⟨j,hj,by rw [Array.getElem?_eq_getElem hb,hx]⟩ hn
  | some q=>exact⟨q,by rw [Array.getElem?_eq_getElem hb,hx]⟩
 have hf:∀j,j<=t.mask->o[j]?=some (some (((o[j]?).getD none).getD 0)):=by
  intro j hj
  obtain⟨q,hq⟩:=hall j hj
  simp [hq]
 have hnd:((List.range (t.mask+1)).map fun j=>((o[j]?).getD none).getD 0).Nodup:=by
  show List.Pairwise _ _
  rw [List.pairwise_map]
  refine List.Pairwise.imp_of_mem ?_ (List.nodup_range (n:=t.mask+1))
  intro a b ha hb hab he
  apply hab
  have ha:=List.mem_range.mp ha; have hb:=List.mem_range.mp hb
  exact L.inj a b _ (hf a (by omega)) (by rw [he]; exact hf b (by omega))
 have hsub:((List.range (t.mask+1)).map fun j=>((o[j]?).getD none).getD 0) ⊆ List.range done.length:=by
  intro q hq
  obtain⟨j,hj,rfl⟩:=List.mem_map.mp hq
  obtain⟨x,hx,_⟩:=L.own j _ (hf j (by have:=List.mem_range.mp hj; omega))
  have:=(List.getElem?_eq_some_iff.mp hx).1
  exact List.mem_range.mpr this
 have:=nd_len hnd hsub
 simp at this
 omega
theorem OT{t:SetTable}(C:PV t.mask){done:List Int}{o:Array (Option Nat)}(L:Lay t done o)(h:done.length<=t.mask)(x:Int) :
  ∃j,layClean.free t.mask o (turns t.mask) (bits x % (t.mask+1)) (bits x)=some j/\Lay t (done++[x]) (o.setIfInBounds j (some done.length)):=by
 have ho:=Fk t x
 cases hf:layClean.free t.mask o (turns t.mask) (bits x % (t.mask+1)) (bits x) with
 | none =>
  exfalso
  obtain⟨b,hb,hbn⟩:=L.room h
  obtain⟨n,hn,_,e⟩:=OP C ho hb
  have:=Mz (turns t.mask) (bits x % (t.mask+1)) (bits x) ho.i ho.per hf n (by unfold turns; omega)
  rw [show s0 t.mask (bits x % (t.mask+1)) (bits x)=t.probeStart x from rfl,e,Array.getD_eq_getD_getElem?,hbn] at this
  cases this
 | some j =>
  refine⟨j,rfl,?_⟩
  obtain⟨a,k,b,c⟩:=Mx L.size (turns t.mask) (bits x % (t.mask+1)) (bits x) j ho.i ho.per hf
  rw [show s0 t.mask (bits x % (t.mask+1)) (bits x)=t.probeStart x from rfl] at b c
  have hj:j<o.size:=by
   rcases Nat.lt_or_ge j o.size with q | q
   ·exact q
   ·rw [Array.getElem?_eq_none q] at a; cases a
  have hg:∀i:Nat,(o.setIfInBounds j (some done.length))[i]?=if j=i then some (some done.length) else o[i]?:=by
   intro i
   rw [Array.getElem?_setIfInBounds]
   split
   ·rename_i e; subst e; simp [hj]
   ·rfl
  have keep:∀i q:Nat,o[i]?=some (some q)->(o.setIfInBounds j (some done.length))[i]?=some (some q):=by
   intro i q hi
   rw [hg,if_neg]
   ·exact hi
   ·rintro rfl; rw [a] at hi; cases hi
  have lt:∀i q:Nat,o[i]?=some (some q)->q<done.length:=by
   intro i q hi
   obtain⟨y,hy,_⟩:=L.own i q hi
   exact(List.getElem?_eq_some_iff.mp hy).1
  refine⟨by simp [L.size],?_,?_,?_⟩
  ·intro i q hi
   rw [hg] at hi
   split at hi
   ·rename_i e; subst e
    cases hi
    refine⟨x,by simp,k,b,fun k' hk'=>?_⟩
    obtain⟨q',hq'⟩:=c k' hk'
    exact⟨q',keep _ _ hq'⟩
   ·obtain⟨y,hy,k2,h2,h3⟩:=L.own i q hi
    refine⟨y,?_,k2,h2,fun k' hk'=>?_⟩
    ·rw [List.getElem?_append_left (lt i q hi)]; exact hy
    ·obtain⟨q',hq'⟩:=h3 k' hk'
     exact⟨q',keep _ _ hq'⟩
  ·intro q hq
   rw [List.length_append,List.length_singleton] at hq
   by_cases he:q=done.length
   ·subst he; exact⟨j,by rw [hg,if_pos rfl]⟩
   ·obtain⟨i,hi⟩:=L.all q (by omega)
    exact⟨i,keep i q hi⟩
  ·intro i i' q h1 h2
   rw [hg] at h1 h2
   split at h1 <;> split at h2
   ·omega
   ·cases h1; have:=lt _ _ h2; omega
   ·cases h2; have:=lt _ _ h1; omega
   ·exact L.inj i i' q h1 h2
theorem QI(t:SetTable):Lay t [] (Array.replicate (t.mask+1) none):=by
 have h:∀j q:Nat,(Array.replicate (t.mask+1) (none:Option Nat))[j]?≠some (some q):=by
  intro j q hj
  rw [Array.getElem?_replicate] at hj
  split at hj <;> cases hj
 exact⟨by simp,fun j q hj=>absurd hj (h j q),fun q hq=>by simp at hq,fun j j' q hj=>absurd hj (h j q)⟩
theorem JZ{t:SetTable}(C:PV t.mask):∀(l done:List Int) (o:Array (Option Nat)),Lay t done o->done.length+l.length<=t.mask+1 ->
  ∃o',Lay t (done++l) o'/\l.foldl (fun(acc:Option (Array (Option Nat)×Nat)) h=>do
   let (owner,k) ← acc
   let j ← layClean.free t.mask owner (turns t.mask) (bits h % (t.mask+1)) (bits h)
   pure (owner.setIfInBounds j (some k),k+1)) (some (o,done.length))=some (o',done.length+l.length)
 | [],done,o,L,_=>⟨o,by simpa using L,rfl⟩
 | x::l,done,o,L,h=>by
  rw [List.length_cons] at h
  obtain⟨j,hj,L'⟩:=OT C L (by omega) x
  obtain⟨o',L2,e⟩:=JZ C l (done++[x]) _ L' (by simp; omega)
  refine⟨o',by simpa using L2,?_⟩
  rw [List.foldl_cons]
  simp only [Option.bind_eq_bind,Option.bind_some,hj,Option.pure_def]
  simp only [List.length_append,List.length_singleton,Option.bind_eq_bind,Option.pure_def] at e
  rw [e]
  simp; omega
theorem Mp{t:SetTable}(C:PV t.mask)(hs:Array Int)(h:hs.size<=t.mask+1):∃o,Lay t hs.toList o/\layClean t.mask hs=some o:=by
 obtain⟨o,L,e⟩:=JZ C hs.toList [] _ (QI t) (by simpa using h)
 refine⟨o,by simpa using L,?_⟩
 unfold layClean
 rw [← Array.foldl_toList]
 simp only [List.length_nil] at e
 rw [e]; rfl
theorem filterMap_get{α β:Type}(f:α->Option β):∀(l:List α),(∀a∈l,(f a).isSome=true)->∀i:Nat,(l.filterMap f)[i]?=l[i]?.bind f
 | [],_,i=>by simp
 | a::l,h,i=>by
  obtain⟨b,hb⟩:=Option.isSome_iff_exists.mp (h a (.head _))
  rw [List.filterMap_cons_some hb]
  cases i with
  | zero=>simp [hb]
  | succ i=>simpa using filterMap_get f l (fun a ha=>h a (.tail _ ha)) i
theorem GP{α:Type}:∀(l:List α),(List.range l.length).filterMap (fun i=>l[i]?)=l
 | []=>rfl
 | a::t=>by
  rw [List.length_cons,List.range_succ_eq_map,List.filterMap_cons_some (b:=a) (by simp),List.filterMap_map]
  have e:((fun i=>(a::t)[i]?)∘Nat.succ)=fun i=>t[i]?:=by funext i; simp
  rw [e,GP t]
theorem OV{m fi mo:Nat}{led pl:Bool}(C:PV m)(es:Array (Int×Value))(h:es.size<=m) :
  ∃t order,laid m fi mo led pl (es.map (·.1))=some (t,order)/\t.mask=m/\t.led=led/\t.plain=pl/\t.place.size=es.size/\(order.filterMap (es[·]?)).size=es.size
   /\ List.Perm (order.filterMap (es[·]?)).toList es.toList/\Tab t (fun i=>(order.filterMap (es[·]?))[i]?.map (·.1)):=by
 let t0:SetTable:={ mask:=m,place:=#[],dummies:=#[],finger:=fi,led:=led,moves:=mo,plain:=pl }
 obtain⟨o,L,e⟩:=Mp (t:=t0) C (es.map (·.1)) (by simp; show _<=m+1; omega)
 have e:layClean m (es.map (·.1))=some o:=e
 let live:List (Nat×Nat):=(List.range (m+1)).filterMap fun j=>(o.getD j none).map (j,·)
 have hlive:∀j q,(j,q)∈live↔o[j]?=some (some q):=by
  intro j q
  constructor
  ·intro hm
   obtain⟨j',hj',hm⟩:=List.mem_filterMap.mp hm
   rw [Array.getD_eq_getD_getElem?] at hm
   cases hx:o[j']? with
   | none=>rw [hx] at hm; cases hm
   | some a =>
    rw [hx] at hm
    cases a with
    | none=>cases hm
    | some q'=>simp at hm; obtain⟨rfl,rfl⟩:=hm; exact hx
  ·intro hm
   refine List.mem_filterMap.mpr ⟨j,List.mem_range.mpr ?_,?_⟩
   ·have:o.size=m+1:=L.size
    rcases Nat.lt_or_ge j o.size with q' | q'
    ·omega
    ·rw [Array.getElem?_eq_none q'] at hm; cases hm
   ·rw [Array.getD_eq_getD_getElem?,hm]; rfl
 have hup:(live.map (·.1)).Pairwise (·<·):=by
  rw [List.pairwise_map]
  show List.Pairwise _ (List.filterMap _ _)
  rw [List.pairwise_filterMap]
  refine List.Pairwise.imp ?_ (List.pairwise_lt_range (n:=m+1))
  intro a b hab x hx y hy
  cases ha:o.getD a none with
  | none=>rw [ha] at hx; cases hx
  | some q =>
   cases hb:o.getD b none with
   | none=>rw [hb] at hy; cases hy
   | some q' =>
    rw [ha] at hx; rw [hb] at hy
    cases hx; cases hy
    exact hab
 have hlt:∀j q,(j,q)∈live->q<es.size:=by
  intro j q hm
  obtain⟨x,hx,_⟩:=L.own j q ((hlive j q).mp hm)
  have:=(List.getElem?_eq_some_iff.mp hx).1
  simpa using this
 have hnd:(live.map (·.2)).Nodup:=by
  show List.Pairwise _ _
  rw [List.pairwise_map]
  rw [List.pairwise_map] at hup
  refine List.Pairwise.imp_of_mem ?_ hup
  intro a b ha hb hab he
  have:=L.inj a.1 b.1 a.2 ((hlive a.1 a.2).mp ha) (by rw [he]; exact(hlive b.1 b.2).mp hb)
  omega
 have hperm:List.Perm (live.map (·.2)) (List.range es.size):=by
  refine(List.perm_ext_iff_of_nodup hnd List.nodup_range).mpr fun q=>⟨fun hq=>?_,fun hq=>?_⟩
  ·obtain⟨⟨j,q'⟩,hm,rfl⟩:=List.mem_map.mp hq
   exact List.mem_range.mpr (hlt j _ hm)
  ·obtain⟨j,hj⟩:=L.all q (by have:=List.mem_range.mp hq; simpa using this)
   exact List.mem_map.mpr ⟨(j,q),(hlive j q).mpr hj,rfl⟩
 have hlen:live.length=es.size:=by
  have:=hperm.length_eq
  simpa using this
 have hsome:∀q∈live.map (·.2),(es[q]?).isSome=true:=by
  intro q hq
  obtain⟨⟨j,q'⟩,hm,rfl⟩:=List.mem_map.mp hq
  have:=hlt j _ hm
  simp [this]
 have hfm:((live.map (·.2)).toArray.filterMap (es[·]?)).toList=(live.map (·.2)).filterMap (es[·]?):=by simp
 have hpe:List.Perm ((live.map (·.2)).filterMap (es[·]?)) es.toList:=by
  have:=hperm.filterMap (es[·]?)
  have e2:(List.range es.size).filterMap (es[·]?)=es.toList:=by
   have:=GP es.toList
   simpa using this
  rw [e2] at this
  exact this
 refine⟨{ mask:=m,place:=(live.map (·.1)).toArray,dummies:=#[],finger:=fi,led:=led,moves:=mo,plain:=pl },(live.map (·.2)).toArray,?_,rfl,rfl,rfl,?_,?_,?_,?_⟩
 ·unfold laid
  rw [e]; rfl
 ·simp [hlen]
 ·have:=hpe.length_eq
  rw [← Array.length_toList,hfm]; simpa using this
 ·rw [hfm]; exact hpe
 ·have hpl:∀i j:Nat,((live.map (·.1)).toArray)[i]?=some j->∃q,live[i]?=some (j,q):=by
   intro i j hi
   simp at hi
   exact hi
  refine⟨C,rfl,?_,?_,?_,?_⟩
  ·intro i k hik a b ha hb
   have ha:(live.map (·.1))[i]?=some a:=by simpa using ha
   have hb:(live.map (·.1))[k]?=some b:=by simpa using hb
   obtain⟨h1,rfl⟩:=List.getElem?_eq_some_iff.mp ha
   obtain⟨h2,rfl⟩:=List.getElem?_eq_some_iff.mp hb
   exact List.pairwise_iff_getElem.mp hup i k h1 h2 hik
  ·intro i j hi
   obtain⟨q,hq⟩:=hpl i j hi
   have:=(hlive j q).mp (List.mem_of_getElem? hq)
   have hz:o.size=m+1:=L.size
   rcases Nat.lt_or_ge j o.size with q' | q'
   ·show j<=m; omega
   ·rw [Array.getElem?_eq_none q'] at this; cases this
  ·show (live.map (·.1)).toArray.size<=m
   simp [hlen,h]
  ·intro i j hi
   obtain⟨q,hq⟩:=hpl i j hi
   have ho:=(hlive j q).mp (List.mem_of_getElem? hq)
   obtain⟨x,hx,k,h1,h2⟩:=L.own j q ho
   refine⟨x,?_,k,?_,fun k' hk'=>?_⟩
   ·have e3:((live.map (·.2)).toArray.filterMap (es[·]?))[i]?=es[q]?:=by
     rw [← Array.getElem?_toList,hfm,filterMap_get _ _ hsome]
     simp [hq]
    show Option.map (fun e:Int×Value=>e.1) ((live.map (·.2)).toArray.filterMap (es[·]?))[i]?=some x
    rw [e3]
    simpa using hx
   ·exact(congrArg Probe.j (DZ (t:={ mask:=m,place:=(live.map (·.1)).toArray,dummies:=#[],finger:=fi,led:=led,moves:=mo,plain:=pl }) (t':=t0) rfl (t0.probeStart x) k)).trans h1
   ·obtain⟨q',hq'⟩:=h2 k' hk'
    have hm:=(hlive _ q').mpr hq'
    obtain⟨i',hi'⟩:=List.mem_iff_getElem?.mp hm
    refine⟨i',?_⟩
    have hst:=congrArg Probe.j (DZ (t:={ mask:=m,place:=(live.map (·.1)).toArray,dummies:=#[],finger:=fi,led:=led,moves:=mo,plain:=pl }) (t':=t0) rfl (t0.probeStart x) k')
    refine Eq.trans ?_ (congrArg some hst.symm)
    simp [hi']
end St
set_option maxRecDepth 10000
set_option maxHeartbeats 1000000
namespace St
open PySem PySem.SetTable
section
variable {prog:Program}{w:World}{K:Type}[DecidableEq K](knd:KeyKind prog w K)
noncomputable def NV(k:List K):Prop:=∀vs,ItemsAre knd k vs->∃v r,vs=v::r/\∀n,hashByValue n v=pure false
noncomputable def Holds(h:Heap)(e:Int×Value)(k:List K):Prop:=e.1=tupleKeyHash knd k/\∃b,e.2=.ref b/\IsTupleKey knd h k b
inductive Ents (h:Heap):List (Int×Value)->List (List K)->Prop
 | nil:Ents h [] []
 | cons {e:Int×Value} {k:List K} {es:List (Int×Value)} {ks:List (List K)}:Holds knd h e k->Ents h es ks->Ents h (e::es) (k::ks)
variable {knd}
theorem Ents.len{h:Heap}{es:List (Int×Value)}{ks:List (List K)}(x:Ents knd h es ks):es.length=ks.length:=by
 induction x with
 | nil=>rfl
 | cons _ _ ih=>simp [ih]
theorem Ents.get{h:Heap}{es:List (Int×Value)}{ks:List (List K)}(x:Ents knd h es ks):∀{i:Nat} {e:Int×Value},es[i]?=some e->∃k,ks[i]?=some k/\Holds knd h e k:=by
 induction x with
 | nil=>intro i e h; simp at h
 | @cons e0 k0 es ks h1 _ ih =>
  intro i e h
  cases i with
  | zero=>simp at h; subst h; exact⟨k0,rfl,h1⟩
  | succ i=>exact ih (by simpa using h)
theorem Ents.perm{h:Heap}{l l':List (Int×Value)}(p:List.Perm l l'):∀{ks:List (List K)},Ents knd h l ks->∃ks',Ents knd h l' ks'/\List.Perm ks ks':=by
 induction p with
 | nil=>intro ks x; exact⟨ks,x,.rfl⟩
 | cons a _ ih=>intro ks x; cases x with | cons h1 h2=>obtain⟨ks',a1,a2⟩:=ih h2; exact⟨_,.cons h1 a1,a2.cons _⟩
 | swap a b l=>intro ks x; cases x with | cons h1 h2=>cases h2 with | cons h3 h4=>exact⟨_,.cons h3 (.cons h1 h4),.swap ..⟩
 | trans _ _ i1 i2=>intro ks x; obtain⟨k1,a1,a2⟩:=i1 x; obtain⟨k2,b1,b2⟩:=i2 a1; exact⟨k2,b1,a2.trans b2⟩
theorem Ents.take{h:Heap}{es:List (Int×Value)}{ks:List (List K)}(x:Ents knd h es ks){e:Int×Value}{k:List K}(y:Holds knd h e k)(p:Nat):Ents knd h (es.take p++e::es.drop p) (ks.take p++k::ks.drop p):=by
 induction x generalizing p with
 | nil=>simpa using Ents.cons y .nil
 | cons h1 h2 ih =>
  cases p with
  | zero=>exact .cons y (.cons h1 h2)
  | succ p=>exact .cons h1 (ih p)
variable (knd)
structure SetIs (B h:Heap) (a:Addr) (ks:List (List K)) (o:Obj) (es:Array (Int×Value)) (ep:Nat) (t:SetTable):Prop where
 sub:∀b o,B.get? b=some o->h.get? b=some o
 out:B.get? a=none
 obj:h.get? a=some o
 ex:o.ExactSet
 dat:o.data=.set es ep t
 tab:Tab t (fun i=>es[i]?.map (·.1))
 size:t.place.size=es.size
 mask:(t.mask=7/\es.size<=4)\/t.mask=31
 few:es.size<=18
 ents:∃kk,Ents knd B es.toList kk/\List.Perm kk ks
 nd:ks.Nodup
 plain:es.size=0\/t.plain=false
 led:t.led=!(w.params.followText "set-order")
variable {knd}
theorem SetIs.odd{B h:Heap}{a:Addr}{ks:List (List K)}{o:Obj}{es:Array (Int×Value)}{ep:Nat}{t:SetTable}(S:SetIs knd B h a ks o es ep t):t.gaveWay=false:=by
 unfold SetTable.gaveWay
 rcases S.mask with ⟨h,_⟩ | h <;> rw [h] <;> rfl
theorem SetIs.fits{B h:Heap}{a:Addr}{ks:List (List K)}{o:Obj}{es:Array (Int×Value)}{ep:Nat}{t:SetTable}(S:SetIs knd B h a ks o es ep t):t.fits es.size=true:=by
 unfold SetTable.fits SetTable.fill
 rw [S.tab.dum,S.size]
 have:=S.tab.few; rw [S.size] at this
 simpa using this
variable {A:Around}{E:Value->Shared->Prop}{s:Shared}
theorem LP{Q:Bool->Shared->Prop}{b:Addr}{k:List K}(hk:IsTupleKey knd s.heap k b)(h:Q false s):wpAny (model prog w) A (ofAClassStatement 8 (.ref b)) Q E s:=by
 have hT:=hk.typeIs
 obtain⟨o,items,n,ho,_,hd,hi⟩:=hk
 unfold ofAClassStatement
 refine wpAny_bind (wpAny_typeOf (T := "tuple") hT ?_)
 dsimp only
 rw [if_pos (by decide)]
 refine wpAny_bind (wpAny_pure ?_)
 simp only [Bool.not_true,Bool.false_eq_true,↓reduceIte]
 refine wpAny_bind (wpAny_seqItems ho hd ?_)
 dsimp only
 refine wpAny_bind ?_
 rw [← Array.forIn_toList]
 refine wpAny_forIn_list _ (fun rest r s'=>r.1=none/\s'=s/\∀v∈rest,carriedByValue v=true) _ ?_ ?_ _ _ ⟨rfl,rfl,hi.byValue⟩
 ·rintro v rest r s' ⟨hr,rfl,hall⟩
  have hv:=hall v List.mem_cons_self
  have e:ofAClassStatement 7 v=pure false:=by
   cases v with
   | ref a=>simp [carriedByValue] at hv
   | _=>first | rfl | simp [ofAClassStatement] | (unfold ofAClassStatement; rfl)
  rw [e]
  refine wpAny_bind (wpAny_pure ?_)
  simp only [Bool.false_eq_true,if_false]
  exact wpAny_pure ⟨rfl,rfl,fun u hu'=>hall u (List.mem_cons_of_mem _ hu')⟩
 ·rintro ⟨r1,r2⟩ s' ⟨hr,rfl,_⟩
  simp only at hr
  subst hr
  exact wpAny_pure h
theorem VS{Q:Bool->Shared->Prop}{b:Addr}{k:List K}(hk:IsTupleKey knd s.heap k b)(nv:NV knd k)(h:Q false s):wpAny (model prog w) A (hashByValue 8 (.ref b)) Q E s:=by
 have hT:=hk.typeIs
 obtain⟨o,items,n,ho,_,hd,hi⟩:=hk
 obtain⟨v,r,e,hv⟩:=nv _ hi
 unfold hashByValue
 refine wpAny_bind (wpAny_specialOf hT F.slot_tuple_hash.lookup ?_)
 show wpAny _ _ (seqItems? (.ref b) >>= _) _ _ _
 refine wpAny_bind (wpAny_seqItems ho hd ?_)
 refine wpAny_bind ?_
 show wpAny _ _ (forIn items _ _) _ _ _
 rw [← Array.forIn_toList,e,List.forIn_cons,hv]
 refine wpAny_bind (wpAny_bind (wpAny_pure ?_))
 simp only [Bool.not_false,↓reduceIte]
 exact wpAny_pure (wpAny_pure (wpAny_pure h))
theorem MH{b:Addr}{k:List K}(hu:A.units<cLine)(hk:IsTupleKey knd s.heap k b):∀(vs:List Value) {Q:Bool->Shared->Prop},(∀v∈vs,∃c k',v=.ref c/\IsTupleKey knd s.heap k' c)->Q false s->wpAny (model prog w) A (searchCouldBeSeen (.ref b) vs) Q E s:=by
 intro vs Q hv h
 unfold searchCouldBeSeen
 refine wpAny_bind ?_
 refine wpAny_forIn_list _ (fun rest r s'=>r.1=none/\s'=s/\∀v∈rest,∃c k',v=.ref c/\IsTupleKey knd s.heap k' c) _ ?_ ?_ _ _ ⟨rfl,rfl,hv⟩
 ·rintro v rest r s' ⟨hr,rfl,hall⟩
  obtain⟨c,k',rfl,hc⟩:=hall v List.mem_cons_self
  have tl:∀u∈rest,∃c k',u=Value.ref c/\IsTupleKey knd s'.heap k' c:=fun u hu'=>hall u (List.mem_cons_of_mem _ hu')
  dsimp only
  split
  ·exact wpAny_pure ⟨rfl,rfl,tl⟩
  ·refine wpAny_bind (wpAny_eqIsQuiet_tuple hk ?_)
   simp only [Bool.not_true,Bool.false_eq_true,↓reduceIte]
   refine wpAny_bind (wpAny_eqIsQuiet_tuple hc ?_)
   simp only [Bool.not_true,Bool.false_eq_true,↓reduceIte]
   refine wpAny_bind (LP hk ?_)
   simp only [Bool.false_eq_true,↓reduceIte]
   refine wpAny_bind (LP hc ?_)
   simp only [Bool.false_eq_true,↓reduceIte]
   exact wpAny_pure ⟨rfl,rfl,tl⟩
 ·rintro ⟨r1,r2⟩ s' ⟨hr,rfl,_⟩
  simp only at hr
  subst hr
  exact wpAny_pure h
theorem SetIs.keyAt{B h:Heap}{a:Addr}{ks:List (List K)}{o:Obj}{es:Array (Int×Value)}{ep:Nat}{t:SetTable}(S:SetIs knd B h a ks o es ep t){i:Nat}{e:Int×Value}(he:es[i]?=some e):∃k,k∈ks/\Holds knd B e k:=by
 obtain⟨kk,x,p⟩:=S.ents
 obtain⟨k,h1,h2⟩:=x.get (i:=i) (e:=e) (by simpa using he)
 exact⟨k,p.mem_iff.mp (List.mem_of_getElem? h1),h2⟩
theorem DY{B h:Heap}(sub:∀b o,B.get? b=some o->h.get? b=some o){k:List K}{b:Addr}(x:IsTupleKey knd B k b):IsTupleKey knd h k b:=by
 obtain⟨o,items,n,h1,h2⟩:=x
 exact⟨o,items,n,sub b o h1,h2⟩
theorem Rb{B:Heap}{a b:Addr}{k:List K}{ks:List (List K)}{o:Obj}{es:Array (Int×Value)}{ep:Nat}{t:SetTable}(S:SetIs knd B s.heap a ks o es ep t)(hu:A.units<cLine)(hk:IsTupleKey knd B k b){N:Nat}
  (hN:¬In t (st t (t.probeStart (tupleKeyHash knd k)) N).j) (hin:∀m,m<N->In t (st t (t.probeStart (tupleKeyHash knd k)) m).j) (hle:N<=10*(13+t.mask)) {Q:SetFound->Shared->Prop}
  (h1:k∈ks->Q (.there none) s) (h2:k∉ks->Q (.free (st t (t.probeStart (tupleKeyHash knd k)) N).j false) s) :
  ∀(f n:Nat) (stand:Option Probe),n<=N->N - n<f->stand.getD (t.probeStart (tupleKeyHash knd k))=st t (t.probeStart (tupleKeyHash knd k)) n ->
   (∀(m i:Nat) (e:Int×Value),m<n->t.place[i]?=some (st t (t.probeStart (tupleKeyHash knd k)) m).j->es[i]?=some e->¬Holds knd B e k) ->
   wpAny (model prog w) A (setSearchFrom a (.ref b) (tupleKeyHash knd k) true f stand) Q E s:=by
 intro f
 induction f with
 | zero=>intro n _ _ h; omega
 | succ f ih =>
  intro n stand hn hf hst hno
  unfold setSearchFrom
  refine wpAny_bind (wpAny_setState_of S.obj S.dat S.fits ?_)
  dsimp only
  rw [S.odd,hst]
  simp only [Bool.false_eq_true,↓reduceIte]
  have P:=N_ S.tab.dum S.tab.up (fun i=>(es[i]?.map (·.1)).getD 0) (tupleKeyHash knd k) (t.probeStart (tupleKeyHash knd k)) rfl hN hin (10*turns t.mask) n hn (by unfold turns; omega)
  rcases P with ⟨e,hq⟩ | ⟨m,i,q1,q2,q3,q4,e,q6⟩
  ·have e:t.probe (fun i=>(es[i]?.map (·.1)).getD 0) (tupleKeyHash knd k) (st t (t.probeStart (tupleKeyHash knd k)) n)=_:=e
   erw [e]
   dsimp only
   refine wpAny_pure (h2 fun hmem=>?_)
   obtain⟨kk,x,p⟩:=S.ents
   obtain⟨i,hi⟩:=List.mem_iff_getElem?.mp (p.mem_iff.mpr hmem)
   have hil:i<es.size:=by
    have:=x.len; have:=(List.getElem?_eq_some_iff.mp hi).1
    rw [← Array.length_toList]; omega
   have hei:es[i]?=some es[i]:=Array.getElem?_eq_getElem hil
   obtain⟨k',hk',hh⟩:=x.get (i:=i) (e:=es[i]) (by simpa using hei)
   rw [hi] at hk'; cases hk'
   have hpl:i<t.place.size:=by rw [S.size]; exact hil
   have hpi:t.place[i]?=some t.place[i]:=Array.getElem?_eq_getElem hpl
   obtain⟨x0,hx0,m,hm,hm'⟩:=S.tab.has i _ hpi
   have hx0:x0=tupleKeyHash knd k:=by
    rw [hei] at hx0
    have:es[i].1=x0:=by simpa using hx0
    rw [← this]; exact hh.1
   subst hx0
   have hmN:m<N:=by
    rcases Nat.lt_trichotomy m N with l | l | l
    ·exact l
    ·subst l; exact absurd ⟨i,by rw [hpi,hm]⟩ hN
    ·exact absurd (hm' N l) hN
   by_cases hmn:m<n
   ·exact hno m i es[i] hmn (by rw [hpi,hm]) hei hh
   ·refine hq m i (by omega) hmN (by rw [hpi,hm]) ?_
    rw [hei]; exact hh.1
  ·have e:t.probe (fun i=>(es[i]?.map (·.1)).getD 0) (tupleKeyHash knd k) (st t (t.probeStart (tupleKeyHash knd k)) n)=_:=e
   erw [e]
   dsimp only
   have hil:i<es.size:=by
    rw [← S.size]
    rcases Nat.lt_or_ge i t.place.size with l | l
    ·exact l
    ·rw [Array.getElem?_eq_none l] at q3; cases q3
   have hei:es[i]?=some es[i]:=Array.getElem?_eq_getElem hil
   obtain⟨k',hk',hh⟩:=S.keyAt hei
   obtain⟨c,hc,hkc⟩:=hh.2
   have rest:wpAny (model prog w) A (do
     let some (_,y):=es[i]? | unsupported "internal:set-entry"
     let equal ← holding [y] (eqBool y (.ref b))
     let (es',_,t') ← setState a
     if true&&equal then return .there none
     let some same:=t'.sameMemory t.moves t.mask | unsupported "set.changed-during-lookup:is-the-new-block-at-the-old-address"
     let still ← match (if same then t'.slot (st t (t.probeStart (tupleKeyHash knd k)) m).j else .empty) with
      | .live i'=>match es'[i']? with
       | some (_,y')=>do pure (if ← isSame y' y then some i' else none)
       | none=>pure none
      | _=>pure none
     match still with
     | none=>rule "set.search.anew"; setSearchFrom a (.ref b) (tupleKeyHash knd k) true f none
     | some i'=>if equal then return .there (some i') else setSearchFrom a (.ref b) (tupleKeyHash knd k) true f (some (st t (t.probeStart (tupleKeyHash knd k)) (m+1)))) Q E s:=by
    rw [hei]
    dsimp only
    refine wpAny_bind (wpAny_holding ?_)
    rw [hc]
    refine wpAny_eqBool_tuple hu (DY S.sub hkc) (DY S.sub hk) ?_
    refine wpAny_bind (wpAny_setState_of S.obj S.dat S.fits ?_)
    dsimp only
    by_cases hkk:k'=k
    ·subst hkk
     simp only [decide_true,Bool.and_self,↓reduceIte]
     exact wpAny_pure (h1 hk')
    ·simp only [hkk,decide_false,Bool.and_false,Bool.false_eq_true,↓reduceIte]
     have hsm:t.sameMemory t.moves t.mask=some true:=by simp [SetTable.sameMemory]
     rw [hsm]
     simp only [↓reduceIte,HD S.tab.up q3,hei]
     refine wpAny_bind ?_
     rw [hc]
     refine wpAny_isSame_ref_self (wpAny_bind (wpAny_pure ?_))
     simp only [↓reduceIte]
     refine ih (m+1) _ (by omega) (by omega) rfl fun m' i' e' hm' hi' he' hh'=>?_
     by_cases hmm:m'=m
     ·subst hmm
      have e1:=below_at S.tab.up q3; have e2:=below_at S.tab.up hi'
      have:i'=i:=by omega
      subst this
      rw [hei] at he'; cases he'
      obtain⟨c',hc',hkc'⟩:=hh'.2
      rw [hc] at hc'; cases hc'
      exact hkk (hkc.inj hkc')
     ·by_cases hm2:m'<n
      ·exact hno m' i' e' hm2 hi' he' hh'
      ·refine q6 m' i' (by omega) (by omega) hi' ?_
       rw [he']; exact hh'.1
   cases hl:t.led with
   | true =>
    simp only [Bool.not_true,Bool.false_eq_true,↓reduceIte]
    exact rest
   | false =>
    simp only [Bool.not_false,↓reduceIte]
    refine wpAny_bind (MH hu (DY S.sub hk) _ (fun v hv=>?_) ?_)
    ·obtain⟨e',he',rfl⟩:=List.mem_map.mp hv
     have he':e'∈es:=by
      have:=Array.mem_toList_iff.mp he'
      exact(Array.mem_filter.mp this).1
     obtain⟨i',hi'⟩:=Array.mem_iff_getElem?.mp he'
     obtain⟨k2,_,h3⟩:=S.keyAt hi'
     obtain⟨c2,hc2,hk2⟩:=h3.2
     exact⟨c2,k2,hc2,DY S.sub hk2⟩
    ·simp only [Bool.false_eq_true,↓reduceIte]
     exact rest
theorem Tab.plain{t:SetTable}{hs:Nat->Option Int}(T:Tab t hs)(b:Bool):Tab { t with plain:=b } hs :=
 ⟨T.cov,T.dum,T.up,T.le,T.few,fun i j hi=>by
  obtain⟨x,hx,k,h1,h2⟩:=T.has i j hi
  refine⟨x,hx,k,?_,fun k' hk'=>?_⟩
  ·exact(congrArg Probe.j (DZ (t:={ t with plain:=b }) (t':=t) rfl (t.probeStart x) k)).trans h1
  ·obtain⟨i',hi'⟩:=h2 k' hk'
   exact⟨i',hi'.trans (congrArg some (congrArg Probe.j (DZ (t:=t) (t':={ t with plain:=b }) rfl (t.probeStart x) k')))⟩⟩
theorem EI:sizeAbove (grown 5)=32:=by decide
theorem Pq{B:Heap}{a b:Addr}{k:List K}{ks:List (List K)}{o:Obj}{es:Array (Int×Value)}{ep:Nat}{t:SetTable}(S:SetIs knd B s.heap a ks o es ep t)(hu:A.units<cLine)(hk:IsTupleKey knd B k b)(nv:NV knd k)(room:ks.length<18){Q:Bool->Shared->Prop}
  (h:∀h' tk ks' b',(∀c,c≠a->h'.get? c=s.heap.get? c)->(∃o es' ep t,SetIs knd B h' a ks' o es' ep t/\∀e∈es'.toList,e∈es.toList\/e.2=.ref b)->(∀x,x∈ks'↔x∈ks\/x=k)->ks'.length<=ks.length+1->Q b' { s with heap:=h',toks:=tk }) :
  wpAny (model prog w) A (setAdd a (.ref b)) Q E s:=by
 unfold setAdd
 refine wpAny_holding (wpAny_bind (wpAny_pyHash_tuple hu (DY S.sub hk) ?_))
 generalize s.toks+(k.length+1)=tk
 unfold setAddHashed setAddHashedIn
 obtain⟨N,n1,n2,n3⟩:=S.tab.first (Fk t (tupleKeyHash knd k))
 have S':SetIs knd B ({ s with toks:=tk }:Shared).heap a ks o es ep t:=S
 refine wpAny_holding (wpAny_bind (wpAny_setState_of (s:={ s with toks:=tk }) S.obj S.dat S.fits ?_))
 dsimp only
 rw [show byScan (.ref b) es=false from rfl]
 simp only [Bool.false_eq_true,↓reduceIte]
 refine wpAny_bind ?_
 unfold setSearch
 refine Rb (s:={ s with toks:=tk }) S' hu hk n2 n3 n1 (fun hm=>?_) (fun hm=>?_) 100000 0 none (by omega) (by rcases S.mask with ⟨e,_⟩ | e <;> rw [e] at n1 <;> omega) rfl (fun m i e hm=>by omega)
 ·dsimp only
  refine wpAny_pure (h s.heap tk ks false (fun _ _=>rfl) ⟨o,es,ep,t,S,fun e he=>.inl he⟩ (fun x=>⟨.inl,fun z=>z.elim id (fun e=>e▸hm)⟩) (by omega))
 ·dsimp only
  refine wpAny_bind (wpAny_setState_of (s:={ s with toks:=tk }) S.obj S.dat S.fits ?_)
  dsimp only
  have hlen:es.size=ks.length:=by
   obtain⟨kk,x,p⟩:=S.ents
   rw [← Array.length_toList,x.len,p.length_eq]
  have hroom:t.place.size+1<=t.mask:=by
   rw [S.size]
   rcases S.mask with ⟨e,l⟩ | e
   ·rw [e]; omega
   ·rw [e]; omega
  obtain⟨T1,z1,z2⟩:=Ps (v:=.ref b) S.tab S.size hroom n2 n3
  have hmask:(t.put (st t (t.probeStart (tupleKeyHash knd k)) N).j).1.mask=t.mask:=rfl
  have hled:(t.put (st t (t.probeStart (tupleKeyHash knd k)) N).j).1.led=t.led:=rfl
  have hpl:(t.put (st t (t.probeStart (tupleKeyHash knd k)) N).j).1.plain=t.plain:=rfl
  generalize t.put (st t (t.probeStart (tupleKeyHash knd k)) N).j=pt at T1 z1 z2 hmask hled hpl ⊢
  obtain⟨t1,p⟩:=pt
  dsimp only at T1 z1 z2 hmask hled hpl ⊢
  have hes1:(insertAt es p (tupleKeyHash knd k,Value.ref b)).size=es.size+1:=GN _ _ z2
  have hlist:(insertAt es p (tupleKeyHash knd k,Value.ref b)).toList=es.toList.take p++(tupleKeyHash knd k,Value.ref b)::es.toList.drop p:=by
   simp [insertAt,List.extract_eq_take_drop,List.take_of_length_le]
  have hents:∃kk,Ents knd B (insertAt es p (tupleKeyHash knd k,Value.ref b)).toList kk/\List.Perm kk (ks++[k]):=by
   obtain⟨kk,x,q⟩:=S.ents
   refine⟨_,by rw [hlist]; exact x.take ⟨rfl,b,rfl,hk⟩ p,?_⟩
   have e:kk=kk.take p++kk.drop p:=(List.take_append_drop p kk).symm
   refine List.Perm.trans List.perm_middle ?_
   rw [← e]
   exact(List.Perm.cons k q).trans (List.perm_append_singleton k ks).symm
  have hnd:(ks++[k]).Nodup:=by
   rw [List.nodup_append]
   refine⟨S.nd,by simp,?_⟩
   intro x hx y hy e
   rw [List.mem_singleton] at hy
   subst hy; subst e; exact hm hx
  have hmem1:∀e∈(insertAt es p (tupleKeyHash knd k,Value.ref b)).toList,e∈es.toList\/e.2=.ref b:=by
   intro e he
   rw [hlist] at he
   rcases List.mem_append.mp he with he | he
   ·exact .inl (List.mem_of_mem_take he)
   ·rcases List.mem_cons.mp he with rfl | he
    ·exact .inr rfl
    ·exact .inl (List.mem_of_mem_drop he)
  generalize insertAt es p (tupleKeyHash knd k,Value.ref b)=es1 at T1 hes1 hents hmem1 ⊢
  have tail:∀t2:SetTable,Tab t2 (fun i=>es1[i]?.map (·.1))->t2.mask=t.mask->t2.led=t.led->t2.plain=false->t2.place.size=es1.size ->
    wpAny (model prog w) A (do
     storeSet a es1 t2
     if !false&&t2.tooFull then setRelay a (SetTable.grown (es.size+1))
     return true) Q E { s with toks:=tk }:=by
   intro t2 T2 m2 l2 p2 s2
   have ff:t2.fits es1.size=true:=by
    unfold SetTable.fits SetTable.fill
    rw [T2.dum,s2]
    have:=T2.few; rw [s2] at this
    simpa using this
   refine wpAny_bind (wpAny_storeSet_of (s:={ s with toks:=tk }) S.obj S.dat ?_ (by rw [hes1,sizeLine_eq]; have:=S.few; omega))
   have hg:(s.heap.update a (Obj.putSet es1 t2)).get? a=some { o with data:=.set es1 (ep+1) t2 }:=by
    have:=Heap.get?_update_self (Obj.putSet es1 t2) S.obj (by rw [putSet_of es1 t2 S.dat]; rfl)
    rw [putSet_of es1 t2 S.dat] at this; exact this
   have sb:∀c,c≠a->(s.heap.update a (Obj.putSet es1 t2)).get? c=s.heap.get? c:=fun c hc=>(Heap.SameBut.update s.heap a (Obj.putSet es1 t2)).2 c hc
   have su2:∀b o,B.get? b=some o->(s.heap.update a (Obj.putSet es1 t2)).get? b=some o:=fun b o e=>by
    rw [sb b (fun z=>by rw [z,S.out] at e; cases e)]; exact S.sub b o e
   by_cases hfull:t2.tooFull=true
   ·simp only [Bool.not_false,Bool.true_and,hfull,↓reduceIte]
    have h5:t.mask=7/\es.size=4:=by
     unfold SetTable.tooFull SetTable.fill at hfull
     rw [T2.dum,s2,hes1,m2] at hfull
     simp at hfull
     rcases S.mask with ⟨e,l⟩ | e
     ·rw [e] at hfull; exact⟨e,by omega⟩
     ·rw [e] at hfull; omega
    unfold setRelay
    refine wpAny_bind (wpAny_bind (wpAny_setState_of (o:={ o with data:=.set es1 (ep+1) t2 }) hg rfl ff ?_))
    dsimp only
    rw [h5.2,EI,if_neg (by rw [sizeLine_eq]; decide)]
    obtain⟨t3,order,e3,m3,l3,p3,s3,s4,pm,T3⟩:=OV (m:=31) (fi:=t2.finger) (mo:=t2.movedTo 31) (led:=t2.led) (pl:=t2.plain) T6 es1 (by rw [hes1]; omega)
    have e4:t2.relaid (es1.map (·.1)) (grown 5)=some (t3,order):=by
     unfold SetTable.relaid
     rw [EI]; exact e3
    rw [e4]
    refine wpAny_bind ?_
    show wpAny (model prog w) A (if ((order.filterMap (es1[·]?)).size != es1.size)=true then _ else _) _ _ _
    rw [if_neg (by rw [s4]; simp)]
    refine wpAny_pure ?_
    dsimp only
    generalize order.filterMap (es1[·]?)=es2 at s4 pm T3 ⊢
    refine wpAny_storeSet_of (s:={ s with heap:=s.heap.update a (Obj.putSet es1 t2),toks:=tk }) (o:={ o with data:=.set es1 (ep+1) t2 }) hg rfl ?_ (by rw [s4,hes1,sizeLine_eq]; have:=S.few; omega)
    have hg2:((s.heap.update a (Obj.putSet es1 t2)).update a (Obj.putSet es2 t3)).get? a=some { o with data:=.set es2 (ep+1+1) t3 }:=by
     have:=Heap.get?_update_self (Obj.putSet es2 t3) hg (by rw [putSet_of (o:={ o with data:=.set es1 (ep+1) t2 }) es2 t3 rfl]; rfl)
     rw [putSet_of (o:={ o with data:=.set es1 (ep+1) t2 }) es2 t3 rfl] at this; exact this
    have sb2:∀c,c≠a->((s.heap.update a (Obj.putSet es1 t2)).update a (Obj.putSet es2 t3)).get? c=s.heap.get? c:=fun c hc=>((Heap.SameBut.update (s.heap.update a (Obj.putSet es1 t2)) a (Obj.putSet es2 t3)).2 c hc).trans (sb c hc)
    have su3:∀b o,B.get? b=some o->((s.heap.update a (Obj.putSet es1 t2)).update a (Obj.putSet es2 t3)).get? b=some o:=fun b o e=>by
     rw [sb2 b (fun z=>by rw [z,S.out] at e; cases e)]; exact S.sub b o e
    have he3:∃kk,Ents knd B es2.toList kk/\List.Perm kk (ks++[k]):=by
     obtain⟨kk,x,q⟩:=hents
     obtain⟨kk2,x2,q2⟩:=Ents.perm pm.symm x
     exact⟨kk2,x2,q2.symm.trans q⟩
    refine wpAny_pure (h _ tk (ks++[k]) true sb2 ⟨{ o with data:=.set es2 (ep+1+1) t3 },es2,ep+1+1,t3,?_,fun e he=>hmem1 e (pm.mem_iff.mp he)⟩ (fun x=>by simp) (by simp))
    exact⟨su3,S.out,hg2,S.ex,rfl,T3,by rw [s3,s4],.inr m3,by rw [s4,hes1]; omega,he3,hnd,.inr (by rw [p3,p2]),by rw [l3,l2]; exact S.led⟩
   ·have hf:t2.tooFull=false:=by simpa using hfull
    simp only [Bool.not_false,Bool.true_and,hf,Bool.false_eq_true,↓reduceIte]
    refine wpAny_pure (h _ tk (ks++[k]) true sb ⟨{ o with data:=.set es1 (ep+1) t2 },es1,ep+1,t2,?_,hmem1⟩ (fun x=>by simp) (by simp))
    refine⟨su2,S.out,hg,S.ex,rfl,T2,s2,?_,by rw [hes1]; have:=S.few; omega,hents,hnd,.inr p2,by rw [l2]; exact S.led⟩
    rcases S.mask with ⟨e,l⟩ | e
    ·left
     refine⟨by rw [m2]; exact e,?_⟩
     unfold SetTable.tooFull SetTable.fill at hf
     rw [T2.dum,s2,m2,e] at hf
     simp at hf
     omega
    ·right; rw [m2]; exact e
  rw [hpl]
  split
  ·refine wpAny_bind (VS (s:={ s with toks:=tk }) (DY S.sub hk) nv ?_)
   simp only [Bool.false_eq_true,↓reduceIte]
   exact tail _ (T1.plain false) hmask hled rfl (by rw [hes1]; exact z1)
  ·rename_i hp
   refine wpAny_bind (wpAny_pure ?_)
   simp only [↓reduceIte]
   exact tail _ T1 hmask hled (by rw [hpl]; simpa using hp) (by rw [hes1]; exact z1)
end
end St
set_option maxHeartbeats 4000000
namespace St
open PySem PySem.SetTable
section
variable {prog:Program}{w:World}{A:Around}{R:Result->Shared->Prop}{I:Addr}{fp wr:List Addr}{n:Nat}{P:Nat->Value->Prop}{St:Nat->Heap->Prop}
theorem Iv(W:Walks prog w A.in1 I fp wr n P St)(S:Addr)(hSf:S∉fp)(Inv:Nat->Heap->Prop)
  (hmove:∀i h h',Inv i h->(∀b o,b∉wr->h.get? b=some o->h'.get? b=some o)->Inv i h')
  (hadd:∀i v (s:Shared) (Q:Bool->Shared->Prop) (E:Value->Shared->Prop),i<n->P i v->Inv i s.heap->(∀h' tk b,(∀c,c≠S->h'.get? c=s.heap.get? c)->Inv (i+1) h'->Q b { s with heap:=h',toks:=tk })->wpAny (model prog w) A.in1 (setAdd S v) Q E s) :
  ∀(k i:Nat) (s:Shared),n - i=k->i<=n->St i s.heap->Inv i s.heap ->
   (∀h' tk,(∀b o,b∉S::wr->s.heap.get? b=some o->h'.get? b=some o)->Inv n h'->R (.ok (.ret .none)) { s with heap:=h',toks:=tk }) ->
   codeAny (model prog w) A (.builtin "set.update.loop" ⟨[.ref S,.ref I],[]⟩) R s:=by
 intro k
 induction k with
 | zero =>
  intro i s hk hi hst hS hR
  have hin:i=n:=by omega
  subst hin
  refine codeAny_builtin PyProof.Rows.F.entry_set_update_loop ?_
  rw [Around.under_plainId PyProof.Rows.F.plain_set_update_loop _]
  show wpAny _ A.in1 (pyNext (.ref I) >>= _) _ _ s
  refine wpAny_bind (W.done s _ _ hst fun h' tk hk'=>?_)
  show wpAny _ A.in1 (ret Value.none) _ _ _
  exact wpAny_pure (hR h' tk (fun b o hb e=>hk' b o (fun z=>hb (List.mem_cons_of_mem _ z)) e) (hmove i _ _ hS hk'))
 | succ k ih =>
  intro i s hk hi hst hS hR
  have hlt:i<n:=by omega
  refine codeAny_builtin PyProof.Rows.F.entry_set_update_loop ?_
  rw [Around.under_plainId PyProof.Rows.F.plain_set_update_loop _]
  show wpAny _ A.in1 (pyNext (.ref I) >>= _) _ _ s
  refine wpAny_bind (W.item i s _ _ hlt hst fun v h' tk hP hst' hk'=>?_)
  show wpAny _ A.in1 (holding [v] (setAdd S v) >>= _) _ _ _
  refine wpAny_bind (wpAny_holding ?_)
  refine hadd i v { s with heap:=h',toks:=tk } _ _ hlt hP (hmove i _ _ hS hk') fun h2 tk2 b hs2 hI2=>?_
  refine wpAny_pure ⟨plainId_quiet PyProof.Rows.F.plain_set_update_loop _,?_⟩
  refine ih (i+1) _ (by omega) hlt (W.frame _ _ _ hst' fun b hb o e=>?_) hI2 fun h3 tk3 hk3 hI3=>hR h3 tk3 (fun b o hb e=>hk3 b o hb ?_) hI3
  ·exact(hs2 b fun z=>hSf (by rw [← z]; exact hb)).trans e
  ·have hb2:b≠S:=fun z=>hb (by rw [z]; exact List.mem_cons_self)
   exact(hs2 b hb2).trans (hk' b o (fun z=>hb (List.mem_cons_of_mem _ z)) e)
end
section
variable {prog:Program}{w:World}{A:Around}{E:Value->Shared->Prop}{s:Shared}
theorem LO(a:Value){Q₁:Value->Shared->Prop}
  (h:Q₁ (.ref s.heap.objs.size) { s with heap:=s.heap.push { cls:=.type "set",dict:=none,data:=.set #[] 0 (.fresh 0 0 (!(w.params.followText "set-order"))) } }) :
  codeAny (model prog w) A (.call (.builtin "set.__new__") ⟨[.type "set",a],[]⟩) (wants Q₁ E) s:=by
 refine codeAny_of_tree ?_
 show wpAny _ A.in1 (do checkBuiltinCall "set.__new__" ⟨[.type "set",a],[]⟩; again (.builtin "set.__new__" ⟨[.type "set",a],[]⟩)) _ _ s
 refine wpAny_bind (wpAny_of_eq (F.newCall_set_1 a) (wpAny_pure ⟨plainId_quiet F.plain_set_new _,codeAny_builtin F.entry_set_new ?_⟩))
 rw [Around.under_plainId F.plain_set_new _]
 unfold Builtin.«set.__new__» Builtin.Frozenset.newClass
 have hsub:=sub_set_self
 obtain⟨hp,g,d,tk,os⟩:=s
 dsimp only
 wp_walk
 refine wpAny_askSetting (wpAny_pure ?_)
 dsimp only
 simp only [newObj]
 refine wpAny_bind (wpAny_alloc (wpAny_pure ?_))
 exact wpAny_pure h
noncomputable def setObj(w:World):Obj:={ cls:=.type "set",dict:=none,data:=.set #[] 0 (.fresh 0 0 (!(w.params.followText "set-order"))) }
theorem Ht:isSubtype (.type "list") (.type "set")=pure false:=by rw [isSubtype_type]; kernel_rfl
theorem Gq:isSubtype (.type "list") (.type "frozenset")=pure false:=by rw [isSubtype_type]; kernel_rfl
theorem set_list{l:Addr}{items:Array Value}{Q:Value->Shared->Prop}(hh:A.handled=none)(hl:s.heap.IsList l items)(Inv:Nat->Heap->Prop)
  (h0:∀h',(∀b o,s.heap.get? b=some o->h'.get? b=some o)->h'.get? s.heap.objs.size=some (setObj w)->Inv 0 h')
  (hmove:∀i h h',Inv i h->(∀b o,b∉[s.heap.objs.size+1]->h.get? b=some o->h'.get? b=some o)->Inv i h')
  (hadd:∀i v (s':Shared) (Q:Bool->Shared->Prop) (E:Value->Shared->Prop),i<items.size->items[i]?=some v->Inv i s'.heap->(∀h' tk b,(∀c,c≠s.heap.objs.size->h'.get? c=s'.heap.get? c)->Inv (i+1) h'->Q b { s' with heap:=h',toks:=tk })->wpAny (model prog w) A.in1.in1.in1 (setAdd s.heap.objs.size v) Q E s')
  (h:∀(h':Heap) (tk:Nat),Inv items.size h'->(∀b o,s.heap.get? b=some o->h'.get? b=some o)->Q (.ref s.heap.objs.size) { s with heap:=h',toks:=tk }) :
  wpAny (model prog w) A (call (.type "set") [.ref l]) Q E s:=by
 obtain⟨c,tl,hmro⟩:=F.called_set.mro
 have hmade:=F.called_set.made
 have hsub:=F.called_set.sub
 refine wpAny_call (codeAny_of_tree ?_)
 show wpAny _ _ (callAny (.type "set") _) _ _ _
 refine wpAny_pure ⟨Code.quiet_builtin _ (by decide +kernel),codeAny_builtin F.entry_type_call ?_⟩
 rw [Around.under_plain (weight_type_call_type "set" [.ref l] []) rfl]
 have h1:=F.called_set.notType
 have h2:=F.called_set.canCreate
 have hct:=F.typeCall_set_1 (.ref l)
 repeat (any_goals (first | assumption | wp_step))
 refine codeAny_mono (LO (.ref l) (E:=E) (Q₁:=fun obj s₁=>obj=.ref s.heap.objs.size/\s₁={ s with heap:=s.heap.push (setObj w) }) ⟨rfl,rfl⟩) fun r s₁ hr=>?_
 cases r with
 | error e=>exact hr
 | ok fl =>
  cases fl with
  | ret obj =>
   obtain⟨rfl,rfl⟩:=hr
   have hS:(s.heap.push (setObj w)).get? s.heap.objs.size=some (setObj w):=Heap.get?_push_size _ rfl
   have hT:Shared.TypeIs { s with heap:=s.heap.push (setObj w) } (.ref s.heap.objs.size) "set":=⟨_,hS,rfl⟩
   have hli:=F.called_set.init.lookup
   have hbi:=F.called_set.init.bind (.ref s.heap.objs.size)
   repeat (any_goals (first | assumption | wp_step))
   refine codeAny_mono (codeAny_call_builtin (R:=wants (fun r s₂=>r=.none/\∃h' tk,s₂={ s with heap:=h',toks:=tk }/\Inv items.size h' /\
     (∀b o,s.heap.get? b=some o->h'.get? b=some o)) E) F.called_set.init.plain F.entry_set_init (check_set_init_1 hT ?_)) fun r₂ s₂ hr₂=>?_
   ·obtain⟨ol,hol,hcl,nl,hdl⟩:=hl
    obtain⟨ocls,odict,odata,oslots⟩:=ol
    simp only at hcl hdl
    subst hcl; subst hdl
    have hS:(s.heap.push (setObj w)).get? s.heap.objs.size=some { cls:=.type "set",dict:=none,data:=.set #[] 0 (.fresh 0 0 (!(w.params.followText "set-order"))) }:=hS
    have hol':(s.heap.push (setObj w)).get? l=some { cls:=.type "list",dict:=odict,data:=.seq items nl,slots:=oslots }:=Heap.get?_push_of_some _ hol
    have hsls:=Ht
    have hslf:=Gq
    have hne:(Value.type "list"==Value.type "dict")=false:=by decide
    have hl1:(s.heap.push (setObj w)).IsList l items:=⟨_,hol',rfl,nl,rfl⟩
    unfold Builtin.«set.__init__» noKeywords Builtin.Frozenset.updateFrom
    generalize hPI:pyIter=PI
    wp_walk
    subst hPI
    refine wpAny_pyIter_list hl1 ?_
    refine wpAny_bind (wpAny_runValue ?_)
    have hlS:l<s.heap.objs.size:=Heap.lt_size hol
    have hh3:A.in1.in1.in1.handled=none:=by simp [hh]
    have esz:(s.heap.push (setObj w)).objs.size=s.heap.objs.size+1:=Heap.size_push ..
    have hneI:l≠(s.heap.push (setObj w)).objs.size:=by
     rw [esz]; exact Nat.ne_of_lt (Nat.lt_succ_of_lt hlS)
    have hSf:s.heap.objs.size∉[(s.heap.push (setObj w)).objs.size,l]:=by
     rw [esz]; simp only [List.mem_cons,List.mem_singleton,List.not_mem_nil,or_false,not_or]
     exact⟨Nat.ne_of_lt (Nat.lt_succ_self _),Nat.ne_of_gt hlS⟩
    refine Iv (Walks.list hh3 _ l hneI items) s.heap.objs.size hSf Inv (by rw [esz]; exact hmove) hadd (items.size - 0) 0 _ (by omega) (Nat.zero_le _)
     ⟨⟨_,Heap.get?_push_size _ rfl,rfl,rfl⟩,(hl1.push _)⟩ (h0 _ (fun b o e=>Heap.get?_push_of_some _ (Heap.get?_push_of_some _ e)) (Heap.get?_push_of_some _ hS)) ?hR
    case hR =>
     intro h' tk' hm hS'
     show wpAny _ _ _ _ _ _
     refine wpAny_pure ?_
     show wpAny _ _ (ret Value.none) _ _ _
     refine wpAny_pure ⟨rfl,h',tk',rfl,hS',fun b o e=>?_⟩
     have hb:=Heap.lt_size e
     have hb1:b≠s.heap.objs.size:=Nat.ne_of_lt hb
     have hb2:b≠(s.heap.push (setObj w)).objs.size:=by
      rw [esz]; exact Nat.ne_of_lt (Nat.lt_succ_of_lt hb)
     exact hm b o (by simp only [List.mem_cons,List.mem_singleton,List.not_mem_nil,or_false,not_or]; exact⟨hb1,hb2⟩) (Heap.get?_push_of_some _ (Heap.get?_push_of_some _ e))
   ·cases r₂ with
    | error e=>exact hr₂
    | ok fl₂ =>
     cases fl₂ with
     | ret r =>
      obtain⟨rfl,h',tk,rfl,hS',hk'⟩:=hr₂
      repeat (any_goals (first | assumption | wp_step))
      exact h _ _ hS' hk'
     | _=>exact hr₂.elim
  | _=>exact hr.elim
theorem Gr:isSubtype (.type "tuple") (.type "set")=pure false:=by rw [isSubtype_type]; kernel_rfl
theorem Fp:isSubtype (.type "tuple") (.type "frozenset")=pure false:=by rw [isSubtype_type]; kernel_rfl
theorem set_tuple{l:Addr}{items:Array Value}{Q:Value->Shared->Prop}(hh:A.handled=none)(hl:s.heap.IsTuple l items)(Inv:Nat->Heap->Prop)
  (h0:∀h',(∀b o,s.heap.get? b=some o->h'.get? b=some o)->h'.get? s.heap.objs.size=some (setObj w)->Inv 0 h')
  (hmove:∀i h h',Inv i h->(∀b o,b∉[s.heap.objs.size+1]->h.get? b=some o->h'.get? b=some o)->Inv i h')
  (hadd:∀i v (s':Shared) (Q:Bool->Shared->Prop) (E:Value->Shared->Prop),i<items.size->items[i]?=some v->Inv i s'.heap->(∀h' tk b,(∀c,c≠s.heap.objs.size->h'.get? c=s'.heap.get? c)->Inv (i+1) h'->Q b { s' with heap:=h',toks:=tk })->wpAny (model prog w) A.in1.in1.in1 (setAdd s.heap.objs.size v) Q E s')
  (h:∀(h':Heap) (tk:Nat),Inv items.size h'->(∀b o,s.heap.get? b=some o->h'.get? b=some o)->Q (.ref s.heap.objs.size) { s with heap:=h',toks:=tk }) :
  wpAny (model prog w) A (call (.type "set") [.ref l]) Q E s:=by
 obtain⟨c,tl,hmro⟩:=F.called_set.mro
 have hmade:=F.called_set.made
 have hsub:=F.called_set.sub
 refine wpAny_call (codeAny_of_tree ?_)
 show wpAny _ _ (callAny (.type "set") _) _ _ _
 refine wpAny_pure ⟨Code.quiet_builtin _ (by decide +kernel),codeAny_builtin F.entry_type_call ?_⟩
 rw [Around.under_plain (weight_type_call_type "set" [.ref l] []) rfl]
 have h1:=F.called_set.notType
 have h2:=F.called_set.canCreate
 have hct:=F.typeCall_set_1 (.ref l)
 repeat (any_goals (first | assumption | wp_step))
 refine codeAny_mono (LO (.ref l) (E:=E) (Q₁:=fun obj s₁=>obj=.ref s.heap.objs.size/\s₁={ s with heap:=s.heap.push (setObj w) }) ⟨rfl,rfl⟩) fun r s₁ hr=>?_
 cases r with
 | error e=>exact hr
 | ok fl =>
  cases fl with
  | ret obj =>
   obtain⟨rfl,rfl⟩:=hr
   have hS:(s.heap.push (setObj w)).get? s.heap.objs.size=some (setObj w):=Heap.get?_push_size _ rfl
   have hT:Shared.TypeIs { s with heap:=s.heap.push (setObj w) } (.ref s.heap.objs.size) "set":=⟨_,hS,rfl⟩
   have hli:=F.called_set.init.lookup
   have hbi:=F.called_set.init.bind (.ref s.heap.objs.size)
   repeat (any_goals (first | assumption | wp_step))
   refine codeAny_mono (codeAny_call_builtin (R:=wants (fun r s₂=>r=.none/\∃h' tk,s₂={ s with heap:=h',toks:=tk }/\Inv items.size h' /\
     (∀b o,s.heap.get? b=some o->h'.get? b=some o)) E) F.called_set.init.plain F.entry_set_init (check_set_init_1 hT ?_)) fun r₂ s₂ hr₂=>?_
   ·obtain⟨ol,hol,hcl,nl,hdl⟩:=hl
    obtain⟨ocls,odict,odata,oslots⟩:=ol
    simp only at hcl hdl
    subst hcl; subst hdl
    have hS:(s.heap.push (setObj w)).get? s.heap.objs.size=some { cls:=.type "set",dict:=none,data:=.set #[] 0 (.fresh 0 0 (!(w.params.followText "set-order"))) }:=hS
    have hol':(s.heap.push (setObj w)).get? l=some { cls:=.type "tuple",dict:=odict,data:=.seq items nl,slots:=oslots }:=Heap.get?_push_of_some _ hol
    have hsls:=Gr
    have hslf:=Fp
    have hne:(Value.type "tuple"==Value.type "dict")=false:=by decide
    have hl1:(s.heap.push (setObj w)).IsTuple l items:=⟨_,hol',rfl,nl,rfl⟩
    unfold Builtin.«set.__init__» noKeywords Builtin.Frozenset.updateFrom
    generalize hPI:pyIter=PI
    wp_walk
    subst hPI
    refine wpAny_pyIter_tuple hl1 ?_
    refine wpAny_bind (wpAny_runValue ?_)
    have hlS:l<s.heap.objs.size:=Heap.lt_size hol
    have hh3:A.in1.in1.in1.handled=none:=by simp [hh]
    have esz:(s.heap.push (setObj w)).objs.size=s.heap.objs.size+1:=Heap.size_push ..
    have hneI:l≠(s.heap.push (setObj w)).objs.size:=by
     rw [esz]; exact Nat.ne_of_lt (Nat.lt_succ_of_lt hlS)
    have hSf:s.heap.objs.size∉[(s.heap.push (setObj w)).objs.size,l]:=by
     rw [esz]; simp only [List.mem_cons,List.mem_singleton,List.not_mem_nil,or_false,not_or]
     exact⟨Nat.ne_of_lt (Nat.lt_succ_self _),Nat.ne_of_gt hlS⟩
    refine Iv (Walks.tuple hh3 _ l hneI items) s.heap.objs.size hSf Inv (by rw [esz]; exact hmove) hadd (items.size - 0) 0 _ (by omega) (Nat.zero_le _)
     ⟨⟨_,Heap.get?_push_size _ rfl,rfl,rfl⟩,(hl1.push _)⟩ (h0 _ (fun b o e=>Heap.get?_push_of_some _ (Heap.get?_push_of_some _ e)) (Heap.get?_push_of_some _ hS)) ?hR
    case hR =>
     intro h' tk' hm hS'
     show wpAny _ _ _ _ _ _
     refine wpAny_pure ?_
     show wpAny _ _ (ret Value.none) _ _ _
     refine wpAny_pure ⟨rfl,h',tk',rfl,hS',fun b o e=>?_⟩
     have hb:=Heap.lt_size e
     have hb1:b≠s.heap.objs.size:=Nat.ne_of_lt hb
     have hb2:b≠(s.heap.push (setObj w)).objs.size:=by
      rw [esz]; exact Nat.ne_of_lt (Nat.lt_succ_of_lt hb)
     exact hm b o (by simp only [List.mem_cons,List.mem_singleton,List.not_mem_nil,or_false,not_or]; exact⟨hb1,hb2⟩) (Heap.get?_push_of_some _ (Heap.get?_push_of_some _ e))
   ·cases r₂ with
    | error e=>exact hr₂
    | ok fl₂ =>
     cases fl₂ with
     | ret r =>
      obtain⟨rfl,h',tk,rfl,hS',hk'⟩:=hr₂
      repeat (any_goals (first | assumption | wp_step))
      exact h _ _ hS' hk'
     | _=>exact hr₂.elim
  | _=>exact hr.elim
end
end St
namespace St
open PySem PySem.SetTable PyProof.Rows
theorem slot_si_next:Slot "set_iterator" "__next__" "set_iterator.__next__" :=
 .of (owner := "set_iterator") (n := "__next__") (by rw [typeLookup_type,builtinLookup_eq_fast]; kernel_rfl) (by decide +kernel) (by decide +kernel) (by decide +kernel)
  (by first | exact .inl (by decide +kernel) | exact .inr (by decide +kernel)) (by rw [isSubtype_type]; kernel_rfl)
theorem BG:entryFor table "set_iterator.__next__"=some Builtin.«set_iterator.__next__»:=entryFor_of_tree (by kernel_rfl)
theorem JN:Manifest.owners.lookup (String.ofList ['r','o','t','a','r','e','t','i','_','t','e','s'].reverse)=some Manifest.sig_set_iterator:=by kernel_rfl
theorem Ba(a:Value):argsOk "set_iterator.__next__" ⟨[a],[]⟩:=by
 unfold argsOk; rw [signature?_of (id := "set_iterator.__next__") (n:=['_','_','t','x','e','n','_','_']) (o:=['r','o','t','a','r','e','t','i','_','t','e','s']) (by kernel_rfl) JN]; kernel_rfl
theorem EH:Slot "set_iterator" "__iter__" "set_iterator.__iter__" :=
 .of (owner := "set_iterator") (n := "__iter__") (by rw [typeLookup_type,builtinLookup_eq_fast]; kernel_rfl) (by decide +kernel) (by decide +kernel) (by decide +kernel)
  (by first | exact .inl (by decide +kernel) | exact .inr (by decide +kernel)) (by rw [isSubtype_type]; kernel_rfl)
theorem Ih(a:Value):argsOk "set_iterator.__iter__" ⟨[a],[]⟩:=by
 unfold argsOk; rw [signature?_of (id := "set_iterator.__iter__") (n:=['_','_','r','e','t','i','_','_']) (o:=['r','o','t','a','r','e','t','i','_','t','e','s']) (by kernel_rfl) JN]; kernel_rfl
theorem G4:entryFor table "set_iterator.__iter__"=some Builtin.«dict_keyiterator.__iter__» :=
 entryFor_alias (id' := "dict_keyiterator.__iter__") (by kernel_rfl) (by first | rfl | decide +kernel | (unfold String.splitOn; simp +decide [String.splitOnAux])) (by decide +kernel) (by kernel_rfl)
theorem GT:entryFor table "set.__iter__"=some Builtin.«frozenset.__iter__» :=
 entryFor_alias (id' := "frozenset.__iter__") (by kernel_rfl) (by first | rfl | decide +kernel | (unfold String.splitOn; simp +decide [String.splitOnAux])) (by decide +kernel) (by kernel_rfl)
noncomputable def IsSi(h:Heap)(it a:Addr)(first:Value)(i n ep:Nat):Prop:=∃o,h.get? it=some o/\o.cls=.type "set_iterator"/\o.data=.fields #[first,rawInt i,.ref a,rawInt n,rawInt ep]
theorem IsSi.at{h h':Heap}{it a:Addr}{f:Value}{i n ep:Nat}(x:IsSi h it a f i n ep)(e:∀o,h.get? it=some o->h'.get? it=some o):IsSi h' it a f i n ep:=let ⟨o,ho,r⟩:=x; ⟨o,e _ ho,r⟩
section
variable {prog:Program}{w:World}{A:Around}{E:Value->Shared->Prop}{s:Shared}{it a:Addr}{o:Obj}{es:Array (Int×Value)}{ep i:Nat}{t:SetTable}
theorem IsSi.ty{f:Value}{n:Nat}(x:IsSi s.heap it a f i n ep):s.TypeIs (.ref it) "set_iterator":=let ⟨o,ho,hc,_⟩:=x; ⟨o,ho,hc⟩
theorem Hr{f:Value}{n:Nat}{Q:Value->Shared->Prop}(x:IsSi s.heap it a f i n ep)(h:Q (.ref it) s):wpAny (model prog w) A (pyIter (.ref it)) Q E s:=by
 refine wpAny_pyIter_slot x.ty EH (wpAny_call_entry EH x.ty G4 ?_ (Ih _))
 refine wpAny_bind (wpAny_pure (wpAny_pure ⟨_,rfl,"set_iterator",_,x.ty,slot_si_next.lookup,h⟩))
theorem Hn{it:Addr}{o':Obj}{vs:Array Value}(g1:s.heap.get? it=some o')(g3:o'.data=.fields vs){i j:Nat}{u v:Value}{B:Type}{K:Unit->Sem B}{Q:B->Shared->Prop}(hi:i<vs.size)(hj:j<vs.size)
  (h:∀h' o2,Heap.SameBut it s.heap h'->h'.get? it=some o2->o2.cls=o'.cls->o2.data=.fields ((vs.set! i u).set! j v)->wpAny (model prog w) A (K ()) Q E { s with heap:=h' }) :
  wpAny (model prog w) A (setField (.ref it) i u >>= fun _=>setField (.ref it) j v >>= K) Q E s:=by
 refine wpAny_bind (wpAny_setField g1 g3 hi ?_)
 have k1:=Heap.get?_update_self (Obj.mapFields fun vs=>vs.set! i u) g1 (Obj.isFreed_of_fields (Obj.data_mapFields g3 _))
 have k2:=Obj.data_mapFields g3 (fun vs=>vs.set! i u)
 refine wpAny_bind (wpAny_setField k1 k2 (by simpa using hj) ?_)
 have k3:=Heap.get?_update_self (Obj.mapFields fun vs=>vs.set! j v) k1 (Obj.isFreed_of_fields (Obj.data_mapFields k2 _))
 exact h _ _ ((Heap.SameBut.update ..).trans (Heap.SameBut.update ..)) k3 ((Obj.cls_mapFields ..).trans (Obj.cls_mapFields ..)) (Obj.data_mapFields k2 _)
theorem MB{sl j:Nat}{e:Int×Value}{Q:Option Value->Shared->Prop}(x:IsSi s.heap it a (rawInt sl) i es.size ep)(ho:s.heap.get? a=some o)(hd:o.data=.set es ep t)(hf:t.fits es.size=true)
  (hb:w.params.followText "set-order"=false) (hdr:(!t.plain&&decide (es.size > 1))=false) (hled:t.led=true) (hbl:below t.place sl=i) (he:es[i]?=some e) (hp:t.place[i]?=some j)
  (q:∀h',IsSi h' it a (rawInt ((j+1:Nat):Int)) (i+1) es.size ep->Heap.SameBut it s.heap h'->Q (some e.2) { s with heap:=h' }):wpAny (model prog w) A (pyNext (.ref it)) Q E s:=by
 have T:=x.ty
 obtain⟨o',g1,g2,g3⟩:=id x
 unfold pyNext
 refine wpAny_bind (wpAny_attempt (wpAny_callSpecial?_slot (name:=Str.ofString "__next__") T slot_si_next (wpAny_call_entry slot_si_next T BG ?_ (Ba _))))
 unfold Builtin.«set_iterator.__next__»
 refine wpAny_bind (wpAny_pure (wpAny_bind (wpAny_fieldsOf g1 g3 ?_)))
 show wpAny _ _ (setEntries a >>= _) _ _ _
 refine wpAny_bind (wpAny_setEntries_of ho hd hf ?_)
 show wpAny _ _ (if ((((es.size:Int) != (es.size:Int)))=true) then _ else _) _ _ _
 rw [if_neg (by simp)]
 show wpAny _ _ (setNext a (Int.toNat (sl:Int)) (Int.toNat (i:Int)) (Int.toNat (ep:Int)) >>= _) _ _ _
 simp only [Int.toNat_natCast]
 refine wpAny_bind ?_
 unfold setNext setsByText
 refine wpAny_bind (wpAny_setState_of ho hd hf ?_)
 dsimp only
 refine wpAny_bind (wpAny_bind (wpAny_askSetting (wpAny_pure ?_)))
 show wpAny _ _ (if (w.params.followText "set-order")=true then _ else _) _ _ _
 rw [hb]
 simp only [Bool.false_eq_true,↓reduceIte]
 show wpAny _ _ (if (!t.plain&&decide (es.size > 1))=true then _ else _) _ _ _
 rw [hdr]
 simp only [Bool.false_eq_true,↓reduceIte]
 refine wpAny_bind ?_
 show wpAny _ _ (if (!t.led&&!es.isEmpty)=true then _ else _) _ _ _
 rw [hled]
 simp only [Bool.not_true,Bool.false_and,Bool.false_eq_true,↓reduceIte]
 refine wpAny_pure (wpAny_pure ?_)
 rw [hbl,he,hp]
 dsimp only
 show wpAny _ _ (setField (.ref it) 0 (rawInt ((j+1:Nat):Int)) >>= fun _=>setField (.ref it) 1 (rawInt ((i:Int)+1)) >>= fun _=>ret e.2) _ _ _
 refine Hn g1 g3 (by simp) (by simp) fun h' o2 sb k1 k2 k3=>?_
 refine wpAny_pure ⟨_,rfl,wpAny_pure (q h' ⟨o2,k1,k2.trans g2,?_⟩ sb)⟩
 rw [k3]; simp
theorem Nh{sl:Nat}{Q:Option Value->Shared->Prop}(hh:A.handled=none)(x:IsSi s.heap it a (rawInt sl) i es.size ep)(ho:s.heap.get? a=some o)(hd:o.data=.set es ep t)(hf:t.fits es.size=true)
  (hb:w.params.followText "set-order"=false) (hdr:(!t.plain&&decide (es.size > 1))=false) (hled:t.led=true) (hbl:es.size<=below t.place sl)
  (q:∀h',Heap.ExtBut it s.heap h'->Q none { s with heap:=h' }):wpAny (model prog w) A (pyNext (.ref it)) Q E s:=by
 have T:=x.ty
 obtain⟨o',g1,g2,g3⟩:=id x
 unfold pyNext
 refine wpAny_bind (wpAny_attempt (wpAny_callSpecial?_slot (name:=Str.ofString "__next__") T slot_si_next (wpAny_call_entry slot_si_next T BG ?_ (Ba _))))
 unfold Builtin.«set_iterator.__next__»
 refine wpAny_bind (wpAny_pure (wpAny_bind (wpAny_fieldsOf g1 g3 ?_)))
 show wpAny _ _ (setEntries a >>= _) _ _ _
 refine wpAny_bind (wpAny_setEntries_of ho hd hf ?_)
 show wpAny _ _ (if ((((es.size:Int) != (es.size:Int)))=true) then _ else _) _ _ _
 rw [if_neg (by simp)]
 show wpAny _ _ (setNext a (Int.toNat (sl:Int)) (Int.toNat (i:Int)) (Int.toNat (ep:Int)) >>= _) _ _ _
 simp only [Int.toNat_natCast]
 refine wpAny_bind ?_
 unfold setNext setsByText
 refine wpAny_bind (wpAny_setState_of ho hd hf ?_)
 dsimp only
 refine wpAny_bind (wpAny_bind (wpAny_askSetting (wpAny_pure ?_)))
 show wpAny _ _ (if (w.params.followText "set-order")=true then _ else _) _ _ _
 rw [hb]
 simp only [Bool.false_eq_true,↓reduceIte]
 show wpAny _ _ (if (!t.plain&&decide (es.size > 1))=true then _ else _) _ _ _
 rw [hdr]
 simp only [Bool.false_eq_true,↓reduceIte]
 refine wpAny_bind ?_
 show wpAny _ _ (if (!t.led&&!es.isEmpty)=true then _ else _) _ _ _
 rw [hled]
 simp only [Bool.not_true,Bool.false_and,Bool.false_eq_true,↓reduceIte]
 refine wpAny_pure (wpAny_pure ?_)
 rw [Array.getElem?_eq_none hbl]
 dsimp only
 refine wpAny_bind (wpAny_setField g1 g3 (by simp) ?_)
 refine wpAny_bind ?_
 simp only [newExc,newTuple]; refine wpAny_bind (wpAny_newObj_type ?_ (by size_fits))
 refine wpAny_bind (m:=firstArgMember _ _) (wpAny_of_eq (a:=Value.none) (by first | rfl | (simp only [firstArgMember]; rfl)) (wpAny_newObj_type ?_ (by size_fits)))
 simp only [raiseNew]; refine wpAny_bind (wpAny_handled ?_)
 rw [show A.in1.handled=none from hh]; refine wpAny_bind (wpAny_pure (wpAny_throw ?_)); refine wpAny_bind (wpAny_isInstance (T := "StopIteration") (b:=true) ⟨_,Heap.get?_push_size _ rfl,rfl⟩ isSubtype_stop ?_)
 exact wpAny_pure (q _ (((Heap.SameBut.update ..).extBut.push _).push _))
theorem MD{sl:Nat}{e:Int×Value}{Q:Option Value->Shared->Prop}(x:IsSi s.heap it a (rawInt sl) i es.size ep)(ho:s.heap.get? a=some o)(hd:o.data=.set es ep t)(hf:t.fits es.size=true)
  (hb:w.params.followText "set-order"=true) (he:(pickOrder (w.params.setOrder a ep) es)[i]?=some e)
  (q:∀h',IsSi h' it a (rawInt sl) (i+1) es.size ep->Heap.SameBut it s.heap h'->Q (some e.2) { s with heap:=h' }):wpAny (model prog w) A (pyNext (.ref it)) Q E s:=by
 have T:=x.ty
 obtain⟨o',g1,g2,g3⟩:=id x
 unfold pyNext
 refine wpAny_bind (wpAny_attempt (wpAny_callSpecial?_slot (name:=Str.ofString "__next__") T slot_si_next (wpAny_call_entry slot_si_next T BG ?_ (Ba _))))
 unfold Builtin.«set_iterator.__next__»
 refine wpAny_bind (wpAny_pure (wpAny_bind (wpAny_fieldsOf g1 g3 ?_)))
 show wpAny _ _ (setEntries a >>= _) _ _ _
 refine wpAny_bind (wpAny_setEntries_of ho hd hf ?_)
 show wpAny _ _ (if ((((es.size:Int) != (es.size:Int)))=true) then _ else _) _ _ _
 rw [if_neg (by simp)]
 show wpAny _ _ (setNext a (Int.toNat (sl:Int)) (Int.toNat (i:Int)) (Int.toNat (ep:Int)) >>= _) _ _ _
 simp only [Int.toNat_natCast]
 refine wpAny_bind ?_
 unfold setNext setsByText
 refine wpAny_bind (wpAny_setState_of ho hd hf ?_)
 dsimp only
 refine wpAny_bind (wpAny_bind (wpAny_askSetting (wpAny_pure ?_)))
 show wpAny _ _ (if (w.params.followText "set-order")=true then _ else _) _ _ _
 rw [hb]
 simp only [↓reduceIte,bne_self_eq_false,Bool.false_eq_true]
 unfold setWalk setsByText
 refine wpAny_bind (wpAny_bind (wpAny_setState_of ho hd hf ?_))
 dsimp only
 refine wpAny_bind (wpAny_bind (wpAny_askSetting (wpAny_pure ?_)))
 show wpAny _ _ (if (w.params.followText "set-order")=true then _ else _) _ _ _
 rw [hb]
 simp only [↓reduceIte]
 refine wpAny_bind (wpAny_askSetting (wpAny_pure (wpAny_pure ?_)))
 show wpAny _ _ (match Option.map (fun e:Int×Value=>(e.2,sl)) (pickOrder (w.params.setOrder a ep) es)[i]? with | some (x,next)=>_ | none=>_) _ _ _
 rw [he]
 dsimp only [Option.map_some]
 show wpAny _ _ (setField (.ref it) 0 (rawInt (sl:Int)) >>= fun _=>setField (.ref it) 1 (rawInt ((i:Int)+1)) >>= fun _=>ret e.2) _ _ _
 refine Hn g1 g3 (by simp) (by simp) fun h' o2 sb k1 k2 k3=>?_
 refine wpAny_pure ⟨_,rfl,wpAny_pure (q h' ⟨o2,k1,k2.trans g2,?_⟩ sb)⟩
 rw [k3]; simp
theorem Nj{sl:Nat}{Q:Option Value->Shared->Prop}(hh:A.handled=none)(x:IsSi s.heap it a (rawInt sl) i es.size ep)(ho:s.heap.get? a=some o)(hd:o.data=.set es ep t)(hf:t.fits es.size=true)
  (hb:w.params.followText "set-order"=true) (he:(pickOrder (w.params.setOrder a ep) es)[i]?=none)
  (q:∀h',Heap.ExtBut it s.heap h'->Q none { s with heap:=h' }):wpAny (model prog w) A (pyNext (.ref it)) Q E s:=by
 have T:=x.ty
 obtain⟨o',g1,g2,g3⟩:=id x
 unfold pyNext
 refine wpAny_bind (wpAny_attempt (wpAny_callSpecial?_slot (name:=Str.ofString "__next__") T slot_si_next (wpAny_call_entry slot_si_next T BG ?_ (Ba _))))
 unfold Builtin.«set_iterator.__next__»
 refine wpAny_bind (wpAny_pure (wpAny_bind (wpAny_fieldsOf g1 g3 ?_)))
 show wpAny _ _ (setEntries a >>= _) _ _ _
 refine wpAny_bind (wpAny_setEntries_of ho hd hf ?_)
 show wpAny _ _ (if ((((es.size:Int) != (es.size:Int)))=true) then _ else _) _ _ _
 rw [if_neg (by simp)]
 show wpAny _ _ (setNext a (Int.toNat (sl:Int)) (Int.toNat (i:Int)) (Int.toNat (ep:Int)) >>= _) _ _ _
 simp only [Int.toNat_natCast]
 refine wpAny_bind ?_
 unfold setNext setsByText
 refine wpAny_bind (wpAny_setState_of ho hd hf ?_)
 dsimp only
 refine wpAny_bind (wpAny_bind (wpAny_askSetting (wpAny_pure ?_)))
 show wpAny _ _ (if (w.params.followText "set-order")=true then _ else _) _ _ _
 rw [hb]
 simp only [↓reduceIte,bne_self_eq_false,Bool.false_eq_true]
 unfold setWalk setsByText
 refine wpAny_bind (wpAny_bind (wpAny_setState_of ho hd hf ?_))
 dsimp only
 refine wpAny_bind (wpAny_bind (wpAny_askSetting (wpAny_pure ?_)))
 show wpAny _ _ (if (w.params.followText "set-order")=true then _ else _) _ _ _
 rw [hb]
 simp only [↓reduceIte]
 refine wpAny_bind (wpAny_askSetting (wpAny_pure (wpAny_pure ?_)))
 show wpAny _ _ (match Option.map (fun e:Int×Value=>(e.2,sl)) (pickOrder (w.params.setOrder a ep) es)[i]? with | some (x,next)=>_ | none=>_) _ _ _
 rw [he]
 dsimp only [Option.map_none]
 refine wpAny_bind (wpAny_setField g1 g3 (by simp) ?_)
 refine wpAny_bind ?_
 simp only [newExc,newTuple]; refine wpAny_bind (wpAny_newObj_type ?_ (by size_fits))
 refine wpAny_bind (m:=firstArgMember _ _) (wpAny_of_eq (a:=Value.none) (by first | rfl | (simp only [firstArgMember]; rfl)) (wpAny_newObj_type ?_ (by size_fits)))
 simp only [raiseNew]; refine wpAny_bind (wpAny_handled ?_)
 rw [show A.in1.handled=none from hh]; refine wpAny_bind (wpAny_pure (wpAny_throw ?_)); refine wpAny_bind (wpAny_isInstance (T := "StopIteration") (b:=true) ⟨_,Heap.get?_push_size _ rfl,rfl⟩ isSubtype_stop ?_)
 exact wpAny_pure (q _ (((Heap.SameBut.update ..).extBut.push _).push _))
theorem MC{T0:Addr}{ps:Array Value}{p tk:Nat}{e:Int×Value}{Q:Option Value->Shared->Prop}(x:IsSi s.heap it a (.ref T0) i es.size ep)(ho:s.heap.get? a=some o)(hd:o.data=.set es ep t)(hf:t.fits es.size=true)
  (hT:s.heap.IsTuple T0 ps) (hp:ps[i]?=some (.int p tk)) (he:es[p]?=some e)
  (q:∀h',IsSi h' it a (.ref T0) (i+1) es.size ep->Heap.SameBut it s.heap h'->Q (some e.2) { s with heap:=h' }):wpAny (model prog w) A (pyNext (.ref it)) Q E s:=by
 have T:=x.ty
 obtain⟨o',g1,g2,g3⟩:=id x
 unfold pyNext
 refine wpAny_bind (wpAny_attempt (wpAny_callSpecial?_slot (name:=Str.ofString "__next__") T slot_si_next (wpAny_call_entry slot_si_next T BG ?_ (Ba _))))
 unfold Builtin.«set_iterator.__next__»
 refine wpAny_bind (wpAny_pure (wpAny_bind (wpAny_fieldsOf g1 g3 ?_)))
 show wpAny _ _ (setEntries a >>= _) _ _ _
 refine wpAny_bind (wpAny_setEntries_of ho hd hf ?_)
 show wpAny _ _ (if ((((es.size:Int) != (es.size:Int)))=true) then _ else _) _ _ _
 rw [if_neg (by simp)]
 obtain⟨oT,t1,t2,nT,t3⟩:=hT
 show wpAny _ _ (seqItems? (.ref T0) >>= _) _ _ _
 refine wpAny_bind (wpAny_seqItems t1 t3 ?_)
 show wpAny _ _ (match ps[Int.toNat (i:Int)]? with | some (.int place _)=>_ | some _=>_ | none=>_) _ _ _
 rw [Int.toNat_natCast,hp]
 dsimp only
 show wpAny _ _ (setNextDrawn a (Int.toNat (p:Int)) (Int.toNat (ep:Int)) >>= _) _ _ _
 simp only [Int.toNat_natCast]
 unfold setNextDrawn
 refine wpAny_bind (wpAny_bind (wpAny_setState_of ho hd hf ?_))
 simp only [bne_self_eq_false,Bool.false_eq_true,↓reduceIte,he]
 refine wpAny_pure ?_
 refine wpAny_bind (wpAny_setField g1 g3 (by simp) ?_)
 refine wpAny_pure ⟨_,rfl,wpAny_pure (q _ ⟨_,Heap.get?_update_self _ g1 (Obj.isFreed_of_fields (Obj.data_mapFields g3 _)),(Obj.cls_mapFields ..).trans g2,?_⟩ (Heap.SameBut.update ..))⟩
 rw [Obj.data_mapFields g3]; simp
theorem Ni{T0:Addr}{ps:Array Value}{Q:Option Value->Shared->Prop}(hh:A.handled=none)(x:IsSi s.heap it a (.ref T0) i es.size ep)(ho:s.heap.get? a=some o)(hd:o.data=.set es ep t)(hf:t.fits es.size=true)
  (hT:s.heap.IsTuple T0 ps) (hp:ps[i]?=none)
  (q:∀h',Heap.ExtBut it s.heap h'->Q none { s with heap:=h' }):wpAny (model prog w) A (pyNext (.ref it)) Q E s:=by
 have T:=x.ty
 obtain⟨o',g1,g2,g3⟩:=id x
 unfold pyNext
 refine wpAny_bind (wpAny_attempt (wpAny_callSpecial?_slot (name:=Str.ofString "__next__") T slot_si_next (wpAny_call_entry slot_si_next T BG ?_ (Ba _))))
 unfold Builtin.«set_iterator.__next__»
 refine wpAny_bind (wpAny_pure (wpAny_bind (wpAny_fieldsOf g1 g3 ?_)))
 show wpAny _ _ (setEntries a >>= _) _ _ _
 refine wpAny_bind (wpAny_setEntries_of ho hd hf ?_)
 show wpAny _ _ (if ((((es.size:Int) != (es.size:Int)))=true) then _ else _) _ _ _
 rw [if_neg (by simp)]
 obtain⟨oT,t1,t2,nT,t3⟩:=hT
 show wpAny _ _ (seqItems? (.ref T0) >>= _) _ _ _
 refine wpAny_bind (wpAny_seqItems t1 t3 ?_)
 show wpAny _ _ (match ps[Int.toNat (i:Int)]? with | some (.int place _)=>_ | some _=>_ | none=>_) _ _ _
 rw [Int.toNat_natCast,hp]
 dsimp only
 show wpAny _ _ (setField (.ref it) 0 (rawInt 0) >>= fun _=>setField (.ref it) 2 .none >>= fun _=>newExc (.type "StopIteration") [] >>= _) _ _ _
 refine Hn g1 g3 (by simp) (by simp) fun h' o2 sb k1 k2 k3=>?_
 refine wpAny_bind ?_
 simp only [newExc,newTuple]; refine wpAny_bind (wpAny_newObj_type ?_ (by size_fits))
 refine wpAny_bind (m:=firstArgMember _ _) (wpAny_of_eq (a:=Value.none) (by first | rfl | (simp only [firstArgMember]; rfl)) (wpAny_newObj_type ?_ (by size_fits)))
 simp only [raiseNew]; refine wpAny_bind (wpAny_handled ?_)
 rw [show A.in1.handled=none from hh]; refine wpAny_bind (wpAny_pure (wpAny_throw ?_)); refine wpAny_bind (wpAny_isInstance (T := "StopIteration") (b:=true) ⟨_,Heap.get?_push_size _ rfl,rfl⟩ isSubtype_stop ?_)
 exact wpAny_pure (q _ ((sb.extBut.push _).push _))
end
theorem era_perm{α:Type}{xs:List α}{i:Nat}{x:α}(h:xs[i]?=some x):List.Perm (x::xs.eraseIdx i) xs:=by
 obtain⟨hi,rfl⟩:=List.getElem?_eq_some_iff.mp h
 rw [List.eraseIdx_eq_take_drop_succ]
 have e:xs=xs.take i++xs[i]::xs.drop (i+1):=by
  rw [← List.drop_eq_getElem_cons hi,List.take_append_drop]
 conv=>rhs; rw [e]
 exact List.perm_middle.symm
theorem Py{α:Type}(next:Nat->Nat):∀(f k:Nat) (left:List α) (out:Array α),left.length<=f->List.Perm (pickOrder.go next f k left out).toList (out.toList++left):=by
 intro f
 induction f with
 | zero =>
  intro k left out h
  have:left=[]:=List.eq_nil_of_length_eq_zero (by omega)
  subst this
  unfold pickOrder.go; simp
 | succ f ih =>
  intro k left out h
  unfold pickOrder.go
  by_cases hl:left=[]
  ·subst hl; simp
  ·have hp:0<left.length:=List.length_pos_iff.mpr hl
   have hi:next k % left.length<left.length:=Nat.mod_lt _ hp
   have hg:left[next k % left.length]?=some left[next k % left.length]:=List.getElem?_eq_getElem hi
   rw [hg]
   dsimp only
   refine(ih (k+1) _ _ (by rw [List.length_eraseIdx_of_lt hi]; omega)).trans ?_
   rw [Array.toList_push,List.append_assoc]
   exact List.Perm.append_left _ (era_perm hg)
theorem Em{α:Type}(next:Nat->Nat)(xs:Array α):List.Perm (pickOrder next xs).toList xs.toList:=by
 have:=Py next xs.size 0 xs.toList #[] (by simp)
 show List.Perm (pickOrder.go next xs.size 0 xs.toList #[]).toList _
 simpa using this
section
variable {prog:Program}{w:World}{A:Around}{E:Value->Shared->Prop}{s:Shared}
theorem NR{src:Source}{n:Nat}{Q:Nat->Shared->Prop}(hn:n≠0)(h:∀i d',i<n->Q i { s with drawn:=d' }):wpAny (model prog w) A (choose src n) Q E s:=fun Γ p hΓ=>by
 show Sem.wp _ _ (.choose src n .pure) _ _ _ _
 rw [Sem.wp_choose]
 refine⟨hn,?_⟩
 have:=h ((model prog w).w.draws src (s.drawn.get src) % n) (s.drawn.bump src) (Nat.mod_lt _ (Nat.pos_of_ne_zero hn))
 simpa using this
theorem RK{α:Type}:∀(n:Nat) (xs:List α) {s:Shared} {Q:List α->Shared->Prop},xs.length<=n->(∀ys d',List.Perm ys xs->Q ys { s with drawn:=d' })->wpAny (model prog w) A (drawOrder n xs) Q E s:=by
 intro n
 induction n with
 | zero =>
  intro xs s Q h q
  have:xs=[]:=List.eq_nil_of_length_eq_zero (by omega)
  subst this
  unfold drawOrder
  have:=q [] s.drawn .rfl
  exact wpAny_pure this
 | succ n ih =>
  intro xs s Q h q
  cases xs with
  | nil=>unfold drawOrder; exact wpAny_pure (q [] s.drawn .rfl)
  | cons x xs =>
   unfold drawOrder
   refine wpAny_bind (NR (by simp) fun i d' hi=>?_)
   have hg:(x::xs)[i]?=some (x::xs)[i]:=List.getElem?_eq_getElem hi
   rw [hg]
   dsimp only
   refine wpAny_bind (ih _ (by rw [List.length_eraseIdx_of_lt hi]; simp at h ⊢; omega) fun ys d2 hp=>wpAny_pure (q _ d2 ?_))
   exact(List.Perm.cons _ hp).trans (era_perm hg)
theorem Nm{r:Addr}{Q:Bool->Shared->Prop}(hT:s.TypeIs (.ref r) "set")(h:Q false s):wpAny (model prog w) A (Builtin.List.listLengthHint (.ref r)) Q E s:=by
 unfold Builtin.List.listLengthHint
 refine wpAny_bind (wpAny_specialOf hT PySem.F.slot_set_len.lookup ?_)
 generalize hid:("set.__len__" : String)=id0
 wp_delta
 rw [show splitId id0=some ("set","__len__") from by subst hid; decide +kernel]
 subst hid
 refine wpAny_bind (wpAny_isInstance (T := "set") (b:=true) hT (by rw [isSubtype_type]; kernel_rfl) ?_)
 refine wpAny_ite_split (fun hab=>absurd hab (by decide)) (fun _=>?_)
 refine wpAny_ite_split (fun _=>?_) (fun hab=>absurd (by decide +kernel) hab)
 refine wpAny_bind (wpAny_typeOf hT ?_)
 exact wpAny_pure h
variable {a:Addr}{o:Obj}{es:Array (Int×Value)}{ep:Nat}{t:SetTable}
structure Rw (w:World) (o:Obj) (es:Array (Int×Value)) (ep:Nat) (t:SetTable):Prop where
 ex:o.ExactSet
 dat:o.data=.set es ep t
 fit:t.fits es.size=true
 up:Up t.place
 size:t.place.size=es.size
 few:es.size<=sizeLine
 led:w.params.followText "set-order"=false->t.led=true
theorem PY(R:Rw w o es ep t)(hh:A.handled=none)(hb:w.params.followText "set-order"=false)(hdr:(!t.plain&&decide (es.size > 1))=false)(I a:Addr)(hne:a≠I) :
  Walks prog w A I [I,a] [I] es.size (fun i v=>(es.toList.map (·.2))[i]?=some v) (fun i h=>(∃sl:Nat,IsSi h I a (rawInt sl) i es.size ep/\below t.place sl=i)/\h.get? a=some o) where
 sub:=fun b hb=>by rw [List.mem_singleton.mp hb]; exact List.mem_cons_self
 frame:=fun i h h' st hk=>by
  obtain⟨⟨sl,h1,h2⟩,h3⟩:=st
  exact⟨⟨sl,h1.at fun o e=>hk I (by simp) o e,h2⟩,hk a (by simp) o h3⟩
 item:=fun i s Q E hi st hQ=>by
  obtain⟨⟨sl,h1,h2⟩,h3⟩:=st
  have hpl:i<t.place.size:=by rw [R.size]; exact hi
  refine MB h1 h3 R.dat R.fit hb hdr (R.led hb) h2 (Array.getElem?_eq_getElem hi) (Array.getElem?_eq_getElem hpl) fun h' x sb=>?_
  refine hQ _ h' s.toks (by simp [hi]) ⟨⟨_,x,?_⟩,(sb.extBut a o hne h3)⟩ fun b o hb e=>sb.extBut b o (fun z=>hb (by simp [z])) e
  obtain⟨b1,b2,b3⟩:=C4 t.place (t.place[i]+1) R.up
  rcases Nat.lt_trichotomy (below t.place (t.place[i]+1)) (i+1) with l | l | l
  ·exfalso
   have:=b3 i t.place[i] (by omega) (Array.getElem?_eq_getElem hpl)
   omega
  ·exact l
  ·exfalso
   have hl:i+1<t.place.size:=by omega
   have q1:=b2 (i+1) t.place[i+1] l (Array.getElem?_eq_getElem hl)
   have q2:=R.up i (i+1) (by omega) _ _ (Array.getElem?_eq_getElem hpl) (Array.getElem?_eq_getElem hl)
   omega
 done:=fun s Q E st hQ=>by
  obtain⟨⟨sl,h1,h2⟩,h3⟩:=st
  exact Nh hh h1 h3 R.dat R.fit hb hdr (R.led hb) (by omega) fun h' x=>hQ h' s.toks fun b o hb e=>x b o (fun z=>hb (by simp [z])) e
 self:=fun _ _ _ _ st hQ=>by
  obtain⟨⟨sl,h1,h2⟩,h3⟩:=st
  exact Hr h1 hQ
theorem Pa(R:Rw w o es ep t)(hh:A.handled=none)(hb:w.params.followText "set-order"=true)(I a:Addr)(hne:a≠I) :
  Walks prog w A I [I,a] [I] es.size (fun i v=>((pickOrder (w.params.setOrder a ep) es).toList.map (·.2))[i]?=some v) (fun i h=>(∃sl:Nat,IsSi h I a (rawInt sl) i es.size ep)/\h.get? a=some o) where
 sub:=fun b hb=>by rw [List.mem_singleton.mp hb]; exact List.mem_cons_self
 frame:=fun i h h' st hk=>by
  obtain⟨⟨sl,h1⟩,h3⟩:=st
  exact⟨⟨sl,h1.at fun o e=>hk I (by simp) o e⟩,hk a (by simp) o h3⟩
 item:=fun i s Q E hi st hQ=>by
  obtain⟨⟨sl,h1⟩,h3⟩:=st
  have hl:i<(pickOrder (w.params.setOrder a ep) es).size:=by
   have:=(Em (w.params.setOrder a ep) es).length_eq
   simp at this; omega
  refine MD h1 h3 R.dat R.fit hb (Array.getElem?_eq_getElem hl) fun h' x sb=>?_
  exact hQ _ h' s.toks (by simp [hl]) ⟨⟨_,x⟩,(sb.extBut a o hne h3)⟩ fun b o hb e=>sb.extBut b o (fun z=>hb (by simp [z])) e
 done:=fun s Q E st hQ=>by
  obtain⟨⟨sl,h1⟩,h3⟩:=st
  refine Nj hh h1 h3 R.dat R.fit hb (Array.getElem?_eq_none ?_) fun h' x=>hQ h' s.toks fun b o hb e=>x b o (fun z=>hb (by simp [z])) e
  have:=(Em (w.params.setOrder a ep) es).length_eq
  simp at this; omega
 self:=fun _ _ _ _ st hQ=>by
  obtain⟨⟨sl,h1⟩,h3⟩:=st
  exact Hr h1 hQ
theorem PZ(R:Rw w o es ep t)(hh:A.handled=none)(I a T0:Addr)(hne:a≠I)(hnT:T0≠I)(ps:List Nat)(hps:List.Perm ps (List.range es.size)) :
  Walks prog w A I [I,a,T0] [I] es.size (fun i v=>(ps.filterMap (fun p=>es[p]?.map (·.2)))[i]?=some v) (fun i h=>IsSi h I a (.ref T0) i es.size ep/\h.get? a=some o/\h.IsTuple T0 (ps.map fun(i:Nat)=>rawInt i).toArray) where
 sub:=fun b hb=>by rw [List.mem_singleton.mp hb]; exact List.mem_cons_self
 frame:=fun i h h' st hk=>by
  obtain⟨h1,h2,h3⟩:=st
  exact⟨h1.at fun o e=>hk I (by simp) o e,hk a (by simp) o h2,h3.at fun o e=>hk T0 (by simp) o e⟩
 item:=fun i s Q E hi st hQ=>by
  obtain⟨h1,h2,h3⟩:=st
  have hl:i<ps.length:=by have:=hps.length_eq; simp at this; omega
  have hp:ps[i]<es.size:=List.mem_range.mp (hps.mem_iff.mp (List.getElem_mem hl))
  refine MC (p:=ps[i]) (tk:=0) h1 h2 R.dat R.fit h3 (by simp [hl,rawInt]) (Array.getElem?_eq_getElem hp) fun h' x sb=>?_
  refine hQ _ h' s.toks ?_ ⟨x,sb.extBut a o hne h2,h3.at fun o e=>sb.extBut T0 o hnT e⟩ fun b o hb e=>sb.extBut b o (fun z=>hb (by simp [z])) e
  rw [filterMap_get]
  ·simp [hl,hp]
  ·intro p hpm
   have:=List.mem_range.mp (hps.mem_iff.mp hpm)
   simp [this]
 done:=fun s Q E st hQ=>by
  obtain⟨h1,h2,h3⟩:=st
  refine Ni hh h1 h2 R.dat R.fit h3 (Array.getElem?_eq_none ?_) fun h' x=>hQ h' s.toks fun b o hb e=>x b o (fun z=>hb (by simp [z])) e
  have:=hps.length_eq; simp at this; simp; omega
 self:=fun _ _ _ _ st hQ=>Hr st.1 hQ
theorem KO(R:Rw w o es ep t){s:Shared}(ho:s.heap.get? a=some o):s.TypeIs (.ref a) "set":=⟨o,ho,R.ex.1⟩
theorem Nl(R:Rw w o es ep t)(ho:s.heap.get? a=some o){Q:Value->Shared->Prop}
  (h:∀(I:Addr) (h':Heap) (d':_) (vs:List Value) (fp:List Addr) (St:Nat->Heap->Prop),(∀b o,s.heap.get? b=some o->h'.get? b=some o)->s.heap.objs.size<=I->List.Perm vs (es.toList.map (·.2)) ->
   (∀A':Around,A'.handled=none->Walks prog w A' I fp [I] es.size (fun i v=>vs[i]?=some v) St)->St 0 h'->(∀b∈fp,b=a\/s.heap.objs.size<=b)->Q (.ref I) { s with heap:=h',drawn:=d' }) :
  wpAny (model prog w) A (pyIter (.ref a)) Q E s:=by
 have T:=KO R ho
 have hlt:=Heap.lt_size ho
 refine wpAny_pyIter_slot T F.slot_set_iter (wpAny_call_entry F.slot_set_iter T GT ?_ (F.args_set_iter_1 _))
 unfold Builtin.«frozenset.__iter__»
 refine wpAny_bind (wpAny_pure ?_)
 unfold Builtin.Frozenset.sizeOf
 refine wpAny_bind (wpAny_bind (wpAny_setEntries_of ho R.dat R.fit (wpAny_pure ?_)))
 unfold setDrawn setsByText
 refine wpAny_bind (wpAny_bind (wpAny_setState_of ho R.dat R.fit ?_))
 dsimp only
 refine wpAny_bind (wpAny_bind (wpAny_askSetting (wpAny_pure ?_)))
 refine wpAny_pure ?_
 show wpAny _ _ (if (!(w.params.followText "set-order")&&(!t.plain&&decide (es.size > 1)))=true then _ else _) _ _ _
 by_cases hc:(!(w.params.followText "set-order")&&(!t.plain&&decide (es.size > 1)))=true
 ·rw [if_pos hc]
  refine wpAny_bind (RK _ _ (by simp) fun ps d' hps=>?_)
  have hpl:ps.length=es.size:=by have:=hps.length_eq; simpa using this
  unfold newTuple
  refine wpAny_bind (wpAny_newObj_type ?_ (by simp only [sizeOk,List.size_toArray,List.length_map,hpl]; exact R.few))
  unfold setEpoch
  refine wpAny_bind (wpAny_bind (wpAny_setState_of (o:=o) (Heap.get?_push_of_some _ ho) R.dat R.fit (wpAny_pure ?_)))
  unfold newFields
  refine wpAny_bind (wpAny_newObj_type (wpAny_pure ⟨_,rfl,"set_iterator",_,⟨_,Heap.get?_push_size _ rfl,rfl⟩,slot_si_next.lookup,?_⟩))
  refine h _ _ d' _ [_,a,s.heap.objs.size] _ ?_ ?_ ?_ (fun A' hh=>PZ R hh _ a s.heap.objs.size ?_ ?_ ps hps) ⟨⟨_,Heap.get?_push_size _ rfl,rfl,?_⟩,?_,?_⟩ ?_
  ·exact fun b o e=>Heap.get?_push_of_some _ (Heap.get?_push_of_some _ e)
  ·rw [Heap.size_push]; exact Nat.le_succ _
  ·have:=hps.filterMap (fun p=>es[p]?.map (·.2))
   have e2:(List.range es.size).filterMap (fun p=>es[p]?.map (·.2))=es.toList.map (·.2):=by
    have:=congrArg (List.map (·.2)) (GP es.toList)
    rw [List.map_filterMap] at this
    simpa using this
   rw [e2] at this
   exact this
  ·rw [Heap.size_push]; exact Nat.ne_of_lt (Nat.lt_succ_of_lt hlt)
  ·rw [Heap.size_push]; exact Nat.ne_of_lt (Nat.lt_succ_self _)
  ·rfl
  ·exact Heap.get?_push_of_some _ (Heap.get?_push_of_some _ ho)
  ·exact⟨_,Heap.get?_push_of_some _ (Heap.get?_push_size _ rfl),rfl,0,rfl⟩
  ·intro b hb
   rcases List.mem_cons.mp hb with rfl | hb
   ·right; rw [Heap.size_push]; exact Nat.le_succ _
   ·rcases List.mem_cons.mp hb with rfl | hb
    ·exact .inl rfl
    ·right; rw [List.mem_singleton.mp hb]; exact Nat.le_refl _
 ·rw [if_neg hc]
  refine wpAny_bind (wpAny_pure ?_)
  unfold setEpoch
  refine wpAny_bind (wpAny_bind (wpAny_setState_of (o:=o) ho R.dat R.fit (wpAny_pure ?_)))
  unfold newFields
  refine wpAny_bind (wpAny_newObj_type (wpAny_pure ⟨_,rfl,"set_iterator",_,⟨_,Heap.get?_push_size _ rfl,rfl⟩,slot_si_next.lookup,?_⟩))
  have hne:a≠s.heap.objs.size:=Nat.ne_of_lt hlt
  have hsi:IsSi (s.heap.push { cls:=.type "set_iterator",data:=.fields [rawInt 0,rawInt 0,.ref a,rawInt es.size,rawInt ep].toArray }) s.heap.objs.size a (rawInt ((0:Nat):Int)) 0 es.size ep:=⟨_,Heap.get?_push_size _ rfl,rfl,rfl⟩
  have ho2:(s.heap.push { cls:=.type "set_iterator",data:=.fields [rawInt 0,rawInt 0,.ref a,rawInt es.size,rawInt ep].toArray }).get? a=some o:=Heap.get?_push_of_some _ ho
  have hfp:∀b∈[s.heap.objs.size,a],b=a\/s.heap.objs.size<=b:=by
   intro b hb
   rcases List.mem_cons.mp hb with rfl | hb
   ·exact .inr (Nat.le_refl _)
   ·exact .inl (List.mem_singleton.mp hb)
  cases hb:w.params.followText "set-order" with
  | true =>
   refine h s.heap.objs.size _ s.drawn ((pickOrder (w.params.setOrder a ep) es).toList.map (·.2)) [s.heap.objs.size,a] _ (fun b o e=>Heap.get?_push_of_some _ e) (Nat.le_refl _) ((Em _ es).map _) (fun A' hh=>Pa R hh hb _ a hne) ⟨⟨0,hsi⟩,ho2⟩ hfp
  | false =>
   have hdr:(!t.plain&&decide (es.size > 1))=false:=by
    rw [hb] at hc; simpa using hc
   refine h s.heap.objs.size _ s.drawn (es.toList.map (·.2)) [s.heap.objs.size,a] _ (fun b o e=>Heap.get?_push_of_some _ e) (Nat.le_refl _) .rfl (fun A' hh=>PY R hh hb hdr _ a hne) ⟨⟨0,hsi,?_⟩,ho2⟩ hfp
   obtain⟨b1,b2,b3⟩:=C4 t.place 0 R.up
   rcases Nat.eq_zero_or_pos (below t.place 0) with z | z
   ·exact z
   ·exfalso
    have hz:0<t.place.size:=by omega
    have:=b2 0 t.place[0] z (Array.getElem?_eq_getElem hz)
    omega
theorem KP(R:Rw w o es ep t)(ho:s.heap.get? a=some o)(hh:A.handled=none){Rr:Result->Shared->Prop}(S:Addr)(hSa:S≠a)(res:Value)(c₀:Nat)(hS:s.heap.get? S=some { cls:=.type "list",data:=.seq #[] c₀ })
  (hR:∀h' d' tk acc' c',(∀b o,b≠S->s.heap.get? b=some o->h'.get? b=some o)->h'.get? S=some { cls:=.type "list",dict:=none,data:=.seq acc' c',slots:=#[] }->List.Perm acc'.toList (es.toList.map (·.2))->Rr (.ok (.ret res)) { s with heap:=h',drawn:=d',toks:=tk }) :
  wpAny (model prog w) A.in1 (Builtin.List.listExtendWith (.ref S) (.ref a) res)
   (fun fin s'=>match fin with | .done f=>Rr (.ok f) s' | .again c'=>c'.quiet=true/\codeAny (model prog w) A c' Rr s') (fun e s'=>Rr (.error e) s') s:=by
 unfold Builtin.List.listExtendWith
 refine wpAny_bind (wpAny_typeOf (T := "set") (KO R ho) ?_)
 have h1:Builtin.List.listSameRef (.ref S) (.ref a)=false:=by simp [Builtin.List.listSameRef,hSa]
 have n1:(Value.type "set"==Value.type "list")=false:=by decide
 have n2:(Value.type "set"==Value.type "tuple")=false:=by decide
 simp only [h1,n1,n2,Bool.or_false,Bool.false_eq_true,if_false]
 refine wpAny_bind (Nl R ho fun I hI d' vs fp St hk hI2 hvs W st hfp=>?_)
 have hSlt:=Heap.lt_size hS
 have hSf:S∉fp:=fun z=>by
  rcases hfp S z with e | e
  ·exact hSa e
  ·exact absurd (Nat.lt_of_lt_of_le hSlt e) (Nat.lt_irrefl _)
 have hS₁:=hk S _ hS
 have hn:vs.length=es.size:=by have:=hvs.length_eq; simpa using this
 have key:∀(h:Heap) (c₁ tk:Nat),St 0 h->(∀b o,b≠S->s.heap.get? b=some o->h.get? b=some o) ->
   h.get? S=some { cls:=.type "list",data:=.seq #[] c₁ }->codeAny (model prog w) A (.builtin "list.extend.loop" ⟨[.ref S,.ref I,res],[]⟩) Rr { s with heap:=h,drawn:=d',toks:=tk }:=by
  intro h c₁ tk hst hk' hS₁
  refine codeAny_extend_loopS (W A.in1 hh).toS R.few S hSf res es.size 0 _ #[] c₁ rfl (Nat.zero_le _) hst hS₁ (ItemsOf.nil _) fun s' acc' c' hm hS' hacc=>?_
  rw [Moved.eq_with hm]
  refine hR s'.heap d' s'.toks acc' c' (fun b o hb e=>hm.heap b o (fun hmem=>?_) (hk' b o hb e)) hS' ?_
  ·rcases List.mem_cons.mp hmem with e' | hmem
   ·exact hb e'
   ·have:=Heap.lt_size e
    rw [List.mem_singleton.mp hmem] at this
    exact absurd (Nat.lt_of_lt_of_le this hI2) (Nat.lt_irrefl _)
  ·have:acc'.toList=vs:=by
    refine List.ext_getElem? fun i=>?_
    cases hx:acc'.toList[i]? with
    | some v=>exact(hacc.2 i v (by simpa using hx)).symm
    | none =>
     have:vs.length<=i:=by
      rw [hn,← hacc.1,← Array.length_toList]
      exact List.getElem?_eq_none_iff.mp hx
     exact(List.getElem?_eq_none this).symm
   rw [this]; exact hvs
 refine wpAny_bind (wpAny_holding (Nm (KO R (s:={ s with heap:=hI,drawn:=d' }) (hk a o ho)) ?_))
 refine wpAny_ite_split (fun _=>?_) (fun _=>wpAny_pure ⟨plainId_quiet PySem.F.plain_extend_loop _,key _ c₀ _ st (fun b o _ e=>hk b o e) hS₁⟩)
 refine wpAny_bind (wpAny_rule ?_)
 refine wpAny_bind ?_
 show wpAny _ _ (updateSeq S (·.push .none) >>= fun _=>updateSeq S (·.pop)) _ _ _
 refine wpAny_bind (wpAny_updateSeq (s:={ s with heap:=hI,drawn:=d' }) hS₁ rfl ?_)
 have hS₂:=Heap.get?_update_self (Obj.mapSeq (·.push Value.none)) hS₁ rfl
 refine wpAny_updateSeq (hz:=by seq_fits) hS₂ rfl ?_
 have hS₃:=Heap.get?_update_self (Obj.mapSeq (·.pop)) hS₂ rfl
 refine wpAny_pure ⟨plainId_quiet PySem.F.plain_extend_loop _,key _ _ _ ?_ (fun b o hb e=>?_) hS₃⟩
 ·refine(W A.in1 hh).frame 0 _ _ st fun b hb o e=>?_
  have hbS:b≠S:=fun h=>hSf (h▸hb)
  exact(Heap.get?_update_other _ _ (Ne.symm hbS)).trans ((Heap.get?_update_other _ _ (Ne.symm hbS)).trans e)
 ·exact(Heap.get?_update_other _ _ (Ne.symm hb)).trans ((Heap.get?_update_other _ _ (Ne.symm hb)).trans (hk b o e))
theorem set_collect(R:Rw w o es ep t)(ho:s.heap.get? a=some o)(hh:A.handled=none){Q:List Value->Shared->Prop}
  (h:∀h' d' tk (acc:List Value),(∀b o,s.heap.get? b=some o->h'.get? b=some o)->List.Perm acc (es.toList.map (·.2))->Q acc { s with heap:=h',drawn:=d',toks:=tk }) :
  wpAny (model prog w) A (collect (.ref a)) Q E s:=by
 have hlt:=Heap.lt_size ho
 unfold collect
 refine wpAny_bind (wpAny_runValue (codeAny_builtin PyProof.Rows.entry_proto_collect' ?_))
 rw [Around.under_plainId PySem.F.plain_proto_collect _]
 show wpAny _ A.in1 (newList [] >>= fun l=>again (.builtin "list.__iadd__" ⟨[l,.ref a],[]⟩)) _ _ s
 refine wpAny_bind (wpAny_newObj_type ?_)
 refine wpAny_pure ⟨plainId_quiet PySem.F.plain_list_iadd _,codeAny_builtin PyProof.Rows.entry_list_iadd' ?_⟩
 rw [Around.under_plainId PySem.F.plain_list_iadd _]
 have hS₁:(s.heap.push { cls:=.type "list",data:=.seq ([]:List Value).toArray }).get? s.heap.objs.size=some { cls:=.type "list",data:=.seq #[] }:=Heap.get?_push_size _ rfl
 show wpAny _ A.in1 (Builtin.List.listExtendWith (.ref s.heap.objs.size) (.ref a) (.ref s.heap.objs.size)) _ _ _
 have key:=KP (prog:=prog) (A:=A) (s:={ s with heap:=s.heap.push { cls:=.type "list",data:=.seq ([]:List Value).toArray } })
  (Rr:=fun(q:Result) (s':Shared)=>∃(h':Heap) (d':_) (tk:Nat) (acc':Array Value) (c':Nat),q=.ok (.ret (.ref s.heap.objs.size))/\s'={ s with heap:=h',drawn:=d',toks:=tk } /\
   (∀b o,s.heap.get? b=some o->h'.get? b=some o)/\h'.get? s.heap.objs.size=some { cls:=.type "list",dict:=none,data:=.seq acc' c',slots:=#[] }/\List.Perm acc'.toList (es.toList.map (·.2)))
  R (Heap.get?_push_of_some _ ho) hh s.heap.objs.size (Nat.ne_of_gt hlt) (.ref s.heap.objs.size) 0 hS₁
  (fun h' d' tk acc' c' hk hS' hacc=>⟨h',d',tk,acc',c',rfl,rfl,fun b o e=>hk b o (Nat.ne_of_lt (Heap.lt_size e)) (Heap.get?_push_of_some _ e),hS',hacc⟩)
 refine wpAny_mono key (fun fin s' x=>?_) fun e s' x=>?_
 ·cases fin with
  | done f =>
   obtain⟨h',d',tk,acc',c',e,rfl,hk,hS',hacc⟩:=x
   cases e
   show wpAny _ A (load s.heap.objs.size >>= _) _ _ _
   refine wpAny_bind (wpAny_load hS' ?_)
   exact wpAny_pure (h h' d' tk acc'.toList hk hacc)
  | again c₁ =>
   refine⟨x.1,codeAny_mono x.2 fun q s₂ y=>?_⟩
   obtain⟨h',d',tk,acc',c',rfl,rfl,hk,hS',hacc⟩:=y
   show wpAny _ A (load s.heap.objs.size >>= _) _ _ _
   refine wpAny_bind (wpAny_load hS' ?_)
   exact wpAny_pure (h h' d' tk acc'.toList hk hacc)
 ·obtain⟨_,_,_,_,_,e',_⟩:=x
  cases e'
end
section
variable {prog:Program}{w:World}{K:Type}[DecidableEq K]{knd:KeyKind prog w K}{A:Around}{E:Value->Shared->Prop}{s:Shared}
theorem Oi{B h:Heap}{a:Addr}(sub:∀b o,B.get? b=some o->h.get? b=some o)(out:B.get? a=none)(ho:h.get? a=some (setObj w)) :
  SetIs knd B h a [] (setObj w) #[] 0 (.fresh 0 0 (!(w.params.followText "set-order"))) where
 sub:=sub
 out:=out
 obj:=ho
 ex:=⟨rfl,rfl,rfl⟩
 dat:=rfl
 tab:=⟨Uz,rfl,fun i k _ a b ha=>by simp [SetTable.fresh] at ha,fun i j hi=>by simp [SetTable.fresh] at hi,by simp [SetTable.fresh],fun i j hi=>by simp [SetTable.fresh] at hi⟩
 size:=rfl
 mask:=.inl ⟨rfl,by simp⟩
 few:=by simp
 ents:=⟨[],.nil,.nil⟩
 nd:=by simp
 plain:=.inl rfl
 led:=rfl
theorem SetIs.move{B h h':Heap}{a:Addr}{ks:List (List K)}{o:Obj}{es:Array (Int×Value)}{ep:Nat}{t:SetTable}(S:SetIs knd B h a ks o es ep t)(k:∀b o,(b=a\/∃o,B.get? b=some o)->h.get? b=some o->h'.get? b=some o):SetIs knd B h' a ks o es ep t :=
 { S with sub:=fun b o e=>k b o (.inr ⟨o,e⟩) (S.sub b o e),obj:=k a o (.inl rfl) S.obj }
theorem SetIs.raw{B h:Heap}{a:Addr}{ks:List (List K)}{o:Obj}{es:Array (Int×Value)}{ep:Nat}{t:SetTable}(S:SetIs knd B h a ks o es ep t):Rw w o es ep t :=
 ⟨S.ex,S.dat,S.fits,S.tab.up,S.size,by have:=S.few; rw [sizeLine_eq]; omega,fun hb=>by rw [S.led,hb]; rfl⟩
theorem set_tuples{l:Addr}{items:Array Value}{keys:List (List K)}{Q:Value->Shared->Prop}(hh:A.handled=none)(hu:A.in1.in1.in1.units<cLine)(hl:s.heap.IsList l items)(hlen:items.size=keys.length)(h17:keys.length<=18)
  (hit:∀(i:Nat) (v:Value) (k:List K),items[i]?=some v->keys[i]?=some k->∃b,v=.ref b/\IsTupleKey knd s.heap k b) (nv:∀k∈keys,NV knd k)
  (h:∀h' tk ks o es ep t,(∀b o,s.heap.get? b=some o->h'.get? b=some o)->SetIs knd s.heap h' s.heap.objs.size ks o es ep t->(∀x,x∈ks↔x∈keys)->(∀e∈es.toList,e.2∈items.toList)->Q (.ref s.heap.objs.size) { s with heap:=h',toks:=tk }) :
  wpAny (model prog w) A (call (.type "set") [.ref l]) Q E s:=by
 have out:s.heap.get? s.heap.objs.size=none:=by
  cases e:s.heap.get? s.heap.objs.size with
  | none=>rfl
  | some o=>exact absurd (Heap.lt_size e) (Nat.lt_irrefl _)
 refine set_list hh hl (fun i h=>∃ks o es ep t,SetIs knd s.heap h s.heap.objs.size ks o es ep t/\(∀x,x∈ks↔x∈keys.take i)/\ks.length<=i/\∀e∈es.toList,e.2∈items.toList) ?_ ?_ ?_ ?_
 ·intro h' hk ho
  exact⟨[],_,_,_,_,Oi hk out ho,fun x=>by simp,by simp,fun e he=>by simp at he⟩
 ·rintro i h h' ⟨ks,o,es,ep,t,S,h1,h2,h3⟩ hk
  refine⟨ks,o,es,ep,t,S.move fun b o hb e=>hk b o (fun z=>?_) e,h1,h2,h3⟩
  rw [List.mem_singleton] at z
  rcases hb with hb | ⟨o',hb⟩
  ·rw [z] at hb; exact absurd hb (Nat.succ_ne_self _)
  ·rw [z] at hb; exact absurd (Heap.lt_size hb) (Nat.not_lt.mpr (Nat.le_succ _))
 ·rintro i v s' Q E hi hv ⟨ks,o,es,ep,t,S,h1,h2,h3⟩ q
  have hil:i<keys.length:=by omega
  have hk:keys[i]?=some keys[i]:=List.getElem?_eq_getElem hil
  obtain⟨b,rfl,hb⟩:=hit i v _ hv hk
  refine Pq S hu hb (nv _ (List.getElem_mem hil)) (by omega) fun h' tk ks' b' sb hS hm hl'=>?_
  obtain⟨o2,es2,ep2,t2,S2,hes⟩:=hS
  refine q h' tk b' sb ⟨ks',o2,es2,ep2,t2,S2,fun x=>?_,by omega,fun e he=>?_⟩
  ·have e2:keys.take (i+1)=keys.take i++[keys[i]]:=by rw [List.take_add_one,hk]; rfl
   rw [hm,h1,e2,List.mem_append,List.mem_singleton]
  ·rcases hes e he with he | he
   ·exact h3 e he
   ·rw [he]; exact List.mem_of_getElem? (by simpa using hv)
 ·rintro h' tk ⟨ks,o,es,ep,t,S,h1,h2,h3⟩ hk
  refine h h' tk ks o es ep t hk S (fun x=>?_) h3
  rw [h1,List.take_of_length_le (by omega)]
end
end St
namespace L2
open PySem PySem.Spec PyProof.Rows PySem.W
theorem Hc:bootBuiltins "set"=some (.type "set"):=by kernel_rfl
theorem SH(k:Key):kOf k=kV k:=by cases k <;> rfl
theorem QK(ks:List Key):ks.map kOf=ks.map kV:=List.map_congr_left fun k _=>SH k
theorem QE{P:Program}{w:World}{x:Str}{r:List Key}:St.NV (AR P w) (.inr x::r):=by
 intro vs h
 cases h with
 | @cons _ v _ vs h1 h2 =>
  obtain⟨t,rfl⟩:=(OW (k:=.inr x) h1:RelV (.str x) v)
  exact⟨_,_,rfl,fun n=>by cases n <;> rfl⟩
structure K_ (keys:List (List Key)) (js:List Nat):Prop where
 lt:∀j∈js,j<keys.length
 nd:(js.map fun j=>keys.getD j []).Nodup
 all:∀x∈keys,x∈js.map fun j=>keys.getD j []
 ord:∀i j,i<=j->j<js.length->BM (keys.getD (js.getD j 0) []) (keys.getD (js.getD i 0) [])=false
theorem LY{α:Type}[DecidableEq α]{us:List α}:∀{acc:List α},(∀v∈acc,v∈us)->∃ix:List Nat,ix.length=acc.length/\∀(i:Nat) (v:α),acc[i]?=some v->∃j,ix[i]?=some j/\us[j]?=some v
 | [],_=>⟨[],rfl,fun i v h=>by simp at h⟩
 | v::acc,h=>by
  obtain⟨ix,h1,h2⟩:=LY (us:=us) (acc:=acc) fun u hu=>h u (List.mem_cons_of_mem _ hu)
  obtain⟨j,hj⟩:=List.mem_iff_getElem?.mp (h v List.mem_cons_self)
  refine⟨j::ix,by simp [h1],fun i u e=>?_⟩
  cases i with
  | zero=>simp at e; subst e; exact⟨j,rfl,hj⟩
  | succ i=>exact h2 i u (by simpa using e)
theorem GO{α β:Type}(f:α->β)(l:List α)(d:α)(d':β){i:Nat}(h:i<l.length):(l.map f).getD i d'=f (l.getD i d):=by
 rw [List.getD_eq_getElem?_getD,List.getD_eq_getElem?_getD,List.getElem?_map,List.getElem?_eq_getElem h]; rfl
theorem P5{keys:List (List Key)}{ix ix2:List Nat}(hlt:∀j∈ix,j<keys.length)(nd:(ix.map fun j=>keys.getD j []).Nodup)(all:∀x∈keys,x∈ix.map fun j=>keys.getD j [])(o:J3 (ix.map fun j=>keys.getD j []) ix2):K_ keys (ix2.map fun i=>ix.getD i 0):=by
 obtain⟨o1,o2⟩:=o
 rw [List.length_map] at o1 o2
 have hl2:ix2.length=ix.length:=by have:=o1.length_eq; simpa using this
 have hin:∀i∈ix2,i<ix.length:=fun i hi=>List.mem_range.mp (o1.mem_iff.mp hi)
 have hp:List.Perm ((ix2.map fun i=>ix.getD i 0).map fun j=>keys.getD j []) (ix.map fun j=>keys.getD j []):=by
  have:=(o1.map fun i=>ix.getD i 0).map fun j=>keys.getD j []
  have e:(List.range ix.length).map (fun i=>ix.getD i 0)=ix:=by
   refine List.ext_getElem? fun i=>?_
   rw [List.getElem?_map]
   by_cases h:i<ix.length
   ·rw [List.getElem?_range h,List.getElem?_eq_getElem h]
    simp [List.getD_eq_getElem?_getD,h]
   ·rw [List.getElem?_eq_none (by simpa using h),List.getElem?_eq_none (by omega)]; rfl
  rw [e] at this
  exact this
 refine⟨fun j hj=>?_,hp.nodup_iff.mpr nd,fun x hx=>hp.mem_iff.mpr (all x hx),fun i j hij hj=>?_⟩
 ·obtain⟨i,hi,rfl⟩:=List.mem_map.mp hj
  apply hlt
  have:=hin i hi
  rw [List.getD_eq_getElem?_getD,List.getElem?_eq_getElem this]
  exact List.getElem_mem this
 ·rw [List.length_map] at hj
  have:=o2 i j hij (by omega)
  have e:∀q,q<ix2.length->(ix.map fun j=>keys.getD j []).getD (ix2.getD q 0) []=keys.getD ((ix2.map fun i=>ix.getD i 0).getD q 0) []:=by
   intro q hq
   have hm:ix2.getD q 0<ix.length:=by
    rw [List.getD_eq_getElem?_getD,List.getElem?_eq_getElem hq]
    exact hin _ (List.getElem_mem hq)
   rw [GO (fun j=>keys.getD j []) ix 0 [] hm,GO (fun i=>ix.getD i 0) ix2 0 0 hq]
  rw [e j hj,e i (by omega)] at this
  exact this
open Classical in
noncomputable def QJ(P:Program)(w:World)(B:Heap)(v:Value):List Key:=if h:∃k b,v=.ref b/\IsTupleKey (AR P w) B k b then choose h else []
theorem Lj{P:Program}{w:World}{B:Heap}{k:List Key}{b:Addr}(h:IsTupleKey (AR P w) B k b):QJ P w B (.ref b)=k:=by
 have hx:∃k b',Value.ref b=.ref b'/\IsTupleKey (AR P w) B k b':=⟨k,b,rfl,h⟩
 unfold QJ
 rw [dif_pos hx]
 obtain⟨b',e,h'⟩:=Classical.choose_spec hx
 cases e
 exact h'.inj h
theorem M7{P:Program}{w:World}{B:Heap}{es:List (Int×Value)}{ks:List (List Key)}(x:St.Ents (AR P w) B es ks):ks=(es.map (·.2)).map (QJ P w B):=by
 induction x with
 | nil=>rfl
 | cons h1 _ ih =>
  obtain⟨b,e,hb⟩:=h1.2
  rw [List.map_cons,List.map_cons,e,Lj hb,← ih]
section
variable {X:Cx}{e:Expr}{te:TE}{p1 p2 q1 q2:Pos}
noncomputable def NZ(K:Frag)(te:TE):TE:=fun σ H Q=>te σ H fun x H1=>∃(l:Addr) (vs:List V) (keys:List (List Key)),x=.ref l/\SqL K H1 l vs/\KeysAt K H1 vs keys/\keys.length<=18/\(∀k∈keys,∃x r,k=.inr x::r) /\
 ∀(js:List Nat) (r:Addr),K_ keys js->H1 r=none->Q (.ref r) (Ax H1 r (.lst (js.map fun j=>vs.getD j .non)))
theorem Kc(hc:X.calm=true){k0:Nat}(hr:Room k0 X.A)(he:PE X e te)(hg1:Gl X "sorted")(hm1:X.mg "sorted"=none)(hg2:Gl X "set")(hm2:X.mg "set"=none)(h1:starEach [Expr.Call (.Name "set" p2) [e] [] q2] X.env=[(false,eval (Expr.Call (.Name "set" p2) [e] [] q2) X.env)]:=by rfl)
  (h2:starEach [e] X.env=[(false,eval e X.env)]:=by rfl):PE X (.Call (.Name "sorted" p1) [.Call (.Name "set" p2) [e] [] q2] [] q1) (NZ X.K te):=by
 intro pins s σ H Q I h
 refine wpAny_Call_Name_kw (CN I hg1 hm1 boot_sorted ?_)
 refine PyProof.Rows.callWith_builtin1 ?_ h1 rfl
 rw [h1]
 refine Calls.spliced_cons ?_
 refine wpAny_Call_Name_kw (CN I hg2 hm2 Hc ?_)
 refine PyProof.Rows.callWith_type1 ?_ h2 rfl
 rw [h2]
 refine Calls.spliced_cons (A_ (he pins s σ H _ I h) fun u s1 ⟨x,H1,I1,r1,l,vs,keys,ex,hq,hk,h18,htx,q⟩=>Calls.spliced_nil ?_)
 subst ex
 cases r1
 obtain⟨its,r',pl,hz⟩:=I1.list hq
 have hlen:=r'.length
 have hkl:=hk.len
 have hu:X.A.units<cLine:=hr.units0
 have hI:∀(i:Nat) (v:Value) (k:List Key),its.toArray[i]?=some v->keys[i]?=some k->∃b,v=.ref b/\IsTupleKey (AR X.prog X.w) s1.heap k b:=by
  intro i v k e1 e2
  obtain⟨a,e3,sq⟩:=hk.at_ i k e2
  obtain⟨u,e4,r4⟩:=r'.get e3
  cases r4
  have e1:its[i]?=some v:=by simpa using e1
  rw [e1] at e4; cases e4
  obtain⟨it2,r5,⟨o,ho,hc,n,hd⟩,_⟩:=I1.tuple sq
  rw [QK] at r5
  exact⟨a,rfl,o,it2.toArray,n,ho,hc,hd,by rw [List.toList_toArray]; exact Ex r5⟩
 refine St.set_tuples (knd:=AR X.prog X.w) (items:=its.toArray) (keys:=keys) (show X.A.handled=none from I.ok.hd hc) (by have:=hr.un; show X.A.units+1+1+1<cLine; omega) pl.isList (by rw [List.size_toArray]; omega) h18 hI (fun k hk'=>by obtain⟨x,r,rfl⟩:=htx k hk'; exact QE) fun h' tk ks o es ep t hkp S hm hes=>Calls.spliced_nil ?_
 refine EG (kw:=[]) (args_sorted1 _) (fun x=>args_list_sort _) (St.set_collect S.raw S.obj (show X.A.in1.handled=none from by simp [I.ok.hd hc]) fun h2 d2 tk2 acc hk2 hp=>?_)
 have J:Inv X pins σ H1 { s1 with heap:=h2,toks:=tk2 }:=I1.kept (t':=tk2) fun b o e=>hk2 b o (hkp b o e)
 have I2:Inv X pins σ H1 { s1 with heap:=h2,drawn:=d2,toks:=tk2 }:=⟨J.ok,J.os,J.bare,J.base,J.loc,J.cell,J.free,J.freeC,J.pin,J.hok,J.len⟩
 have hin:∀v∈acc,v∈its:=by
  intro v hv
  obtain⟨e,he,rfl⟩:=List.mem_map.mp (hp.mem_iff.mp hv)
  simpa using hes e he
 obtain⟨ix,x1,x2⟩:=LY hin
 have hix:∀i,i<ix.length->∃j v,ix[i]?=some j/\acc[i]?=some v/\its[j]?=some v:=by
  intro i hi
  have ha:acc[i]?=some acc[i]:=List.getElem?_eq_getElem (by omega)
  obtain⟨j,j1,j2⟩:=x2 i _ ha
  exact⟨j,_,j1,ha,j2⟩
 have hlt:∀j∈ix,j<keys.length:=by
  intro j hj
  obtain⟨i,hi⟩:=List.mem_iff_getElem?.mp hj
  obtain⟨j',v,a1,_,a3⟩:=hix i (List.getElem?_eq_some_iff.mp hi).1
  rw [hi] at a1; cases a1
  have:=(List.getElem?_eq_some_iff.mp a3).1
  omega
 have kacc:ix.map (fun j=>keys.getD j [])=acc.map (QJ X.prog X.w s1.heap):=by
  refine List.ext_getElem? fun i=>?_
  rw [List.getElem?_map,List.getElem?_map]
  by_cases hi:i<ix.length
  ·obtain⟨j,v,a1,a2,a3⟩:=hix i hi
   rw [a1,a2]
   have hj:=hlt j (List.mem_of_getElem? a1)
   obtain⟨b,rfl,hb⟩:=hI j v _ (by simpa using a3) (List.getElem?_eq_getElem hj)
   simp only [Option.map_some,Lj hb,List.getD_eq_getElem?_getD,List.getElem?_eq_getElem hj,Option.getD_some]
  ·rw [List.getElem?_eq_none (by omega),List.getElem?_eq_none (by omega)]; rfl
 obtain⟨kk,en,pk⟩:=S.ents
 have pks:List.Perm (ix.map fun j=>keys.getD j []) ks:=by
  rw [kacc]
  refine(hp.map _).trans ?_
  rw [← M7 en]; exact pk
 have hvv:Vals (ix.map fun j=>vs.getD j .non) acc:=by
  have:acc=ix.map fun j=>its.getD j Value.none:=by
   refine List.ext_getElem? fun i=>?_
   rw [List.getElem?_map]
   by_cases hi:i<ix.length
   ·obtain⟨j,v,a1,a2,a3⟩:=hix i hi
    rw [a1,a2,Option.map_some,List.getD_eq_getElem?_getD,a3]; rfl
   ·rw [List.getElem?_eq_none (by omega),List.getElem?_eq_none (by omega)]; rfl
  rw [this]
  exact Fg (Ej r') ix
 have hla:acc.length<=18:=by
  have a:=pks.length_eq
  obtain⟨_,_,_⟩:=S
  have b:=en.len; have c:=pk.length_eq
  rw [List.length_map] at a
  rw [Array.length_toList] at b
  omega
 have hkA:KeysAt X.K H1 (ix.map fun j=>vs.getD j .non) (ix.map fun j=>keys.getD j []):=by
  refine⟨by simp,fun i ns e=>?_,fun x hx y hy=>hk.same x ((hm x).mp (pks.mem_iff.mp hx)) y ((hm y).mp (pks.mem_iff.mp hy)),fun x hx=>hk.ne x ((hm x).mp (pks.mem_iff.mp hx))⟩
  rw [List.getElem?_map] at e
  cases hj:ix[i]? with
  | none=>rw [hj] at e; cases e
  | some j =>
   rw [hj] at e
   have hjl:=hlt j (List.mem_of_getElem? hj)
   simp only [Option.map_some,List.getD_eq_getElem?_getD,List.getElem?_eq_getElem hjl,Option.getD_some,Option.some.injEq] at e
   subst e
   obtain⟨a,e3,sq⟩:=hk.at_ j _ (List.getElem?_eq_getElem hjl)
   refine⟨a,?_,sq⟩
   rw [List.getElem?_map,hj,Option.map_some,List.getD_eq_getElem?_getD,e3]; rfl
 refine⟨by rw [sizeLine_eq]; omega,?_⟩
 refine HB (s:={ s1 with heap:=h2,drawn:=d2,toks:=tk2 }) I2 hvv (by rw [List.length_map]; omega) hkA fun ix2 l2 ho hn2=>?_
 have e5:(ix2.map fun i=>(ix.map fun j=>vs.getD j .non).getD i .non)=(ix2.map fun i=>ix.getD i 0).map fun j=>vs.getD j .non:=by
  rw [List.map_map]
  refine List.map_congr_left fun i hi=>?_
  have hi2:i<ix.length:=by
   have:=List.mem_range.mp (ho.1.mem_iff.mp hi)
   simpa using this
  exact GO (fun j=>vs.getD j .non) ix 0 .non hi2
 rw [e5]
 exact q _ l2 (P5 hlt (pks.nodup_iff.mpr S.nd) (fun x hx=>pks.mem_iff.mpr ((hm x).mpr hx)) ho) hn2
end
end L2
namespace Dp
open PySem PySem.Spec PyProof.Rows L2
noncomputable def Fd(wa:DW):DW:=fun n ρ P=>wa n ρ fun d n1=>∃xs,d=.lst xs/\xs.length<=18/\Keyed A0 xs/\(∀x∈xs,∃s r,A0 x=some (.inr s::r)) /\
 ∀xs':List D,(∀x∈xs',x∈xs)->(xs'.map A0).Nodup->(∀x∈xs,A0 x∈xs'.map A0)->FD A0 xs'->P (.lst xs') n1
theorem Pp{xs:List D}{keys:List (List Key)}{js:List Nat}(hl:keys.length=xs.length)(hk:∀(i:Nat) (x:D),xs[i]?=some x->∃k,keys[i]?=some k/\A0 x=some k/\k≠[])(h:K_ keys js) :
  (∀x∈js.map (fun j=>xs.getD j .non),x∈xs)/\((js.map fun j=>xs.getD j .non).map A0).Nodup/\(∀x∈xs,A0 x∈(js.map fun j=>xs.getD j .non).map A0)/\FD A0 (js.map fun j=>xs.getD j .non):=by
 have g:∀j∈js,xs.getD j .non∈xs/\A0 (xs.getD j .non)=some (keys.getD j []):=by
  intro j hj
  have hlt:=h.lt j hj
  have hx:j<xs.length:=by omega
  obtain⟨k,e1,e2,_⟩:=hk j xs[j] (List.getElem?_eq_getElem hx)
  have e3:xs.getD j .non=xs[j]:=by rw [List.getD_eq_getElem?_getD,List.getElem?_eq_getElem hx]; rfl
  rw [e3,e2,List.getD_eq_getElem?_getD,e1]
  exact⟨List.getElem_mem hx,rfl⟩
 have em:(js.map fun j=>xs.getD j .non).map A0=(js.map fun j=>keys.getD j []).map some:=by
  rw [List.map_map,List.map_map]
  exact List.map_congr_left fun j hj=>(g j hj).2
 refine⟨fun x hx=>?_,?_,fun x hx=>?_,?_⟩
 ·obtain⟨j,hj,rfl⟩:=List.mem_map.mp hx
  exact(g j hj).1
 ·rw [em]
  show List.Pairwise _ _
  rw [List.pairwise_map]
  exact h.nd.imp fun hne e=>hne (Option.some.inj e)
 ·rw [em]
  obtain⟨i,hi⟩:=List.mem_iff_getElem?.mp hx
  obtain⟨k,e1,e2,_⟩:=hk i x hi
  rw [e2]
  exact List.mem_map.mpr ⟨k,h.all k (List.mem_of_getElem? e1),rfl⟩
 ·unfold FD
  rw [List.pairwise_iff_getElem]
  intro i j hi hj hij ka kb ea eb
  rw [List.getElem_map] at ea eb
  rw [List.length_map] at hi hj
  have:=h.ord i j (Nat.le_of_lt hij) hj
  rw [(g _ (List.getElem_mem hi)).2] at ea
  rw [(g _ (List.getElem_mem hj)).2] at eb
  cases ea; cases eb
  rw [List.getD_eq_getElem?_getD (l:=js),List.getElem?_eq_getElem hj,List.getD_eq_getElem?_getD (l:=js),List.getElem?_eq_getElem hi] at this
  exact this
section
variable {X:Cx}{a:Expr}{κa:Kd}{wa:DW}{p1 p2 q1 q2:Pos}
theorem Kx(hc:X.calm=true){k0:Nat}(hr:Room k0 X.A)(ha:DE X a κa wa)(hg1:Gl X "sorted")(hm1:X.mg "sorted"=none)(hg2:Gl X "set")(hm2:X.mg "set"=none)(h1:starEach [Expr.Call (.Name "set" p2) [a] [] q2] X.env=[(false,eval (Expr.Call (.Name "set" p2) [a] [] q2) X.env)]:=by rfl)
  (h2:starEach [a] X.env=[(false,eval a X.env)]:=by rfl):DE X (.Call (.Name "sorted" p1) [.Call (.Name "set" p2) [a] [] q2] [] q1) .fr (Fd wa):=by
 obtain⟨t,a1,a2⟩:=ha
 refine⟨_,Kc hc hr a1 hg1 hm1 hg2 hm2 h1 h2,fun C M H n ρ σ P Q R w q=>?_⟩
 refine a2 C M H n ρ σ _ _ R w fun v H1 d n1 e1 f1 r1 p=>?_
 obtain⟨xs,rfl,h18,hK,htx,p⟩:=p
 have R1:=R.step e1 f1
 obtain⟨ad,vs,rfl,nV,hq,hs⟩:=r1.tpOf R.dom R.vM
 obtain⟨keys,hl,hk⟩:=Df hK.1
 refine⟨ad,vs,keys,rfl,.inl hq,Eu (fun d k v _=>Ew) hs hK hl hk,by omega,fun k hkm=>?_,fun js l ho hn=>?_⟩
 ·obtain⟨i,hi⟩:=List.mem_iff_getElem?.mp hkm
  have hil:i<xs.length:=by rw [← hl]; exact(List.getElem?_eq_some_iff.mp hi).1
  obtain⟨k',e1,e2,_⟩:=hk i xs[i] (List.getElem?_eq_getElem hil)
  rw [hi] at e1; cases e1
  obtain⟨x,r,e3⟩:=htx _ (List.getElem_mem hil)
  rw [e2] at e3; cases e3
  exact⟨x,r,rfl⟩
 ·obtain⟨o1,o2,o3,o4⟩:=Pp hl hk ho
  have g:Grow H1 (Ax H1 l (.lst (js.map fun j=>vs.getD j .non))):=Am hn
  refine q _ _ (.lst (js.map fun j=>xs.getD j .non)) n1 (e1.trans g.ext) (f1.grow g) ?_ (p _ o1 o2 o3 o4)
  exact VR.back e1 (B5 hn (hs.pick js))
end
end Dp
namespace L2
open PySem PySem.Spec PyProof.Rows PySem.W
noncomputable def Cf(l:List Str):List Str:=l.foldl (fun acc x=>if x∈acc then acc else acc++[x]) []
theorem Dh(l:List Str)(x:Str):Cf (l++[x])=if x∈Cf l then Cf l else Cf l++[x]:=by
 unfold Cf; rw [List.foldl_append]; rfl
theorem QZ(l:List Str)(h:l.Nodup):Cf l=l:=by
 have:∀r:List Str,r.reverse.Nodup->Cf r.reverse=r.reverse:=by
  intro r
  induction r with
  | nil=>intro _; rfl
  | cons a r ih =>
   intro h
   rw [List.reverse_cons] at h ⊢
   rw [List.nodup_append] at h
   rw [Dh,ih h.1,if_neg]
   intro z
   exact h.2.2 a z a (by simp) rfl
 have:=this l.reverse
 rw [List.reverse_reverse] at this
 exact this h
theorem O2(l:List Str):(Cf l).length<=l.length:=by
 have:∀r:List Str,(Cf r.reverse).length<=r.length:=by
  intro r
  induction r with
  | nil=>simp [Cf]
  | cons a r ih =>
   rw [List.reverse_cons,Dh]
   split
   ·rw [List.length_cons]; omega
   ·rw [List.length_append,List.length_singleton,List.length_cons]; omega
 have:=this l.reverse
 rw [List.reverse_reverse,List.length_reverse] at this
 exact this
noncomputable def Mg(l:List Str)(k:Key):Bool:=l.any fun x=>decide (k=.inr x)
theorem GB(l:List Str)(x:Str):Mg l (.inr x)=true↔x∈l:=by
 unfold Mg
 rw [List.any_eq_true]
 constructor
 ·rintro ⟨y,hy,e⟩
  have:=of_decide_eq_true e
  cases this; exact hy
 ·intro h; exact⟨x,h,decide_eq_true rfl⟩
theorem Nc{P:Program}{w:World}{x:Str}{v:Value}(h:(AR P w).is (.inr x) v=true):v.scannable=true:=by
 obtain⟨t,rfl⟩:=(OW (k:=.inr x) h:RelV (.str x) v)
 rfl
section
variable {prog:Program}{w:World}{A:Around}{E:Value->Shared->Prop}{s:Shared}
theorem KQ{K:Type}[DecidableEq K]{knd:PySem.KeyKind prog w K}{h h':Heap}{a:Addr}{S:K->Bool}{n:Nat}(x:h.SetOf knd a S n)(k:∀o,h.get? a=some o->h'.get? a=some o):h'.SetOf knd a S n:=by
 obtain⟨o,es,ep,t,ho,r⟩:=x
 exact⟨o,es,ep,t,k o ho,r⟩
theorem E3{K:Type}[DecidableEq K]{knd:PySem.KeyKind prog w K}{h:Heap}{a:Addr}{S S':K->Bool}{n n':Nat}(x:h.SetOf knd a S n)(e:∀k,S k=S' k)(en:n=n'):h.SetOf knd a S' n':=by
 have:S=S':=funext e
 subst this; subst en; exact x
theorem MF{K:Type}[DecidableEq K]{knd:PySem.KeyKind prog w K}{h:Heap}{a:Addr}(ho:h.get? a=some (St.setObj w)):h.SetOf knd a (fun _=>false) 0 :=
 ⟨_,#[],0,_,ho,⟨rfl,rfl,rfl⟩,rfl,fun e he=>by simp at he,fun k=>by simp,by decide,by rfl,rfl⟩
theorem ME{l:Addr}{items:Array Value}{ss:List Str}{Q:Value->Shared->Prop}(hh:A.handled=none)(hl:s.heap.IsTuple l items)(hlen:items.size=ss.length)(h64:ss.length<64)
  (hit:∀(i:Nat) (v:Value) (x:Str),items[i]?=some v->ss[i]?=some x->(AR prog w).is (.inr x) v=true)
  (h:∀h' tk,(∀b o,s.heap.get? b=some o->h'.get? b=some o)->h'.SetOf (AR prog w) s.heap.objs.size (Mg (Cf ss)) (Cf ss).length->Q (.ref s.heap.objs.size) { s with heap:=h',toks:=tk }) :
  wpAny (model prog w) A (call (.type "set") [.ref l]) Q E s:=by
 refine St.set_tuple hh hl (fun i h=>h.SetOf (AR prog w) s.heap.objs.size (Mg (Cf (ss.take i))) (Cf (ss.take i)).length) ?_ ?_ ?_ ?_
 ·intro h' hk ho
  exact E3 (MF ho) (fun k=>by simp [Cf,Mg]) (by simp [Cf])
 ·intro i h h' x hk
  refine KQ x fun o e=>hk _ o (fun z=>?_) e
  rw [List.mem_singleton] at z
  exact absurd z.symm (Nat.succ_ne_self _)
 ·intro i v s' Q E hi hv hS q
  have hil:i<ss.length:=by omega
  have hx:ss[i]?=some ss[i]:=List.getElem?_eq_getElem hil
  have hkey:=hit i v _ hv hx
  have e2:ss.take (i+1)=ss.take i++[ss[i]]:=by rw [List.take_add_one,hx]; rfl
  have hle:=O2 (ss.take i)
  rw [List.length_take] at hle
  unfold setAdd
  refine wpAny_holding (wpAny_bind ((AR prog w).pyHash hkey ?_))
  refine wpAny_setAddHashed_of (knd:=AR prog w) (s:={ s' with toks:=s'.toks+1 }) hkey (Nc hkey) hS (by unfold scanBound; omega) fun h' hsb hS2=>?_
  refine q h' _ _ (fun c hc=>hsb.2 c hc) (E3 hS2 (fun k=>?_) ?_)
  ·rw [e2,Dh]
   split
   ·rename_i hm
    by_cases hk:k=.inr ss[i]
    ·subst hk
     rw [(GB _ _).mpr hm]; rfl
    ·rw [decide_eq_false hk,Bool.or_false]
   ·unfold Mg
    rw [List.any_append]
    simp
  ·rw [e2,Dh]
   by_cases hm:ss[i]∈Cf (ss.take i)
   ·rw [if_pos hm,if_pos ((GB _ _).mpr hm)]
   ·rw [if_neg hm,if_neg (fun z=>hm ((GB _ _).mp z))]; simp
 ·intro h' tk hS hk
  rw [List.take_of_length_le (by omega)] at hS
  exact h h' tk hk hS
end
section
variable {X:Cx}{e:Expr}{te:TE}{p1 p2 q1 q2:Pos}
noncomputable def Pj(K:Frag)(te:TE):TE:=fun σ H Q=>te σ H fun x H1=>∃(l:Addr) (ss:List Str),x=.ref l/\SqT K H1 l (ss.map V.str)/\ss.length<64/\Q (.int (Cf ss).length) H1
theorem MS(hc:X.calm=true)(he:PE X e te)(hg1:Gl X "len")(hm1:X.mg "len"=none)(hg2:Gl X "set")(hm2:X.mg "set"=none)(h1:starEach [Expr.Call (.Name "set" p2) [e] [] q2] X.env=[(false,eval (Expr.Call (.Name "set" p2) [e] [] q2) X.env)]:=by rfl)
  (h2:starEach [e] X.env=[(false,eval e X.env)]:=by rfl):PE X (.Call (.Name "len" p1) [.Call (.Name "set" p2) [e] [] q2] [] q1) (Pj X.K te):=by
 intro pins s σ H Q I h
 refine wpAny_Call_Name_kw (CN I hg1 hm1 PySem.boot_len ?_)
 refine PyProof.Rows.callWith_builtin1 ?_ h1 rfl
 rw [h1]
 refine Calls.spliced_cons ?_
 refine wpAny_Call_Name_kw (CN I hg2 hm2 Hc ?_)
 refine PyProof.Rows.callWith_type1 ?_ h2 rfl
 rw [h2]
 refine Calls.spliced_cons (A_ (he pins s σ H _ I h) fun u s1 ⟨x,H1,I1,r1,l,ss,ex,hq,h64,q⟩=>Calls.spliced_nil ?_)
 subst ex
 cases r1
 obtain⟨its,r',pl,hz⟩:=I1.tuple hq
 have hlen:=r'.length
 rw [List.length_map] at hlen
 have hit:∀(i:Nat) (v:Value) (x:Str),its.toArray[i]?=some v->ss[i]?=some x->(AR X.prog X.w).is (.inr x) v=true:=by
  intro i v x e1 e2
  obtain⟨u,e4,r4⟩:=r'.get (i:=i) (show (ss.map V.str)[i]?=some (.str x) by rw [List.getElem?_map,e2]; rfl)
  have e1:its[i]?=some v:=by simpa using e1
  rw [e1] at e4; cases e4
  exact GJ (k:=.inr x) r4
 refine ME (show X.A.handled=none from I.ok.hd hc) pl (by rw [List.size_toArray]; omega) h64 hit fun h' tk hkp hS=>Calls.spliced_nil ?_
 obtain⟨o,es,ep,t,ho,hex,hd,_,_,hb,hf,hn⟩:=hS
 refine call_len_set ho hex hd hf (by unfold scanBound at hb; omega) ?_
 have J:Inv X pins σ H1 { s1 with heap:=h',toks:=tk+1+1 }:=I1.kept (t':=tk+1+1) hkp
 exact⟨.int (Cf ss).length,H1,J,by rw [hn]; exact⟨_,rfl⟩,q⟩
end
end L2
namespace Dp
open PySem PySem.Spec PyProof.Rows L2
noncomputable def LE(wa:DW):DW:=fun n ρ P=>wa n ρ fun d n1=>∃ss:List Str,d=.tup (ss.map D.str)/\ss.length<64/\P (.int (Cf ss).length) n1
theorem Jw{K:Frag}{M:Addr->Prop}{H:Hp}:∀{ss:List Str} {vs:List V},Ats K M H (ss.map D.str) vs->vs=ss.map V.str
 | [],vs,h=>h
 | x::ss,vs,h=>by
  obtain⟨v,r,e,h1,h2⟩:=h
  subst e
  rw [List.map_cons,h1.1,Jw h2]
section
variable {X:Cx}{a:Expr}{κa:Kd}{wa:DW}{p1 p2 q1 q2:Pos}
theorem NA(hc:X.calm=true)(ha:DE X a κa wa)(hg1:Gl X "len")(hm1:X.mg "len"=none)(hg2:Gl X "set")(hm2:X.mg "set"=none)(h1:starEach [Expr.Call (.Name "set" p2) [a] [] q2] X.env=[(false,eval (Expr.Call (.Name "set" p2) [a] [] q2) X.env)]:=by rfl)
  (h2:starEach [a] X.env=[(false,eval a X.env)]:=by rfl):DE X (.Call (.Name "len" p1) [.Call (.Name "set" p2) [a] [] q2] [] q1) .sh (LE wa):=by
 obtain⟨t,a1,a2⟩:=ha
 refine⟨_,MS hc a1 hg1 hm1 hg2 hm2 h1 h2,fun C M H n ρ σ P Q R w q=>?_⟩
 refine a2 C M H n ρ σ _ _ R w fun v H1 d n1 e1 f1 r1 p=>?_
 obtain⟨ss,rfl,h64,p⟩:=p
 obtain⟨ad,vs,rfl,hq,hs⟩:=(r1.tpOf R.dom R.vM).tup
 rw [Jw hs] at hq
 exact⟨ad,ss,rfl,hq.sq,h64,q _ _ (.int _) n1 e1 f1 rfl p⟩
end
end Dp
namespace L2
open PySem PySem.Spec PyProof.Rows
section
variable {prog:Program}{w:World}{A:Around}{E:Value->Shared->Prop}{s:Shared}{x y:Str}{t u:Tok}
noncomputable def NU(x y:Str)(i:Nat):Str:=if i=0 then x else y
theorem LJ{i:Nat}{v:Value}(h:(#[Value.str x t,Value.str y u]:Array Value)[i]?=some v):∃k,v=.str (NU x y i) k:=by
 match i with
 | 0=>exact⟨t,(Option.some.inj h).symm⟩
 | 1=>exact⟨u,(Option.some.inj h).symm⟩
 | i+2=>simp at h
theorem HX:CmpOf prog w A .Lt (fun i v=>(#[Value.str x t,Value.str y u]:Array Value)[i]?=some v) (fun i j=>decide ((NU x y i).cps.toList<(NU x y j).cps.toList)):=fun i j vi vj s Q E hi hj h=>by
 obtain⟨a,rfl⟩:=LJ hi
 obtain⟨b,rfl⟩:=LJ hj
 exact richCompare_gives (op:=.Lt) (typeIs_str s _ a) (typeIs_str s _ b) PySem.F.slot_str_lt PySem.F.entry_str_lt (PySem.F.args_str_lt_2 _ _) (gives_str_lt _ _ a b) (fun e=>nomatch e) h
theorem HY:CmpOf prog w A .Gt (fun i v=>(#[Value.str x t,Value.str y u]:Array Value)[i]?=some v) (fun i j=>decide ((NU x y j).cps.toList<(NU x y i).cps.toList)):=fun i j vi vj s Q E hi hj h=>by
 obtain⟨a,rfl⟩:=LJ hi
 obtain⟨b,rfl⟩:=LJ hj
 exact richCompare_gives (op:=.Gt) (typeIs_str s _ a) (typeIs_str s _ b) PySem.F.slot_str_gt PySem.F.entry_str_gt (PySem.F.args_str_gt_2 _ _) (gives_str_gt _ _ a b) (fun e=>nomatch e) h
theorem NW{n c:Nat}(h:c∈[n+1,n]):c<n+1+1:=by
 simp only [List.mem_cons,List.not_mem_nil,or_false] at h
 omega
theorem ED{bt:Nat->Nat->Bool}{v:Value}(h:(#[Value.str x t,Value.str y u]:Array Value)[argBest bt 1]?=some v):v=if bt 1 0=true then .str y u else .str x t:=by
 have e:argBest bt 1=if bt 1 0=true then 1 else 0:=rfl
 rw [e] at h
 cases c:bt 1 0 with
 | true=>rw [c] at h; exact(Option.some.inj h).symm
 | false=>rw [c] at h; exact(Option.some.inj h).symm
theorem Me{Q:Value->Shared->Prop}(hh:A.handled=none)(h:∀h' tk,(∀c o,s.heap.get? c=some o->h'.get? c=some o)->Q (if decide (y.cps.toList<x.cps.toList)=true then .str y u else .str x t) { s with heap:=h',toks:=tk }) :
  wpAny (model prog w) A (call (.builtin "min") [.str x t,.str y u]) Q E s:=by
 have hT:(s.heap.push { cls:=.type "tuple",data:=.seq #[.str x t,.str y u] }).IsTuple s.heap.objs.size #[.str x t,.str y u]:=⟨_,Heap.get?_push_size _ rfl,rfl,0,rfl⟩
 refine call_min_two (wpAny_pyIter_tuple hT ?_)
 have z1:(s.heap.push { cls:=.type "tuple",data:=.seq #[.str x t,.str y u] }).objs.size=s.heap.objs.size+1:=Heap.size_push ..
 refine⟨_,[_,s.heap.objs.size],[_],_,_,_,_,rfl,Walks.tuple (A:=A.in1) hh _ s.heap.objs.size (by rw [z1]; exact Nat.ne_of_lt (Nat.lt_succ_self _)) #[.str x t,.str y u],⟨⟨_,Heap.get?_push_size _ rfl,rfl,rfl⟩,hT.push _⟩,fun c hc=>?_,by simp,HX,fun v h' tk hP k=>?_⟩
 ·rw [Heap.size_push,z1]; rw [z1] at hc; exact NW hc
 ·rw [ED hP]
  refine h h' tk fun c o e=>k c o (fun m=>?_) (Heap.get?_push_of_some _ (Heap.get?_push_of_some _ e))
  have l:=Heap.lt_size e
  rw [List.mem_singleton.mp m,z1] at l
  exact absurd l (Nat.not_lt.mpr (Nat.le_succ _))
theorem Mh{Q:Value->Shared->Prop}(hh:A.handled=none)(h:∀h' tk,(∀c o,s.heap.get? c=some o->h'.get? c=some o)->Q (if decide (x.cps.toList<y.cps.toList)=true then .str y u else .str x t) { s with heap:=h',toks:=tk }) :
  wpAny (model prog w) A (call (.builtin "max") [.str x t,.str y u]) Q E s:=by
 have hT:(s.heap.push { cls:=.type "tuple",data:=.seq #[.str x t,.str y u] }).IsTuple s.heap.objs.size #[.str x t,.str y u]:=⟨_,Heap.get?_push_size _ rfl,rfl,0,rfl⟩
 refine call_max_two (wpAny_pyIter_tuple hT ?_)
 have z1:(s.heap.push { cls:=.type "tuple",data:=.seq #[.str x t,.str y u] }).objs.size=s.heap.objs.size+1:=Heap.size_push ..
 refine⟨_,[_,s.heap.objs.size],[_],_,_,_,_,rfl,Walks.tuple (A:=A.in1) hh _ s.heap.objs.size (by rw [z1]; exact Nat.ne_of_lt (Nat.lt_succ_self _)) #[.str x t,.str y u],⟨⟨_,Heap.get?_push_size _ rfl,rfl,rfl⟩,hT.push _⟩,fun c hc=>?_,by simp,HY,fun v h' tk hP k=>?_⟩
 ·rw [Heap.size_push,z1]; rw [z1] at hc; exact NW hc
 ·rw [ED hP]
  refine h h' tk fun c o e=>k c o (fun m=>?_) (Heap.get?_push_of_some _ (Heap.get?_push_of_some _ e))
  have l:=Heap.lt_size e
  rw [List.mem_singleton.mp m,z1] at l
  exact absurd l (Nat.not_lt.mpr (Nat.le_succ _))
end
section
variable {X:Cx}
noncomputable def Qv:List V->Hp->VK->Prop:=fun xs H Q=>∃x y:Str,xs=[.str x,.str y]/\Q (.str (if decide (y.cps.toList<x.cps.toList)=true then y else x)) H
noncomputable def Qz:List V->Hp->VK->Prop:=fun xs H Q=>∃x y:Str,xs=[.str x,.str y]/\Q (.str (if decide (x.cps.toList<y.cps.toList)=true then y else x)) H
theorem ND(hc:X.calm=true):B6 X (.builtin "min") Qv:=by
 intro pins s σ H xs us Q I r h
 obtain⟨x,y,rfl,q⟩:=h
 obtain⟨u,w',rfl,⟨t,rfl⟩,⟨t',rfl⟩⟩:=vals2 r
 refine Me (I.ok.hd hc) fun h' tk k=>⟨_,H,I.kept k,?_,q⟩
 cases decide (y.cps.toList<x.cps.toList) <;> exact⟨_,rfl⟩
theorem NH(hc:X.calm=true):B6 X (.builtin "max") Qz:=by
 intro pins s σ H xs us Q I r h
 obtain⟨x,y,rfl,q⟩:=h
 obtain⟨u,w',rfl,⟨t,rfl⟩,⟨t',rfl⟩⟩:=vals2 r
 refine Mh (I.ok.hd hc) fun h' tk k=>⟨_,H,I.kept k,?_,q⟩
 cases decide (x.cps.toList<y.cps.toList) <;> exact⟨_,rfl⟩
end
end L2
namespace Dp
open PySem PySem.Spec PyProof.Rows L2
section
variable {K:Frag}
noncomputable def Q9(ds:List D)(P:D->Prop):Prop:=∃x y:Str,ds=[.str x,.str y]/\P (.str (if decide (y.cps.toList<x.cps.toList)=true then y else x))
noncomputable def RB(ds:List D)(P:D->Prop):Prop:=∃x y:Str,ds=[.str x,.str y]/\P (.str (if decide (x.cps.toList<y.cps.toList)=true then y else x))
theorem Iw{U M:Addr->Prop}{H:Hp}{x y:Str}{vs:List V}(hp:Paired (fun v d=>AtT K U M H d v) vs [.str x,.str y]):vs=[.str x,.str y]/\x.length<=sizeLine/\y.length<=sizeLine:=by
 cases hp with
 | cons r1 r2=>cases r2 with
  | cons r3 r4 =>
   cases r4
   obtain⟨rfl,l1⟩:=r1.str
   obtain⟨rfl,l2⟩:=r3.str
   exact⟨rfl,l1,l2⟩
theorem Sd:CT K .sh Qv Q9:=by
 intro U M H ds vs P Q dom vM hp w q
 obtain⟨x,y,rfl,w⟩:=w
 obtain⟨e,l1,l2⟩:=Iw hp
 exact⟨x,y,e,q _ H (.str _) .refl ⟨rfl,by split <;> assumption⟩ w⟩
theorem Sh:CT K .sh Qz RB:=by
 intro U M H ds vs P Q dom vM hp w q
 obtain⟨x,y,rfl,w⟩:=w
 obtain⟨e,l1,l2⟩:=Iw hp
 exact⟨x,y,e,q _ H (.str _) .refl ⟨rfl,by split <;> assumption⟩ w⟩
end
end Dp
namespace L2
open PySem PySem.Spec PyProof.Rows PySem.W
section
variable {X:Cx}
noncomputable def Qx(K:Frag):List V->Hp->VK->Prop:=fun xs H Q=>∃(p:Addr) (x y:Str),xs=[.ref p]/\SqT K H p [.str x,.str y]/\Q (.str (if decide (y.cps.toList<x.cps.toList)=true then y else x)) H
theorem NF(hc:X.calm=true):B6 X (.builtin "min") (Qx X.K):=by
 intro pins s σ H xs us Q I r h
 obtain⟨p,x,y,rfl,hq,q⟩:=h
 obtain⟨u,rfl,rx⟩:=vals1 r
 cases rx
 obtain⟨its,r',pl,hz⟩:=I.tuple hq
 obtain⟨u1,u2,rfl,⟨t1,rfl⟩,⟨t2,rfl⟩⟩:=vals2 r'
 have hl:s.heap.IsTuple p #[Value.str x t1,Value.str y t2]:=pl
 have hlt:p<s.heap.objs.size:=by obtain⟨_,e,_⟩:=id hl; exact Heap.lt_size e
 refine call_min_walkS (wpAny_pyIter_tuple hl ?_)
 refine⟨s.heap.objs.size,_,_,_,_,_,_,_,rfl,(Walks.tuple (A:=X.A.in1) (I.ok.hd hc) _ p (Nat.ne_of_lt hlt) #[Value.str x t1,Value.str y t2]).toS,
  ⟨⟨_,Heap.get?_push_size _ rfl,rfl,rfl⟩,hl.push _⟩,fun b hb=>?_,by simp,HX,fun v s' hP hm=>?_⟩
 ·rcases List.mem_cons.mp hb with rfl | hb
  ·exact Heap.lt_size (Heap.get?_push_size _ rfl)
  ·obtain rfl:=List.mem_singleton.mp hb
   exact Nat.lt_of_lt_of_le hlt (by show s.heap.objs.size<=(s.heap.push _).objs.size; rw [size_push']; exact Nat.le_succ _)
 ·obtain⟨h',g',d',tk',os'⟩:=s'
  have e1:g'=s.gens:=hm.gens
  have e2:d'=s.drawn:=hm.drawn
  have e3:os'=s.os:=hm.os
  subst e1 e2 e3
  rw [ED hP]
  refine⟨_,H,I.kept (t':=tk') fun b x e=>hm.heap b x (fun hb=>by rw [List.mem_singleton.mp hb] at e; exact Nat.lt_irrefl _ (Heap.lt_size e)) (Heap.get?_push_of_some _ e),?_,q⟩
  show RelV (V.str (if decide (y.cps.toList<x.cps.toList)=true then y else x)) (if decide (y.cps.toList<x.cps.toList)=true then _ else _)
  cases decide (y.cps.toList<x.cps.toList) <;> exact⟨_,rfl⟩
noncomputable def Q0(K:Frag):List V->Hp->VK->Prop:=fun xs H Q=>∃(p:Addr) (x y:Str),xs=[.ref p]/\SqT K H p [.str x,.str y]/\Q (.str (if decide (x.cps.toList<y.cps.toList)=true then y else x)) H
theorem NI(hc:X.calm=true):B6 X (.builtin "max") (Q0 X.K):=by
 intro pins s σ H xs us Q I r h
 obtain⟨p,x,y,rfl,hq,q⟩:=h
 obtain⟨u,rfl,rx⟩:=vals1 r
 cases rx
 obtain⟨its,r',pl,hz⟩:=I.tuple hq
 obtain⟨u1,u2,rfl,⟨t1,rfl⟩,⟨t2,rfl⟩⟩:=vals2 r'
 have hl:s.heap.IsTuple p #[Value.str x t1,Value.str y t2]:=pl
 have hlt:p<s.heap.objs.size:=by obtain⟨_,e,_⟩:=id hl; exact Heap.lt_size e
 refine call_max_walkS (wpAny_pyIter_tuple hl ?_)
 refine⟨s.heap.objs.size,_,_,_,_,_,_,_,rfl,(Walks.tuple (A:=X.A.in1) (I.ok.hd hc) _ p (Nat.ne_of_lt hlt) #[Value.str x t1,Value.str y t2]).toS,
  ⟨⟨_,Heap.get?_push_size _ rfl,rfl,rfl⟩,hl.push _⟩,fun b hb=>?_,by simp,HY,fun v s' hP hm=>?_⟩
 ·rcases List.mem_cons.mp hb with rfl | hb
  ·exact Heap.lt_size (Heap.get?_push_size _ rfl)
  ·obtain rfl:=List.mem_singleton.mp hb
   exact Nat.lt_of_lt_of_le hlt (by show s.heap.objs.size<=(s.heap.push _).objs.size; rw [size_push']; exact Nat.le_succ _)
 ·obtain⟨h',g',d',tk',os'⟩:=s'
  have e1:g'=s.gens:=hm.gens
  have e2:d'=s.drawn:=hm.drawn
  have e3:os'=s.os:=hm.os
  subst e1 e2 e3
  rw [ED hP]
  refine⟨_,H,I.kept (t':=tk') fun b x e=>hm.heap b x (fun hb=>by rw [List.mem_singleton.mp hb] at e; exact Nat.lt_irrefl _ (Heap.lt_size e)) (Heap.get?_push_of_some _ e),?_,q⟩
  show RelV (V.str (if decide (x.cps.toList<y.cps.toList)=true then y else x)) (if decide (x.cps.toList<y.cps.toList)=true then _ else _)
  cases decide (x.cps.toList<y.cps.toList) <;> exact⟨_,rfl⟩
end
end L2
namespace Dp
open PySem PySem.Spec PyProof.Rows L2
section
variable {K:Frag}
noncomputable def Om(ds:List D)(P:D->Prop):Prop:=∃x y:Str,ds=[.tup [.str x,.str y]]/\P (.str (if decide (y.cps.toList<x.cps.toList)=true then y else x))
theorem Sf:CT K .sh (Qx K) Om:=by
 intro U M H ds vs P Q dom vM hp w q
 obtain⟨x,y,rfl,w⟩:=w
 obtain⟨v,rfl,hx⟩:=Ck hp
 obtain⟨ad,vs,rfl,hq,hs⟩:=AtT.tup hx
 obtain⟨v1,r1,rfl,h1,v2,r2,rfl,h2,rfl⟩:=hs
 obtain⟨rfl,l1⟩:=h1
 obtain⟨rfl,l2⟩:=h2
 exact⟨ad,x,y,rfl,hq.sq,q _ H (.str _) .refl ⟨rfl,by split <;> assumption⟩ w⟩
noncomputable def Oo(ds:List D)(P:D->Prop):Prop:=∃x y:Str,ds=[.tup [.str x,.str y]]/\P (.str (if decide (x.cps.toList<y.cps.toList)=true then y else x))
theorem Si:CT K .sh (Q0 K) Oo:=by
 intro U M H ds vs P Q dom vM hp w q
 obtain⟨x,y,rfl,w⟩:=w
 obtain⟨v,rfl,hx⟩:=Ck hp
 obtain⟨ad,vs,rfl,hq,hs⟩:=AtT.tup hx
 obtain⟨v1,r1,rfl,h1,v2,r2,rfl,h2,rfl⟩:=hs
 obtain⟨rfl,l1⟩:=h1
 obtain⟨rfl,l2⟩:=h2
 exact⟨ad,x,y,rfl,hq.sq,q _ H (.str _) .refl ⟨rfl,by split <;> assumption⟩ w⟩
noncomputable def SO(d:D)(lo hi:Option Int)(P:D->Prop):Prop:=match d with
 | .lst xs=>P (.lst (cutD xs lo hi))
 | _=>False
theorem T7:U4 K .fr (Ri K) SO:=by
 intro U M H d x lo hi P Q dom vM hx w q
 unfold SO at w
 split at w
 ·obtain⟨a,vs,rfl,_,ha,hs⟩:=hx
  exact⟨a,vs,rfl,.inl ha,fun p hp=>q _ _ (.lst _) (Am hp) (B5 hp (Ic lo hi hs)) w⟩
 ·exact w.elim
end
end Dp
namespace Nt
open PySem PySem.Spec PyProof.Rows L2 Dp
noncomputable def optN:Option Nat->D
 | some k=>.int (k:Int)
 | none=>.non
noncomputable def T_(K:List A7)(x y:Str)(o:Option Nat):Prop:=match o with
 | none=>∀m,¬Us K x y m
 | some k=>Us K x y k/\∀m,Us K x y m->k<=m
noncomputable def Sx(N:Net)(us:List A7)(o:Option Nat):Prop:=match o with
 | none=>∀u∈us,∀m,¬Us (N.ts.filter fun v=>decide (v≠u)) u.a u.b m
 | some k=>(∃u∈us,∃m,Us (N.ts.filter fun v=>decide (v≠u)) u.a u.b m/\k=m+1)/\∀u∈us,∀m,Us (N.ts.filter fun v=>decide (v≠u)) u.a u.b m->k<=m+1
noncomputable def Ef:W2:=fun ss n P=>∃(K:List A7) (x y:Str),ss=[.br (.lst (K.map Ac)),.sh (.str x),.sh (.str y)]/\(∀t∈K,isN t.a/\isN t.b)/\isN x/\K.length<=60/\∀o,T_ K x y o->P (optN o) n
noncomputable def DR:W2:=fun ss n P=>∃N:Net,ss=[.sh (Cb N)]/\okN N/\∀o,Sx N N.ts o->P (optN o) n
noncomputable def Gk:W2:=fun ss n P=>ss=[.fd]/\600<=n/\∀(N:Net) (n':Nat),okN N->n - 600<=n'->P (Cb N) n'
noncomputable def Dk:W2:=fun ss n P=>∃N:Net,ss=[.sh (Cb N)]/\okN N/\P (.bl true) n
noncomputable def Ds:Af:=(AU (CW 3 (J9 (AB 1) (wC (D.int 0))))
 (AU (CW 4 (Dx (AC (AB 1) AN)))
 (AU (A4 5 (wC (D.int 0)))
 (AU (C7 (Aa (AW EU (AB 5) (Cr Dl (AC (Ab 4) AN)))) (AU (Qk 0 (Ao 6) (CU (Aa (AW (QS false) (AW B9 (Ab 4) (AB 5)) (NO FJ (AB 6) CC (CK (wC (D.int 2)))))) (AU (A4 7 (UN (Aa (AW (J5 false) (AW B9 (AB 6) (wC (D.int 0))) (AW B9 (Ab 4) (AB 5)))) (AW B9 (AB 6) (wC (D.int 1))) (AW B9 (AB 6) (wC (D.int 0)))))
 (CU (Aa (AW (M6 true) (AB 7) (Ab 3))) (AU (Fe 3 (AB 7) (AW Az (AW DJ (Ab 3) (AW B9 (Ab 4) (AB 5))) (wC (D.int 1))))
 (L7 4 "list" FL (AC (AB 7) AN))) Bj)) Bj))
 (A4 5 (AW Az (AB 5) (wC (D.int 1))))))
 (Bt (Qj (Ab 3) (AB 2)))))))
noncomputable def DN:Af:=(AU (CW 1 (Dx AN))
 (AU (FE (Bv (AW B9 (AB 0) (wC (D.int 1)))) (Ao 2) (AU (A4 3 (AX Ef (AD (Ei (Bu [some 2,none] (Bv (AW B9 (AB 0) (wC (D.int 1)))) (Ao 1) (Aa (AW QP (AB 1) (AB 0))) (AB 1))) (AD (AT (AW B9 (AB 2) (wC (D.int 0)))) (AD (AT (AW B9 (AB 2) (wC (D.int 1)))) AZ)))))
 (CU (Aa (AW (FK true) (AB 3) (wC D.non))) (L7 1 "list" FL (AC (AW Az (AB 3) (wC (D.int 1))) AN)) Bj)))
 (Bt (UN (Aa (AW QP (Ab 1) (Dx AN))) (Cr RA (AC (Ab 1) AN)) (wC D.non)))))
noncomputable def Ee:Af:=(AU (A4 1 (AX C5 (AD (Au 0) (AD (AT (AW Az (wC (D.int 3)) (AX A2 (AD (Au 0) (AD (AT (wC (D.int 10))) AZ))))) AZ))))
 (AU (CW 2 (Cr Ks (AC (AB 1) AN)))
 (AU (CW 3 (Dx AN))
 (AU (C7 (Aa (AW QP (Ab 2) (Dx AN))) (LF 3 2 (AX A2 (AD (Au 0) (AD (AT (Cr Dl (AC (Ab 2) AN))) AZ)))))
 (AU (CW 4 (NO SO (Bu [some 3,none] (CY (AC (Cr Dl (AC (Ab 3) AN)) AN)) (Ao 1) Cs (CB (AC (AW B9 (Ab 0) (AW HP (AB 1) (wC (D.int 1)))) (AC (AW B9 (Ab 0) (AB 1)) AN)))) (CK (AW (Os PR fun i j=>D.int (i / j)) (AX A2 (AD (Au 0) (AD (AT (wC (D.int 3))) AZ))) (wC (D.int 2)))) CC))
 (AU (FE (CY (AC (AX A2 (AD (Au 0) (AD (AT (wC (D.int 4))) AZ))) AN)) (Ao 5) (L7 4 "list" FL (AC (CB (AC (AW B9 (Ab 3) (AX A2 (AD (Au 0) (AD (AT (Cr Dl (AC (Ab 3) AN))) AZ)))) (AC (AW B9 (Ab 3) (AX A2 (AD (Au 0) (AD (AT (Cr Dl (AC (Ab 3) AN))) AZ)))) AN))) AN)))
 (AU (A4 6 (Fd (Bu [none] (Bv (Ab 4)) (Ao 0) (Aa (AW (J5 true) (AW B9 (AB 0) (wC (D.int 0))) (AW B9 (AB 0) (wC (D.int 1))))) (CB (AC (Cr Om (AC (AB 0) AN)) (AC (Cr Oo (AC (AB 0) AN)) AN))))))
 (Bt (CB (AC (Cr CF (AC (AB 1) AN)) (AC (Cr CF (AC (Bu [some 0,none,none] (Bv (AB 6)) (K3 2 (Bs (Ao 1) (Bs (Ao 2) Gd))) Cs (CB (AC (AB 1) (AC (AB 2) (AC (AX Io (AD (Au 0) (AD (AT (wC (D.int 1))) AZ))) AN))))) AN)) AN)))))))))))
noncomputable def Dt:Af:=(AU (A4 1 (Cr Ol (AC (AB 0) AN)))
 (AU (A4 2 (AX D7 (AD (AT (AB 0)) AZ)))
 (AU (A4 3 (AX DR (AD (AT (AB 0)) AZ)))
 (AU (CU (Aa (AW (FK false) (AB 3) (wC D.non))) (Bt (AW (FK false) (AB 2) (wC D.non))) Bj)
 (AU (CU (J8 (LD (Aa (S3 "tuple" (AB 2)))) (J8 (Aa (AW (J5 true) (Cr Dl (AC (AB 2) AN)) (AB 3))) (J8 (Aa (AW (J5 true) (LE (AB 2)) (AB 3))) (Aa (AW EU (AB 3) (wC (D.int 3))))))) (Bt (wC (D.bl false))) Bj)
 (AU (A4 4 (Bu [none] (Bv (AW B9 (AB 0) (wC (D.int 1)))) (Ao 0) Cs (NO FJ (AB 0) CC (CK (wC (D.int 2))))))
 (AU (FE (CY (AC (AB 3) AN)) (Ao 5) (CU (Aa (AW (QS true) (CB (AC (Cr Q9 (AC (AW B9 (AB 2) (AW HP (AB 5) (wC (D.int 1)))) (AC (AW B9 (AB 2) (AB 5)) AN))) (AC (Cr RB (AC (AW B9 (AB 2) (AW HP (AB 5) (wC (D.int 1)))) (AC (AW B9 (AB 2) (AB 5)) AN))) AN))) (AB 4))) (Bt (wC (D.bl false))) Bj))
 (Bt (AW (J5 false) (Cr Ol (AC (AB 0) AN)) (AB 1))))))))))
noncomputable def Hi:Af:=(AU (FE (CY (AC (wC (D.int 3)) AN)) (Ao 2) (CU (J8 (LD (Aa (AX Dk (AD (AT (AX PM (AD (Au 1) (AD (AT (wC (D.int 8))) (AD (AT (wC (D.int 14))) AZ))))) AZ)))) (LD (Aa (AX Dk (AD (AT (AX Gk (AD (Au 1) AZ))) AZ))))) (Bt (wC (D.bl false))) Bj))
 (Bt (AW (FK false) (AX D7 (AD (AT (CB (AC (CB AN) (AC (CB AN) AN)))) AZ)) (wC D.non))))
structure Brf (K:List A7) (x:Str) (l:List (Str×Nat)) (a:Nat):Prop where
 nd:(l.map (·.1)).Nodup
 st:∃r,l=(x,0)::r
 us:∀p∈l,Us K x p.1 p.2
 up:l.Pairwise fun p q=>p.2<=q.2
 top:∀p,l[a]?=some p->∀q∈l,q.2<=p.2+1
 cl:∀(i:Nat) p,i<a->l[i]?=some p->∀t∈K,∀z,tj t p.1 z->∃q∈l,q.1=z/\q.2<=p.2+1
theorem Brf.start(K:List A7)(x:Str):Brf K x [(x,0)] 0:=by
 refine⟨by simp,⟨[],rfl⟩,fun p hp=>?_,List.pairwise_singleton _ _,fun p _ q hq=>?_,fun i p h=>by omega⟩
 ·rw [List.mem_singleton.mp hp]; exact .nil
 ·rw [List.mem_singleton.mp hq]; exact Nat.zero_le _
theorem Lm{α:Type}{l m:List α}{i:Nat}{p:α}(h:l[i]?=some p):(l++m)[i]?=some p:=by
 rw [List.getElem?_append_left (List.getElem?_eq_some_iff.mp h).1]; exact h
theorem Brf.add{K:List A7}{x:Str}{l:List (Str×Nat)}{a:Nat}(B:Brf K x l a){p:Str×Nat}(hp:l[a]?=some p){t:A7}(ht:t∈K){z:Str}(e:tj t p.1 z)(hz:z∉l.map (·.1)):Brf K x (l++[(z,p.2+1)]) a:=by
 have hal:=(List.getElem?_eq_some_iff.mp hp).1
 refine⟨?_,?_,fun q hq=>?_,?_,fun q hq r hr=>?_,fun i q hi hq s hs y ey=>?_⟩
 ·rw [List.map_append,List.nodup_append]
  refine⟨B.nd,by simp,fun y hy w hw h=>hz ?_⟩
  have hw:w=z:=by simpa using hw
  subst hw; subst h; exact hy
 ·obtain⟨r,hr⟩:=B.st
  exact⟨r++[(z,p.2+1)],by rw [hr]; rfl⟩
 ·rcases List.mem_append.mp hq with hq | hq
  ·exact B.us q hq
  ·rw [List.mem_singleton.mp hq]; exact .snoc (B.us p (List.mem_of_getElem? hp)) ht e
 ·rw [List.pairwise_append]
  refine⟨B.up,List.pairwise_singleton _ _,fun q hq r hr=>?_⟩
  rw [List.mem_singleton.mp hr]; exact B.top p hp q hq
 ·rw [Lm hp] at hq
  cases hq
  rcases List.mem_append.mp hr with hr | hr
  ·exact B.top p hp r hr
  ·rw [List.mem_singleton.mp hr]; exact Nat.le_refl _
 ·rw [List.getElem?_append_left (by omega)] at hq
  obtain⟨r,h1,h2⟩:=B.cl i q hi hq s hs y ey
  exact⟨r,List.mem_append.mpr (.inl h1),h2⟩
theorem Brf.next{K:List A7}{x:Str}{l:List (Str×Nat)}{a:Nat}(B:Brf K x l a){p:Str×Nat}(hp:l[a]?=some p)(h:∀t∈K,∀z,tj t p.1 z->∃q∈l,q.1=z/\q.2<=p.2+1):Brf K x l (a+1):=by
 refine⟨B.nd,B.st,B.us,B.up,fun q hq r hr=>?_,fun i q hi hq=>?_⟩
 ·have h1:=B.top p hp r hr
  obtain⟨l1,e1⟩:=List.getElem?_eq_some_iff.mp hp
  obtain⟨l2,e2⟩:=List.getElem?_eq_some_iff.mp hq
  have:=List.pairwise_iff_getElem.mp B.up a (a+1) l1 l2 (by omega)
  rw [e1,e2] at this
  omega
 ·by_cases e:i=a
  ·subst e; rw [hp] at hq; cases hq; exact h
  ·exact B.cl i q (by omega) hq
theorem Brf.all{K:List A7}{x:Str}{l:List (Str×Nat)}{a:Nat}(B:Brf K x l a)(ha:l.length<=a){y:Str}{m:Nat}(h:Us K x y m):∃q∈l,q.1=y/\q.2<=m:=by
 induction h with
 | nil =>
  obtain⟨r,hr⟩:=B.st
  exact⟨(x,0),by rw [hr]; exact List.mem_cons_self,rfl,Nat.le_refl _⟩
 | snoc _ ht e ih =>
  obtain⟨q,hq,e1,h1⟩:=ih
  obtain⟨i,hi⟩:=List.mem_iff_getElem?.mp hq
  subst e1
  obtain⟨r,hr,e2,h2⟩:=B.cl i q (by have:=(List.getElem?_eq_some_iff.mp hi).1; omega) hi _ ht _ e
  exact⟨r,hr,e2,by omega⟩
noncomputable def Cp(l:List (Str×Nat))(z:Str):Option Nat:=(l.find? fun p=>p.1==z).map (·.2)
theorem GD{l:List (Str×Nat)}(nd:(l.map (·.1)).Nodup){p:Str×Nat}(h:p∈l):Cp l p.1=some p.2:=by
 unfold Cp
 induction l with
 | nil=>cases h
 | cons q l ih =>
  rw [List.map_cons,List.nodup_cons] at nd
  rcases List.mem_cons.mp h with rfl | h
  ·rw [List.find?_cons_of_pos (by simp)]; rfl
  ·have hne:(q.1==p.1)=false:=by
    rw [beq_eq_false_iff_ne]
    intro e
    exact nd.1 (by rw [e]; exact List.mem_map.mpr ⟨p,h,rfl⟩)
   rw [List.find?_cons_of_neg (by simp [hne])]
   exact ih nd.2 h
theorem lookL_none{l:List (Str×Nat)}{z:Str}:Cp l z=none↔z∉l.map (·.1):=by
 unfold Cp
 rw [Option.map_eq_none_iff,List.find?_eq_none]
 constructor
 ·intro h hz
  obtain⟨p,hp,e⟩:=List.mem_map.mp hz
  exact h p hp (by simp [e])
 ·intro h p hp e
  exact h (List.mem_map.mpr ⟨p,hp,by simpa using e⟩)
theorem Er{l:List (Str×Nat)}{z:Str}{k:Nat}(h:Cp l z=some k):(z,k)∈l:=by
 unfold Cp at h
 obtain⟨p,hp,e⟩:=Option.map_eq_some_iff.mp h
 have h1:=List.mem_of_find?_eq_some hp
 have h2:p.1=z:=by simpa using List.find?_some hp
 subst h2; subst e; exact h1
theorem Brf.stp{K:List A7}{x:Str}{l:List (Str×Nat)}{a:Nat}(B:Brf K x l a)(ha:l.length<=a)(y:Str):T_ K x y (Cp l y):=by
 cases e:Cp l y with
 | none =>
  intro m hm
  obtain⟨q,hq,e1,_⟩:=B.all ha hm
  exact lookL_none.mp e (List.mem_map.mpr ⟨q,hq,e1⟩)
 | some k =>
  refine⟨B.us _ (Er e),fun m hm=>?_⟩
  obtain⟨q,hq,e1,h1⟩:=B.all ha hm
  have:=GD B.nd hq
  rw [e1,e] at this
  cases this; exact h1
noncomputable def Kq(l:List (Str×Nat)):List Key:=l.map fun p=>.inr p.1
noncomputable def NP(l:List (Str×Nat)):List D:=l.map fun p=>.int (p.2:Int)
theorem LG(z:Str):∀l:List (Str×Nat),BI (Kq l) (NP l) (.inr z)=(Cp l z).map fun k=>.int (k:Int)
 | []=>rfl
 | p::l=>by
  show (if (Sum.inr p.1:Key)=.inr z then some (D.int (p.2:Int)) else BI (Kq l) (NP l) (.inr z))=_
  rw [LG z l]
  unfold Cp
  by_cases e:p.1=z
  ·rw [if_pos (by rw [e]),List.find?_cons_of_pos (by simp [e])]; rfl
  ·rw [if_neg (fun h=>e (Sum.inr.inj h)),List.find?_cons_of_neg (by simp [e])]
theorem Brf.few{K:List A7}{x:Str}{l:List (Str×Nat)}{a:Nat}(B:Brf K x l a):l.length<=2*K.length+1:=by
 have hs:l.map (·.1) ⊆ x::(K.map (·.a)++K.map (·.b)):=by
  intro y hy
  obtain⟨p,hp,rfl⟩:=List.mem_map.mp hy
  have:=B.us p hp
  cases h:p.2 with
  | zero =>
   rw [h] at this
   cases this with | nil=>exact List.mem_cons_self
  | succ k =>
   rw [h] at this
   cases this with
   | snoc _ ht e =>
    refine List.mem_cons_of_mem _ (List.mem_append.mpr ?_)
    rcases e with ⟨_,e⟩ | ⟨_,e⟩
    ·exact .inr (List.mem_map.mpr ⟨_,ht,e⟩)
    ·exact .inl (List.mem_map.mpr ⟨_,ht,e⟩)
 have:=St.nd_len B.nd hs
 simp at this
 omega
section
variable {ss:List Slot}{n:Nat}{Pd:D->Nat->Prop}
theorem JY{t:A7}(h:isN t.a/\isN t.b):Cz (.tup [.str t.a,.str t.b]):=Mq (ps:=[t.a,t.b]) fun p hp=>by
 rcases List.mem_cons.mp hp with rfl | hp
 ·exact h.1
 ·rw [List.mem_singleton.mp hp]; exact h.2
theorem Og{l:List (Str×Nat)}{z:Str}(h:z∉l.map (·.1)):FI (Kq l) (.inr z)=false:=by
 rw [Bool.eq_false_iff]
 intro hh
 have:=hasK_iff.mp hh
 obtain⟨p,hp,e⟩:=List.mem_map.mp this
 exact h (List.mem_map.mpr ⟨p,hp,Sum.inr.inj e⟩)
theorem Us.isN{K:List A7}(hK:∀t∈K,isN t.a/\isN t.b){x y:Str}{m:Nat}(hx:isN x)(h:Us K x y m):isN y:=by
 cases h with
 | nil=>exact hx
 | snoc _ ht e =>
  rcases e with ⟨_,e⟩ | ⟨_,e⟩
  ·rw [← e]; exact(hK _ ht).2
  ·rw [← e]; exact(hK _ ht).1
theorem Gx(h:Ef ss n Pd):Ds (EE Pd) n (ss++List.replicate 5 .no):=by
 obtain⟨K,x,y,rfl,hK,hx,hl,p⟩:=h
 unfold Ds
 refine⟨.inr x,rfl,z1,?_⟩
 show C7 _ _ _ n [.br (.lst (K.map Ac)),.sh (.str x),.sh (.str y),.ow (.dic (Kq [(x,0)]) (NP [(x,0)])),.ow (.lst [.str x]),.sh (.int 0),.no,.no]
 refine DV (fun m n' ρ=>n'=n/\∃(l:List (Str×Nat)) (a:Nat) (s6 s7:Slot),ρ=[.br (.lst (K.map Ac)),.sh (.str x),.sh (.str y),.ow (.dic (Kq l) (NP l)),.ow (.lst (l.map fun p=>.str p.1)),.sh (.int (a:Int)),s6,s7]/\Brf K x l a/\a<=l.length/\m=122 - a) 122 ⟨rfl,[(x,0)],0,_,_,rfl,Brf.start K x,by simp,rfl⟩ ?_ ?_
 ·rintro m n' ρ N' ⟨rfl,l,a,s6,s7,rfl,B,hal,rfl⟩ hN
  have hfew:=B.few
  refine⟨_,_,rfl,rfl,?_⟩
  refine CD (fun c=>?_) fun c=>?_
  ·have ha:a<l.length:=by
    have:=of_decide_eq_true c
    rw [List.length_map] at this
    omega
   obtain⟨q,hq⟩:∃q,l[a]?=some q:=⟨_,List.getElem?_eq_getElem ha⟩
   refine⟨_,_,rfl,rfl,?_⟩
   refine Bm (all:=K.map Ac) (fun pre m ρ=>m=n'/\∃(l:List (Str×Nat)) (s6 s7:Slot),ρ=[.br (.lst (K.map Ac)),.sh (.str x),.sh (.str y),.ow (.dic (Kq l) (NP l)),.ow (.lst (l.map fun p=>.str p.1)),.sh (.int (a:Int)),s6,s7]/\Brf K x l a/\l[a]?=some q /\
    ∀t,Ac t∈pre->∀z,tj t q.1 z->∃r∈l,r.1=z/\r.2<=q.2+1) ?_ ?_ _ [] _ _ rfl ⟨rfl,l,s6,s7,rfl,B,hq,fun t h=>by cases h⟩
   ·rintro m ρ ⟨rfl,l,s6,s7,rfl,B,hq,hcl⟩
    have hal:=(List.getElem?_eq_some_iff.mp hq).1
    have hfew:=B.few
    exact hN (122 - (a+1)) _ _ (by omega) ⟨rfl,l,a+1,s6,s7,rfl,B.next hq fun t ht z e=>hcl t (List.mem_map.mpr ⟨t,ht,rfl⟩) z e,by omega,rfl⟩
   ·rintro pre d post m ρ nx hall ⟨rfl,l,s6,s7,rfl,B,hq,hcl⟩ hnx
    have hal:=(List.getElem?_eq_some_iff.mp hq).1
    have hfew:=B.few
    obtain⟨t,ht,rfl⟩:=List.mem_map.mp (show d∈K.map Ac by rw [hall]; simp)
    have hqN:isN q.1:=(B.us q (List.mem_of_getElem? hq)).isN hK hx
    have hat:atI (l.map fun p=>D.str p.1) (a:Int)=some (.str q.1):=AV (by rw [List.getElem?_map,hq]; rfl)
    have enc_inj:∀u,Ac u=Ac t->u=t:=fun u e=>(C0 u t).mp (by rw [e]; exact(C0 t t).mpr rfl)
    have old:(∀z,tj t q.1 z->∃r∈l,r.1=z/\r.2<=q.2+1)->∀u,Ac u∈pre++[Ac t]->∀z,tj u q.1 z->∃r∈l,r.1=z/\r.2<=q.2+1:=by
     intro h u hu z e
     rcases List.mem_append.mp hu with hu | hu
     ·exact hcl u hu z e
     ·rw [enc_inj u (List.mem_singleton.mp hu)] at e; exact h z e
    refine⟨_,hat,GG hqN,JY (hK t ht),_,rfl,?_⟩
    show if ([D.str t.a,D.str t.b].any fun u=>GS u (.str q.1))=true then _ else _
    rw [SM]
    refine CD (fun c2=>?_) fun c2=>?_
    ·have main:∀(z:Str) (D3:E2),(∀m ρ,nx m ρ->D3.nx m ρ)->tj t q.1 z->(∀z',tj t q.1 z'->z'=z\/z'=q.1)->CU (Aa (AW (M6 true) (AB 7) (Ab 3)))
       (AU (Fe 3 (AB 7) (AW Az (AW DJ (Ab 3) (AW B9 (Ab 4) (AB 5))) (wC (D.int 1)))) (L7 4 "list" FL (AC (AB 7) AN))) Bj D3 m
       [.br (.lst (K.map Ac)),.sh (.str x),.sh (.str y),.ow (.dic (Kq l) (NP l)),.ow (.lst (l.map fun p=>.str p.1)),.sh (.int (a:Int)),.sh (Ac t),.sh (.str z)]:=by
      intro z D3 hD e hz
      have self:∃r∈l,r.1=q.1/\r.2<=q.2+1:=⟨q,List.mem_of_getElem? hq,rfl,Nat.le_succ _⟩
      refine⟨_,_,_,rfl,rfl,?_⟩
      show if (!(BI (Kq l) (NP l) (.inr z)).isSome)=true then _ else _
      rw [LG,Option.isSome_map]
      refine CD (fun c3=>?_) fun c3=>?_
      ·have hz0:z∉l.map (·.1):=by
        apply lookL_none.mp
        cases e:Cp l z with
        | none=>rfl
        | some k=>rw [e] at c3; cases c3
       have hv:BI (Kq l) (NP l) (.inr q.1)=some (.int (q.2:Int)):=by rw [LG,GD B.nd (List.mem_of_getElem? hq)]; rfl
       have szl:=PySem.sizeLine_eq
       have e1:B3 (Kq l) (.inr z)=Kq (l++[(z,q.2+1)]):=by
        unfold B3
        rw [Og hz0]
        simp [Kq]
       have e2:B2 (Kq l) (NP l) (.inr z) (.int ((q.2:Int)+1))=NP (l++[(z,q.2+1)]):=by
        unfold B2
        rw [Og hz0]
        simp [NP]
       refine⟨_,_,rfl,_,hat,_,_,_,_,rfl,rfl,hv,_,rfl,by unfold Kq; rw [List.length_map]; omega,?_⟩
       rw [e1,e2]
       refine⟨_,rfl,rfl,_,_,rfl,rfl,by rw [List.length_map]; omega,hD _ _ (hnx _ _ ⟨rfl,l++[(z,q.2+1)],.sh (Ac t),.sh (.str z),?_,B.add hq ht e hz0,Lm hq,fun u hu z' e'=>?_⟩)⟩
       ·rw [List.map_append]; rfl
       ·have new:∀r∈l++[(z,q.2+1)],r∈l\/r=(z,q.2+1):=fun r hr=>(List.mem_append.mp hr).imp id List.mem_singleton.mp
        rcases List.mem_append.mp hu with hu | hu
        ·obtain⟨r,h1,h2⟩:=hcl u hu z' e'
         exact⟨r,List.mem_append.mpr (.inl h1),h2⟩
        ·rw [enc_inj u (List.mem_singleton.mp hu)] at e'
         rcases hz z' e' with rfl | rfl
         ·exact⟨(z',q.2+1),List.mem_append.mpr (.inr (List.mem_singleton.mpr rfl)),rfl,Nat.le_refl _⟩
         ·obtain⟨r,h1,h2⟩:=self
          exact⟨r,List.mem_append.mpr (.inl h1),h2⟩
      ·refine hD _ _ (hnx _ _ ⟨rfl,l,_,_,rfl,B,hq,old fun z' e'=>?_⟩)
       rcases hz z' e' with rfl | rfl
       ·cases e:Cp l z' with
        | none=>rw [e] at c3; exact absurd rfl c3
        | some k=>exact⟨(z',k),Er e,rfl,B.top q hq _ (Er e)⟩
       ·exact self
     refine⟨_,AV (j:=0) rfl,_,hat,?_⟩
     show if (t.a==q.1)=true then _ else _
     refine CD (fun c3=>?_) fun c3=>?_
     ·have c3:t.a=q.1:=by simpa using c3
      refine⟨_,AV (j:=1) rfl,main t.b _ (fun _ _ h=>h) (.inl ⟨c3,rfl⟩) fun z' e'=>?_⟩
      rcases e' with ⟨_,e'⟩ | ⟨_,e'⟩
      ·exact .inl e'.symm
      ·exact .inr (e'.symm.trans c3)
     ·have c3:¬t.a=q.1:=by simpa using c3
      have c4:t.b=q.1:=by
       rcases (Bool.or_eq_true _ _).mp c2 with h | h
       ·exact absurd (by simpa using h) c3
       ·simpa using h
      refine⟨_,AV (j:=0) rfl,main t.a _ (fun _ _ h=>h) (.inr ⟨c4,rfl⟩) fun z' e'=>?_⟩
      rcases e' with ⟨e',_⟩ | ⟨_,e'⟩
      ·exact absurd e' c3
      ·exact .inl e'.symm
    ·refine hnx _ _ ⟨rfl,l,.sh (Ac t),s7,rfl,B,hq,old fun z e=>?_⟩
     exfalso
     apply c2
     rcases e with ⟨e,_⟩ | ⟨e,_⟩ <;> simp [e]
  ·have ha:l.length<=a:=by
    have:=of_decide_eq_false (Bool.eq_false_iff.mpr c)
    rw [List.length_map] at this
    omega
   refine⟨_,_,rfl,_,rfl,?_⟩
   show Pd ((BI (Kq l) (NP l) (.inr y)).getD .non) n'
   rw [LG]
   have:=p _ (B.stp ha y)
   cases e:Cp l y <;> rw [e] at this <;> exact this
 ·intro m ρ P Q hPQ w
  revert w
  unfold Aa AW AB
  split
  ·unfold Cr AC Ab AN
   have key:∀(d d':D),(Dl [d'] fun z=>EU d z fun z=>match z with | .bl b=>P b m | _=>False)->Dl [d'] fun z=>EU d z fun z=>match z with | .bl b=>Q b m | _=>False:=by
    rintro d d' ⟨e,k,h1,h2,h3⟩
    refine⟨e,k,h1,h2,?_⟩
    revert h3
    cases d <;> first | exact fun h=>hPQ _ _ h | exact fun h=>h
   split
   all_goals first | exact key _ _ | exact id
  ·exact id
theorem Us.cn{K:List A7}{x y:Str}{m:Nat}(h:Us K x y m):Cn K x y:=by
 induction h with
 | nil=>exact .refl
 | snoc _ ht e ih=>exact .step ih ⟨_,ht,e⟩
structure VB (N:Net) (pre:List D) (fs:List Nat):Prop where
 le:∀f∈fs,f<=61
 has:∀f∈fs,∃u∈N.ts,∃m,Us (N.ts.filter fun v=>decide (v≠u)) u.a u.b m/\f=m+1
 all:∀u,Ac u∈pre->∀m,Us (N.ts.filter fun v=>decide (v≠u)) u.a u.b m->∃f∈fs,f<=m+1
theorem Ow{N:Net}{u:A7}:(N.ts.map Ac).filter (fun d=>!GS d (Ac u))=(N.ts.filter fun v=>decide (v≠u)).map Ac:=by
 rw [List.filter_map]
 congr 1
 refine List.filter_congr fun v _=>?_
 show (!GS (Ac v) (Ac u))=decide (v≠u)
 rw [decide_not]
 congr 1
 rw [Bool.eq_iff_iff,C0,decide_eq_true_eq]
noncomputable def OK(k:Nat):D:=.int (k:Int)
theorem Fu(h:DR ss n Pd):DN (EE Pd) n (ss++List.replicate 3 .no):=by
 obtain⟨N,rfl,okn,p⟩:=h
 have ok:=okn.1
 have l60:=okn.2.2
 have szl:=PySem.sizeLine_eq
 unfold DN
 refine⟨z0,_,AV (j:=1) rfl,?_⟩
 refine Bm (all:=N.ts.map Ac) (fun pre m ρ=>m=n/\∃(fs:List Nat) (s2 s3:Slot),ρ=[.sh (Cb N),.ow (.lst (fs.map OK)),s2,s3]/\VB N pre fs/\fs.length<=pre.length) ?_ ?_ _ [] _ _ rfl ⟨rfl,[],_,_,rfl,⟨fun _ h=>(by cases h),fun _ h=>(by cases h),fun _ h=>(by cases h)⟩,Nat.le_refl _⟩
 ·rintro m ρ ⟨rfl,fs,s2,s3,rfl,F,hl⟩
  rw [List.length_map] at hl
  have hlay:Cz (.lst (fs.map OK)):=by
   refine DD (B:=61) (by decide) (fines_iff.mpr fun d hd=>?_) ?_
   ·obtain⟨f,hf,rfl⟩:=List.mem_map.mp hd
    show ((f:Int)).natAbs<=61
    have:=F.le f hf
    omega
   ·show G5 (fs.map OK)+1<=100
    have:G5 (fs.map OK)<=0:=dps_le.mpr fun d hd=>by
     obtain⟨k,_,rfl⟩:=List.mem_map.mp hd
     exact Nat.le_refl _
    omega
  refine⟨z0,hlay,DD (B:=0) (by decide) trivial (by decide),?_⟩
  show if (!(GS (.lst (fs.map OK)) (.lst [])))=true then _ else _
  cases fs with
  | nil =>
   refine FG ?_
   exact p none fun u hu k hk=>by
    obtain⟨f,hf,_⟩:=F.all u (List.mem_map.mpr ⟨u,hu,rfl⟩) k hk
    cases hf
  | cons f0 fs =>
   refine Jd ⟨_,(f0::fs).map (fun k:Nat=>(k:Int)),rfl,?_,by simp,fun mn hmn hle=>?_⟩
   ·exact Jy (fun k:Nat=>(k:Int)) (f0::fs)
   ·obtain⟨k,hk,rfl⟩:=List.mem_map.mp hmn
    refine p (some k) ⟨?_,fun u hu m hm=>?_⟩
    ·exact F.has k hk
    ·obtain⟨f,hf,h1⟩:=F.all u (List.mem_map.mpr ⟨u,hu,rfl⟩) m hm
     have:=hle (f:Int) (List.mem_map.mpr ⟨f,hf,rfl⟩)
     omega
 ·rintro pre d post m ρ nx hall ⟨rfl,fs,s2,s3,rfl,F,hl⟩ hnx
  have hpl:pre.length<N.ts.length:=by
   have:=congrArg List.length hall
   rw [List.length_map,List.length_append,List.length_cons] at this
   omega
  obtain⟨u,hu,rfl⟩:=List.mem_map.mp (show d∈N.ts.map Ac by rw [hall]; simp)
  have enc_inj:∀v,Ac v=Ac u->v=u:=fun v e=>(C0 v u).mp (by rw [e]; exact(C0 u u).mpr rfl)
  refine⟨_,AV (j:=1) rfl,by show (N.ts.map Ac).length<=10000000; rw [List.length_map]; omega,?_⟩
  refine DA (fun d=>!GS d (Ac u)) id (fun ρ=>∃s,ρ=[.sh (Ac u),s]) _ _ _ _ ?_ ⟨_,rfl⟩ ?_
  ·rintro d hd ρ m nx sk ⟨s,rfl⟩ h1 h2
   obtain⟨v,hv,rfl⟩:=List.mem_map.mp hd
   refine⟨IJ ok hv,IJ ok hu,?_⟩
   exact CD (fun c=>h1 _ ⟨_,rfl⟩ c) fun c=>h2 _ ⟨_,rfl⟩ (Bool.eq_false_iff.mpr c)
  rw [List.nil_append,List.map_id,Ow]
  have fl:∀t∈N.ts.filter (fun v=>decide (v≠u)),t∈N.ts:=fun t ht=>(List.mem_filter.mp ht).1
  refine⟨_,AV (j:=0) rfl,_,AV (j:=1) rfl,_,_,_,rfl,fun t ht=>⟨ok.names _ (ok.tin t (fl t ht)).1,ok.names _ (ok.tin t (fl t ht)).2.1⟩,ok.names _ (ok.tin u hu).1,Nat.le_trans (List.length_filter_le _ _) l60,fun o ho=>⟨rfl,?_⟩⟩
  cases o with
  | none =>
   refine FG (hnx _ _ ⟨rfl,fs,_,_,rfl,⟨F.le,F.has,fun v hv k hk=>?_⟩,by rw [List.length_append]; omega⟩)
   rcases List.mem_append.mp hv with hv | hv
   ·exact F.all v hv k hk
   ·rw [enc_inj v (List.mem_singleton.mp hv)] at hk
    exact absurd hk (ho k)
  | some k =>
   refine Jd ⟨_,rfl,rfl,_,_,rfl,rfl,by rw [List.length_map]; omega,hnx _ _ ⟨rfl,fs++[k+1],.sh (Ac u),.sh (optN (some k)),?_,⟨fun f hf=>?_,fun f hf=>?_,fun v hv j hj=>?_⟩,by rw [List.length_append,List.length_append]; exact Nat.add_le_add_right hl 1⟩⟩
   ·rw [List.map_append]; rfl
   ·rcases List.mem_append.mp hf with hf | hf
    ·exact F.le f hf
    ·rw [List.mem_singleton.mp hf]
     obtain⟨j,j1,j2⟩:=Cn.short _ (Nat.le_refl _) ho.1.cn
     have:=ho.2 j j2
     have:=Nat.le_trans (List.length_filter_le (fun v=>decide (v≠u)) N.ts) l60
     omega
   ·rcases List.mem_append.mp hf with hf | hf
    ·exact F.has f hf
    ·exact⟨u,hu,k,ho.1,List.mem_singleton.mp hf⟩
   ·rcases List.mem_append.mp hv with hv | hv
    ·obtain⟨f,h1,h2⟩:=F.all v hv j hj
     exact⟨f,List.mem_append.mpr (.inl h1),h2⟩
    ·rw [enc_inj v (List.mem_singleton.mp hv)] at hj
     exact⟨k+1,List.mem_append.mpr (.inr (List.mem_singleton.mpr rfl)),Nat.succ_le_succ (ho.2 j hj)⟩
theorem HR{N:Net}(ok:N.Ok){s t:A7}(hs:s∈N.ts)(ht:t∈N.ts)(ea:s.a=t.a)(eb:s.b=t.b):s=t:=by
 obtain⟨i,hi,rfl⟩:=List.getElem_of_mem hs
 obtain⟨j,hj,rfl⟩:=List.getElem_of_mem ht
 have pw:=List.pairwise_iff_getElem.mp ok.trise
 have irr:∀u v:A7,u.a=v.a->u.b=v.b->¬Ce u v:=by
  rintro u v e1 e2 (h | ⟨_,h⟩)
  ·rw [e1] at h; exact BH _ h
  ·rw [e2] at h; exact BH _ h
 rcases Nat.lt_trichotomy i j with l | l | l
 ·exact absurd (pw i j hi hj l) (irr _ _ ea eb)
 ·subst l; rfl
 ·exact absurd (pw j i hj hi l) (irr _ _ ea.symm eb.symm)
theorem Hm{N:Net}(okn:okN N){u:A7}(hu:u∈N.ts){x y:Str}{m:Nat}(h:Us (N.ts.filter fun v=>decide (v≠u)) x y m):∃d,Wk (Bc (alike N) (one u)) x y d/\d<=(m:Int):=by
 have h2:Us (Bc (alike N) (one u)).ts x y m:=by
  induction h with
  | nil=>exact .nil
  | snoc _ ht e ih =>
   rename_i t _
   obtain⟨h1,h2⟩:=List.mem_filter.mp ht
   have hne:t≠u:=of_decide_eq_true h2
   refine .snoc ih (t:=one t) (List.mem_filter.mpr ⟨List.mem_map.mpr ⟨t,h1,rfl⟩,decide_eq_true fun e=>hne ?_⟩) e
   have e:(⟨t.a,t.b,1⟩:A7)=⟨u.a,u.b,1⟩:=e
   injection e with e1 e2
   exact HR okn.1 h1 hu e1 e2
 obtain⟨d,h3,h4⟩:=Us.wk (N:=Bc (alike N) (one u)) (M:=1) (fun t ht=>⟨ht,by rw [CI.1 t ht]; exact Int.le_refl _⟩) h2
 exact⟨d,h3,by omega⟩
theorem LI{N:Net}(okn:okN N){u:A7}{x y:Str}{d:Int}(h:Wk (Bc (alike N) (one u)) x y d):∃m:Nat,(m:Int)=d/\Us (N.ts.filter fun v=>decide (v≠u)) x y m:=by
 obtain⟨m,e,h1⟩:=h.us (DK (Di okn) (one u)).1 CI.1
 exact⟨m,e,h1.ones CI.2⟩
theorem Ir{N:Net}(ok:N.Ok):∀{w:List Str} {d:Int},walk N w d->∀(i:Nat) (x y:Str),w[i]?=some x->w[i+1]?=some y->∃t∈N.ts,tj t x y
 | [_],_,_,i,x,y,_,h2=>by simp at h2
 | a::b::r,d,⟨l,e,he,hw,_⟩,i,x,y,h1,h2=>by
  cases i with
  | zero =>
   simp at h1 h2
   subst h1; subst h2
   obtain⟨t,ht,_,h3⟩:=he.tie ok
   exact⟨t,ht,h3⟩
  | succ i=>exact Ir ok hw i x y (by simpa using h1) (by simpa using h2)
theorem K6{K:List A7}{w:List Str}(h:∀(i:Nat) (x y:Str),w[i]?=some x->w[i+1]?=some y->∃t∈K,tj t x y):∀(k i:Nat) (x y:Str),w[i]?=some x->w[i+k]?=some y->Us K x y k
 | 0,i,x,y,h1,h2=>by rw [Nat.add_zero,h1] at h2; cases h2; exact .nil
 | k+1,i,x,y,h1,h2=>by
  have hl:=(List.getElem?_eq_some_iff.mp h2).1
  have hz:w[i+k]?=some w[i+k]:=List.getElem?_eq_getElem (by omega)
  obtain⟨t,ht,e⟩:=h (i+k) _ y hz h2
  exact .snoc (K6 h k i x _ h1 hz) ht e
theorem LH{K:List A7}{x y:Str}{n:Nat}(h:Us K x y n)(e:n=0):x=y:=by
 cases h with
 | nil=>rfl
 | snoc _ _ _=>cases e
theorem RN{K:List A7}{x y:Str}{n:Nat}(h:Us K x y n)(e:n=1):∃t∈K,tj t x y:=by
 cases h with
 | nil=>cases e
 | snoc hn ht q =>
  have:=LH hn (by omega)
  subst this
  exact⟨_,ht,q⟩
structure U6 (N:Net) (w:List Str):Prop where
 nd:w.Nodup
 three:3<=w.length
 ins:∀x∈w,x∈N.ps
 adj:∀(i:Nat) (x y:Str),w[i]?=some x->w[i+1]?=some y->∃t∈N.ts,tj t x y
 shut:∀(x y:Str),w.getLast?=some x->w[0]?=some y->∃t∈N.ts,tj t x y
theorem Nu{N:Net}(okn:okN N){o:Option (List Str)}(h:U5 N o)(f:Sx N N.ts none):o=none:=by
 cases o with
 | none=>rfl
 | some w =>
  obtain⟨u,hu,d,_,_,_,_,hl,_⟩:=h.1
  obtain⟨m,_,h2⟩:=LI okn hl.1
  exact absurd h2 (f u hu m)
theorem Nq{N:Net}(okn:okN N){o:Option (List Str)}{k:Nat}(h:U5 N o)(f:Sx N N.ts (some k)):∃w,o=some w/\w.length=k/\U6 N w:=by
 obtain⟨u0,hu0,m0,hm0,rfl⟩:=f.1
 cases o with
 | none =>
  obtain⟨d,hd,_⟩:=Hm okn hu0 hm0
  exact absurd hd (h u0 hu0 d)
 | some w =>
  obtain⟨u,hu,d,r,hr,hlast,hw,hl,h30,hps⟩:=h.1
  have okd:=(DK (Di okn) (one u)).1
  have hlen:=Fc okd CI.1 hw
  obtain⟨m,em,hm⟩:=LI okn hl.1
  have e1:w.length=m0+1:=by
   have:=f.2 u hu m hm
   obtain⟨d0,hd0,hle⟩:=Hm okn hu0 hm0
   have:=h.2 u0 hu0 d0 hd0
   omega
  have Jz:∀(i:Nat) (x y:Str),w[i]?=some x->w[i+1]?=some y->∃t∈N.ts.filter (fun v=>decide (v≠u)),tj t x y:=by
   intro i x y h1 h2
   obtain⟨t,ht,e⟩:=Ir okd hw i x y h1 h2
   obtain⟨v,hv,rfl⟩:=CI.2 t ht
   exact⟨v,hv,e⟩
  have h0:w[0]?=some u.a:=by rw [hr]; rfl
  have hlt:w[w.length - 1]?=some u.b:=by rw [← hlast,List.getLast?_eq_getElem?]
  refine⟨w,rfl,e1,?_,?_,hps,fun i x y h1 h2=>?_,fun x y h1 h2=>?_⟩
  ·show List.Pairwise _ _
   rw [List.pairwise_iff_getElem]
   intro i j hi hj hij e
   have a1:=K6 Jz i 0 u.a w[i] h0 (by rw [Nat.zero_add]; exact List.getElem?_eq_getElem hi)
   have a2:=K6 Jz (w.length - 1 - j) j w[j] u.b (List.getElem?_eq_getElem hj) (by rw [show j+(w.length - 1 - j)=w.length - 1 by omega]; exact hlt)
   rw [← e] at a2
   obtain⟨d2,hd2,hle⟩:=Hm okn hu (a1.cat a2)
   have:=hl.2 d2 hd2
   omega
  ·have lt:=(okn.1.tin u hu).2.2.1
   rcases Nat.lt_or_ge 2 w.length with z | z
   ·exact z
   ·exfalso
    have hm2:m<=1:=by omega
    rcases (show m=0\/m=1 by omega) with z | z
    ·have:=LH hm z
     rw [this] at lt
     exact BH _ lt
    ·obtain⟨t,ht,e⟩:=RN hm z
     obtain⟨g1,g2⟩:=List.mem_filter.mp ht
     rcases e with ⟨q1,q2⟩ | ⟨q1,q2⟩
     ·exact of_decide_eq_true g2 (HR okn.1 g1 hu q1 q2)
     ·have lt2:=(okn.1.tin t g1).2.2.1
      rw [q1,q2] at lt2
      exact BH _ (List.lt_trans lt lt2)
  ·obtain⟨t,ht,e⟩:=Jz i x y h1 h2
   exact⟨t,(List.mem_filter.mp ht).1,e⟩
  ·rw [hlast] at h1; rw [h0] at h2
   cases h1; cases h2
   exact⟨u,hu,.inr ⟨rfl,rfl⟩⟩
noncomputable def J_:D->D
 | .tup [a,b,_]=>.tup [a,b]
 | d=>d
theorem Kp{N:Net}(ok:N.Ok):Cz (.lst (N.ts.map (J_∘Ac))):=by
 refine DD (B:=0) (by decide) (fines_iff.mpr fun d hd=>?_) ?_
 ·obtain⟨t,ht,rfl⟩:=List.mem_map.mp hd
  have h1:=ok.names _ (ok.tin t ht).1
  have h2:=ok.names _ (ok.tin t ht).2.1
  exact⟨fun c hc=>by have:=h1.2.2 c hc; omega,fun c hc=>by have:=h2.2.2 c hc; omega,trivial⟩
 ·show G5 (N.ts.map (J_∘Ac))+1<=100
  have:G5 (N.ts.map (J_∘Ac))<=1:=dps_le.mpr fun d hd=>by
   obtain⟨k,_,rfl⟩:=List.mem_map.mp hd
   exact Nat.le_refl _
  omega
theorem Gy(h:Dk ss n Pd):Dt (EE Pd) n (ss++List.replicate 5 .no):=by
 obtain⟨N,rfl,okn,p⟩:=h
 have ok:=okn.1
 have l60:=okn.2.2
 have szl:=PySem.sizeLine_eq
 have hsh:LN (Cb N):=Nk okn
 unfold Dt
 refine⟨_,rfl,hsh,N,rfl,okn,fun o ho=>⟨N,rfl,okn,fun o2 ho2=>?_⟩⟩
 refine⟨rfl,?_⟩
 cases o2 with
 | none =>
  refine Jd ⟨rfl,?_⟩
  rw [Nu okn ho ho2]
  exact p
 | some k =>
  refine FG ?_
  obtain⟨w,rfl,hwl,hr⟩:=Nq okn ho ho2
  have hne:3<=w.length:=hr.three
  have hl:(w.map D.str).length=k:=by rw [List.length_map]; exact hwl
  have w30:w.length<=30:=by
   obtain⟨_,_,_,_,_,_,_,_,h30,_⟩:=ho.1
   exact h30
  refine⟨_,_,rfl,rfl,?_⟩
  show if (!(((w.map D.str).length:Int)==(k:Int)))=true then _ else _
  rw [hl,show (!((k:Int)==(k:Int)))=false by simp]
  refine FG ⟨w,rfl,by omega,?_⟩
  show if (!(((Cf w).length:Int)==(k:Int)))=true then _ else _
  rw [QZ w hr.nd,hwl,show (!((k:Int)==(k:Int)))=false by simp]
  refine FG ?_
  show if decide ((k:Int)<3)=true then _ else _
  rw [show decide ((k:Int)<3)=false from decide_eq_false (by omega)]
  refine FG ?_
  generalize htx:Hs (Cb N)=tx
  refine⟨_,AV (j:=1) rfl,by show (N.ts.map Ac).length<=10000000; rw [List.length_map]; omega,?_⟩
  refine Co J_ (fun ρ=>∃s0,ρ=[s0]) _ _ _ _ ?_ ⟨_,rfl⟩ ?_
  ·rintro d hd ρ m' nx' ⟨s0,rfl⟩ h1
   obtain⟨u,hu,rfl⟩:=List.mem_map.mp hd
   exact h1 _ ⟨_,rfl⟩
  rw [List.nil_append,List.map_map]
  refine⟨_,rfl,⟨by omega,by omega⟩,?_⟩
  refine Bm (all:=B7 0 (k:Int).toNat) (fun pre m ρ=>m=n/\∃s5,ρ=[.sh (Cb N),.sh (.str tx),.sh (.tup (w.map .str)),.sh (.int (k:Int)),.sh (.lst (N.ts.map (J_∘Ac))),s5]) ?_ ?_ _ [] _ _ rfl ⟨rfl,_,rfl⟩
  ·rintro m ρ ⟨rfl,s5,rfl⟩
   refine⟨_,rfl,hsh,?_⟩
   show Pd (.bl (Hs (Cb N)==tx)) m
   rw [htx,beq_self_eq_true]
   exact p
  ·rintro pre d post m ρ nx hall ⟨rfl,s5,rfl⟩ hnx
   obtain⟨rfl,hk⟩:=Ct hall
   generalize pre.length=i at hk ⊢
   have hi:i<w.length:=by omega
   obtain⟨x,y,hx,hy,t,ht,e⟩:∃x y,atI (w.map D.str) (0+(i:Int) - 1)=some (.str x)/\atI (w.map D.str) (0+(i:Int))=some (.str y)/\∃t∈N.ts,tj t x y:=by
    have hy:atI (w.map D.str) (0+(i:Int))=some (.str w[i]):=by
     rw [show (0+(i:Int))=((i:Nat):Int) by omega]
     exact AV (by rw [List.getElem?_map,List.getElem?_eq_getElem hi]; rfl)
    cases i with
    | zero =>
     have hn0:w≠[]:=fun z=>by rw [z] at hne; simp at hne
     refine⟨w.getLast hn0,w[0],?_,hy,hr.shut _ _ (List.getLast?_eq_some_getLast hn0) (List.getElem?_eq_getElem hi)⟩
     conv=>lhs; rw [← List.dropLast_concat_getLast hn0,List.map_append]
     exact Jx _ _
    | succ j =>
     refine⟨w[j],w[j+1],?_,hy,hr.adj j _ _ (List.getElem?_eq_getElem (by omega)) (List.getElem?_eq_getElem hi)⟩
     rw [show (0+((j+1:Nat):Int) - 1)=((j:Nat):Int) by omega]
     exact AV (by rw [List.getElem?_map,List.getElem?_eq_getElem (by omega)]; rfl)
   have lt:=(ok.tin t ht).2.2.1
   have mm:(if decide (y.cps.toList<x.cps.toList)=true then y else x)=t.a/\(if decide (x.cps.toList<y.cps.toList)=true then y else x)=t.b:=by
    rcases e with ⟨rfl,rfl⟩ | ⟨rfl,rfl⟩
    ·rw [show decide (t.b.cps.toList<t.a.cps.toList)=false from decide_eq_false (fun z=>BH _ (List.lt_trans lt z)),show decide (t.a.cps.toList<t.b.cps.toList)=true from decide_eq_true lt]
     exact⟨rfl,rfl⟩
    ·rw [show decide (t.b.cps.toList<t.a.cps.toList)=false from decide_eq_false (fun z=>BH _ (List.lt_trans lt z)),show decide (t.a.cps.toList<t.b.cps.toList)=true from decide_eq_true lt]
     exact⟨rfl,rfl⟩
   have hN:isN t.a/\isN t.b:=⟨ok.names _ (ok.tin t ht).1,ok.names _ (ok.tin t ht).2.1⟩
   refine⟨_,hx,_,hy,x,y,rfl,_,hx,_,hy,x,y,rfl,z2,?_⟩
   rw [mm.1,mm.2]
   refine⟨JY hN,Kp ok,_,rfl,?_⟩
   show if (!((N.ts.map (J_∘Ac)).any fun u=>GS u (.tup [.str t.a,.str t.b])))=true then _ else _
   rw [show ((N.ts.map (J_∘Ac)).any fun u=>GS u (.tup [.str t.a,.str t.b]))=true from List.any_eq_true.mpr ⟨.tup [.str t.a,.str t.b],List.mem_map.mpr ⟨t,ht,rfl⟩,Ot (ps:=[t.a,t.b]) |>.mpr rfl⟩]
   exact FG (hnx _ _ ⟨rfl,_,rfl⟩)
noncomputable def Ip(p:Str×Str):D:=.tup [.str p.1,.str p.2]
theorem Mo{ls:List Str}(h:∀x∈ls,isN x):Cz (.lst (ls.map .str)):=by
 refine DD (B:=0) (by decide) (fines_iff.mpr fun d hd=>?_) ?_
 ·obtain⟨x,hx,rfl⟩:=List.mem_map.mp hd
  exact fun c hc=>by have:=(h x hx).2.2 c hc; omega
 ·show G5 (ls.map D.str)+1<=100
  have:G5 (ls.map D.str)<=0:=dps_le.mpr fun d hd=>by
   obtain⟨k,_,rfl⟩:=List.mem_map.mp hd
   exact Nat.le_refl _
  omega
theorem FS{P:Str×Str->Prop}:∀{L:List D},(∀d∈L,∃p,Ip p=d/\P p)->∃ps:List (Str×Str),ps.map Ip=L/\∀p∈ps,P p
 | [],_=>⟨[],rfl,fun p h=>by cases h⟩
 | d::L,h=>by
  obtain⟨p,e,hp⟩:=h d List.mem_cons_self
  obtain⟨ps,e2,hps⟩:=FS (P:=P) (L:=L) fun d hd=>h d (List.mem_cons_of_mem _ hd)
  refine⟨p::ps,by rw [List.map_cons,e,e2],fun q hq=>?_⟩
  rcases List.mem_cons.mp hq with rfl | hq
  ·exact hp
  ·exact hps q hq
theorem O4{α:Type}{L:List α}{lo hi:Option Int}{x:α}(h:x∈Dp.cutD L lo hi):x∈L:=List.mem_of_mem_drop (List.mem_of_mem_take h)
theorem Qb{α:Type}(L:List α)(lo hi:Option Int):(Dp.cutD L lo hi).length<=L.length:=by
 unfold Dp.cutD
 rw [List.length_take,List.length_drop]
 omega
noncomputable def Jz(rs:List Str):D->D
 | .int k=>.tup [(atI (rs.map D.str) (k - 1)).getD .non,(atI (rs.map D.str) k).getD .non]
 | d=>d
theorem PC(rs:List Str)(k:Int):Jz rs (.int k)=.tup [(atI (rs.map D.str) (k - 1)).getD .non,(atI (rs.map D.str) k).getD .non]:=rfl
theorem GC{α β:Type}(f:α->β):∀(l:List α) (k:Nat),(l.eraseIdx k).map f=(l.map f).eraseIdx k
 | [],k=>by simp
 | a::l,0=>rfl
 | a::l,k+1=>by
  show f a::(l.eraseIdx k).map f=f a::(l.map f).eraseIdx k
  rw [GC f l k]
noncomputable def Ii:D->Bool
 | .tup [.str x,.str y]=>!(x==y)
 | _=>false
noncomputable def Uk:D->D
 | .tup [.str x,.str y]=>.tup [.str (if decide (y.cps.toList<x.cps.toList)=true then y else x),.str (if decide (x.cps.toList<y.cps.toList)=true then y else x)]
 | d=>d
theorem Kz(x y:Str):cs x<cs y\/x=y\/cs y<cs x:=by
 by_cases h1:cs x<cs y
 ·exact .inl h1
 ·by_cases h2:cs y<cs x
  ·exact .inr (.inr h2)
  ·refine .inr (.inl ?_)
   have:=HH (.inr x) (.inr y) (decide_eq_false h1) (decide_eq_false h2)
   exact Sum.inr.inj this
theorem Fi{P:List D->Nat->Prop}:∀(qs:List (Str×Str)) (acc:List D) (m:Nat) (s1 s2:Slot),qs.length<=m ->
  (∀(us:List A7) (m':Nat),us.map (fun t=>(t.a,t.b))=qs->(∀t∈us,1<=t.len/\t.len<=1000000)->m - qs.length<=m'->P (acc++us.map Ac) m') ->
  CL (K3 2 (Bs (Ao 1) (Bs (Ao 2) Gd))) Cs (CB (AC (AB 1) (AC (AB 2) (AC (AX Io (AD (Au 0) (AD (AT (wC (D.int 1))) AZ))) AN)))) P (qs.map Ip) acc m [.fd,s1,s2]
 | [],acc,m,s1,s2,_,h=>by
  have:=h [] m rfl (fun t ht=>by cases ht) (Nat.sub_le _ _)
  rw [List.map_nil,List.append_nil] at this
  exact this
 | q::qs,acc,m,s1,s2,hm,h=>by
  rw [List.length_cons] at hm
  refine⟨rfl,by decide,_,rfl,by omega,fun r r1 r2=>⟨z3,?_⟩⟩
  refine Fi qs _ (m - 1) _ _ (by omega) fun us m' e hus hm'=>?_
  have:=h (⟨q.1,q.2,r⟩::us) m' (by rw [List.map_cons,e]) (fun t ht=>?_) (by rw [List.length_cons]; omega)
  ·rw [List.append_assoc]; exact this
  ·rcases List.mem_cons.mp ht with rfl | ht
   ·exact⟨r1,r2⟩
   ·exact hus t ht
theorem Gu{xs:List Str}{ps:List (Str×Str)}{m:Nat}{s2 s3 s5:Slot}(hx:∀x∈xs,isN x)(hr:rising xs)(h25:xs.length<=25)(hps:∀p∈ps,p.1∈xs/\p.2∈xs)(h18:ps.length<=18)(hm:18<=m)
  (p:∀(N:Net) (n':Nat),okN N->m - 18<=n'->Pd (Cb N) n') :
  AU (A4 6 (Fd (Bu [none] (Bv (Ab 4)) (Ao 0) (Aa (AW (J5 true) (AW B9 (AB 0) (wC (D.int 0))) (AW B9 (AB 0) (wC (D.int 1)))))
         (CB (AC (Cr Om (AC (AB 0) AN)) (AC (Cr Oo (AC (AB 0) AN)) AN))))))
      (Bt (CB (AC (Cr CF (AC (AB 1) AN)) (AC (Cr CF (AC (Bu [some 0,none,none] (Bv (AB 6))
             (K3 2 (Bs (Ao 1) (Bs (Ao 2) Gd))) Cs
             (CB (AC (AB 1) (AC (AB 2) (AC (AX Io (AD (Au 0) (AD (AT (wC (D.int 1))) AZ))) AN)))))
            AN)) AN)))) (EE Pd) m [.fd,.sh (.lst (xs.map .str)),s2,s3,.ow (.lst (ps.map Ip)),s5,.no]:=by
 have szl:=PySem.sizeLine_eq
 refine⟨by show (ps.map Ip).length<=10000000; rw [List.length_map]; omega,?_⟩
 refine DA Ii Uk (fun ρ=>∃s,ρ=[s]) _ _ _ _ ?_ ⟨_,rfl⟩ ?_
 ·rintro d hd ρ m' nx sk ⟨s,rfl⟩ h1 h2
  obtain⟨q,hq,rfl⟩:=List.mem_map.mp hd
  refine⟨_,AV (j:=0) rfl,_,AV (j:=1) rfl,?_⟩
  refine CD (fun c=>?_) fun c=>h2 _ ⟨_,rfl⟩ (Bool.eq_false_iff.mpr c)
  exact⟨q.1,q.2,rfl,q.1,q.2,rfl,z2,h1 _ ⟨_,rfl⟩ c⟩
 rw [List.nil_append]
 have hL:∀d∈((ps.map Ip).filter Ii).map Uk,∃q:Str×Str,Ip q=d/\q.1∈xs/\q.2∈xs/\cs q.1<cs q.2:=by
  intro d hd
  obtain⟨d1,hd1,rfl⟩:=List.mem_map.mp hd
  obtain⟨hd2,hd3⟩:=List.mem_filter.mp hd1
  obtain⟨q,hq,rfl⟩:=List.mem_map.mp hd2
  obtain⟨i1,i2⟩:=hps q hq
  have hne:q.1≠q.2:=by
   have:(!(q.1==q.2))=true:=hd3
   simpa using this
  rcases Kz q.1 q.2 with l | l | l
  ·refine⟨(q.1,q.2),?_,i1,i2,l⟩
   show Ip (q.1,q.2)=.tup [.str (if decide (q.2.cps.toList<q.1.cps.toList)=true then q.2 else q.1),.str (if decide (q.1.cps.toList<q.2.cps.toList)=true then q.2 else q.1)]
   rw [show decide (q.2.cps.toList<q.1.cps.toList)=false from decide_eq_false (fun z=>BH _ (List.lt_trans l z)),show decide (q.1.cps.toList<q.2.cps.toList)=true from decide_eq_true l]
   rfl
  ·exact absurd l hne
  ·refine⟨(q.2,q.1),?_,i2,i1,l⟩
   show Ip (q.2,q.1)=.tup [.str (if decide (q.2.cps.toList<q.1.cps.toList)=true then q.2 else q.1),.str (if decide (q.1.cps.toList<q.2.cps.toList)=true then q.2 else q.1)]
   rw [show decide (q.1.cps.toList<q.2.cps.toList)=false from decide_eq_false (fun z=>BH _ (List.lt_trans l z)),show decide (q.2.cps.toList<q.1.cps.toList)=true from decide_eq_true l]
   rfl
 have kk:∀q:Str×Str,A0 (Ip q)=some [.inr q.1,.inr q.2]:=fun q=>rfl
 refine⟨_,rfl,?_,⟨fun d hd=>?_,fun d hd e he ka kb ea eb=>?_⟩,fun d hd=>?_,fun ys y1 y2 y3 y4=>?_⟩
 ·rw [List.length_map]
  exact Nat.le_trans (List.length_filter_le _ _) (by rw [List.length_map]; exact h18)
 ·obtain⟨q,rfl,_⟩:=hL d hd
  exact⟨_,kk q,by simp⟩
 ·obtain⟨q,rfl,_⟩:=hL d hd
  obtain⟨q',rfl,_⟩:=hL e he
  rw [kk] at ea eb
  cases ea; cases eb
  rfl
 ·obtain⟨q,rfl,_⟩:=hL d hd
  exact⟨_,_,kk q⟩
 obtain⟨qs,rfl,hqs⟩:=FS (P:=fun q=>q.1∈xs/\q.2∈xs/\cs q.1<cs q.2) fun d hd=>hL d (y1 d hd)
 have hq18:qs.length<=18:=by
  have h1:=St.nd_len y2 (m:=(((ps.map Ip).filter Ii).map Uk).map A0) (fun k hk=>by
   obtain⟨d,hd,rfl⟩:=List.mem_map.mp hk
   exact List.mem_map.mpr ⟨d,y1 d hd,rfl⟩)
  rw [List.length_map,List.length_map,List.length_map,List.length_map] at h1
  have h2:=List.length_filter_le Ii (ps.map Ip)
  rw [List.length_map] at h2
  omega
 have hup:qs.Pairwise fun a b=>cs a.1<cs b.1\/(a.1=b.1/\cs a.2<cs b.2):=by
  have y2:List.Pairwise (·≠·) ((qs.map Ip).map A0):=y2
  have y4:List.Pairwise _ (qs.map Ip):=y4
  rw [List.pairwise_map,List.pairwise_map] at y2
  rw [List.pairwise_map] at y4
  refine(y2.and y4).imp ?_
  rintro a b ⟨h1,h2⟩
  have h2:=h2 _ _ (kk a) (kk b)
  rw [kk,kk] at h1
  have h2:(if (Sum.inr b.1:Key)=.inr a.1 then (if (Sum.inr b.2:Key)=.inr a.2 then false else decide (b.2.cps.toList<a.2.cps.toList)) else decide (b.1.cps.toList<a.1.cps.toList))=false:=h2
  by_cases e1:b.1=a.1
  ·rw [if_pos (by rw [e1])] at h2
   by_cases e2:b.2=a.2
   ·exact absurd (by rw [e1,e2]) h1
   ·rw [if_neg (fun z=>e2 (Sum.inr.inj z))] at h2
    refine .inr ⟨e1.symm,?_⟩
    rcases Kz a.2 b.2 with l | l | l
    ·exact l
    ·exact absurd l.symm e2
    ·exact absurd l (of_decide_eq_false h2)
  ·rw [if_neg (fun z=>e1 (Sum.inr.inj z))] at h2
   left
   rcases Kz a.1 b.1 with l | l | l
   ·exact l
   ·exact absurd l.symm e1
   ·exact absurd l (of_decide_eq_false h2)
 refine⟨by show (qs.map Ip).length<=10000000; rw [List.length_map]; omega,?_⟩
 refine Fi qs [] m _ _ (by omega) fun us m' e hus hm'=>⟨z2,?_⟩
 have hul:us.length=qs.length:=by rw [← e,List.length_map]
 refine p ⟨xs,us⟩ m' ⟨⟨hx,hr,fun t ht=>?_,?_⟩,h25,by show us.length<=60; omega⟩ (by omega)
 ·obtain⟨a1,a2,a3⟩:=hqs (t.a,t.b) (by rw [← e]; exact List.mem_map.mpr ⟨t,ht,rfl⟩)
  exact⟨a1,a2,a3,hus t ht⟩
 ·rw [← e,List.pairwise_map] at hup
  exact hup
theorem Hz(h:Gk ss n Pd):Ee (EE Pd) n (ss++List.replicate 6 .no):=by
 obtain⟨rfl,hn,p⟩:=h
 have szl:=PySem.sizeLine_eq
 unfold Ee
 refine⟨_,rfl,by decide,by decide,by omega,fun r h0 h1=>?_⟩
 refine⟨(3+r).toNat,by rw [show (((3+r).toNat:Nat):Int)=3+r by omega],by omega,by omega,by omega,fun xs n1 hl hx hr hn1=>?_⟩
 refine⟨z0,?_⟩
 show C7 _ _ _ n1 [.fd,.sh (.lst (xs.map .str)),.ow (.lst (xs.map .str)),.ow (.lst []),.no,.no,.no]
 refine DV (fun m n' ρ=>∃ls rs:List Str,ρ=[.fd,.sh (.lst (xs.map .str)),.ow (.lst (ls.map .str)),.ow (.lst (rs.map .str)),.no,.no,.no]/\m=ls.length/\(rs++ls).Perm xs/\n1 - rs.length<=n') xs.length ⟨xs,[],rfl,rfl,List.Perm.refl _,by simp⟩ ?_ ?_
 ·rintro m n' ρ N' ⟨ls,rs,rfl,rfl,hp,hm⟩ hN
  have hlen:rs.length+ls.length=xs.length:=by have:=hp.length_eq; rw [List.length_append] at this; exact this
  have inX:∀x∈ls,isN x:=fun x hxx=>hx x (hp.mem_iff.mp (List.mem_append.mpr (.inr hxx)))
  have hlay:Cz (.lst (ls.map .str)):=Mo inX
  refine⟨z0,hlay,DD (B:=0) (by decide) trivial (by decide),?_⟩
  show if (!(GS (.lst (ls.map .str)) (.lst [])))=true then _ else _
  cases ls with
  | nil =>
   refine FG ?_
   rw [List.append_nil] at hp
   have hlr:rs.length=xs.length:=hp.length_eq
   have hin:∀(j:Int) (d:D),atI (rs.map D.str) j=some d->∃x∈xs,d=.str x:=by
    intro j d hd
    obtain⟨i,_,h2,_⟩:=Fa hd
    obtain⟨x,hx',rfl⟩:=List.mem_map.mp (List.mem_of_getElem? h2)
    exact⟨x,hp.mem_iff.mp hx',rfl⟩
   have rl:(rs.map D.str).length=xs.length:=by rw [List.length_map,hlr]
   have hat:∀j:Int,-1<=j->j<(rs.length:Int)->∃d,atI (rs.map D.str) j=some d:=by
    intro j h1 h2
    rcases Int.lt_or_le j 0 with z | z
    ·have hj:j=-1:=by omega
     subst hj
     have hn0:rs≠[]:=fun z=>by rw [z] at hlr; simp at hlr; omega
     refine⟨.str (rs.getLast hn0),?_⟩
     conv=>lhs; rw [← List.dropLast_concat_getLast hn0,List.map_append]
     exact Jx _ _
    ·exact⟨_,O_ (k:=j.toNat) (by omega) (by rw [List.length_map]; omega)⟩
   refine⟨_,_,rfl,rfl,_,rfl,⟨by omega,by omega⟩,by rw [BA]; omega,?_⟩
   refine Co (Jz rs) (fun ρ=>∃s1,ρ=[.br (.lst (rs.map .str)),s1]) _ _ _ _ ?_ ⟨_,rfl⟩ ?_
   ·rintro d hd ρ m' nx' ⟨s1,rfl⟩ hnx
    obtain⟨pre,post,hall⟩:=List.append_of_mem hd
    obtain⟨rfl,hk⟩:=Ct hall
    generalize pre.length=i at hk hnx ⊢
    have hi:i<rs.length:=by rw [List.length_map] at hk; omega
    obtain⟨x,ex⟩:=hat (0+(i:Int) - 1) (by omega) (by omega)
    obtain⟨y,ey⟩:=hat (0+(i:Int)) (by omega) (by omega)
    have:=hnx [.br (.lst (rs.map .str)),.sh (.int (0+(i:Int)))] ⟨_,rfl⟩
    rw [show Jz rs (.int (0+(i:Int)))=.tup [x,y] by rw [PC,ex,ey]; rfl] at this
    exact⟨x,ex,y,ey,z2,this⟩
   rw [List.nil_append]
   obtain⟨ps,eps,hps⟩:=FS (P:=fun p=>p.1∈xs/\p.2∈xs) (L:=(B7 0 (((rs.map D.str).length:Int)).toNat).map (Jz rs)) (by
    intro d hd
    obtain⟨d0,hd0,rfl⟩:=List.mem_map.mp hd
    obtain⟨pre,post,hall⟩:=List.append_of_mem hd0
    obtain⟨rfl,hk⟩:=Ct hall
    have hi:pre.length<rs.length:=by rw [List.length_map] at hk; omega
    obtain⟨x,ex⟩:=hat (0+(pre.length:Int) - 1) (by omega) (by omega)
    obtain⟨y,ey⟩:=hat (0+(pre.length:Int)) (by omega) (by omega)
    obtain⟨x',hx',rfl⟩:=hin _ _ ex
    obtain⟨y',hy',rfl⟩:=hin _ _ ey
    refine⟨(x',y'),?_,hx',hy'⟩
    rw [PC,ex,ey]; rfl)
   have epl:ps.length=xs.length:=by
    have:=congrArg List.length eps
    rw [List.length_map,List.length_map,BA] at this
    omega
   rw [← eps]
   refine⟨_,rfl,by decide,by decide,by omega,fun q q0 q1=>⟨⟨by decide,by decide⟩,?_⟩⟩
   obtain⟨ps1,eps1,hps1⟩:=FS (P:=fun p=>p.1∈xs/\p.2∈xs) (L:=Dp.cutD (ps.map Ip) (some (q / 2)) none) (by
    intro d hd
    obtain⟨p,hp,rfl⟩:=List.mem_map.mp (O4 hd)
    exact⟨p,rfl,hps p hp⟩)
   have l1:ps1.length<=xs.length:=by
    have:=congrArg List.length eps1
    have h2:=Qb (ps.map Ip) (some (q / 2)) none
    rw [List.length_map] at this h2
    omega
   refine⟨_,rfl,by decide,by decide,by omega,fun q4 q40 q41=>⟨_,rfl,⟨by omega,by omega⟩,?_⟩⟩
   refine Bm (all:=B7 0 q4.toNat) (fun pre m ρ=>n' - 2 - 2*pre.length<=m/\∃(ps:List (Str×Str)) (s5:Slot),ρ=[.fd,.sh (.lst (xs.map .str)),.ow (.lst []),.ow (.lst (rs.map .str)),.ow (.lst (ps.map Ip)),s5,.no]/\(∀p∈ps,p.1∈xs/\p.2∈xs)/\ps.length<=xs.length+pre.length) ?_ ?_ _ [] _ _ rfl ⟨by simp; omega,ps1,.no,by rw [eps1]; rfl,hps1,by simpa using l1⟩
   ·rintro m ρ ⟨hm2,ps,s5,rfl,hps,hpl⟩
    rw [BA] at hm2 hpl
    exact Gu hx hr (by omega) hps (by omega) (by omega) fun N k okn hk=>p N k okn (by omega)
   ·rintro pre d post m ρ nx hall ⟨hm2,ps,s5,rfl,hps,hpl⟩ hnx
    have hpre:pre.length<4:=by
     obtain⟨_,hk⟩:=Ct hall
     omega
    refine⟨_,rfl,rfl,_,_,rfl,rfl,_,rfl,by omega,by omega,by omega,fun a a0 a1=>?_⟩
    obtain⟨x,ex⟩:=hat a (by omega) (by rw [rl] at a1; omega)
    refine⟨x,ex,_,_,rfl,rfl,_,rfl,by omega,by omega,by omega,fun b b0 b1=>?_⟩
    obtain⟨y,ey⟩:=hat b (by omega) (by rw [rl] at b1; omega)
    obtain⟨x',hx',rfl⟩:=hin _ _ ex
    obtain⟨y',hy',rfl⟩:=hin _ _ ey
    refine⟨_,ey,z2,_,_,rfl,rfl,by rw [List.length_map]; omega,hnx _ _ ⟨by rw [List.length_append,List.length_singleton]; omega,ps++[(x',y')],_,by rw [List.map_append]; rfl,fun p hp=>?_,by rw [List.length_append,List.length_append,List.length_singleton,List.length_singleton]; omega⟩⟩
    rcases List.mem_append.mp hp with hp | hp
    ·exact hps p hp
    ·rw [List.mem_singleton.mp hp]; exact⟨hx',hy'⟩
  | cons l0 ls =>
   refine Jd ?_
   have ll:(List.map D.str (l0::ls)).length=ls.length+1:=by rw [List.length_map,List.length_cons]
   rw [List.length_cons] at hlen
   refine⟨_,_,by decide,rfl,rfl,_,_,rfl,rfl,_,rfl,by omega,by omega,by omega,fun q q0 q1=>?_⟩
   obtain⟨k,rfl⟩:∃k:Nat,q=(k:Int):=⟨q.toNat,by omega⟩
   have hk:k<(l0::ls).length:=by rw [List.length_cons]; omega
   have hg:(l0::ls)[k]?=some (l0::ls)[k]:=List.getElem?_eq_getElem hk
   refine⟨k,.str (l0::ls)[k],rfl,by rw [List.getElem?_map,hg]; rfl,by omega,by rw [List.length_map]; omega,?_⟩
   refine hN ((l0::ls).eraseIdx k).length _ _ (by rw [List.length_eraseIdx_of_lt hk,List.length_cons]; omega) ⟨(l0::ls).eraseIdx k,rs++[(l0::ls)[k]],?_,rfl,?_,by rw [List.length_append,List.length_singleton]; omega⟩
   ·rw [GC,List.map_append]; rfl
   ·rw [List.append_assoc]
    exact(List.Perm.append_left rs (St.era_perm hg)).trans hp
 ·intro m ρ P Q hPQ w
  revert w
  unfold Aa AW Ab
  split
  all_goals first | exact id | (rintro ⟨a,b,c,d⟩; exact⟨a,b,c,hPQ _ _ d⟩)
end
section
theorem KU:Hi { nx:=fun _ _=>False,rt:=fun d _=>d=.bl true } 9000 (.no::.fd::List.replicate 1 .no):=by
 unfold Hi
 refine⟨_,rfl,⟨by decide,by decide⟩,?_⟩
 refine HI (fun k m ρ=>2200*k<=m/\∃s2,ρ=[.no,.fd,s2]) ?_ _ _ _ ?_ ⟨by rw [BA]; decide,_,rfl⟩
 ·rintro m ρ ⟨_,s2,rfl⟩
  refine⟨z0,z0,z2,⟨[],[]⟩,rfl,⟨⟨fun _ h=>(by cases h),List.Pairwise.nil,fun _ h=>(by cases h),List.Pairwise.nil⟩,by decide,by decide⟩,fun o ho=>⟨rfl,?_⟩⟩
  cases o with
  | none=>rfl
  | some w =>
   obtain⟨u,hu,_⟩:=ho.1
   cases hu
 ·rintro k d m ρ nx hd ⟨hm,s2,rfl⟩ hnx
  refine⟨8,14,rfl,by decide,by decide,by omega,fun N1 n1 ok1 l1 l2 l3 hn1=>?_⟩
  refine⟨N1,rfl,⟨ok1,by omega,by omega⟩,?_⟩
  refine⟨rfl,by omega,fun N2 n2 okn2 hn2=>⟨N2,rfl,okn2,?_⟩⟩
  exact hnx _ _ ⟨by omega,_,rfl⟩
end
end Nt
namespace K08
open PySem PySem.Spec PyProof.Rows L2 Dp Nt
section
variable {P:Program}{w:World}{K:Frag}{mg:Str->Option Value}{base:Heap}
theorem sc_steps_of:Ar ["net","steps","place","a","b","length"] ["net"] (AH Bx):=⟨rfl,rfl,rfl,by decide +kernel,rfl,by decide +kernel,by decide +kernel⟩
theorem JO{f:Addr}{fd:FuncData}(F:Fun K "steps_of" "steps_of" Bx f fd):Bi P w K mg base Dw 1 f fd ["net"] (HA K .sh Im 1):=by
 refine F.ok (k:=0) sc_steps_of (fun vs H Q E h=>h.1) (fun cdv A outer s H vs Q E hr h=>?_)
 obtain⟨hl,F0,U,V',M,n,ss,Pd,ra,⟨N,rfl,ok,lp,lt,p⟩,q⟩:=h
 obtain⟨dom,fU,uV,vM,fd0,pa⟩:=ra
 cases pa with
 | cons r1 pa =>
 cases pa
 obtain⟨v,e1,h1⟩:=r1.1
 cases e1
 obtain⟨an,vs,rfl,hn,v1,r,rfl,hp,v2,r2,rfl,ht,e2⟩:=h1
 cases (show r2=[] from e2)
 obtain⟨ap,us,rfl,hpn,hps⟩:=hp
 obtain⟨at_,ws,rfl,htn,hts⟩:=ht
 have nd:=sc_steps_of.nd
 have hu:=Jh hr
 have szl:=PySem.sizeLine_eq
 have lus:us.length=N.ps.length:=by rw [hps.length,List.length_map]
 have lws:ws.length=N.ts.length:=by rw [hts.length,List.length_map]
 refine⟨_,A1 (C_ (i:=1) nd rfl (Or.inl rfl) JL)
  (A1 (IA PassesOwn.never rfl (OC (C6 ix_tup (pv 0) Ag (fun _ _=>rfl))) (EM (i:=2) nd rfl (Or.inl rfl)) (CZ (FR hu (pv 1) (pv 2) JL rfl)))
  (A1 (IA PassesOwn.never rfl (OC (C6 ix_tup (pv 0) Ag (fun _ _=>rfl))) (OE rfl (EL (EM (i:=3) nd rfl (Or.inl rfl)) (EL (EM (i:=4) nd rfl (Or.inl rfl)) (EL (EM (i:=5) nd rfl (Or.inl rfl)) LZ))))
   (A1 (FR hu (IC hu (pv 1) (pv 3) (fun _ _=>rfl)) (pv 4) (pv 5) rfl) (CZ (FR hu (IC hu (pv 1) (pv 4) (fun _ _=>rfl)) (pv 3) (pv 5) rfl))))
  (CZ (Dy (Rv (pv 1)))))),?_⟩
 refine fun d hd=>?_
 have old0:∀b o,H b=some o->Ax H d (.dK []) b=some o:=fun b o e=>by rw [AI (Ay e hd)]; exact e
 have SqN:∀H':Hp,(∀b o,H b=some o->H' b=some o)->SqT K H' an [.ref ap,.ref at_]:=fun H' o=>SqT.of (o _ _ hn.2)
 have SqP:∀H':Hp,(∀b o,H b=some o->H' b=some o)->SqT K H' ap us:=fun H' o=>SqT.of (o _ _ hpn.2)
 have SqW:∀H':Hp,(∀b o,H b=some o->H' b=some o)->SqT K H' at_ ws:=fun H' o=>SqT.of (o _ _ htn.2)
 refine⟨_,rfl,an,_,0,_,rfl,rfl,SqN _ old0,rfl,ap,rfl,⟨_,SqP _ old0⟩,?_⟩
 refine Lo (xs:=us) (fun i σ H'=>∃(as:List (Str×Addr)) (x2 x3 x4 x5:Option V),σ=[some (.ref an),some (.ref d),x2,x3,x4,x5]/\as.map (·.1)=N.ps.take i/\Stp H d as (fun _=>[]) H') ?_ (fun i σ H' hi ⟨as,x2,x3,x4,x5,e,hm,st⟩=>SqP _ st.old) ?_ ?_
 ·exact⟨[],_,_,_,_,rfl,rfl,old0,hd,AM,(fun x hx=>by cases hx),List.nodup_nil,List.nodup_nil⟩
 ·rintro i x σ H' hx ⟨as,x2,x3,x4,x5,rfl,hm,st⟩
  have hi:i<N.ps.length:=by rw [← lus]; exact(List.getElem?_eq_some_iff.mp hx).1
  obtain⟨x',hx',hAt⟩:=hps.get (i:=i) (d:=.str N.ps[i]) (by rw [List.getElem?_map,List.getElem?_eq_getElem hi]; rfl)
  rw [hx] at hx'
  cases hx'
  obtain⟨rfl,_⟩:=hAt
  intro q hq
  have las:as.length<=i:=by have:=congrArg List.length hm; rw [List.length_map,List.length_take] at this; omega
  have nq:d≠q:=fun e=>by rw [← e,st.top] at hq; cases hq
  have las2:(as.map fun x=>((.inr x.1:Key),V.ref x.2)).length=as.length:=List.length_map ..
  refine⟨_,rfl,_,rfl,d,_,rfl,DPut.k (k:=.inr N.ps[i]) (by rw [AI nq]; exact st.top) (by omega),?_⟩
  refine⟨as++[(N.ps[i],q)],_,_,_,_,rfl,?_,st.more hq ?_ rfl⟩
  ·rw [List.map_append,hm,List.take_succ,List.getElem?_eq_getElem hi]; rfl
  ·rw [hm]; exact Kj (Hw ok.rise) hi
 ·rintro σ H' ⟨as,x2,x3,x4,x5,rfl,hm,st⟩
  rw [lus,List.take_length] at hm
  refine⟨_,rfl,an,_,1,_,rfl,rfl,SqN _ st.old,rfl,at_,rfl,⟨_,SqW _ st.old⟩,?_⟩
  refine Lo (xs:=ws) (fun i σ H'=>∃(x2 x3 x4 x5:Option V),σ=[some (.ref an),some (.ref d),x2,x3,x4,x5]/\Stp H d as (fun p=>(D_ (N.ts.take i) p).map kv) H') ⟨_,_,_,_,rfl,st⟩ (fun i σ H' hi ⟨x2,x3,x4,x5,e,st⟩=>SqW _ st.old) ?_ ?_
  ·rintro i x σ H' hx ⟨x2,x3,x4,x5,rfl,st⟩
   have hi:i<N.ts.length:=by rw [← lws]; exact(List.getElem?_eq_some_iff.mp hx).1
   obtain⟨x',hx',hAt⟩:=hts.get (i:=i) (d:=Ac N.ts[i]) (by rw [List.getElem?_map,List.getElem?_eq_getElem hi]; rfl)
   rw [hx] at hx'
   cases hx'
   have hmem:N.ts[i]∈N.ts:=List.getElem_mem hi
   have hsnoc:N.ts.take (i+1)=N.ts.take i++[N.ts[i]]:=by rw [List.take_succ,List.getElem?_eq_getElem hi]; rfl
   have hpre:(N.ts.take (i+1)).Pairwise Ce:=ok.trise.sublist (List.take_sublist _ _)
   have hlt2:∀s∈N.ts.take (i+1),cs s.a<cs s.b:=fun s hs=>(ok.tin s (List.mem_of_mem_take hs)).2.2.1
   rw [hsnoc] at hpre hlt2
   have new:=Ov hpre hlt2
   have ltk:(N.ts.take i).length<=1000:=by rw [List.length_take]; omega
   generalize N.ts[i]=t at hAt hmem hsnoc new
   generalize N.ts.take i=ts at hsnoc new st ltk
   obtain⟨m1,m2,m3,_⟩:=ok.tin t hmem
   have hab:t.a≠t.b:=fun e=>by rw [e] at m3; exact List.lt_irrefl _ m3
   obtain⟨ta,tb,tl⟩:=t
   obtain⟨tt,us3,rfl,htt,hit⟩:=hAt
   obtain⟨va,r3,rfl,⟨rfl,_⟩,vb,r4,rfl,⟨rfl,_⟩,vl,r5,rfl,rfl,e5⟩:=hit
   cases (show r5=[] from e5)
   rw [← hm] at m1 m2
   obtain⟨⟨xa,pa⟩,ha,ea⟩:=List.mem_map.mp m1
   obtain⟨⟨xb,pb⟩,hb,eb⟩:=List.mem_map.mp m2
   have ea':ta=xa:=ea.symm
   have eb':tb=xb:=eb.symm
   subst ea' eb'
   clear ea eb
   replace hab:ta≠tb:=hab
   replace new:tb∉(D_ ts ta).map (·.1)/\ta∉(D_ ts tb).map (·.1):=new
   have ga:=DGet.k (k:=.inr ta) st.top
   rw [FO st.nms ha] at ga
   have l1:=Le ts ta
   refine⟨tt,_,rfl,SqT.of (st.old _ _ htt.2),rfl,_,_,rfl,_,_,rfl,_,_,rfl,rfl,?_⟩
   refine⟨_,rfl,_,rfl,_,rfl,d,_,rfl,ga,_,rfl,pa,_,rfl,DPut.k (k:=.inr tb) (st.inn _ ha).2.2 (by show ((D_ ts ta).map kv).length<sizeLine; rw [List.length_map]; omega),?_⟩
   have st1:=st.put (tb2:=fun p=>(D_ ts p++if ta=p then [(tb,tl)] else []).map kv) ha (kvs:=putK ((D_ ts ta).map kv) (.inr tb) (.int tl)) (by rw [LU new.1,if_pos rfl]) (fun q hq=>by rw [if_neg (Ne.symm hq),List.append_nil])
   have gb:=DGet.k (k:=.inr tb) st1.top
   rw [FO st1.nms hb] at gb
   have l2:=Le ts tb
   have ib:=(st1.inn _ hb).2.2
   simp only [if_neg hab,List.append_nil] at ib
   refine⟨_,rfl,_,rfl,_,rfl,d,_,rfl,gb,_,rfl,pb,_,rfl,DPut.k (k:=.inr ta) ib (by rw [List.length_map]; omega),?_⟩
   refine⟨_,_,_,_,rfl,st1.put hb ?_ fun q hq=>?_⟩
   ·show (D_ (N.ts.take (i+1)) tb).map kv=_
    rw [hsnoc,JS,LU new.2]
    show ((D_ ts tb++((if ta=tb then [(tb,tl)] else [])++if tb=tb then [(ta,tl)] else [])).map kv)=_
    rw [if_neg hab,if_pos rfl]; rfl
   ·show (D_ (N.ts.take (i+1)) q).map kv=_
    rw [hsnoc,JS]
    show ((D_ ts q++((if ta=q then [(tb,tl)] else [])++if tb=q then [(ta,tl)] else [])).map kv)=_
    rw [if_neg (Ne.symm hq),List.append_nil]
  ·rintro σ H' ⟨x2,x3,x4,x5,rfl,st⟩
   rw [lws,List.take_length] at st
   have old:∀(f:Addr->Obj) b o,H b=some o->Ey H' (as.map (·.2)) f b=some o:=fun f b o e=>by
    rw [ES (fun hm=>by obtain⟨x,hx,e2⟩:=List.mem_map.mp hm; have:=(st.inn x hx).1; rw [e2,e] at this; cases this)]
    exact st.old b o e
   refine⟨_,rfl,(as.map fun(x:Str×Addr)=>x.2),fun b hb=>?_,fun f=>q (.ref d) (Ey H' (as.map fun(x:Str×Addr)=>x.2) f) (Ek N) n (fun b o e=>⟨o,old f b o e,fun _=>rfl⟩) (fun g hg=>?_) (show At K M (Ey H' (as.map fun(x:Str×Addr)=>x.2) f) (Ek N) (.ref d) from st.at_ dom hm f) p⟩
   ·obtain⟨x,hx,rfl⟩:=List.mem_map.mp hb
    exact⟨_,(st.inn x hx).2.2⟩
   ·obtain⟨a,r,cells,hf,hcf,hc,rest⟩:=fd0 g hg
    exact⟨a,r,cells,old f _ _ hf,hcf,⟨hc.1,old f _ _ hc.2⟩,rest⟩
theorem Pr:Ar ["net","ties"] ["net","ties"] (AH El):=by constructor <;> first | rfl | decide +kernel
theorem QB{f:Addr}{fd:FuncData}(T:Txt K mg)(F:Fun K "only" "only" El f fd):Bi P w K mg base Dw 1 f fd ["net","ties"] (HA K .sh D8 2):=by
 exact M5 F Pr (by decide) (fun cdv A outer s H E hr=>(AL (A5 (BQ (AF (As AY BJ (dv 0) AG) (AF (CJ Be DP rfl T.n_tuple boot_tuple (AJ (Ad K1 Qe rfl T.n_sorted boot_sorted (AJ (Dr 1) AO)) AO)) AS)))))) (fun ss n Pd hl hw=>MM hw)
theorem KR:Ar ["net","ties"] ["net","ties"] (AH CG):=by constructor <;> first | rfl | decide +kernel
theorem Ki{f:Addr}{fd:FuncData}(T:Txt K mg)(G_only:Got P w K mg base "only" 1 ["net","ties"] .sh D8)(F:Fun K "without" "without" CG f fd):Bi P w K mg base Dw 2 f fd ["net","ties"] (HA K .sh Cq 2):=by
 exact M5 F KR (by decide) (fun cdv A outer s H E hr=>(AL (A5 (AK G_only (hr.mono (by decide)) rfl (AA (Ak (dv 0)) (AA (Jo (B1 rfl [("ties" : Str),("tie" : Str)] [some 1,none] (C3 (As AY BJ (dv 0) AG)) (fun _ _ _ _ _=>(Ai (i:=1) (show List.Nodup [("ties" : Str),("tie" : Str)] by decide +kernel) rfl (Or.inl rfl))) (fun _ _ _ _ _=>(IT (Al (HG hr) PL (dv 1) (dv 0) (by with_unfolding_all rfl)))) (fun _ _ _ _ _=>(dv 1)) (by kernel_rfl))) AQ)))))) (fun ss n Pd hl hw=>Hy hw)
theorem Gs:Ar ["waiting","found"] ["waiting","found"] (AH BS):=by constructor <;> first | rfl | decide +kernel
theorem Gz{f:Addr}{fd:FuncData}(T:Txt K mg)(F:Fun K "nearest_of" "nearest_of" BS f fd):Bi P w K mg base Dw 1 f fd ["waiting","found"] (HA K .sh J1 2):=by
 exact M5 F Gs (by decide) (fun cdv A outer s H E hr=>(AL (A5 (As AY BJ (Ad (NE hr) Se rfl T.n_min boot_min (AJ (B1 rfl [("found" : Str),("place" : Str)] [some 1,none] (C3 (Dr 0)) (fun _ _ _ _ _=>(Ai (i:=1) (show List.Nodup [("found" : Str),("place" : Str)] by decide +kernel) rfl (Or.inl rfl))) (fun _ _ _ _ _=>Cc) (fun _ _ _ _ _=>(BQ (AF (As AY BJ (Dg hr (Dr 0) (dv 1)) AG) (AF (dv 1) AS)))) (by kernel_rfl)) AO)) AG)))) (fun ss n Pd hl hw=>Gv hw)
theorem sc_least_ways:Ar ["net","start","steps","found","waiting","place","other","step","length"] ["net","start"] (AH BU):=by constructor <;> first | rfl | decide +kernel
theorem G0{f:Addr}{fd:FuncData}(T:Txt K mg)(G_nearest_of:Got P w K mg base "nearest_of" 1 ["waiting","found"] .sh J1)(G_steps_of:Got P w K mg base "steps_of" 1 ["net"] .sh Im)(F:Fun K "least_ways" "least_ways" BU f fd):Bi P w K mg base Dw 2 f fd ["net","start"] (HA K .fr Gm 2):=by
 exact M5 F sc_least_ways (by decide) (fun cdv A outer s H E hr=>(AE (An (i:=2) sc_least_ways.nd rfl (Or.inl rfl) (AK G_steps_of (hr.mono (by decide)) rfl (AA (Ak (dv 0)) AQ)))
 (AE (Br (i:=3) sc_least_ways.nd rfl (Or.inl rfl) (Jn (dv 1) (BQ (AF AG (AF CQ AS)))))
 (AE (Br (i:=4) sc_least_ways.nd rfl (Or.inl rfl) (CP (AF (dv 1) AS)))
 (AE (EV PassesOwn.never (SS (Dr 4)) (AE (An (i:=5) sc_least_ways.nd rfl (Or.inl rfl) (AK G_nearest_of (hr.mono (by decide)) rfl (AA (Jo (Dr 4)) (AA (Jo (Dr 3)) AQ))))
 (AE (E8 4 PySem.F.plainAttrs_list PySem.F.slot_list_remove PySem.F.type_list_remove (Md hr) T8 (pv 4) (AF (dv 5) AS))
 (AL (C1 PassesOwn.never rfl (Oy (Dg hr (dv 2) (dv 5))) (Kw rfl (CO (Ai (i:=6) sc_least_ways.nd rfl (Or.inl rfl)) (CO (Ai (i:=7) sc_least_ways.nd rfl (Or.inl rfl)) IW))) (AE (An (i:=8) sc_least_ways.nd rfl (Or.inl rfl) (A6 A3 BK (As AY BJ (Dg hr (Dr 3) (dv 5)) AG) (dv 7)))
 (AL (CA (Al (En hr) Gj (dv 6) (Dr 3) (by with_unfolding_all rfl)) (AE (E8 4 PySem.F.plainAttrs_list PySem.F.slot_list_append PySem.F.type_list_append BY FC (pv 4) (AF (dv 6) AS))
 (AL (IS (i:=3) hr (pv 3) (dv 6) (BQ (AF (dv 8) (AF (dv 5) AS)))))) (AL (CA (Al (Dz hr) Gi (dv 8) (As AY BJ (Dg hr (Dr 3) (dv 6)) AG) (Ah _)) (AL (IS (i:=3) hr (pv 3) (dv 6) (BQ (AF (dv 8) (AF (dv 5) AS))))) A9))))))))))
 (AL (QU 3 (pv 3)))))))) (fun ss n Pd hl hw=>Gw hw)
theorem sc_way_of:Ar ["net","a","b","found","way","place"] ["net","a","b"] (AH Cj):=by constructor <;> first | rfl | decide +kernel
theorem MX{f:Addr}{fd:FuncData}(T:Txt K mg)(G_least_ways:Got P w K mg base "least_ways" 2 ["net","start"] .fr Gm)(F:Fun K "way_of" "way_of" Cj f fd):Bi P w K mg base Dw 3 f fd ["net","a","b"] (HA K .sh NN 3):=by
 exact M5 F sc_way_of (by decide) (fun cdv A outer s H E hr=>(AE (An (i:=3) sc_way_of.nd rfl (Or.inl rfl) (AK G_least_ways (hr.mono (by decide)) rfl (AA (Ak (dv 0)) (AA (Ak (dv 1)) AQ))))
 (AE (CA (Al (En hr) Gj (dv 2) (dv 3) (by with_unfolding_all rfl)) (AL (A5 CQ)) A9)
 (AE (Br (i:=4) sc_way_of.nd rfl (Or.inl rfl) (CP AS))
 (AE (An (i:=5) sc_way_of.nd rfl (Or.inl rfl) (dv 2))
 (AE (EV PassesOwn.never (Al ID K7 (dv 5) CQ (Ah _)) (AE (E8 4 PySem.F.plainAttrs_list PySem.F.slot_list_append PySem.F.type_list_append BY FC (pv 4) (AF (dv 5) AS))
 (AL (An (i:=5) sc_way_of.nd rfl (Or.inl rfl) (As AY BJ (Dg hr (dv 3) (dv 5)) AG)))))
 (AL (A5 (M_ rfl (Dr 4) rfl T.n_tuple rfl T.n_reversed))))))))) (fun ss n Pd hl hw=>MK hw)
theorem sc_round_of:Ar ["net","alike","fewest","tie","way"] ["net"] (AH By):=by constructor <;> first | rfl | decide +kernel
theorem JP{f:Addr}{fd:FuncData}(T:Txt K mg)(G_only:Got P w K mg base "only" 1 ["net","ties"] .sh D8)(G_way_of:Got P w K mg base "way_of" 3 ["net","a","b"] .sh NN)(G_without:Got P w K mg base "without" 2 ["net","ties"] .sh Cq)(F:Fun K "round_of" "round_of" By f fd):Bi P w K mg base Dw 4 f fd ["net"] (HA K .sh D7 1):=by
 exact M5 F sc_round_of (by decide) (fun cdv A outer s H E hr=>(AE (An (i:=1) sc_round_of.nd rfl (Or.inl rfl) (AK G_only (hr.mono (by decide)) rfl (AA (Ak (dv 0)) (AA (Jo (B1 rfl [("a" : Str),("b" : Str),("length" : Str)] [none,none,none] (C3 (As AY BJ (dv 0) AG)) (fun _ _ _ _ _=>(Kw rfl (CO (Ai (i:=0) (show List.Nodup [("a" : Str),("b" : Str),("length" : Str)] by decide +kernel) rfl (Or.inl rfl)) (CO (Ai (i:=1) (show List.Nodup [("a" : Str),("b" : Str),("length" : Str)] by decide +kernel) rfl (Or.inl rfl)) (CO (Ai (i:=2) (show List.Nodup [("a" : Str),("b" : Str),("length" : Str)] by decide +kernel) rfl (Or.inl rfl)) IW))))) (fun _ _ _ _ _=>Cc) (fun _ _ _ _ _=>(BQ (AF (dv 0) (AF (dv 1) (AF AG AS))))) (by kernel_rfl))) AQ))))
 (AE (An (i:=2) sc_round_of.nd rfl (Or.inl rfl) CQ)
 (AE (C1 PassesOwn.never rfl (Oz (As AY BJ (dv 1) AG)) (Ai (i:=3) sc_round_of.nd rfl (Or.inl rfl)) (AE (An (i:=4) sc_round_of.nd rfl (Or.inl rfl) (AK G_way_of (hr.mono (by decide)) rfl (AA (Ak (AK G_without (hr.mono (by decide)) rfl (AA (Ak (dv 1)) (AA (Ak (CP (AF (dv 3) AS))) AQ)))) (AA (Ak (As AY BJ (dv 3) AG)) (AA (Ak (As AY BJ (dv 3) AG)) AQ)))))
 (AL (CA (DTW.dt (IR (Al ID K7 (dv 4) CQ (Ah _)) (FW (DTW.dt (Jk (Al IE Lz (dv 2) CQ (Ah _)) (Kt (Al (Dz hr) Gi (Ad A8 DQ rfl T.n_len PySem.boot_len (AJ (dv 4) AO)) (Ad A8 DQ rfl T.n_len PySem.boot_len (AJ (dv 2) AO)) (Ah _)))))))) (AL (An (i:=2) sc_round_of.nd rfl (Or.inl rfl) (dv 4))) A9))))
 (AL (A5 (dv 2))))))) (fun ss n Pd hl hw=>JG hw)
theorem sc__law_places:Ar ["_law_feed_here","_law_many","_law_way","_law_words","_law_first","_law_letters","_law_word","_law_at","_law_names","_law_k","_law_sign"] ["_law_feed_here","_law_many"] (AH BD):=by constructor <;> first | rfl | decide +kernel
theorem Fy{f:Addr}{fd:FuncData}(T:Txt K mg)(G__law_next:Got P w K mg base "_law_next" 1 ["_law_feed_here","_law_many"] .sh A2)(F:Fun K "_law_places" "_law_places" BD f fd):Bi P w K mg base Dw 2 f fd ["_law_feed_here","_law_many"] (HA K .fr C5 2):=by
 exact M5 F sc__law_places (by decide) (fun cdv A outer s H E hr=>(AE (An (i:=2) sc__law_places.nd rfl (Or.inl rfl) (AK G__law_next (hr.mono (by decide)) rfl (AA (BB 0) (AA (Ak AG) AQ))))
 (AE (An (i:=3) sc__law_places.nd rfl (Or.inr rfl) (CP (AF Bh (AF Bh (AF Bh (AF Bh (AF Bh (AF Bh (AF Bh (AF Bh (AF Bh (AF Bh (AF Bh (AF Bh AS))))))))))))))
 (AE (CA (DTW.dt (IR (Al Fx K8 (dv 2) AG (Ah _)) (FW (Al (Dz hr) Gi (dv 1) AG (Ah _))))) (AE (An (i:=4) sc__law_places.nd rfl (Or.inr rfl) (AK G__law_next (hr.mono (by decide)) rfl (AA (BB 0) (AA (Ak AG) AQ))))
 (AL (A5 (Ad Gc Ly rfl T.n_sorted boot_sorted (AJ (B1 rfl [("_law_words" : Str),("_law_first" : Str),("_law_k" : Str)] [some 3,some 4,none] (DI.c (BZ rfl T.n_range (AJ (dv 1) AO))) (fun _ _ _ _ _=>(Ai (i:=2) (show List.Nodup [("_law_words" : Str),("_law_first" : Str),("_law_k" : Str)] by decide +kernel) rfl (Or.inl rfl))) (fun _ _ _ _ _=>Cc) (fun _ _ _ _ _=>(As AY BJ (dv 0) (A6 Cd D6 (A6 A3 BK (dv 1) (dv 2)) AG))) (by kernel_rfl)) AO))))) A9)
 (AE (An (i:=5) sc__law_places.nd rfl (Or.inr rfl) Bh)
 (AE (An (i:=6) sc__law_places.nd rfl (Or.inr rfl) (Tz PySem.F.plainAttrs_str PySem.F.slot_str_join PySem.F.type_str_join QG Sj Bh (AJ (B1 rfl [("_law_letters" : Str),("_law_feed_here" : Str),("_law_k" : Str)] [some 5,some 0,none] (DI.c (BZ rfl T.n_range (AJ AG AO))) (fun _ _ _ _ _=>(Ai (i:=2) (show List.Nodup [("_law_letters" : Str),("_law_feed_here" : Str),("_law_k" : Str)] by decide +kernel) rfl (Or.inl rfl))) (fun _ _ _ _ _=>Cc) (fun _ _ _ _ _=>(As AY BJ (dv 0) (AK G__law_next (hr.mono (by decide)) rfl (AA (BB 1) (AA (Ak AG) AQ))))) (by kernel_rfl)) AO)))
 (AE (CA (DTW.dt (IR (Al Fx K8 (dv 2) AG (Ah _)) (FW (Al (Dz hr) Gi (dv 1) AG (Ah _))))) (AL (A5 (B1 rfl [("_law_word" : Str),("_law_k" : Str)] [some 6,none] (DI.c (BZ rfl T.n_range (AJ (dv 1) AO))) (fun _ _ _ _ _=>(Ai (i:=1) (show List.Nodup [("_law_word" : Str),("_law_k" : Str)] by decide +kernel) rfl (Or.inl rfl))) (fun _ _ _ _ _=>Cc) (fun _ _ _ _ _=>(HV Ng J0 (dv 0) EW (C2 (A6 A3 BK AG (dv 1))))) (by kernel_rfl)))) A9)
 (AE (An (i:=7) sc__law_places.nd rfl (Or.inl rfl) (AK G__law_next (hr.mono (by decide)) rfl (AA (BB 0) (AA (Ak AG) AQ))))
 (AE (An (i:=4) sc__law_places.nd rfl (Or.inr rfl) (AK G__law_next (hr.mono (by decide)) rfl (AA (BB 0) (AA (Ak AG) AQ))))
 (AE (Br (i:=8) sc__law_places.nd rfl (Or.inl rfl) (CP AS))
 (AE (C1 PassesOwn.never rfl (BZ rfl T.n_range (AJ (dv 1) AO)) (Ai (i:=9) sc__law_places.nd rfl (Or.inl rfl)) (AE (An (i:=10) sc__law_places.nd rfl (Or.inl rfl) (As AY BJ (dv 5) (A6 Cd D6 (A6 A3 BK (dv 4) (dv 9)) AG)))
 (AL (E8 8 PySem.F.plainAttrs_list PySem.F.slot_list_append PySem.F.type_list_append BY FC (pv 8) (AF (A6 A3 BK (A6 A3 BK (A6 A3 BK (HV Ng J0 (dv 6) EW (C2 (dv 7))) (dv 10)) (HV Ng J0 (dv 6) (C2 (A6 A3 BK (dv 7) AG)) (C2 AG))) (A6 P9 Sb Bh (A6 Cd D6 (dv 9) AG))) AS)))))
 (AL (A5 (Ad Gc Ly rfl T.n_sorted boot_sorted (AJ (Dr 8) AO))))))))))))))) (fun ss n Pd hl hw=>ML hw)
theorem Ft:Ar ["_law_feed_here","_law_scale"] ["_law_feed_here","_law_scale"] (AH BE):=by constructor <;> first | rfl | decide +kernel
theorem Fz{f:Addr}{fd:FuncData}(T:Txt K mg)(G__law_next:Got P w K mg base "_law_next" 1 ["_law_feed_here","_law_many"] .sh A2)(F:Fun K "_law_length" "_law_length" BE f fd):Bi P w K mg base Dw 2 f fd ["_law_feed_here","_law_scale"] (HA K .sh Io 2):=by
 exact M5 F Ft (by decide) (fun cdv A outer s H E hr=>(AE (CA (Al Fx K8 (dv 1) AG (Ah _)) (AL (A5 (A6 A3 BK AG (AK G__law_next (hr.mono (by decide)) rfl (AA (BB 0) (AA (Ak AG) AQ)))))) A9)
 (AE (CA (Al Fx K8 (dv 1) AG (Ah _)) (AL (A5 (A6 A3 BK AG (AK G__law_next (hr.mono (by decide)) rfl (AA (BB 0) (AA (Ak AG) AQ)))))) A9)
 (AL (A5 (O1 (Al Fx K8 (dv 1) AG (Ah _)) (A6 FT Ik (A6 Kf D6 AG AG) (AK G__law_next (hr.mono (by decide)) rfl (AA (BB 0) (AA (Ak AG) AQ)))) (A6 A3 BK AG (AK G__law_next (hr.mono (by decide)) rfl (AA (BB 0) (AA (Ak (A6 Kf D6 AG AG)) AQ)))))))))) (fun ss n Pd hl hw=>MN hw)
theorem sc__law_net:Ar ["_law_feed_here","_law_most","_law_ties","_law_places_here","_law_few","_law_scale","_law_found","_law_one","_law_other"] ["_law_feed_here","_law_most","_law_ties"] (AH Bz):=by constructor <;> first | rfl | decide +kernel
theorem JQ{f:Addr}{fd:FuncData}(T:Txt K mg)(G__law_length:Got P w K mg base "_law_length" 2 ["_law_feed_here","_law_scale"] .sh Io)(G__law_next:Got P w K mg base "_law_next" 1 ["_law_feed_here","_law_many"] .sh A2)(G__law_places:Got P w K mg base "_law_places" 2 ["_law_feed_here","_law_many"] .fr C5)(F:Fun K "_law_net" "_law_net" Bz f fd):Bi P w K mg base Dw 3 f fd ["_law_feed_here","_law_most","_law_ties"] (HA K .sh PM 3):=by
 exact M5 F sc__law_net (by decide) (fun cdv A outer s H E hr=>(AE (An (i:=3) sc__law_net.nd rfl (Or.inl rfl) (AK G__law_places (hr.mono (by decide)) rfl (AA (BB 0) (AA (Ak (A6 A3 BK AG (AK G__law_next (hr.mono (by decide)) rfl (AA (BB 0) (AA (Ak (dv 1)) AQ))))) AQ))))
 (AE (An (i:=4) sc__law_net.nd rfl (Or.inl rfl) (A6 A3 BK AG (AK G__law_next (hr.mono (by decide)) rfl (AA (BB 0) (AA (Ak AG) AQ)))))
 (AE (An (i:=5) sc__law_net.nd rfl (Or.inl rfl) (AK G__law_next (hr.mono (by decide)) rfl (AA (BB 0) (AA (Ak AG) AQ))))
 (AE (Br (i:=6) sc__law_net.nd rfl (Or.inl rfl) (CP AS))
 (AE (C1 PassesOwn.never rfl (BZ rfl T.n_range (AJ (Ad A8 DQ rfl T.n_len PySem.boot_len (AJ (dv 3) AO)) AO)) (Ai (i:=7) sc__law_net.nd rfl (Or.inl rfl)) (AL (C1 PassesOwn.never rfl (M9 rfl T.n_range (AJ (A6 A3 BK (dv 7) AG) (AJ (Ad A8 DQ rfl T.n_len PySem.boot_len (AJ (dv 3) AO)) AO))) (Ai (i:=8) sc__law_net.nd rfl (Or.inl rfl)) (AL (CA (DTW.dt (IR (Al R0 T9 (AK G__law_next (hr.mono (by decide)) rfl (AA (BB 0) (AA (Ak AG) AQ))) (dv 4) (Ah _)) (FW (Al (Dz hr) Gi (Ad A8 DQ rfl T.n_len PySem.boot_len (AJ (Dr 6) AO)) (dv 2) (Ah _))))) (AL (E8 6 PySem.F.plainAttrs_list PySem.F.slot_list_append PySem.F.type_list_append BY FC (pv 6) (AF (BQ (AF (As AY BJ (dv 3) (dv 7)) (AF (As AY BJ (dv 3) (dv 8)) (AF (AK G__law_length (hr.mono (by decide)) rfl (AA (BB 0) (AA (Ak (dv 5)) AQ))) AS)))) AS))) A9)))))
 (AL (A5 (BQ (AF (CJ Be DP rfl T.n_tuple boot_tuple (AJ (dv 3) AO)) (AF (CJ Be DP rfl T.n_tuple boot_tuple (AJ (Dr 6) AO)) AS))))))))))) (fun ss n Pd hl hw=>Rh hw)
theorem sc__law_steps:Ar ["_law_ties","_law_one","_law_other","_law_known","_law_line","_law_at","_law_tie","_law_there"] ["_law_ties","_law_one","_law_other"] (AH BV):=by constructor <;> first | rfl | decide +kernel
theorem G1{f:Addr}{fd:FuncData}(T:Txt K mg)(F:Fun K "_law_steps" "_law_steps" BV f fd):Bi P w K mg base Dw 1 f fd ["_law_ties","_law_one","_law_other"] (HA K .sh Ef 3):=by
 exact M5 F sc__law_steps (by decide) (fun cdv A outer s H E hr=>(AE (Br (i:=3) sc__law_steps.nd rfl (Or.inl rfl) (Jn (dv 1) AG))
 (AE (Br (i:=4) sc__law_steps.nd rfl (Or.inl rfl) (CP (AF (dv 1) AS)))
 (AE (An (i:=5) sc__law_steps.nd rfl (Or.inl rfl) AG)
 (AE (EV PassesOwn.never (Al (Dz hr) Gi (dv 5) (Ad A8 DQ rfl T.n_len PySem.boot_len (AJ (Dr 4) AO)) (Ah _)) (AE (QV PassesOwn.never rfl (pv 0) (Ai (i:=6) sc__law_steps.nd rfl (Or.inl rfl)) (AL (CA (Al (R6 hr) PL (As AY BJ (Dr 4) (dv 5)) (HV Ng J0 (dv 6) EW (C2 AG)) (by with_unfolding_all rfl)) (AE (An (i:=7) sc__law_steps.nd rfl (Or.inl rfl) (O1 (Al Fx K8 (As AY BJ (dv 6) AG) (As AY BJ (Dr 4) (dv 5)) (Ah _)) (As AY BJ (dv 6) AG) (As AY BJ (dv 6) AG)))
 (AL (CA (Al (En hr) Gj (dv 7) (Dr 3) (by with_unfolding_all rfl)) (AE (IS (i:=3) hr (pv 3) (dv 7) (A6 A3 BK (Dg hr (Dr 3) (As AY BJ (Dr 4) (dv 5))) AG))
 (AL (E8 4 PySem.F.plainAttrs_list PySem.F.slot_list_append PySem.F.type_list_append BY FC (pv 4) (AF (dv 7) AS)))) A9))) A9)))
 (AL (An (i:=5) sc__law_steps.nd rfl (Or.inl rfl) (A6 A3 BK (dv 5) AG)))))
 (AL (A5 (QX hr (Dr 3) (dv 2))))))))) (fun ss n Pd hl hw=>Gx hw)
theorem sc__law_fewest:Ar ["_law_net_here","_law_found","_law_tie","_law_steps_here"] ["_law_net_here"] (AH BF):=by constructor <;> first | rfl | decide +kernel
theorem F_{f:Addr}{fd:FuncData}(T:Txt K mg)(G__law_steps:Got P w K mg base "_law_steps" 1 ["_law_ties","_law_one","_law_other"] .sh Ef)(F:Fun K "_law_fewest" "_law_fewest" BF f fd):Bi P w K mg base Dw 2 f fd ["_law_net_here"] (HA K .sh DR 1):=by
 exact M5 F sc__law_fewest (by decide) (fun cdv A outer s H E hr=>(AE (Br (i:=1) sc__law_fewest.nd rfl (Or.inl rfl) (CP AS))
 (AE (C1 PassesOwn.never rfl (Oz (As AY BJ (dv 0) AG)) (Ai (i:=2) sc__law_fewest.nd rfl (Or.inr rfl)) (AE (An (i:=3) sc__law_fewest.nd rfl (Or.inl rfl) (AK G__law_steps (hr.mono (by decide)) rfl (AA (Jo (B1 rfl [("_law_tie" : Str),("_law_one" : Str)] [some 2,none] (C3 (As AY BJ (dv 0) AG)) (fun _ _ _ _ _=>(Ai (i:=1) (show List.Nodup [("_law_tie" : Str),("_law_one" : Str)] by decide +kernel) rfl (Or.inl rfl))) (fun _ _ _ _ _=>(IT (Al (Kg hr) PH (dv 1) (dv 0) (Ah _)))) (fun _ _ _ _ _=>(dv 1)) (by kernel_rfl))) (AA (Ak (As AY BJ (dv 2) AG)) (AA (Ak (As AY BJ (dv 2) AG)) AQ)))))
 (AL (CA (Al ID K7 (dv 3) CQ (Ah _)) (AL (E8 1 PySem.F.plainAttrs_list PySem.F.slot_list_append PySem.F.type_list_append BY FC (pv 1) (AF (A6 A3 BK (dv 3) AG) AS))) A9))))
 (AL (A5 (O1 (Al (Kg hr) PH (Dr 1) (CP AS) (Ah _)) (Ad (NG rfl) Sg rfl T.n_min boot_min (AJ (Dr 1) AO)) CQ)))))) (fun ss n Pd hl hw=>Fu hw)
theorem sc__law_ring:Ar ["_law_feed_here","_law_places_here","_law_left","_law_row","_law_pairs","_law_k","_law_some"] ["_law_feed_here"] (AH Bk):=by constructor <;> first | rfl | decide +kernel
theorem IF{f:Addr}{fd:FuncData}(T:Txt K mg)(G__law_length:Got P w K mg base "_law_length" 2 ["_law_feed_here","_law_scale"] .sh Io)(G__law_next:Got P w K mg base "_law_next" 1 ["_law_feed_here","_law_many"] .sh A2)(G__law_places:Got P w K mg base "_law_places" 2 ["_law_feed_here","_law_many"] .fr C5)(F:Fun K "_law_ring" "_law_ring" Bk f fd):Bi P w K mg base Dw 3 f fd ["_law_feed_here"] (HA K .sh Gk 1):=by
 exact M5 F sc__law_ring (by decide) (fun cdv A outer s H E hr=>(AE (An (i:=1) sc__law_ring.nd rfl (Or.inl rfl) (AK G__law_places (hr.mono (by decide)) rfl (AA (BB 0) (AA (Ak (A6 A3 BK AG (AK G__law_next (hr.mono (by decide)) rfl (AA (BB 0) (AA (Ak AG) AQ))))) AQ))))
 (AE (Br (i:=2) sc__law_ring.nd rfl (Or.inl rfl) (CJ EZ Qf rfl T.n_list boot_list (AJ (dv 1) AO)))
 (AE (Br (i:=3) sc__law_ring.nd rfl (Or.inr rfl) (CP AS))
 (AE (EV PassesOwn.never (Al (Kg hr) PH (Dr 2) (CP AS) (Ah _)) (AL (M8 (j:=3) (i:=2) (pv 3) (pv 2) (AK G__law_next (hr.mono (by decide)) rfl (AA (BB 0) (AA (Ak (Ad A8 DQ rfl T.n_len PySem.boot_len (AJ (Dr 2) AO))) AQ))))))
 (AE (Br (i:=4) sc__law_ring.nd rfl (Or.inl rfl) (HV sl_list T7 (B1 rfl [("_law_row" : Str),("_law_k" : Str)] [some 3,none] (DI.c (BZ rfl T.n_range (AJ (Ad A8 DQ rfl T.n_len PySem.boot_len (AJ (Dr 3) AO)) AO))) (fun _ _ _ _ _=>(Ai (i:=1) (show List.Nodup [("_law_row" : Str),("_law_k" : Str)] by decide +kernel) rfl (Or.inl rfl))) (fun _ _ _ _ _=>Cc) (fun _ _ _ _ _=>(BQ (AF (As AY BJ (Dr 0) (A6 FT Ik (dv 1) AG)) (AF (As AY BJ (Dr 0) (dv 1)) AS)))) (by kernel_rfl)) (C2 (A6 FU D6 (AK G__law_next (hr.mono (by decide)) rfl (AA (BB 0) (AA (Ak AG) AQ))) AG)) EW))
 (AE (C1 PassesOwn.never rfl (BZ rfl T.n_range (AJ (AK G__law_next (hr.mono (by decide)) rfl (AA (BB 0) (AA (Ak AG) AQ))) AO)) (Ai (i:=5) sc__law_ring.nd rfl (Or.inl rfl)) (AL (E8 4 PySem.F.plainAttrs_list PySem.F.slot_list_append PySem.F.type_list_append BY FC (pv 4) (AF (BQ (AF (As AY BJ (Dr 3) (AK G__law_next (hr.mono (by decide)) rfl (AA (BB 0) (AA (Ak (Ad A8 DQ rfl T.n_len PySem.boot_len (AJ (Dr 3) AO))) AQ)))) (AF (As AY BJ (Dr 3) (AK G__law_next (hr.mono (by decide)) rfl (AA (BB 0) (AA (Ak (Ad A8 DQ rfl T.n_len PySem.boot_len (AJ (Dr 3) AO))) AQ)))) AS))) AS))))
 (AE (An (i:=6) sc__law_ring.nd rfl (Or.inl rfl) (Kx rfl hr (B1 rfl [("_law_pair" : Str)] [none] (C3 (Dr 4)) (fun _ _ _ _ _=>(Ai (i:=0) (show List.Nodup [("_law_pair" : Str)] by decide +kernel) rfl (Or.inl rfl))) (fun _ _ _ _ _=>(IT (Al OG Sa (As AY BJ (dv 0) AG) (As AY BJ (dv 0) AG) (Ah _)))) (fun _ _ _ _ _=>(BQ (AF (Ad (NF rfl) Sf rfl T.n_min boot_min (AJ (dv 0) AO)) (AF (Ad (NI rfl) Si rfl T.n_max boot_max (AJ (dv 0) AO)) AS)))) (by kernel_rfl)) rfl T.n_sorted rfl T.n_set))
 (AL (A5 (BQ (AF (CJ Be DP rfl T.n_tuple boot_tuple (AJ (dv 1) AO)) (AF (CJ Be DP rfl T.n_tuple boot_tuple (AJ (B1 rfl [("_law_feed_here" : Str),("_law_one" : Str),("_law_other" : Str)] [some 0,none,none] (C3 (dv 6)) (fun _ _ _ _ _=>(Kw rfl (CO (Ai (i:=1) (show List.Nodup [("_law_feed_here" : Str),("_law_one" : Str),("_law_other" : Str)] by decide +kernel) rfl (Or.inl rfl)) (CO (Ai (i:=2) (show List.Nodup [("_law_feed_here" : Str),("_law_one" : Str),("_law_other" : Str)] by decide +kernel) rfl (Or.inl rfl)) IW)))) (fun _ _ _ _ _=>Cc) (fun _ _ _ _ _=>(BQ (AF (dv 1) (AF (dv 2) (AF (AK G__law_length (hr.mono (by decide)) rfl (AA (BB 0) (AA (Ak AG) AQ))) AS))))) (by kernel_rfl)) AO)) AS))))))))))))) (fun ss n Pd hl hw=>Hz hw)
theorem sc__law_right:Ar ["_law_net_here","_law_kept","_law_found","_law_due","_law_pairs","_law_k"] ["_law_net_here"] (AH BX):=by constructor <;> first | rfl | decide +kernel
theorem G2{f:Addr}{fd:FuncData}(T:Txt K mg)(G__law_fewest:Got P w K mg base "_law_fewest" 2 ["_law_net_here"] .sh DR)(G_round_of:Got P w K mg base "round_of" 4 ["net"] .sh D7)(F:Fun K "_law_right" "_law_right" BX f fd):Bi P w K mg base Dw 5 f fd ["_law_net_here"] (HA K .sh Dk 1):=by
 exact M5 F sc__law_right (by decide) (fun cdv A outer s H E hr=>(AE (An (i:=1) sc__law_right.nd rfl (Or.inl rfl) (Ad (HZ hr) PF rfl T.n_repr boot_repr (AJ (dv 0) AO)))
 (AE (An (i:=2) sc__law_right.nd rfl (Or.inl rfl) (AK G_round_of (hr.mono (by decide)) rfl (AA (Ak (dv 0)) AQ)))
 (AE (An (i:=3) sc__law_right.nd rfl (Or.inl rfl) (AK G__law_fewest (hr.mono (by decide)) rfl (AA (Ak (dv 0)) AQ)))
 (AE (CA (Al IE Lz (dv 3) CQ (Ah _)) (AL (A5 (Ky IE Lz (dv 2) CQ (Ah _)))) A9)
 (AE (CA (DTW.dt (Jk (Kv (Ku (ST kit_tuple (dv 2) rfl T.n_isinstance rfl T.n_tuple (by decide +kernel)))) (Jk (Al OG Sa (Ad A8 DQ rfl T.n_len PySem.boot_len (AJ (dv 2) AO)) (dv 3) (Ah _)) (Jk (Al OG Sa (NA rfl (dv 2) rfl T.n_len rfl T.n_set) (dv 3) (Ah _)) (Kt (Al (Dz hr) Gi (dv 3) AG (Ah _))))))) (AL (A5 O3)) A9)
 (AE (QT (i:=4) sc__law_right.nd rfl (Or.inl rfl) rfl [("_law_tie" : Str)] [none] (C3 (As AY BJ (dv 0) AG)) (fun _ _ _ _ _=>(Ai (i:=0) (show List.Nodup [("_law_tie" : Str)] by decide +kernel) rfl (Or.inl rfl))) (fun _ _ _ _ _=>Cc) (fun _ _ _ _ _=>(HV Ng J0 (dv 0) EW (C2 AG))) (by kernel_rfl))
 (AE (C1 PassesOwn.never rfl (BZ rfl T.n_range (AJ (dv 3) AO)) (Ai (i:=5) sc__law_right.nd rfl (Or.inl rfl)) (AL (CA (Al (HG hr) PL (BQ (AF (Ad (ND rfl) Sd rfl T.n_min boot_min (AJ (As AY BJ (dv 2) (A6 FT Ik (dv 5) AG)) (AJ (As AY BJ (dv 2) (dv 5)) AO))) (AF (Ad (NH rfl) Sh rfl T.n_max boot_max (AJ (As AY BJ (dv 2) (A6 FT Ik (dv 5) AG)) (AJ (As AY BJ (dv 2) (dv 5)) AO))) AS))) (dv 4) (by with_unfolding_all rfl)) (AL (A5 O3)) A9)))
 (AL (A5 (Ky Fx K8 (Ad (HZ hr) PF rfl T.n_repr boot_repr (AJ (dv 0) AO)) (dv 1) (Ah _)))))))))))) (fun ss n Pd hl hw=>Gy hw)
end
section
variable {P:Program}{w:World}{K:Frag}{mg:Str->Option Value}{base:Heap}
theorem Hv:Ar ["_law_script"] ["_law_script"] (AH Bl):=by constructor <;> first | rfl | decide +kernel
theorem IG{f:Addr}{fd:FuncData}(T:Txt K mg)(F:Fun K "_law_feed" "_law_feed" Bl f fd):Bi P w K mg base Dw 1 f fd ["_law_script"] (Ho K):=by
 refine F.ok Hv (fun vs H Q E h=>?_) (fun cdv A outer s H vs Q E hr h=>?_)
 ·obtain⟨a,ns,rfl,_⟩:=h
  rfl
 ·obtain⟨a,ns,rfl,⟨hl,hS⟩,q⟩:=h
  refine⟨_,CZ (Dy (Ke (BL (HF EZ rfl T.n_list boot_list (BL (JJ sl_list (pv 0) LX (LW Ag)) B8)) (BL Ag (BL Ag B8))))),?_⟩
  refine⟨_,rfl,63,rfl,a,_,rfl,hS,fun p hp=>⟨p,_,rfl,.inl (SqL.of AM),fun c hc=>⟨by show 3<=sizeLine; decide,fun g hg=>?_⟩⟩⟩
  rw [T4 hl] at hg ⊢
  have ncg:c≠g:=fun z=>by rw [← z,AM] at hg; cases hg
  exact q c g _ ncg (by rw [AI ncg,AM]) AM
theorem sc_law:Ar ["_law_script","_law_feed_here","_law_k"] ["_law_script"] (AH EJ):=by constructor <;> first | rfl | decide +kernel
theorem R7{f ff:Addr}{fd fdf:FuncData}(T:Txt K mg)(Gf:Bi P w K mg base Dw 1 ff fdf ["_law_script"] (Ho K))(mf:mg "_law_feed"=some (.ref ff))(kf:keepIn K (.ref ff)=true)(bf:Binds K fdf ["_law_script"] [])
  (G__law_net:Got P w K mg base "_law_net" 3 ["_law_feed_here","_law_most","_law_ties"] .sh PM) (G__law_right:Got P w K mg base "_law_right" 5 ["_law_net_here"] .sh Dk) (G__law_ring:Got P w K mg base "_law_ring" 3 ["_law_feed_here"] .sh Gk) (G_round_of:Got P w K mg base "round_of" 4 ["net"] .sh D7) (F:Fun K "law" "law" EJ f fd):Bi P w K mg base Dw 6 f fd ["_law_script"] (JE K):=by
 exact Tr (n0:=9000) F sc_law rfl (by decide) (fun cdv A outer s H E hr=>C_ (i:=1) sc_law.nd rfl (Or.inl rfl) (Lb Gf (hr.mono (by decide)) rfl mf kf bf .nil Q6 (BL (pv 0) B8)))
  (fun cdv A outer s H E hr=>(AE (C1 PassesOwn.never rfl (BZ rfl T.n_range (AJ AG AO)) (Ai (i:=2) sc_law.nd rfl (Or.inl rfl)) (AL (CA (DTW.dt (Jk (Kv (Ku (AK G__law_right (hr.mono (by decide)) rfl (AA (Ak (AK G__law_net (hr.mono (by decide)) rfl (AA (BB 1) (AA (Ak AG) (AA (Ak AG) AQ))))) AQ)))) (Kt (Kv (Ku (AK G__law_right (hr.mono (by decide)) rfl (AA (Ak (AK G__law_ring (hr.mono (by decide)) rfl (AA (BB 1) AQ))) AQ))))))) (AL (A5 O3)) A9)))
 (AL (A5 (Ky IE Lz (AK G_round_of (hr.mono (by decide)) rfl (AA (Ak (BQ (AF (BQ AS) (AF (BQ AS) AS)))) AQ)) CQ (Ah _)))))) KU
end
theorem HL{β:Type}{g k:List Value->β}(us:List Value)(h:us.length=1)(c:∀a0:Value,g [a0]=k [a0]):g us=k us:=by
 match us,h with
 | [a0],_=>exact c a0
theorem GF{β:Type}{g k:List Value->β}(us:List Value)(h:us.length=2)(c:∀a0 a1:Value,g [a0,a1]=k [a0,a1]):g us=k us:=by
 match us,h with
 | [a0,a1],_=>exact c a0 a1
theorem OR{β:Type}{g k:List Value->β}(us:List Value)(h:us.length=3)(c:∀a0 a1 a2:Value,g [a0,a1,a2]=k [a0,a1,a2]):g us=k us:=by
 match us,h with
 | [a0,a1,a2],_=>exact c a0 a1 a2
theorem all_mk{l:PySem.W.OpenLaw}{w:World}{K:Frag}{h:Heap}{mg:Str->Option Value}{fa:Addr}(X:K.In h)(G:h.Ns mainGlobals mg)(hfa:mg "law"=some (.ref fa))
  {f0 f1 f2 f3 f4 f5 f6 f7 f8 f9 f10 f11 f12 f13 f14 f15 f16:Addr} {od0 an0 od1 an1 od2 an2 od3 an3 od4 an4 od5 an5 od6 an6 od7 an7 od8 an8 od9 an9 od10 an10 od11 an11 od12 an12 od13 an13 od14 an14 od15 an15 od16 an16:Option Addr} {sl0 sl1 sl2 sl3 sl4 sl5 sl6 sl7 sl8 sl9 sl10 sl11 sl12 sl13 sl14 sl15 sl16:Array (Option Value)} {oc0 kV0 dc0 pm0 cd0 ct0 oc1 kV1 dc1 pm1 cd1 ct1 oc2 kV2 dc2 pm2 cd2 ct2 oc3 kV3 dc3 pm3 cd3 ct3 oc4 kV4 dc4 pm4 cd4 ct4 oc5 kV5 dc5 pm5 cd5 ct5 oc6 kV6 dc6 pm6 cd6 ct6 oc7 kV7 dc7 pm7 cd7 ct7 oc8 kV8 dc8 pm8 cd8 ct8 oc9 kV9 dc9 pm9 cd9 ct9 oc10 kV10 dc10 pm10 cd10 ct10 oc11 kV11 dc11 pm11 cd11 ct11 oc12 kV12 dc12 pm12 cd12 ct12 oc13 kV13 dc13 pm13 cd13 ct13 oc14 kV14 dc14 pm14 cd14 ct14 oc15 kV15 dc15 pm15 cd15 ct15 oc16 kV16 dc16 pm16 cd16 ct16:Value}
  (a0:nsIn K mainGlobals "steps_of"=some (some (.ref f0))) (l0:K.lookup f0=some ⟨oc0,od0,.func (fnOf "steps_of" "steps_of" (Aq Bx) (Aj Bx) (AH Bx) .none kV0 dc0 pm0 an0 cd0 ct0),sl0⟩) (c0:codeIn K cd0 "steps_of"=true) (k0:keepIn K (.ref f0)=true)
  (a1:nsIn K mainGlobals "only"=some (some (.ref f1))) (l1:K.lookup f1=some ⟨oc1,od1,.func (fnOf "only" "only" (Aq El) (Aj El) (AH El) .none kV1 dc1 pm1 an1 cd1 ct1),sl1⟩) (c1:codeIn K cd1 "only"=true) (k1:keepIn K (.ref f1)=true)
  (a2:nsIn K mainGlobals "without"=some (some (.ref f2))) (l2:K.lookup f2=some ⟨oc2,od2,.func (fnOf "without" "without" (Aq CG) (Aj CG) (AH CG) .none kV2 dc2 pm2 an2 cd2 ct2),sl2⟩) (c2:codeIn K cd2 "without"=true) (k2:keepIn K (.ref f2)=true)
  (a3:nsIn K mainGlobals "nearest_of"=some (some (.ref f3))) (l3:K.lookup f3=some ⟨oc3,od3,.func (fnOf "nearest_of" "nearest_of" (Aq BS) (Aj BS) (AH BS) .none kV3 dc3 pm3 an3 cd3 ct3),sl3⟩) (c3:codeIn K cd3 "nearest_of"=true) (k3:keepIn K (.ref f3)=true)
  (a4:nsIn K mainGlobals "least_ways"=some (some (.ref f4))) (l4:K.lookup f4=some ⟨oc4,od4,.func (fnOf "least_ways" "least_ways" (Aq BU) (Aj BU) (AH BU) .none kV4 dc4 pm4 an4 cd4 ct4),sl4⟩) (c4:codeIn K cd4 "least_ways"=true) (k4:keepIn K (.ref f4)=true)
  (a5:nsIn K mainGlobals "way_of"=some (some (.ref f5))) (l5:K.lookup f5=some ⟨oc5,od5,.func (fnOf "way_of" "way_of" (Aq Cj) (Aj Cj) (AH Cj) .none kV5 dc5 pm5 an5 cd5 ct5),sl5⟩) (c5:codeIn K cd5 "way_of"=true) (k5:keepIn K (.ref f5)=true)
  (a6:nsIn K mainGlobals "round_of"=some (some (.ref f6))) (l6:K.lookup f6=some ⟨oc6,od6,.func (fnOf "round_of" "round_of" (Aq By) (Aj By) (AH By) .none kV6 dc6 pm6 an6 cd6 ct6),sl6⟩) (c6:codeIn K cd6 "round_of"=true) (k6:keepIn K (.ref f6)=true)
  (a7:nsIn K mainGlobals "_law_feed"=some (some (.ref f7))) (l7:K.lookup f7=some ⟨oc7,od7,.func (fnOf "_law_feed" "_law_feed" (Aq Bl) (Aj Bl) (AH Bl) .none kV7 dc7 pm7 an7 cd7 ct7),sl7⟩) (c7:codeIn K cd7 "_law_feed"=true) (k7:keepIn K (.ref f7)=true)
  (a8:nsIn K mainGlobals "_law_next"=some (some (.ref f8))) (l8:K.lookup f8=some ⟨oc8,od8,.func (fnOf "_law_next" "_law_next" (Aq BN) (Aj BN) (AH BN) .none kV8 dc8 pm8 an8 cd8 ct8),sl8⟩) (c8:codeIn K cd8 "_law_next"=true) (k8:keepIn K (.ref f8)=true)
  (a9:nsIn K mainGlobals "_law_places"=some (some (.ref f9))) (l9:K.lookup f9=some ⟨oc9,od9,.func (fnOf "_law_places" "_law_places" (Aq BD) (Aj BD) (AH BD) .none kV9 dc9 pm9 an9 cd9 ct9),sl9⟩) (c9:codeIn K cd9 "_law_places"=true) (k9:keepIn K (.ref f9)=true)
  (a10:nsIn K mainGlobals "_law_length"=some (some (.ref f10))) (l10:K.lookup f10=some ⟨oc10,od10,.func (fnOf "_law_length" "_law_length" (Aq BE) (Aj BE) (AH BE) .none kV10 dc10 pm10 an10 cd10 ct10),sl10⟩) (c10:codeIn K cd10 "_law_length"=true) (k10:keepIn K (.ref f10)=true)
  (a11:nsIn K mainGlobals "_law_net"=some (some (.ref f11))) (l11:K.lookup f11=some ⟨oc11,od11,.func (fnOf "_law_net" "_law_net" (Aq Bz) (Aj Bz) (AH Bz) .none kV11 dc11 pm11 an11 cd11 ct11),sl11⟩) (c11:codeIn K cd11 "_law_net"=true) (k11:keepIn K (.ref f11)=true)
  (a12:nsIn K mainGlobals "_law_steps"=some (some (.ref f12))) (l12:K.lookup f12=some ⟨oc12,od12,.func (fnOf "_law_steps" "_law_steps" (Aq BV) (Aj BV) (AH BV) .none kV12 dc12 pm12 an12 cd12 ct12),sl12⟩) (c12:codeIn K cd12 "_law_steps"=true) (k12:keepIn K (.ref f12)=true)
  (a13:nsIn K mainGlobals "_law_fewest"=some (some (.ref f13))) (l13:K.lookup f13=some ⟨oc13,od13,.func (fnOf "_law_fewest" "_law_fewest" (Aq BF) (Aj BF) (AH BF) .none kV13 dc13 pm13 an13 cd13 ct13),sl13⟩) (c13:codeIn K cd13 "_law_fewest"=true) (k13:keepIn K (.ref f13)=true)
  (a14:nsIn K mainGlobals "_law_ring"=some (some (.ref f14))) (l14:K.lookup f14=some ⟨oc14,od14,.func (fnOf "_law_ring" "_law_ring" (Aq Bk) (Aj Bk) (AH Bk) .none kV14 dc14 pm14 an14 cd14 ct14),sl14⟩) (c14:codeIn K cd14 "_law_ring"=true) (k14:keepIn K (.ref f14)=true)
  (a15:nsIn K mainGlobals "_law_right"=some (some (.ref f15))) (l15:K.lookup f15=some ⟨oc15,od15,.func (fnOf "_law_right" "_law_right" (Aq BX) (Aj BX) (AH BX) .none kV15 dc15 pm15 an15 cd15 ct15),sl15⟩) (c15:codeIn K cd15 "_law_right"=true) (k15:keepIn K (.ref f15)=true)
  (a16:nsIn K mainGlobals "law"=some (some (.ref f16))) (l16:K.lookup f16=some ⟨oc16,od16,.func (fnOf "law" "law" (Aq EJ) (Aj EJ) (AH EJ) .none kV16 dc16 pm16 an16 cd16 ct16),sl16⟩) (c16:codeIn K cd16 "law"=true) (k16:keepIn K (.ref f16)=true)
  (z_isinstance:nsIn K mainGlobals "isinstance"=some none)
  (z_len:nsIn K mainGlobals "len"=some none)
  (z_list:nsIn K mainGlobals "list"=some none)
  (z_max:nsIn K mainGlobals "max"=some none)
  (z_min:nsIn K mainGlobals "min"=some none)
  (z_range:nsIn K mainGlobals "range"=some none)
  (z_repr:nsIn K mainGlobals "repr"=some none)
  (z_reversed:nsIn K mainGlobals "reversed"=some none)
  (z_set:nsIn K mainGlobals "set"=some none)
  (z_sorted:nsIn K mainGlobals "sorted"=some none)
  (z_tuple:nsIn K mainGlobals "tuple"=some none)
  : ∃fd:FuncData,(∀(s:Shared) (v:Value),BindsTo s fd ⟨[v],[]⟩ [("_law_script",v)])/\∀base:Heap,K.In base->base.Ns mainGlobals mg->Bi l.prog w K mg base Dw 6 fa fd ["_law_script"] (JE K):=by
 have e:=hfa.symm.trans (mg_of X G a16)
 cases e
 have T:Txt K mg:=⟨mg_none_of X G z_isinstance,mg_none_of X G z_len,mg_none_of X G z_list,mg_none_of X G z_max,mg_none_of X G z_min,mg_none_of X G z_range,mg_none_of X G z_repr,mg_none_of X G z_reversed,mg_none_of X G z_set,mg_none_of X G z_sorted,mg_none_of X G z_tuple⟩
 have F0:=BP (st:=Bx) l0 c0 k0
 have b0:=F0.binds (ps:=["net"]) fun _ _ _ _ _ _ us hl=>by revert hl; revert us; exact fun us hl=>HL (g:=fun us=>bindArgs _ ⟨us,[]⟩) (k:=fun us=>pure (List.zip _ us)) us hl fun _=>rfl
 have F1:=BP (st:=El) l1 c1 k1
 have b1:=F1.binds (ps:=["net","ties"]) fun _ _ _ _ _ _ us hl=>by revert hl; revert us; exact fun us hl=>GF (g:=fun us=>bindArgs _ ⟨us,[]⟩) (k:=fun us=>pure (List.zip _ us)) us hl fun _ _=>rfl
 have F2:=BP (st:=CG) l2 c2 k2
 have b2:=F2.binds (ps:=["net","ties"]) fun _ _ _ _ _ _ us hl=>by revert hl; revert us; exact fun us hl=>GF (g:=fun us=>bindArgs _ ⟨us,[]⟩) (k:=fun us=>pure (List.zip _ us)) us hl fun _ _=>rfl
 have F3:=BP (st:=BS) l3 c3 k3
 have b3:=F3.binds (ps:=["waiting","found"]) fun _ _ _ _ _ _ us hl=>by revert hl; revert us; exact fun us hl=>GF (g:=fun us=>bindArgs _ ⟨us,[]⟩) (k:=fun us=>pure (List.zip _ us)) us hl fun _ _=>rfl
 have F4:=BP (st:=BU) l4 c4 k4
 have b4:=F4.binds (ps:=["net","start"]) fun _ _ _ _ _ _ us hl=>by revert hl; revert us; exact fun us hl=>GF (g:=fun us=>bindArgs _ ⟨us,[]⟩) (k:=fun us=>pure (List.zip _ us)) us hl fun _ _=>rfl
 have F5:=BP (st:=Cj) l5 c5 k5
 have b5:=F5.binds (ps:=["net","a","b"]) fun _ _ _ _ _ _ us hl=>by revert hl; revert us; exact fun us hl=>OR (g:=fun us=>bindArgs _ ⟨us,[]⟩) (k:=fun us=>pure (List.zip _ us)) us hl fun _ _ _=>rfl
 have F6:=BP (st:=By) l6 c6 k6
 have b6:=F6.binds (ps:=["net"]) fun _ _ _ _ _ _ us hl=>by revert hl; revert us; exact fun us hl=>HL (g:=fun us=>bindArgs _ ⟨us,[]⟩) (k:=fun us=>pure (List.zip _ us)) us hl fun _=>rfl
 have F7:=BP (st:=Bl) l7 c7 k7
 have b7:=F7.binds (ps:=["_law_script"]) fun _ _ _ _ _ _ us hl=>by revert hl; revert us; exact fun us hl=>HL (g:=fun us=>bindArgs _ ⟨us,[]⟩) (k:=fun us=>pure (List.zip _ us)) us hl fun _=>rfl
 have F8:=BP (st:=BN) l8 c8 k8
 have b8:=F8.binds (ps:=["_law_feed_here","_law_many"]) fun _ _ _ _ _ _ us hl=>by revert hl; revert us; exact fun us hl=>GF (g:=fun us=>bindArgs _ ⟨us,[]⟩) (k:=fun us=>pure (List.zip _ us)) us hl fun _ _=>rfl
 have F9:=BP (st:=BD) l9 c9 k9
 have b9:=F9.binds (ps:=["_law_feed_here","_law_many"]) fun _ _ _ _ _ _ us hl=>by revert hl; revert us; exact fun us hl=>GF (g:=fun us=>bindArgs _ ⟨us,[]⟩) (k:=fun us=>pure (List.zip _ us)) us hl fun _ _=>rfl
 have F10:=BP (st:=BE) l10 c10 k10
 have b10:=F10.binds (ps:=["_law_feed_here","_law_scale"]) fun _ _ _ _ _ _ us hl=>by revert hl; revert us; exact fun us hl=>GF (g:=fun us=>bindArgs _ ⟨us,[]⟩) (k:=fun us=>pure (List.zip _ us)) us hl fun _ _=>rfl
 have F11:=BP (st:=Bz) l11 c11 k11
 have b11:=F11.binds (ps:=["_law_feed_here","_law_most","_law_ties"]) fun _ _ _ _ _ _ us hl=>by revert hl; revert us; exact fun us hl=>OR (g:=fun us=>bindArgs _ ⟨us,[]⟩) (k:=fun us=>pure (List.zip _ us)) us hl fun _ _ _=>rfl
 have F12:=BP (st:=BV) l12 c12 k12
 have b12:=F12.binds (ps:=["_law_ties","_law_one","_law_other"]) fun _ _ _ _ _ _ us hl=>by revert hl; revert us; exact fun us hl=>OR (g:=fun us=>bindArgs _ ⟨us,[]⟩) (k:=fun us=>pure (List.zip _ us)) us hl fun _ _ _=>rfl
 have F13:=BP (st:=BF) l13 c13 k13
 have b13:=F13.binds (ps:=["_law_net_here"]) fun _ _ _ _ _ _ us hl=>by revert hl; revert us; exact fun us hl=>HL (g:=fun us=>bindArgs _ ⟨us,[]⟩) (k:=fun us=>pure (List.zip _ us)) us hl fun _=>rfl
 have F14:=BP (st:=Bk) l14 c14 k14
 have b14:=F14.binds (ps:=["_law_feed_here"]) fun _ _ _ _ _ _ us hl=>by revert hl; revert us; exact fun us hl=>HL (g:=fun us=>bindArgs _ ⟨us,[]⟩) (k:=fun us=>pure (List.zip _ us)) us hl fun _=>rfl
 have F15:=BP (st:=BX) l15 c15 k15
 have b15:=F15.binds (ps:=["_law_net_here"]) fun _ _ _ _ _ _ us hl=>by revert hl; revert us; exact fun us hl=>HL (g:=fun us=>bindArgs _ ⟨us,[]⟩) (k:=fun us=>pure (List.zip _ us)) us hl fun _=>rfl
 have F16:=BP (st:=EJ) l16 c16 k16
 refine⟨fnOf "law" "law" (Aq EJ) (Aj EJ) (AH EJ) .none kV16 dc16 pm16 an16 cd16 ct16,fun s v=>.of_eq rfl,fun base _ _=>?_⟩
 have G_steps_of:Got l.prog w K mg base "steps_of" 1 ["net"] .sh Im:=Bg F0 (mg_of X G a0) b0 (fun _ _ _ h=>by obtain⟨_,e,_⟩:=h; rw [e]; rfl) (JO F0)
 have G_only:Got l.prog w K mg base "only" 1 ["net","ties"] .sh D8:=Bg F1 (mg_of X G a1) b1 (fun _ _ _ h=>by obtain⟨_,_,_,e,_⟩:=h; rw [e]; rfl) (QB T  F1)
 have G_without:Got l.prog w K mg base "without" 2 ["net","ties"] .sh Cq:=Bg F2 (mg_of X G a2) b2 (fun _ _ _ h=>by obtain⟨_,_,e,_⟩:=h; rw [e]; rfl) (Ki T G_only F2)
 have G_nearest_of:Got l.prog w K mg base "nearest_of" 1 ["waiting","found"] .sh J1:=Bg F3 (mg_of X G a3) b3 (fun _ _ _ h=>by obtain⟨_,_,_,_,e,_⟩:=h; rw [e]; rfl) (Gz T  F3)
 have G_least_ways:Got l.prog w K mg base "least_ways" 2 ["net","start"] .fr Gm:=Bg F4 (mg_of X G a4) b4 (fun _ _ _ h=>by obtain⟨_,_,e,_⟩:=h; rw [e]; rfl) (G0 T G_nearest_of G_steps_of F4)
 have G_way_of:Got l.prog w K mg base "way_of" 3 ["net","a","b"] .sh NN:=Bg F5 (mg_of X G a5) b5 (fun _ _ _ h=>by obtain⟨_,_,_,e,_⟩:=h; rw [e]; rfl) (MX T G_least_ways F5)
 have G_round_of:Got l.prog w K mg base "round_of" 4 ["net"] .sh D7:=Bg F6 (mg_of X G a6) b6 (fun _ _ _ h=>by obtain⟨_,e,_⟩:=h; rw [e]; rfl) (JP T G_only G_way_of G_without F6)
 have Gf:=IG (P:=l.prog) (w:=w) (base:=base) T F7
 have G__law_next:Got l.prog w K mg base "_law_next" 1 ["_law_feed_here","_law_many"] .sh A2:=Bg F8 (mg_of X G a8) b8 (fun _ _ _ h=>by obtain⟨_,e,_⟩:=h; rw [e]; rfl) (QC F8 T.n_len)
 have G__law_places:Got l.prog w K mg base "_law_places" 2 ["_law_feed_here","_law_many"] .fr C5:=Bg F9 (mg_of X G a9) b9 (fun _ _ _ h=>by obtain⟨_,e,_⟩:=h; rw [e]; rfl) (Fy T G__law_next F9)
 have G__law_length:Got l.prog w K mg base "_law_length" 2 ["_law_feed_here","_law_scale"] .sh Io:=Bg F10 (mg_of X G a10) b10 (fun _ _ _ h=>by obtain⟨_,e,_⟩:=h; rw [e]; rfl) (Fz T G__law_next F10)
 have G__law_net:Got l.prog w K mg base "_law_net" 3 ["_law_feed_here","_law_most","_law_ties"] .sh PM:=Bg F11 (mg_of X G a11) b11 (fun _ _ _ h=>by obtain⟨_,_,e,_⟩:=h; rw [e]; rfl) (JQ T G__law_length G__law_next G__law_places F11)
 have G__law_steps:Got l.prog w K mg base "_law_steps" 1 ["_law_ties","_law_one","_law_other"] .sh Ef:=Bg F12 (mg_of X G a12) b12 (fun _ _ _ h=>by obtain⟨_,_,_,e,_⟩:=h; rw [e]; rfl) (G1 T  F12)
 have G__law_fewest:Got l.prog w K mg base "_law_fewest" 2 ["_law_net_here"] .sh DR:=Bg F13 (mg_of X G a13) b13 (fun _ _ _ h=>by obtain⟨_,e,_⟩:=h; rw [e]; rfl) (F_ T G__law_steps F13)
 have G__law_ring:Got l.prog w K mg base "_law_ring" 3 ["_law_feed_here"] .sh Gk:=Bg F14 (mg_of X G a14) b14 (fun _ _ _ h=>by obtain⟨e,_⟩:=h; rw [e]; rfl) (IF T G__law_length G__law_next G__law_places F14)
 have G__law_right:Got l.prog w K mg base "_law_right" 5 ["_law_net_here"] .sh Dk:=Bg F15 (mg_of X G a15) b15 (fun _ _ _ h=>by obtain⟨_,e,_⟩:=h; rw [e]; rfl) (G2 T G__law_fewest G_round_of F15)
 exact R7 T Gf (mg_of X G a7) F7.kp b7 G__law_net G__law_right G__law_ring G_round_of F16
theorem walk{l:PySem.W.OpenLaw}{q:Program}{loose:List Str}{XP:(Str->Option Value)->Heap->Prop}{YP:World->Heap->Prop}{d:DefRec}{K:Params->Frag}(hn:l.most=some 63)(hdf:d.params.defaults=[])
  (hY:∀(w:World) (h:Heap),YP w h->(K w.params).In h)
  (F:∀(w:World) (mg:Str->Option Value) (fa:Addr) (h:Heap),(K w.params).In h->h.Ns mainGlobals mg->mg d.name=some (.ref fa) ->
   ∃fd:FuncData,(∀(s:Shared) (u:Value),BindsTo s fd ⟨[u],[]⟩ [("_law_script",u)])/\∀base:Heap,(K w.params).In base->base.Ns mainGlobals mg->Bi l.prog w (K w.params) mg base Dw 6 fa fd ["_law_script"] (JE (K w.params))) :
  PySem.W.WalkO q loose XP YP l.row.toRowW d [] (fun f vs=>PySem.call f vs) :=
 L2.LB (n:=63) (k:=6) (x := "_law_script") (CX:=fun _=>Dw) (sp:=fun w=>JE (K w.params)) hn (by decide) hdf ⟨rfl,by decide,by decide,rfl⟩ hY F (fun _ _ a ns hl _ hS=>⟨a,ns,rfl,⟨hl,hS⟩,fun _=>rfl⟩) fun _ _ _ _ _ z=>z
end K08
open PySem PySem.W PyProof.Rows
set_option maxRecDepth 100000 in
set_option maxHeartbeats 0 in
theorem PySem.Challenge.cw_thinnet_k08_rounds_holds : PySem.Challenge.rw_thinnet_k08_rounds.Holds := by
 w_on; o_law; k_head; (case hw=>w_witness2)
 k_fill
 refine K08.walk (l:=PySem.Challenge.rw_thinnet_k08_rounds) rfl rfl (fun w h Y=>PySem.W.kIn_of Y) ?F
 case F =>
  intro w mg fa h KX G hmg
  refine' K08.all_mk KX G hmg ?a0 ?l0 ?c0 ?k0 ?a1 ?l1 ?c1 ?k1 ?a2 ?l2 ?c2 ?k2 ?a3 ?l3 ?c3 ?k3 ?a4 ?l4 ?c4 ?k4 ?a5 ?l5 ?c5 ?k5 ?a6 ?l6 ?c6 ?k6 ?a7 ?l7 ?c7 ?k7 ?a8 ?l8 ?c8 ?k8 ?a9 ?l9 ?c9 ?k9 ?a10 ?l10 ?c10 ?k10 ?a11 ?l11 ?c11 ?k11 ?a12 ?l12 ?c12 ?k12 ?a13 ?l13 ?c13 ?k13 ?a14 ?l14 ?c14 ?k14 ?a15 ?l15 ?c15 ?k15 ?a16 ?l16 ?c16 ?k16 ?z_isinstance ?z_len ?z_list ?z_max ?z_min ?z_range ?z_repr ?z_reversed ?z_set ?z_sorted ?z_tuple
  case a0=>k_is
  case l0=>k_is
  case c0=>k_is
  case k0=>k_is
  case a1=>k_is
  case l1=>k_is
  case c1=>k_is
  case k1=>k_is
  case a2=>k_is
  case l2=>k_is
  case c2=>k_is
  case k2=>k_is
  case a3=>k_is
  case l3=>k_is
  case c3=>k_is
  case k3=>k_is
  case a4=>k_is
  case l4=>k_is
  case c4=>k_is
  case k4=>k_is
  case a5=>k_is
  case l5=>k_is
  case c5=>k_is
  case k5=>k_is
  case a6=>k_is
  case l6=>k_is
  case c6=>k_is
  case k6=>k_is
  case a7=>k_is
  case l7=>k_is
  case c7=>k_is
  case k7=>k_is
  case a8=>k_is
  case l8=>k_is
  case c8=>k_is
  case k8=>k_is
  case a9=>k_is
  case l9=>k_is
  case c9=>k_is
  case k9=>k_is
  case a10=>k_is
  case l10=>k_is
  case c10=>k_is
  case k10=>k_is
  case a11=>k_is
  case l11=>k_is
  case c11=>k_is
  case k11=>k_is
  case a12=>k_is
  case l12=>k_is
  case c12=>k_is
  case k12=>k_is
  case a13=>k_is
  case l13=>k_is
  case c13=>k_is
  case k13=>k_is
  case a14=>k_is
  case l14=>k_is
  case c14=>k_is
  case k14=>k_is
  case a15=>k_is
  case l15=>k_is
  case c15=>k_is
  case k15=>k_is
  case a16=>k_is
  case l16=>k_is
  case c16=>k_is
  case k16=>k_is
  case z_isinstance=>k_is
  case z_len=>k_is
  case z_list=>k_is
  case z_max=>k_is
  case z_min=>k_is
  case z_range=>k_is
  case z_repr=>k_is
  case z_reversed=>k_is
  case z_set=>k_is
  case z_sorted=>k_is
  case z_tuple=>k_is
#print axioms PySem.Challenge.cw_thinnet_k08_rounds_holds

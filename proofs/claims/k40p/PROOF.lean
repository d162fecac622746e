import PyProof.Rows.All
import Wide.All
import OpenK.AllK
import Wide.FinOn
import Lean
import PyProof.EqAt
import PyProof.EqKinds
import PyProof.TupleCall
import PyProof.P3In
import PyProof.NeData
import PyProof.ReprLen
import PyProof.CompUse
import KE.KSortTup
import PyProof.SumAny
import PyProof.Rows.SeqCalls
import KE.KRevIter
import PyProof.TupleOfGen
import PyProof.CollectIter
import PyProof.Draws
import PyProof.EnumMake
import PySem.Challenge.RW_thinnet_k40_thinned_for_many
open PySem.W (Frag nsIn keepIn fnOf codeIn mg_of mg_none_of)
set_option genSizeOf false
set_option Elab.async false
set_option linter.all false
set_option maxRecDepth 100000
namespace L2
open PySem PySem.Spec PyProof.Rows
noncomputable abbrev Key:=Sum Int Str
noncomputable def JE:Key->Value->Bool
 | .inl k,v=>Value.isInt k v
 | .inr x,v=>Value.isStrOf x v
noncomputable def Vf(w:World):Key->Int
 | .inl k=>hashInt k
 | .inr x=>hashStr w x
theorem BD:∀{k:Key} {v:Value},JE k v=true->(∃i t,k=Sum.inl i/\v=Value.int i t)\/(∃x t,k=Sum.inr x/\v=Value.str x t)
 | .inl i,v,h=>by
  obtain⟨t,e⟩:=Value.isInt_shape (k:=i) (v:=v) h
  exact .inl ⟨i,t,rfl,e⟩
 | .inr x,v,h=>by
  obtain⟨t,e⟩:=Value.isStrOf_shape (x:=x) (v:=v) h
  exact .inr ⟨x,t,rfl,e⟩
theorem OM(i:Int)(t:Tok):JE (.inl i) (.int i t)=true:=by simp [JE,Value.isInt]
theorem OL(x:Str)(t:Tok):JE (.inr x) (.str x t)=true:=by simp [JE,Value.isStrOf]
theorem TL(a b:Int):decide ((Sum.inl a:Key)=Sum.inl b)=(a==b):=by
 by_cases e:a=b
 ·subst e; simp
 ·have h:¬(Sum.inl a:Key)=Sum.inl b:=fun q=>e (Sum.inl.inj q)
  rw [decide_eq_false h]
  exact(beq_eq_false_iff_ne.mpr e).symm
theorem TH(a b:Str):decide ((Sum.inr a:Key)=Sum.inr b)=decide (a=b):=by
 by_cases e:a=b
 ·subst e; simp
 ·have h:¬(Sum.inr a:Key)=Sum.inr b:=fun q=>e (Sum.inr.inj q)
  rw [decide_eq_false h,decide_eq_false e]
theorem TK(a:Int)(b:Str):decide ((Sum.inl a:Key)=Sum.inr b)=false:=decide_eq_false (fun q=>nomatch q)
theorem TJ(a:Str)(b:Int):decide ((Sum.inr a:Key)=Sum.inl b)=false:=decide_eq_false (fun q=>nomatch q)
noncomputable def A3(prog:Program)(w:World):PySem.KeyKind prog w Key where
 is:=JE
 hash:=Vf w
 inj:=fun v a b ha hb=>by
  rcases BD ha with ⟨i,t,rfl,rfl⟩ | ⟨x,t,rfl,rfl⟩
  ·rcases BD hb with ⟨j,u,rfl,e⟩ | ⟨y,u,rfl,e⟩
   ·injection e with e1 _; rw [e1]
   ·exact nomatch e
  ·rcases BD hb with ⟨j,u,rfl,e⟩ | ⟨y,u,rfl,e⟩
   ·exact nomatch e
   ·injection e with e1 _; rw [e1]
 byValue:=fun k v h=>by
  rcases BD h with ⟨i,t,rfl,rfl⟩ | ⟨x,t,rfl,rfl⟩ <;> rfl
 pyHash:=fun hv h=>by
  rcases BD hv with ⟨i,t,rfl,rfl⟩ | ⟨x,t,rfl,rfl⟩
  ·exact wpAny_pyHash_int h
  ·exact wpAny_pyHash_str h
 eqBool:=fun hu hv h=>by
  rcases BD hu with ⟨i,t,rfl,rfl⟩ | ⟨x,t,rfl,rfl⟩
  ·rcases BD hv with ⟨j,u,rfl,rfl⟩ | ⟨y,u,rfl,rfl⟩
   ·rw [TL] at h; exact wpAny_eqBool_int h
   ·rw [TK] at h; exact SeqAt.EqAt.int_str i t y u _ _ _ _ h
  ·rcases BD hv with ⟨j,u,rfl,rfl⟩ | ⟨y,u,rfl,rfl⟩
   ·rw [TJ] at h; exact SeqAt.EqAt.str_int x t j u _ _ _ _ h
   ·rw [TH] at h; exact wpAny_eqBool_str h
 «strs»:=fun k x t v h=>by
  rcases BD h with ⟨i,u,rfl,e⟩ | ⟨y,u,rfl,e⟩
  ·exact nomatch e
  ·injection e with e1 _
   subst e1
   cases v <;> rfl
theorem LE(prog:Program)(w:World)(i:Int)(t:Tok):(A3 prog w).is (.inl i) (.int i t)=true:=OM i t
theorem LD(prog:Program)(w:World)(x:Str)(t:Tok):(A3 prog w).is (.inr x) (.str x t)=true:=OL x t
inductive V where
 | non | bl (b:Bool) | int (i:Int) | str (x:Str) | byt (b:Array UInt8) | flt (b:UInt64) | ref (a:Addr) | ty (n:String)
 deriving DecidableEq
noncomputable def RelV:V->Value->Prop
 | .non,u=>u=Value.none
 | .bl b,u=>u=Value.bool b
 | .int i,u=>∃t,u=Value.int i t
 | .str x,u=>∃t,u=Value.str x t
 | .byt b,u=>∃t,u=Value.bytes b t
 | .flt b,u=>∃t,u=Value.float b t
 | .ref a,u=>u=Value.ref a
 | .ty n,u=>u=Value.type n
noncomputable abbrev Vals:List V->List Value->Prop:=Paired RelV
theorem Vals.length{xs:List V}{us:List Value}(r:Vals xs us):xs.length=us.length:=Paired.length r
theorem Vals.get:∀{xs:List V} {us:List Value} {i:Nat} {x:V},Vals xs us->xs[i]?=some x->∃u,us[i]?=some u/\RelV x u
 | _,_,_,_,.nil,e=>by simp at e
 | _,_,0,_,.cons r _,e=>by simp at e; subst e; exact⟨_,rfl,r⟩
 | _,_,i+1,x,.cons _ t,e=>by
  obtain⟨u,h1,h2⟩:=Vals.get (i:=i) (x:=x) t (by simpa using e)
  exact⟨u,by simpa using h1,h2⟩
theorem Vals.set{x:V}{u:Value}(r:RelV x u):∀{xs:List V} {us:List Value} (i:Nat),Vals xs us->Vals (xs.set i x) (us.set i u)
 | _,_,_,.nil=>.nil
 | _,_,0,.cons _ t=>.cons r t
 | _,_,i+1,.cons q t=>.cons q (Vals.set r i t)
theorem Vals.append:∀{xs ys:List V} {us ws:List Value},Vals xs us->Vals ys ws->Vals (xs++ys) (us++ws)
 | _,_,_,_,.nil,s=>s
 | _,_,_,_,.cons r t,s=>.cons r (Vals.append t s)
theorem Vals.take:∀{xs:List V} {us:List Value} (n:Nat),Vals xs us->Vals (xs.take n) (us.take n)
 | _,_,0,_=>.nil
 | _,_,_+1,.nil=>.nil
 | _,_,n+1,.cons r t=>.cons r (Vals.take n t)
theorem Vals.drop:∀{xs:List V} {us:List Value} (n:Nat),Vals xs us->Vals (xs.drop n) (us.drop n)
 | _,_,0,r=>r
 | _,_,_+1,.nil=>.nil
 | _,_,n+1,.cons _ t=>Vals.drop n t
noncomputable def RelO:Option V->Option Value->Prop
 | some v,some u=>RelV v u
 | none,none=>True
 | _,_=>False
noncomputable def KV{κ:Type}:List (κ×V)->List (κ×Value)->Prop:=Paired fun(p:κ×V) (q:κ×Value)=>p.1=q.1/\RelV p.2 q.2
noncomputable def kV:Key->V
 | .inl i=>.int i
 | .inr x=>.str x
inductive HO where
 | lst (xs:List V)
 | tup (xs:List V)
 | dK (kvs:List (Key×V)) | dT (kvs:List (List Key×V))
 | set (S:Int->Bool) (n:Nat)
 | ins (C dx:Addr) (fs:List (Str×V))
 | own (x:Addr)
 | xd (fs:List (Str×V))
 | met (f x:Addr)
 | rng (lo hi:Int)
 | frz (o:Obj) (u:HO)
 | tbl (ps:Array Value)
 | ext (φ:Heap->Prop)
noncomputable abbrev Hp:=Addr->Option HO
noncomputable def A9(H:Hp)(a:Addr)(o:HO):Hp:=fun b=>if b=a then some o else H b
theorem AV{H:Hp}{a:Addr}{o:HO}:A9 H a o a=some o:=by unfold A9; rw [if_pos rfl]
theorem AQ{H:Hp}{a b:Addr}{o:HO}(h:b≠a):A9 H a o b=H b:=by unfold A9; rw [if_neg h]
theorem Uh{H:Hp}{a b:Addr}{o u:HO}(h:H a=some o)(h':H b=some u)(d:o≠u):a≠b:=by
 intro e; subst e; rw [h] at h'; exact d (Option.some.inj h')
theorem Al{H:Hp}{a b:Addr}{o:HO}(h:H a=some o)(h':H b=none):a≠b:=by
 intro e; subst e; rw [h] at h'; cases h'
noncomputable def IsTupN(h:Heap)(a:Addr)(items:Array Value):Prop:=∃o,h.get? a=some o/\o.cls=.type "tuple"/\∃n,o.data=.seq items n/\o.dict=none/\o.slots=#[]
theorem IsTupN.tup{h:Heap}{a:Addr}{items:Array Value}(x:IsTupN h a items):IsTup h a items:=let ⟨o,h1,h2,n,h3,_⟩:=x; ⟨o,h1,h2,n,h3⟩
theorem IsTupN.new(h:Heap)(items:Array Value):IsTupN (h.push { cls:=.type "tuple",data:=.seq items }) h.objs.size items:=⟨_,Heap.get?_push_size _ rfl,rfl,_,rfl,rfl,rfl⟩
section
variable (P:Program)(w:World)
noncomputable def ObjOk(H:Hp)(h:Heap)(a:Addr):HO->Prop
 | .lst xs=>xs.length<=sizeLine/\∃(its:List Value) (n:Nat),Vals xs its/\h.get? a=some { cls:=.type "list",data:=.seq its.toArray n }
 | .tup xs=>xs.length<=sizeLine/\∃its:List Value,Vals xs its/\IsTupN h a its.toArray
 | .dK kvs=>kvs.length<=sizeLine/\(a==sysModules)=false/\∃vs,KV kvs vs/\h.DictOf (A3 P w) a vs
 | .dT kvs=>kvs.length<=sizeLine/\(a==sysModules)=false/\∃xs:List (List Key×Addr×Value),
   Paired (fun(p:List Key×V) (q:List Key×Addr×Value)=>p.1=q.1/\H q.2.1=some (.tup (p.1.map kV))/\RelV p.2 q.2.2) kvs xs /\
   ∃o es ep,h.get? a=some o/\o.ExactDict/\o.data=.dict es ep/\es.toList=xs.map (entryOfKey (tupleKind (A3 P w)))/\(xs.map (·.1)).Nodup
 | .set S n=>h.SetOf (intKind P w) a S n
 | .ins C dx fs=>H dx=some (.own a)/\fs.length<=1000/\dx≠a/\h.get? a=some (PySem.W.instObj C dx) /\
   ∃mA,h.Ns1 dx mA/\(∀f,RelO (fs.lookup f) (mA f))/\PySem.Within mA (fs.map (·.1))
 | .own _=>∃o,h.get? a=some o
 | .xd fs=>∃mA,h.Ns1 a mA/\∀f,RelO (fs.lookup f) (mA f)
 | .rng lo hi=>∃t u v,h.get? a=some { cls:=.type "range",data:=.fields #[.int lo t,.int hi u,.int 1 v] }
 | .frz o u=>h.get? a=some o/\ObjOk H h a u
 | .tbl ps=>h.get? a=some { cls:=.none,data:=.fields ps }
 | .met f x=>h.get? a=some (PySem.W.methodObj (.ref f) (.ref x))
 | .ext φ=>φ h/\(∃o,h.get? a=some o)/\∀h1 h2:Heap,φ h1->(∀o,h1.get? a=some o->h2.get? a=some o)->φ h2
noncomputable def HOk(H:Hp)(h:Heap):Prop:=∀a o,H a=some o->ObjOk P w H h a o
end
section
variable {P:Program}{w:World}{H H':Hp}{h h':Heap}{a:Addr}{o:HO}
theorem ObjOk.lt(x:ObjOk P w H h a o):a<h.objs.size:=by
 cases o with
 | lst xs=>obtain⟨_,_,_,_,e⟩:=x; exact Heap.lt_size e
 | tup xs=>obtain⟨_,_,_,p⟩:=x; exact p.tup.lt
 | dK kvs=>obtain⟨_,_,_,_,o,_,_,e,_⟩:=x; exact Heap.lt_size e
 | dT kvs=>obtain⟨_,_,_,_,o,_,_,e,_⟩:=x; exact Heap.lt_size e
 | set S n=>obtain⟨o,_,_,_,e,_⟩:=x; exact Heap.lt_size e
 | ins C dx fs=>obtain⟨_,_,_,e,_⟩:=x; exact Heap.lt_size e
 | own y=>obtain⟨_,e⟩:=x; exact Heap.lt_size e
 | xd fs=>obtain⟨_,⟨_,_,_,e,_⟩,_⟩:=x; exact Heap.lt_size e
 | rng lo hi=>obtain⟨_,_,_,e⟩:=x; exact Heap.lt_size e
 | frz ob u=>obtain⟨e,_⟩:=x; exact Heap.lt_size e
 | tbl ps=>exact Heap.lt_size (show h.get? a=some _ from x)
 | met f y=>exact Heap.lt_size (show h.get? a=some _ from x)
 | ext φ=>obtain⟨_,⟨_,e⟩,_⟩:=x; exact Heap.lt_size e
theorem Paired.mapP{α β:Type}{F G:α->β->Prop}:∀{l₁:List α} {l₂:List β},Paired F l₁ l₂->(∀a b,F a b->G a b)->Paired G l₁ l₂
 | _,_,.nil,_=>.nil
 | _,_,.cons r t,f=>.cons (f _ _ r) (Paired.mapP t f)
theorem ObjOk.stay(x:ObjOk P w H h a o)(k:∀b u,(b=a\/H b=some (.own a))->h.get? b=some u->h'.get? b=some u)
  (ho:∀b,H b=some (.own a)->H' b=some (.own a)) (ht:∀b xs,H b=some (.tup xs)->H' b=some (.tup xs)):ObjOk P w H' h' a o:=by
 induction o with
 | lst xs=>obtain⟨z,its,n,r,e⟩:=x; exact⟨z,its,n,r,k _ _ (.inl rfl) e⟩
 | tup xs=>obtain⟨z,its,r,ob,e,c⟩:=x; exact⟨z,its,r,ob,k _ _ (.inl rfl) e,c⟩
 | dK kvs=>obtain⟨z,y,vs,r,ob,es,ep,e,c⟩:=x; exact⟨z,y,vs,r,ob,es,ep,k _ _ (.inl rfl) e,c⟩
 | dT kvs =>
  obtain⟨z,y,xs,r,ob,es,ep,e,c⟩:=x
  exact⟨z,y,xs,Paired.mapP r fun p q z=>⟨z.1,ht _ _ z.2.1,z.2.2⟩,ob,es,ep,k _ _ (.inl rfl) e,c⟩
 | set S n=>obtain⟨ob,es,ep,t,e,c⟩:=x; exact⟨ob,es,ep,t,k _ _ (.inl rfl) e,c⟩
 | ins C dx fs =>
  obtain⟨d,z,ne,e,mA,⟨od,es,ep,e2,c⟩,r⟩:=x
  exact⟨ho _ d,z,ne,k _ _ (.inl rfl) e,mA,⟨od,es,ep,k _ _ (.inr d) e2,c⟩,r⟩
 | own y=>obtain⟨ob,e⟩:=x; exact⟨ob,k _ _ (.inl rfl) e⟩
 | xd fs=>obtain⟨mA,⟨od,es,ep,e,c⟩,r⟩:=x; exact⟨mA,⟨od,es,ep,k _ _ (.inl rfl) e,c⟩,r⟩
 | rng lo hi=>obtain⟨t,u,v,e⟩:=x; exact⟨t,u,v,k _ _ (.inl rfl) e⟩
 | frz ob u ih=>obtain⟨e,q⟩:=x; exact⟨k _ _ (.inl rfl) e,ih q⟩
 | tbl ps =>
  have e:h.get? a=some { cls:=.none,data:=.fields ps }:=x
  show h'.get? a=some { cls:=.none,data:=.fields ps }
  exact k a _ (.inl rfl) e
 | met f y =>
  have e:h.get? a=some (PySem.W.methodObj (.ref f) (.ref y)):=x
  show h'.get? a=some (PySem.W.methodObj (.ref f) (.ref y))
  exact k a _ (.inl rfl) e
 | ext φ=>obtain⟨p,⟨o,e⟩,st⟩:=x; exact⟨st _ _ p fun o q=>k _ _ (.inl rfl) q,⟨o,k _ _ (.inl rfl) e⟩,st⟩
theorem HOk.lt(x:HOk P w H h)(e:H a=some o):a<h.objs.size:=(x a o e).lt
theorem HOk.fresh(x:HOk P w H h)(e:h.objs.size<=a):H a=none:=by
 cases q:H a with
 | none=>rfl
 | some u=>exact absurd (Nat.lt_of_lt_of_le (x.lt q) e) (Nat.lt_irrefl _)
theorem HOk.kept(x:HOk P w H h)(k:∀b u,h.get? b=some u->h'.get? b=some u):HOk P w H h':=fun a o e =>
 (x a o e).stay (fun b u _ q=>k b u q) (fun _ q=>q) fun _ _ q=>q
theorem HOk.laid(x:HOk P w H h)(k:∀b u,h.get? b=some u->h'.get? b=some u)(hp:h.objs.size<=a)(new:ObjOk P w (A9 H a o) h' a o):HOk P w (A9 H a o) h':=fun b u e=>by
 have hn:=x.fresh hp
 by_cases hb:b=a
 ·subst hb; rw [AV] at e; cases e; exact new
 ·rw [AQ hb] at e
  exact(x b u e).stay (fun c v _ q=>k c v q) (fun c q=>by rw [AQ (Al q hn)]; exact q) fun c xs q=>by rw [AQ (Al q hn)]; exact q
end
noncomputable def Rd(H:Hp)(a:Addr)(u:HO):Prop:=H a=some u\/∃o,H a=some (.frz o u)
theorem Rd.ok{P:Program}{w:World}{H:Hp}{h:Heap}{a:Addr}{u:HO}(r:Rd H a u)(x:HOk P w H h):ObjOk P w H h a u:=by
 rcases r with r | ⟨o,r⟩
 ·exact x a u r
 ·obtain⟨_,q⟩:=x a _ r
  exact q
noncomputable def U8:Option HO->Prop
 | some (.lst _)=>True
 | some (.dK _)=>True
 | some (.dT _)=>True
 | some (.set _ _)=>True
 | some (.ins _ _ _)=>True
 | some (.ext _)=>True
 | _=>False
section
variable {P:Program}{w:World}{H:Hp}{h h':Heap}{x e:Addr}{o':HO}
theorem HOk.write(ok:HOk P w H h)(mu:U8 (H x))(he:e=x\/H e=some (.own x))(k:∀b u,b≠e->h.get? b=some u->h'.get? b=some u)(heo:∃u,h'.get? e=some u)
  (new:ObjOk P w (A9 H x o') h' x o'):HOk P w (A9 H x o') h':=fun b u q=>by
 have nown:∀c y,H c=some (.own y)->c≠x:=fun c y r z=>by subst z; rw [r] at mu; exact mu
 have ntup:∀c xs,H c=some (.tup xs)->c≠x:=fun c xs r z=>by subst z; rw [r] at mu; exact mu
 by_cases hb:b=x
 ·subst hb; rw [AV] at q; cases q; exact new
 ·rw [AQ hb] at q
  by_cases hbe:b=e
  ·have q':H b=some (.own x):=by
    rcases he with z | z
    ·exact absurd (hbe.trans z) hb
    ·rw [hbe]; exact z
   rw [q] at q'; cases q'
   obtain⟨v,hv⟩:=heo
   exact⟨v,by rw [hbe]; exact hv⟩
  ·refine(ok b u q).stay (fun c v hc r=>k c v ?_ r) (fun c r=>by rw [AQ (nown c b r)]; exact r) fun c xs r=>by rw [AQ (ntup c xs r)]; exact r
   rcases hc with rfl | hc
   ·exact hbe
   ·rintro rfl
    rcases he with z | z
    ·exact nown c b hc z
    ·rw [hc] at z; cases z; exact hb rfl
end
structure Un (fs ex:List Addr) (H H':Hp) (h h':Heap):Prop where
 keep:∀b o,h.get? b=some o->H b=none->b∉fs->b∉ex->h'.get? b=some o
 slot:∀b o,h.get? b=some o->H b=none->b∈fs->b∉ex->∃sl,h'.get? b=some { o with slots:=sl }
 free:∀b o,h.get? b=some o->H b=none->b∉ex->H' b=none
 there:∀b o,h.get? b=some o->b∉ex->∃o',h'.get? b=some o'
 tups:∀b xs,H b=some (.tup xs)->H' b=some (.tup xs)
 frzs:∀b o u,H b=some (.frz o u)->H' b=some (.frz o u)
 tbls:∀b ps,H b=some (.tbl ps)->∃more,H' b=some (.tbl (ps++more))
section
variable {fs fs' ex ex':List Addr}{H H1 H2:Hp}{h h1 h2 h':Heap}{a x e:Addr}{o:HO}
theorem Un.any(u:Un fs ex H H1 h h1){b:Addr}{ob:Obj}(q:h.get? b=some ob)(n:H b=none)(hx:b∉ex):∃sl,h1.get? b=some { ob with slots:=sl }:=by
 by_cases hb:b∈fs
 ·exact u.slot b ob q n hb hx
 ·exact⟨ob.slots,u.keep b ob q n hb hx⟩
theorem Un.kept(k:∀b u,h.get? b=some u->h'.get? b=some u):Un fs ex H H h h' :=
 ⟨fun b ob q _ _ _=>k b ob q,fun b ob q _ _ _=>⟨ob.slots,k b ob q⟩,fun _ _ _ n _=>n,fun b ob q _=>⟨ob,k b ob q⟩,fun _ _ q=>q,fun _ _ _ q=>q,fun _ ps q=>⟨#[],by rw [q]; simp⟩⟩
theorem Un.refl:Un fs ex H H h h:=Un.kept fun _ _ q=>q
theorem Un.laid(k:∀b u,h.get? b=some u->h'.get? b=some u)(hp:h.objs.size<=a)(hn:H a=none):Un fs ex H (A9 H a o) h h' where
 keep:=fun b u q _ _ _=>k b u q
 slot:=fun b u q _ _ _=>⟨u.slots,k b u q⟩
 free:=fun b u q n _=>by rw [AQ (Nat.ne_of_lt (Nat.lt_of_lt_of_le (Heap.lt_size q) hp))]; exact n
 there:=fun b u q _=>⟨u,k b u q⟩
 tups:=fun b xs q=>by rw [AQ (Al q hn)]; exact q
 frzs:=fun b u xs q=>by rw [AQ (Al q hn)]; exact q
 tbls:=fun b ps q=>⟨#[],by rw [AQ (Al q hn),q]; simp⟩
theorem Un.write(mu:U8 (H x))(he:e=x\/H e=some (.own x))(k:∀b u,b≠e->h.get? b=some u->h'.get? b=some u)(heo:∃u,h'.get? e=some u):Un fs ex H (A9 H x o) h h':=by
 have hx:∀b,H b=none->b≠x:=fun b n z=>by subst z; rw [n] at mu; exact mu
 have hb:∀b,H b=none->b≠e:=fun b n z=>by
  subst z
  rcases he with r | r
  ·exact hx b n r
  ·rw [n] at r; cases r
 have hm:∀b u,H b=some u->¬U8 (some u)->b≠x:=fun b u q nm z=>by subst z; rw [q] at mu; exact nm mu
 refine⟨fun b u q n _ _=>k b u (hb b n) q,fun b u q n _ _=>⟨u.slots,k b u (hb b n) q⟩,fun b u q n _=>by rw [AQ (hx b n)]; exact n,fun b u q _=>?_,
  fun b xs q=>by rw [AQ (hm b _ q fun z=>z)]; exact q,fun b u xs q=>by rw [AQ (hm b _ q fun z=>z)]; exact q,fun b ps q=>⟨#[],by rw [AQ (hm b _ q fun z=>z),q]; simp⟩⟩
 by_cases hbe:b=e
 ·subst hbe; exact heo
 ·exact⟨u,k b u hbe q⟩
end
noncomputable def VB(h:Heap)(H:Hp):List Addr:=(List.range h.objs.size).filter fun a=>(H a).isSome
noncomputable def J_(h:Heap)(H:Hp):Heap:=PySem.W.hideAll h (VB h H)
theorem OQ(h:Heap)(H:Hp):(J_ h H).objs.size=h.objs.size:=PySem.W.hideAll_size _ _
theorem P_{h:Heap}{H:Hp}{b:Addr}{o:Obj}(e:h.get? b=some o)(n:H b=none):(J_ h H).get? b=some o :=
 PySem.W.hideAll_get _ e fun hm=>by
  have q:(H b).isSome=true:=(List.mem_filter.mp hm).2
  rw [n] at q; simp at q
theorem Q7{h:Heap}{H:Hp}{b:Addr}{o:Obj}(e:(J_ h H).get? b=some o):h.get? b=some o/\H b=none:=by
 have e':h.get? b=some o:=PySem.W.of_hideAll (VB h H) e
 refine⟨e',?_⟩
 cases q:H b with
 | none=>rfl
 | some x =>
  have hm:b∈VB h H:=List.mem_filter.mpr ⟨List.mem_range.mpr (Heap.lt_size e'),by simp [q]⟩
  have z:(J_ h H).get? b=none:=PySem.W.hideAll_none (VB h H) hm
  rw [z] at e; cases e
structure Mod (K:Frag) (mg:Str->Option Value) (base:Heap):Prop where
 kin:K.In base
 glob:base.Ns mainGlobals mg
 blt:∃mb,base.Ns builtinsNs mb/\∀x:Str,x ≠ "__name__"->mb x=bootBuiltins x
 nolimit:base.NoLimit
/-- the context: a def's body (or a comprehension's block) running. base: fixed through the whole law; s₀, H₀: the entry; outer: the frames whose slots others may change (a def's callers); stack: all frames that run;
   ex: iterators that were made ahead of the entry and are walked here (a comprehension's); fn: the names whose cells were made at the entry (a def: all; a comprehension's block: its own); calm: not within an except suite; pn: pins that every state bears; xe: what is wanted of an exception that leaves the code -/
structure Cx where
 prog:Program
 w:World
 K:Frag
 mg:Str->Option Value
 base:Heap
 A:Around
 N:List Str
 s₀:Shared
 H₀:Hp
 env:Env
 outer:List Env
 stack:List Env
 ex:List Addr
 fn:Str->Bool
 calm:Bool
 pn:List (Addr×Obj)
 xe:Value->Shared->Prop
noncomputable def Og(l:List Env):List Addr:=l.filterMap (·.frame)
noncomputable abbrev Cx.fs(X:Cx):List Addr:=Og X.outer
noncomputable def Tv(sc:Scope)(x:Str):Prop:=sc.names.lookup x=some .local\/sc.names.lookup x=some .cell\/sc.names.lookup x=some .free
noncomputable def Loc(sc:Scope)(x:Str):Prop:=sc.names.lookup x=some .local\/sc.names.lookup x=some .cell
noncomputable def Look(env:Env)(h:Heap)(m:Str->Option Value)(x:Str)(u:Value):Prop :=
 (env.kindOf x=some .local/\m x=some u)\/((env.kindOf x=some .cell\/env.kindOf x=some .free)/\∃c,env.cells.lookup x=some c/\h.IsCell c (some u))
structure Cx.Ok (X:Cx):Prop where
 mod:Mod X.K X.mg X.base
 kind:X.env.scope.kind=.function
 glob:X.env.globals=mainGlobals
 blt:X.env.builtins=builtinsNs
 above:X.s₀.heap.objs.size<=X.env.locals
 inj:∀x y c,X.env.cells.lookup x=some c->X.env.cells.lookup y=some c->x=y
 has:∀x,(X.env.kindOf x=some .cell\/X.env.kindOf x=some .free)->∃c,X.env.cells.lookup x=some c
 cab:∀x c,X.fn x=true->X.env.cells.lookup x=some c->X.s₀.heap.objs.size<=c
 hd:X.calm=true->X.A.handled=none
 frames:X.A.frames=some X.stack
 stk:X.stack=X.outer\/(X.stack=X.env::X.outer/\X.env.frame=some X.env.locals)
 exf:∀b∈X.ex,b≠X.env.locals/\∀x c,X.env.cells.lookup x=some c->c≠b
 bs:∀b o,X.base.get? b=some o->X.s₀.heap.get? b=some o/\X.H₀ b=none
 bsz:X.base.objs.size<=X.s₀.heap.objs.size
 noex:∀b o,X.base.get? b=some o->b∉X.ex
 exfs:∀b∈X.ex,b∉X.fs
 funs:X.s₀.heap.FunFrames X.base X.outer
 frf:∀b∈X.fs,X.H₀ b=none
structure Inv (X:Cx) (pins:List (Addr×Obj)) (σ:List (Option V)) (H:Hp) (s:Shared):Prop where
 ok:X.Ok
 os:s.os=X.s₀.os
 bare:AllBare s.gens
 base:Un X.fs X.ex X.H₀ H X.s₀.heap s.heap
 loc:∃m,s.heap.Ns X.env.locals m/\∀(i:Nat) (x:Str) (v:V),X.N[i]?=some x->σ[i]?=some (some v)->Tv X.env.scope x->∃u,RelV v u/\Look X.env s.heap m x u
 cell:∀x c,X.env.cells.lookup x=some c->∃v,s.heap.IsCell c v
 free:H X.env.locals=none
 freeC:∀x c,X.env.cells.lookup x=some c->H c=none
 pin:∀p∈X.pn++pins,s.heap.get? p.1=some p.2/\H p.1=none/\p.1≠X.env.locals/\p.1∉X.fs/\∀v,p.2.data≠.cell v
 hok:HOk X.prog X.w H s.heap
 len:σ.length=X.N.length
section
variable {X:Cx}{pins:List (Addr×Obj)}{σ:List (Option V)}{H H':Hp}{s:Shared}{h':Heap}
theorem Cx.Ok.nofr(ok:X.Ok){b:Addr}{o:Obj}(e:X.base.get? b=some o):b∉X.fs:=fun hb=>by
 have:=(ok.funs.mem hb).1
 rw [e] at this; cases this
theorem Inv.bs(I:Inv X pins σ H s):∀b o,X.base.get? b=some o->s.heap.get? b=some o/\H b=none:=fun b o e =>
 ⟨I.base.keep b o (I.ok.bs b o e).1 (I.ok.bs b o e).2 (I.ok.nofr e) (I.ok.noex b o e),I.base.free b o (I.ok.bs b o e).1 (I.ok.bs b o e).2 (I.ok.noex b o e)⟩
theorem Inv.bk(I:Inv X pins σ H s):∀b o,X.base.get? b=some o->s.heap.get? b=some o:=fun b o e=>(I.bs b o e).1
theorem Inv.mod(I:Inv X pins σ H s):Mod X.K X.mg X.base:=I.ok.mod
theorem Inv.kIn(I:Inv X pins σ H s):X.K.In s.heap:=I.ok.mod.kin.keeps I.bk
theorem Inv.lt(I:Inv X pins σ H s):X.env.locals<s.heap.objs.size:=let ⟨_,hn,_⟩:=I.loc; hn.lt
theorem Inv.sz(I:Inv X pins σ H s):X.s₀.heap.objs.size<=s.heap.objs.size:=Nat.le_trans I.ok.above (Nat.le_of_lt I.lt)
theorem Inv.nofs(I:Inv X pins σ H s){a:Addr}(h:s.heap.objs.size<=a):a∉X.fs:=fun hb=>by
 obtain⟨_,o,ho,_⟩:=I.ok.funs.mem hb
 exact absurd (Nat.lt_of_lt_of_le (Heap.lt_size ho) (Nat.le_trans I.sz h)) (Nat.lt_irrefl _)
theorem Inv.cne(I:Inv X pins σ H s):∀x c,X.env.cells.lookup x=some c->c≠X.env.locals:=fun x c e z=>by
 obtain⟨v,o,ho,hd⟩:=I.cell x c e
 obtain⟨m,⟨o',es,ep,ho',hd',_⟩,_⟩:=I.loc
 rw [z,ho'] at ho; cases ho; rw [hd'] at hd; cases hd
theorem Inv.funs(I:Inv X pins σ H s):s.heap.FunFrames X.base X.outer:=by
 have all:∀(l:List Env),(∀b∈Og l,b∈X.fs)->X.s₀.heap.FunFrames X.base l->s.heap.FunFrames X.base l:=by
  intro l
  induction l with
  | nil=>intro _ _; trivial
  | cons env r ih =>
   intro hs hl
   obtain⟨hk,⟨L,o,hf,hn,ho,hd⟩,hr⟩:=hl
   have hL:L∈X.fs:=hs L (by unfold Og; rw [List.filterMap_cons,hf]; exact List.mem_cons_self)
   obtain⟨sl,e⟩:=I.base.slot L o ho (I.ok.frf L hL) hL fun z=>I.ok.exfs L z hL
   exact⟨hk,⟨L,_,hf,hn,e,hd⟩,ih (fun b hb=>hs b (by unfold Og; rw [List.filterMap_cons,hf]; exact List.mem_cons_of_mem _ hb)) hr⟩
 exact all X.outer (fun _ hb=>hb) I.ok.funs
theorem Inv.stack(I:Inv X pins σ H s):s.heap.FunFrames X.base X.stack:=by
 rcases I.ok.stk with e | ⟨e,hf⟩
 ·rw [e]; exact I.funs
 ·rw [e]
  obtain⟨m,hn,_⟩:=I.loc
  refine .cons (by rw [I.ok.kind]; decide) hf hn ?_ I.funs
  exact Heap.get?_none_of_le (Nat.le_trans I.ok.bsz I.ok.above)
theorem Inv.stkSub(I:Inv X pins σ H s):∀b∈Og X.stack,b∈X.env.locals::X.fs:=fun b hb=>by
 rcases I.ok.stk with e | ⟨e,hf⟩
 ·rw [e] at hb; exact List.mem_cons_of_mem _ hb
 ·rw [e] at hb
  unfold Og at hb
  rw [List.filterMap_cons,hf] at hb
  exact hb
theorem Inv.stkFree(I:Inv X pins σ H s):∀b∈Og X.stack,H b=none:=fun b hb=>by
 rcases List.mem_cons.mp (I.stkSub b hb) with e | hb
 ·rw [e]; exact I.free
 ·obtain⟨_,o,ho,_⟩:=I.ok.funs.mem hb
  exact I.base.free b o ho (I.ok.frf b hb) fun z=>I.ok.exfs b z hb
theorem Inv.step{g':Array GenState}{t':Nat}{d':Drawn}{ch:List Addr}(I:Inv X pins σ H s)
  (hch:∀b∈ch,(b∈X.ex\/X.s₀.heap.objs.size<=b)/\b≠X.env.locals/\(∀x c,X.env.cells.lookup x=some c->c≠b)/\∀p∈X.pn++pins,p.1≠b)
  (keep:∀b o,b≠X.env.locals->b∉X.fs->b∉ch->s.heap.get? b=some o->H b=none->h'.get? b=some o)
  (slot:∀b o,b≠X.env.locals->b∈X.fs->b∉ch->s.heap.get? b=some o->H b=none->∃sl,h'.get? b=some { o with slots:=sl }) (free:∀b o,b∉ch->s.heap.get? b=some o->H b=none->H' b=none)
  (there:∀b o,b∉ch->s.heap.get? b=some o->∃o',h'.get? b=some o')
  (tups:∀b xs,H b=some (.tup xs)->H' b=some (.tup xs)) (frzs:∀b o u,H b=some (.frz o u)->H' b=some (.frz o u)) (tbls:∀b ps,H b=some (.tbl ps)->∃more,H' b=some (.tbl (ps++more)))
  (ns:∀m,s.heap.Ns X.env.locals m->h'.Ns X.env.locals m) (hok:HOk X.prog X.w H' h') (hg:AllBare g') :
  Inv X pins σ H' { s with heap:=h',gens:=g',drawn:=d',toks:=t' }:=by
 have neL:∀b o,X.s₀.heap.get? b=some o->b≠X.env.locals:=fun b o e=>Nat.ne_of_lt (Nat.lt_of_lt_of_le (Heap.lt_size e) I.ok.above)
 have neC:∀b o,X.s₀.heap.get? b=some o->b∉X.ex->b∉ch:=fun b o e hx hb=>by
  rcases (hch b hb).1 with z | z
  ·exact hx z
  ·exact absurd (Nat.lt_of_lt_of_le (Heap.lt_size e) z) (Nat.lt_irrefl _)
 have cellK:∀x c,X.env.cells.lookup x=some c->∀v,s.heap.IsCell c v->h'.IsCell c v:=fun x c e v ⟨o,ho,hd⟩=>by
  have nch:c∉ch:=fun z=>(hch c z).2.2.1 x c e rfl
  by_cases hc:c∈X.fs
  ·obtain⟨sl,q⟩:=slot c o (I.cne x c e) hc nch ho (I.freeC x c e)
   exact⟨_,q,hd⟩
  ·exact⟨o,keep c o (I.cne x c e) hc nch ho (I.freeC x c e),hd⟩
 refine⟨I.ok,I.os,hg,⟨fun b o e n hb hx=>?_,fun b o e n hb hx=>?_,fun b o e n hx=>?_,fun b o e hx=>?_,fun b xs e=>tups b xs (I.base.tups b xs e),fun b o xs e=>frzs b o xs (I.base.frzs b o xs e),fun b ps e=>?_⟩,?_,fun x c e=>?_,?_,fun x c e=>?_,fun p hp=>?_,hok,I.len⟩
 ·exact keep b o (neL b o e) hb (neC b o e hx) (I.base.keep b o e n hb hx) (I.base.free b o e n hx)
 ·obtain⟨sl,e1⟩:=I.base.slot b o e n hb hx
  obtain⟨sl',e2⟩:=slot b _ (neL b o e) hb (neC b o e hx) e1 (I.base.free b o e n hx)
  exact⟨sl',e2⟩
 ·obtain⟨o',e1⟩:=I.base.there b o e hx
  exact free b o' (neC b o e hx) e1 (I.base.free b o e n hx)
 ·obtain⟨o',e1⟩:=I.base.there b o e hx
  exact there b o' (neC b o e hx) e1
 ·obtain⟨m1,e1⟩:=I.base.tbls b ps e
  obtain⟨m2,e2⟩:=tbls b _ e1
  exact⟨m1++m2,by rw [e2,Array.append_assoc]⟩
 ·obtain⟨m,hn,hl⟩:=I.loc
  refine⟨m,ns m hn,fun i x v e1 e2 e3=>?_⟩
  obtain⟨u,r,l⟩:=hl i x v e1 e2 e3
  refine⟨u,r,?_⟩
  rcases l with l | ⟨k,c,e,z⟩
  ·exact .inl l
  ·exact .inr ⟨k,c,e,cellK x c e _ z⟩
 ·obtain⟨v,z⟩:=I.cell x c e
  exact⟨v,cellK x c e v z⟩
 ·obtain⟨m,⟨o,_,_,ho,_⟩,_⟩:=I.loc
  exact free _ o (fun z=>(hch _ z).2.1 rfl) ho I.free
 ·obtain⟨v,o,ho,hd⟩:=I.cell x c e
  exact free c o (fun z=>(hch c z).2.2.1 x c e rfl) ho (I.freeC x c e)
 ·obtain⟨e,n,ne,nf,d⟩:=I.pin p hp
  have nch:p.1∉ch:=fun z=>(hch p.1 z).2.2.2 p hp rfl
  exact⟨keep p.1 p.2 ne nf nch e n,free p.1 p.2 nch e n,ne,nf,d⟩
theorem Inv.un{t':Nat}(I:Inv X pins σ H s)(u:Un X.fs [] H H' s.heap h')(hok:HOk X.prog X.w H' h'):Inv X pins σ H' { s with heap:=h',toks:=t' }:=by
 obtain⟨m,⟨o,es,ep,ho,r⟩,_⟩:=id I.loc
 obtain⟨sl,hL⟩:=u.any ho I.free (by simp)
 exact I.step (g':=s.gens) (d':=s.drawn) (ch:=[]) (fun _ z=>nomatch z) (fun b o _ hb _ e n=>u.keep b o e n hb (by simp)) (fun b o _ hb _ e n=>u.slot b o e n hb (by simp)) (fun b o _ e n=>u.free b o e n (by simp)) (fun b o _ e=>u.there b o e (by simp)) u.tups u.frzs u.tbls (fun m' hm=>by
  obtain⟨o',es',ep',ho',r'⟩:=hm
  rw [ho] at ho'; cases ho'
  exact⟨_,es',ep',hL,r'⟩) hok I.bare
theorem Inv.call{g':Array GenState}{t':Nat}{d':Drawn}{ch:List Addr}(I:Inv X pins σ H s)(u:Un (Og X.stack) ch H H' s.heap h')(hok:HOk X.prog X.w H' h')(hg:AllBare g')
  (hch:∀b∈ch,(b∈X.ex\/X.s₀.heap.objs.size<=b)/\b≠X.env.locals/\(∀x c,X.env.cells.lookup x=some c->c≠b)/\∀p∈X.pn++pins,p.1≠b) :
  Inv X pins σ H' { s with heap:=h',gens:=g',drawn:=d',toks:=t' }:=by
 obtain⟨m,⟨o,es,ep,ho,r⟩,_⟩:=id I.loc
 obtain⟨sl,hL⟩:=u.any ho I.free fun z=>(hch _ z).2.1 rfl
 exact I.step (ch:=ch) hch (fun b o hL hb hc e n=>u.keep b o e n (fun z=>(List.mem_cons.mp (I.stkSub b z)).elim hL hb) hc) (fun b o _ _ hc e n=>u.any e n hc) (fun b o hc e n=>u.free b o e n hc) (fun b o hc e=>u.there b o e hc) u.tups u.frzs u.tbls (fun m' hm=>by
  obtain⟨o',es',ep',ho',r'⟩:=hm
  rw [ho] at ho'; cases ho'
  exact⟨_,es',ep',hL,r'⟩) hok hg
theorem Inv.turned{t':Nat}{it:Addr}(I:Inv X pins σ H s)(k:∀b o,b≠it->s.heap.get? b=some o->h'.get? b=some o)(hn:H it=none)(hL:it≠X.env.locals)
  (h1:it∈X.ex\/X.s₀.heap.objs.size<=it) (h2:∀x c,X.env.cells.lookup x=some c->c≠it) (h3:∀p∈X.pn++pins,p.1≠it):Inv X pins σ H { s with heap:=h',toks:=t' }:=by
 have nit:∀b u,H b=some u->b≠it:=fun b u e z=>by rw [z,hn] at e; cases e
 refine I.step (g':=s.gens) (d':=s.drawn) (ch:=[it]) (fun b hb=>?_) (fun b o _ _ hc e _=>k b o (fun z=>hc (by simp [z])) e) (fun b o _ _ hc e _=>⟨o.slots,k b o (fun z=>hc (by simp [z])) e⟩) (fun _ _ _ _ n=>n)
  (fun b o hc e=>⟨o,k b o (fun z=>hc (by simp [z])) e⟩) (fun _ _ e=>e) (fun _ _ _ e=>e) (fun b ps e=>⟨#[],by rw [e]; simp⟩) (fun m hm=>?_) (fun b u e=>?_) I.bare
 ·have e:b=it:=by simpa using hb
  subst e
  exact⟨h1,hL,h2,h3⟩
 ·obtain⟨o,es,ep,ho,r⟩:=hm
  exact⟨o,es,ep,k _ o (Ne.symm hL) ho,r⟩
 ·refine(I.hok b u e).stay (fun c v hc q=>k c v ?_ q) (fun _ q=>q) fun _ _ q=>q
  rcases hc with z | z
  ·rw [z]; exact nit b u e
  ·exact nit c _ z
theorem Inv.tok(I:Inv X pins σ H s)(t:Nat):Inv X pins σ H { s with toks:=t }:=I.un (h':=s.heap) (t':=t) Un.refl I.hok
theorem Inv.kept{t':Nat}(I:Inv X pins σ H s)(k:∀b u,s.heap.get? b=some u->h'.get? b=some u):Inv X pins σ H { s with heap:=h',toks:=t' }:=I.un (Un.kept k) (I.hok.kept k)
theorem Inv.laid{a:Addr}{o:HO}{t':Nat}(I:Inv X pins σ H s)(k:∀b u,s.heap.get? b=some u->h'.get? b=some u)(hp:s.heap.objs.size<=a)(new:ObjOk X.prog X.w (A9 H a o) h' a o) :
  Inv X pins σ (A9 H a o) { s with heap:=h',toks:=t' }:=I.un (Un.laid k hp (I.hok.fresh hp)) (I.hok.laid k hp new)
theorem Inv.write{x e:Addr}{o:HO}{t':Nat}(I:Inv X pins σ H s)(mu:U8 (H x))(he:e=x\/H e=some (.own x))(k:∀b u,b≠e->s.heap.get? b=some u->h'.get? b=some u)(heo:∃u,h'.get? e=some u)
  (new:ObjOk X.prog X.w (A9 H x o) h' x o):Inv X pins σ (A9 H x o) { s with heap:=h',toks:=t' }:=I.un (Un.write mu he k heo) (I.hok.write mu he k heo new)
theorem Inv.pins_of{pins':List (Addr×Obj)}(I:Inv X pins σ H s)(h:∀p∈pins',s.heap.get? p.1=some p.2/\H p.1=none/\p.1≠X.env.locals/\p.1∉X.fs/\∀v,p.2.data≠.cell v):Inv X pins' σ H s :=
 ⟨I.ok,I.os,I.bare,I.base,I.loc,I.cell,I.free,I.freeC,fun p hp=>(List.mem_append.mp hp).elim (fun z=>I.pin p (List.mem_append_left _ z)) (h p),I.hok,I.len⟩
theorem LA{N:List Str}(hN:N.Nodup){i j:Nat}{x:Str}(a:N[i]?=some x)(b:N[j]?=some x):i=j:=by
 obtain⟨h1,e1⟩:=List.getElem?_eq_some_iff.mp a
 obtain⟨h2,e2⟩:=List.getElem?_eq_some_iff.mp b
 exact(List.getElem_inj hN).mp (e1.trans e2.symm)
theorem Ng{M:Model}{A:Around}{E:Value->Shared->Prop}{i:Nat}{x:Str}{v:V}{u:Value}{Q:Unit->Shared->Prop}(I:Inv X pins σ H s)(hN:X.N.Nodup)(hi:X.N[i]?=some x)(hx:Loc X.env.scope x)(r:RelV v u)
  (h:∀s',Inv X pins (σ.set i (some v)) H s'->(∃a,Heap.SameBut a s.heap s'.heap/\(a=X.env.locals\/X.env.cells.lookup x=some a))->Q () s') (hf:X.fn x=true\/X.env.scope.names.lookup x=some .local:=by first | exact .inl rfl | exact .inr rfl | assumption):wpAny M A (storeName X.env x u) Q E s:=by
 obtain⟨m,hn,hl⟩:=id I.loc
 have hcls:(X.env.scope.kind==.class||(X.env.scope.kind==.module&&X.env.locals != X.env.globals))=false:=by rw [I.ok.kind]; rfl
 have hiσ:i<σ.length:=by rw [I.len]; exact(List.getElem?_eq_some_iff.mp hi).1
 have cne:=I.cne
 have tracked:∀{a:Addr} {h':Heap},(∃o,s.heap.get? a=some o/\H a=none)->Heap.SameBut a s.heap h'->HOk X.prog X.w H h':=fun {a h'} ha hs b ob e=>by
  obtain⟨_,_,hfree⟩:=ha
  refine(I.hok b ob e).stay (fun c w' hc q=>(hs.2 c ?_).trans q) (fun _ q=>q) fun _ _ q=>q
  rintro rfl
  rcases hc with rfl | hc
  ·rw [hfree] at e; cases e
  ·rw [hfree] at hc; cases hc
 rcases hx with hk | hk
 ·refine wpAny_storeName_local hk hn (fun h' hn' hs=>?_) hcls
  obtain⟨oL,_,_,hoL,_⟩:=id hn
  refine h _ ⟨I.ok,I.os,I.bare,⟨fun b o e n hb hx=>?_,fun b o e n hb hx=>?_,I.base.free,fun b o e hx=>?_,I.base.tups,I.base.frzs,I.base.tbls⟩,⟨_,hn',fun j y v' e1 e2 e3=>?_⟩,fun y c e=>?_,I.free,I.freeC,fun p hp=>?_,tracked ⟨oL,hoL,I.free⟩ hs,by simpa using I.len⟩ ⟨_,hs,.inl rfl⟩
  ·exact(hs.2 b (Nat.ne_of_lt (Nat.lt_of_lt_of_le (Heap.lt_size e) I.ok.above))).trans (I.base.keep b o e n hb hx)
  ·obtain⟨sl,e1⟩:=I.base.slot b o e n hb hx
   exact⟨sl,(hs.2 b (Nat.ne_of_lt (Nat.lt_of_lt_of_le (Heap.lt_size e) I.ok.above))).trans e1⟩
  ·obtain⟨o',e1⟩:=I.base.there b o e hx
   exact⟨o',(hs.2 b (Nat.ne_of_lt (Nat.lt_of_lt_of_le (Heap.lt_size e) I.ok.above))).trans e1⟩
  ·by_cases hj:j=i
   ·subst hj
    rw [hi] at e1; cases e1
    rw [List.getElem?_set_self hiσ] at e2
    cases e2
    exact⟨u,r,.inl ⟨hk,by simp⟩⟩
   ·rw [List.getElem?_set_ne (Ne.symm hj)] at e2
    obtain⟨u',r',q⟩:=hl j y v' e1 e2 e3
    refine⟨u',r',?_⟩
    rcases q with ⟨k,e⟩ | ⟨k,c,e,z⟩
    ·refine .inl ⟨k,?_⟩
     have:y≠x:=fun e=>hj (LA hN e1 (e▸hi))
     simp [this,e]
    ·exact .inr ⟨k,c,e,z.sameBut hs (cne y c e)⟩
  ·obtain⟨w',z⟩:=I.cell y c e
   exact⟨w',z.sameBut hs (cne y c e)⟩
  ·obtain⟨e,n,ne,nf,d⟩:=I.pin p hp
   exact⟨(hs.2 p.1 ne).trans e,n,ne,nf,d⟩
 ·have hfn:X.fn x=true:=by
   rcases hf with z | z
   ·exact z
   ·rw [z] at hk; cases hk
  obtain⟨c,hc⟩:=I.ok.has x (.inl hk)
  obtain⟨w',z⟩:=I.cell x c hc
  refine wpAny_storeName_cell I.ok.kind hk hc z (fun h' hc' hs=>?_)
  obtain⟨oc,hoc,hocd⟩:=id z
  refine h { s with heap:=h' } ⟨I.ok,I.os,I.bare,⟨fun b o e n hb hx=>?_,fun b o e n hb hx=>?_,I.base.free,fun b o e hx=>?_,I.base.tups,I.base.frzs,I.base.tbls⟩,⟨m,hn.sameBut hs (Ne.symm (cne x c hc)),fun j y v' e1 e2 e3=>?_⟩,fun y c' e=>?_,I.free,I.freeC,fun p hp=>?_,tracked ⟨oc,hoc,I.freeC x c hc⟩ hs,by simpa using I.len⟩ ⟨c,hs,.inr hc⟩
  ·exact(hs.2 b (Nat.ne_of_lt (Nat.lt_of_lt_of_le (Heap.lt_size e) (I.ok.cab x c hfn hc)))).trans (I.base.keep b o e n hb hx)
  ·obtain⟨sl,e1⟩:=I.base.slot b o e n hb hx
   exact⟨sl,(hs.2 b (Nat.ne_of_lt (Nat.lt_of_lt_of_le (Heap.lt_size e) (I.ok.cab x c hfn hc)))).trans e1⟩
  ·obtain⟨o',e1⟩:=I.base.there b o e hx
   exact⟨o',(hs.2 b (Nat.ne_of_lt (Nat.lt_of_lt_of_le (Heap.lt_size e) (I.ok.cab x c hfn hc)))).trans e1⟩
  ·by_cases hj:j=i
   ·subst hj
    rw [hi] at e1; cases e1
    rw [List.getElem?_set_self hiσ] at e2
    cases e2
    exact⟨u,r,.inr ⟨.inl hk,c,hc,hc'⟩⟩
   ·rw [List.getElem?_set_ne (Ne.symm hj)] at e2
    obtain⟨u',r',q⟩:=hl j y v' e1 e2 e3
    refine⟨u',r',?_⟩
    rcases q with q | ⟨k,c',e,z'⟩
    ·exact .inl q
    ·refine .inr ⟨k,c',e,z'.sameBut hs ?_⟩
     rintro rfl
     exact hj (LA hN e1 (I.ok.inj _ _ _ e hc▸hi))
  ·by_cases hcc:c'=c
   ·subst hcc; exact⟨_,hc'⟩
   ·obtain⟨w2,z2⟩:=I.cell y c' e
    exact⟨w2,z2.sameBut hs hcc⟩
  ·obtain⟨e,n,ne,nf,d⟩:=I.pin p hp
   refine⟨(hs.2 p.1 ?_).trans e,n,ne,nf,d⟩
   intro q
   rw [q,hoc] at e
   have q':oc=p.2:=Option.some.inj e
   exact d w' (by rw [← q']; exact hocd)
theorem HH{M:Model}{A:Around}{E:Value->Shared->Prop}{i:Nat}{x:Str}{v:V}{u:Value}{Q:Unit->Shared->Prop}(I:Inv X pins σ H s)(hN:X.N.Nodup)(hi:X.N[i]?=some x)(hx:Loc X.env.scope x)(r:RelV v u)
  (h:∀s',Inv X pins (σ.set i (some v)) H s'->Q () s') (hf:X.fn x=true\/X.env.scope.names.lookup x=some .local:=by first | exact .inl rfl | exact .inr rfl | assumption):wpAny M A (storeName X.env x u) Q E s :=
 Ng I hN hi hx r (fun s' I' _=>h s' I') hf
theorem Inv.call'{s':Shared}{ch:List Addr}(I:Inv X pins σ H s)(ho:s'.os=s.os)(u:Un (Og X.stack) ch H H' s.heap s'.heap)(hok:HOk X.prog X.w H' s'.heap)(hg:AllBare s'.gens)
  (hch:∀b∈ch,(b∈X.ex\/X.s₀.heap.objs.size<=b)/\b≠X.env.locals/\(∀x c,X.env.cells.lookup x=some c->c≠b)/\∀p∈X.pn++pins,p.1≠b):Inv X pins σ H' s':=by
 obtain⟨h',g',d',t',o'⟩:=s'
 have e:o'=s.os:=ho
 subst e
 exact I.call (g':=g') (t':=t') (d':=d') u hok hg hch
end
noncomputable abbrev XK:=Value->Option Addr->Hp->Prop
noncomputable abbrev St:=List (Option V)
noncomputable abbrev VK:=V->Hp->Prop
noncomputable abbrev TE:=St->Hp->VK->Prop
noncomputable abbrev TT:=St->Hp->(Bool->Hp->Prop)->Prop
noncomputable abbrev TA:=St->Hp->(List V->Hp->Prop)->Prop
structure Ends where
 nx:St->Hp->Prop
 rt:VK
 bk:St->Hp->Prop:=fun _ _=>False
 ct:St->Hp->Prop:=fun _ _=>False
noncomputable abbrev TS:=Ends->St->Hp->Prop
noncomputable def EP(X:Cx)(pins:List (Addr×Obj))(σ:St)(Q:VK)(u:Value)(s':Shared):Prop:=∃v H',Inv X pins σ H' s'/\RelV v u/\Q v H'
noncomputable def TP(X:Cx)(pins:List (Addr×Obj))(σ:St)(Q:Bool->Hp->Prop)(b:Bool)(s':Shared):Prop:=∃H',Inv X pins σ H' s'/\Q b H'
noncomputable def AP(X:Cx)(pins:List (Addr×Obj))(σ:St)(Q:List V->Hp->Prop)(us:List Value)(s':Shared):Prop:=∃vs H',Inv X pins σ H' s'/\Vals vs us/\Q vs H'
noncomputable def SP(X:Cx)(pins:List (Addr×Obj))(D:Ends)(f:Flow)(s':Shared):Prop :=
 match f with
 | .next=>∃σ' H',Inv X pins σ' H' s'/\D.nx σ' H'
 | .brk=>∃σ' H',Inv X pins σ' H' s'/\D.bk σ' H'
 | .cont=>∃σ' H',Inv X pins σ' H' s'/\D.ct σ' H'
 | .ret u=>∃v σ' H',Inv X pins σ' H' s'/\RelV v u/\D.rt v H'
noncomputable def PE(X:Cx)(e:Expr)(t:TE):Prop :=
 ∀(pins:List (Addr×Obj)) (s:Shared) (σ:St) (H:Hp) (Q:VK),Inv X pins σ H s->t σ H Q->wpAny (model X.prog X.w) X.A (eval e X.env) (EP X pins σ Q) X.xe s
noncomputable def PT(X:Cx)(e:Expr)(t:TT):Prop :=
 ∀(pins:List (Addr×Obj)) (s:Shared) (σ:St) (H:Hp) (Q:Bool->Hp->Prop),Inv X pins σ H s->t σ H Q->wpAny (model X.prog X.w) X.A (isTrue e X.env (eval e X.env)) (TP X pins σ Q) X.xe s
noncomputable def PW(X:Cx)(e:Expr)(t:TT):Prop :=
 ∀(whole:Sem Value) (pins:List (Addr×Obj)) (s:Shared) (σ:St) (H:Hp) (Q:Bool->Hp->Prop),Inv X pins σ H s->t σ H Q->wpAny (model X.prog X.w) X.A (isTrue e X.env whole) (TP X pins σ Q) X.xe s
theorem PW.pt{X:Cx}{e:Expr}{t:TT}(h:PW X e t):PT X e t:=h _
noncomputable def PA(X:Cx)(es:List Expr)(t:TA):Prop :=
 ∀(pos:Pos) (pins:List (Addr×Obj)) (s:Shared) (σ:St) (H:Hp) (Q:List V->Hp->Prop),Inv X pins σ H s->t σ H Q->wpAny (model X.prog X.w) X.A (spliced (backTo pos (starEach es X.env))) (AP X pins σ Q) X.xe s
noncomputable def PS(X:Cx)(st:Stmt)(t:TS):Prop :=
 ∀(pins:List (Addr×Obj)) (s:Shared) (σ:St) (H:Hp) (D:Ends),Inv X pins σ H s->t D σ H->wpAny (model X.prog X.w) X.A (exec st X.env) (SP X pins D) X.xe s
noncomputable def PSs(X:Cx)(st:List Stmt)(t:TS):Prop :=
 ∀(pins:List (Addr×Obj)) (s:Shared) (σ:St) (H:Hp) (D:Ends),Inv X pins σ H s->t D σ H->wpAny (model X.prog X.w) X.A (execs st X.env) (SP X pins D) X.xe s
theorem BX{α:Type}{t:Sem α}{Q Q':α->Shared->Prop}{M:Model}{A:Around}{E:Value->Shared->Prop}{s:Shared}(h:wpAny M A t Q E s)(hQ:∀a s,Q a s->Q' a s):wpAny M A t Q' E s:=wpAny_mono h hQ fun _ _ x=>x
section
variable {X:Cx}
noncomputable def Bo(i:Nat):TE:=fun σ H Q=>∃v,σ[i]?=some (some v)/\Q v H
noncomputable def tC(v:V):TE:=fun _ H Q=>Q v H
theorem Jt{i:Nat}{x:Str}{pos:Pos}(hN:X.N[i]?=some x)(hv:Tv X.env.scope x)(hd:(x==("__debug__" : Str))=false:=by decide)(hcd:(x==("__classdict__" : Str))=false:=by decide):PE X (.Name x pos) (Bo i):=by
 intro pins s σ H Q I h
 obtain⟨v,e,h⟩:=h
 obtain⟨m,hn,hl⟩:=I.loc
 obtain⟨u,r,l⟩:=hl i x v hN e hv
 have fin:EP X pins σ Q u s:=⟨v,H,I,r,h⟩
 rcases l with ⟨hk,hm⟩ | ⟨hk,c,hc,hcell⟩
 ·exact wpAny_Name (wpAny_loadName_local I.ok.kind hk hn hm fin) hd
 ·rcases hk with hk | hk
  ·exact wpAny_Name (wpAny_loadName_cell I.ok.kind hk hc hcell fin) hd
  ·exact wpAny_Name (wpAny_loadName_free I.ok.kind hk hc hcell fin hcd) hd
theorem Au{i j pos}:PE X (.Constant (.int i) j pos) (tC (.int i)):=fun _ _ _ H _ I h=>wpAny_Constant_int ⟨.int i,H,I.tok _,⟨_,rfl⟩,h⟩
theorem Ub{b j pos}:PE X (.Constant (.bool b) j pos) (tC (.bl b)):=fun _ _ _ H _ I h=>Constant_bool ⟨.bl b,H,I,rfl,h⟩
theorem S5{j pos}:PE X (.Constant .none j pos) (tC .non):=fun _ _ _ H _ I h=>Constant_none ⟨.non,H,I,rfl,h⟩
theorem S4{x j pos}:PE X (.Constant (.str x) j pos) (tC (.str x)):=fun _ _ _ H _ I h=>Calls.Constant_str ⟨.str x,H,I.tok _,⟨_,rfl⟩,h⟩
noncomputable def Gl(X:Cx)(x:Str):Prop:=X.env.kindOf x=some .globalImplicit
theorem M_{E:Value->Shared->Prop}{pins:List (Addr×Obj)}{s:Shared}{σ:St}{H:Hp}{x:Str}{u:Value}{pos:Pos}{Q:Value->Shared->Prop}(I:Inv X pins σ H s)(hg:Gl X x)(hm:X.mg x=some u)(h:Q u s)
  (hd:(x==("__debug__" : Str))=false:=by decide):wpAny (model X.prog X.w) X.A (eval (.Name x pos) X.env) Q E s :=
 Calls.Name_function_global I.ok.kind hg (Calls.loadGlobal_global (by rw [I.ok.glob]; exact I.mod.glob.keeps I.bk) hm h) hd
theorem EJ{E:Value->Shared->Prop}{pins:List (Addr×Obj)}{s:Shared}{σ:St}{H:Hp}{x:Str}{u:Value}{pos:Pos}{Q:Value->Shared->Prop}(I:Inv X pins σ H s)(hg:Gl X x)(hm:X.mg x=none)(hv:bootBuiltins x=some u)(h:Q u s)
  (hn:x ≠ "__name__":=by decide) (hd:(x==("__debug__" : Str))=false:=by decide):wpAny (model X.prog X.w) X.A (eval (.Name x pos) X.env) Q E s:=by
 obtain⟨mb,h1,h2⟩:=I.mod.blt
 exact Calls.Name_function_global I.ok.kind hg (Calls.loadGlobal_builtin (by rw [I.ok.glob]; exact I.mod.glob.keeps I.bk) hm (by rw [I.ok.blt]; exact h1.keeps I.bk) ((h2 x hn).trans hv) h) hd
theorem Q2{x:Str}{v:V}{u:Value}{pos:Pos}(hg:Gl X x)(hm:X.mg x=none)(hv:bootBuiltins x=some u)(r:RelV v u)(hn:x ≠ "__name__":=by decide)(hd:(x==("__debug__" : Str))=false:=by decide):PE X (.Name x pos) (tC v) :=
 fun _ _ _ H _ I h=>EJ I hg hm hv ⟨v,H,I,r,h⟩ hn hd
variable {a b:Expr}{ta tb:TE}{pos:Pos}
noncomputable def tB(t:TE):TT:=fun σ H Q=>t σ H fun x H1=>∃c,x=.bl c/\Q c H1
theorem S0{e:Expr}{t:TE}(h:PE X e t)(he:∀whole,isTrue e X.env whole=(do let v ← whole; standAt e.pos; holding [v] (truthy v)):=by intro _; rfl):PT X e (tB t):=by
 intro pins s σ H Q I hw
 refine isTrue_plain (BX (h pins s σ H _ I hw) fun v s1 ⟨x,H1,I1,r1,q1⟩=>?_) (he _)
 obtain⟨d,rfl,q⟩:=q1
 cases r1
 exact wpAny_truthy_bool ⟨H1,I1,q⟩
variable {tA tB':TT}{rest:List Expr}
noncomputable def UM(t u:TT):TT:=fun σ H Q=>t σ H fun c H1=>if c=true then u σ H1 Q else Q false H1
noncomputable def WD(t u:TT):TT:=fun σ H Q=>t σ H fun c H1=>if c=true then Q true H1 else u σ H1 Q
noncomputable def VW(t:TT):TT:=fun σ H Q=>t σ H fun c H1=>Q (!c) H1
theorem Mo(ha:PT X a tA):PW X (.BoolOp .And [a] pos) tA:=by
 intro wh pins s σ H Q I h
 refine isTrue_and (BX (ha pins s σ H Q I h) fun c s1 e=>?_)
 cases c with
 | true=>exact isTrue_and_nil e
 | false=>exact e
theorem Sz(ha:PT X a tA):PW X (.BoolOp .Or [a] pos) tA:=by
 intro wh pins s σ H Q I h
 refine isTrue_or (BX (ha pins s σ H Q I h) fun c s1 e=>?_)
 cases c with
 | false=>exact isTrue_or_nil e
 | true=>exact e
theorem PM(ha:PT X a tA)(hb:PW X (.BoolOp .And (b::rest) pos) tB'):PW X (.BoolOp .And (a::b::rest) pos) (UM tA tB'):=by
 intro wh pins s σ H Q I h
 refine isTrue_and (BX (ha pins s σ H _ I h) fun c s1 ⟨H1,I1,q1⟩=>?_)
 cases c with
 | true=>exact hb wh pins s1 σ H1 Q I1 q1
 | false=>exact⟨H1,I1,q1⟩
theorem Ua(ha:PT X a tA)(hb:PW X (.BoolOp .Or (b::rest) pos) tB'):PW X (.BoolOp .Or (a::b::rest) pos) (WD tA tB'):=by
 intro wh pins s σ H Q I h
 refine isTrue_or (BX (ha pins s σ H _ I h) fun c s1 ⟨H1,I1,q1⟩=>?_)
 cases c with
 | true=>exact⟨H1,I1,q1⟩
 | false=>exact hb wh pins s1 σ H1 Q I1 q1
theorem S1(ha:PT X a tA):PT X (.UnaryOp .Not a pos) (VW tA):=by
 intro pins s σ H Q I h
 exact isTrue_not (ha pins s σ H (fun c H1=>Q (!c) H1) I h)
noncomputable def WE(t:TT)(ta tb:TE):TE:=fun σ H Q=>t σ H fun c H1=>if c=true then ta σ H1 Q else tb σ H1 Q
theorem Pc{c:Expr}(hc:PT X c tA)(ha:PE X a ta)(hb:PE X b tb):PE X (.IfExp c a b pos) (WE tA ta tb):=by
 intro pins s σ H Q I h
 refine wpAny_IfExp (BX (hc pins s σ H _ I h) fun d s1 ⟨H1,I1,q1⟩=>?_)
 cases d with
 | true=>exact ha pins s1 σ H1 Q I1 q1
 | false=>exact hb pins s1 σ H1 Q I1 q1
end
noncomputable def SqL(K:Frag)(H:Hp)(a:Addr)(xs:List V):Prop :=
 Rd H a (.lst xs) \/
  ∃(o:Obj) (its:Array Value) (n:Nat),K.lookup a=some o/\o.cls=.type "list"/\o.dict=none/\o.data=.seq its n/\its.size<=sizeLine/\Vals xs its.toList
noncomputable def SqT(K:Frag)(H:Hp)(a:Addr)(xs:List V):Prop :=
 Rd H a (.tup xs) \/
  ∃(o:Obj) (its:Array Value) (n:Nat),K.lookup a=some o/\o.cls=.type "tuple"/\o.data=.seq its n/\its.size<=sizeLine/\Vals xs its.toList
noncomputable def Vu:Value->Option V
 | .none=>some .non
 | .bool b=>some (.bl b)
 | .int i _=>some (.int i)
 | .str x _=>some (.str x)
 | .bytes b _=>some (.byt b)
 | .float b _=>some (.flt b)
 | .ref a=>some (.ref a)
 | .type n=>some (.ty n)
 | _=>none
theorem RelV.abs{x:V}{u:Value}(r:RelV x u):Vu u=some x:=by
 cases x with
 | non=>cases r; rfl
 | bl _=>cases r; rfl
 | int _=>obtain⟨t,rfl⟩:=r; rfl
 | str _=>obtain⟨t,rfl⟩:=r; rfl
 | byt _=>obtain⟨t,rfl⟩:=r; rfl
 | flt _=>obtain⟨t,rfl⟩:=r; rfl
 | ref _=>cases r; rfl
 | ty _=>cases r; rfl
theorem RelV.inj{x y:V}{u:Value}(r:RelV x u)(q:RelV y u):x=y:=Option.some.inj (r.abs.symm.trans q.abs)
theorem Vals.inj:∀{xs ys:List V} {us:List Value},Vals xs us->Vals ys us->xs=ys
 | _,_,_,.nil,.nil=>rfl
 | _,_,_,.cons r t,.cons r' t'=>by rw [r.inj r',Vals.inj t t']
section
variable {X:Cx}{pins:List (Addr×Obj)}{σ:St}{H:Hp}{s:Shared}{a:Addr}{xs ys:List V}
theorem SqL.of{K:Frag}(h:H a=some (.lst xs)):SqL K H a xs:=.inl (.inl h)
theorem SqT.of{K:Frag}(h:H a=some (.tup xs)):SqT K H a xs:=.inl (.inl h)
theorem Inv.list(I:Inv X pins σ H s)(h:SqL X.K H a xs):∃its:List Value,Vals xs its/\PlainL s.heap a its.toArray/\xs.length<=sizeLine:=by
 rcases h with h | ⟨o,its,n,hk,hc,hd,hs,hz,r⟩
 ·obtain⟨z,its,n,r,e⟩:=h.ok I.hok
  exact⟨its,r,⟨_,n,e,rfl,rfl,rfl⟩,z⟩
 ·refine⟨its.toList,r,⟨o,n,I.kIn a o hk,hc,hd,by simpa using hs⟩,?_⟩
  have e:=r.length
  simp only [Array.length_toList] at e
  omega
theorem Inv.tuple(I:Inv X pins σ H s)(h:SqT X.K H a xs):∃its:List Value,Vals xs its/\IsTup s.heap a its.toArray/\xs.length<=sizeLine:=by
 rcases h with h | ⟨o,its,n,hk,hc,hs,hz,r⟩
 ·obtain⟨z,its,r,p⟩:=h.ok I.hok
  exact⟨its,r,p.tup,z⟩
 ·refine⟨its.toList,r,⟨o,I.kIn a o hk,hc,n,by simpa using hs⟩,?_⟩
  have e:=r.length
  simp only [Array.length_toList] at e
  omega
theorem Inv.list_inj(I:Inv X pins σ H s)(h:SqL X.K H a xs)(h':SqL X.K H a ys):xs=ys:=by
 obtain⟨its,r,⟨o,n,e,_,_,d⟩,_⟩:=I.list h
 obtain⟨its',r',⟨o',n',e',_,_,d'⟩,_⟩:=I.list h'
 rw [e] at e'; cases e'
 rw [d] at d'
 injection d' with d1 _
 have:its=its':=by simpa using congrArg Array.toList d1
 subst this
 exact r.inj r'
theorem Inv.tuple_inj(I:Inv X pins σ H s)(h:SqT X.K H a xs)(h':SqT X.K H a ys):xs=ys:=by
 obtain⟨its,r,⟨o,e,_,n,d⟩,_⟩:=I.tuple h
 obtain⟨its',r',⟨o',e',_,n',d'⟩,_⟩:=I.tuple h'
 rw [e] at e'; cases e'
 rw [d] at d'
 injection d' with d1 _
 have:its=its':=by simpa using congrArg Array.toList d1
 subst this
 exact r.inj r'
end
noncomputable abbrev Cx.wish(X:Cx)(E:Value->Shared->Prop):Cx:={ X with xe:=E }
noncomputable abbrev Cx.nox(X:Cx):Cx:=X.wish fun _ _=>False
theorem Cx.Ok.wish{X:Cx}(ok:X.Ok)(E:Value->Shared->Prop):(X.wish E).Ok :=
 ⟨ok.mod,ok.kind,ok.glob,ok.blt,ok.above,ok.inj,ok.has,ok.cab,ok.hd,ok.frames,ok.stk,ok.exf,ok.bs,ok.bsz,ok.noex,ok.exfs,ok.funs,ok.frf⟩
theorem Cx.Ok.unwish{X:Cx}{E:Value->Shared->Prop}(ok:(X.wish E).Ok):X.Ok :=
 ⟨ok.mod,ok.kind,ok.glob,ok.blt,ok.above,ok.inj,ok.has,ok.cab,ok.hd,ok.frames,ok.stk,ok.exf,ok.bs,ok.bsz,ok.noex,ok.exfs,ok.funs,ok.frf⟩
section
variable {X:Cx}{pins:List (Addr×Obj)}{σ:St}{H:Hp}{s:Shared}{E:Value->Shared->Prop}
theorem Inv.wish(I:Inv X pins σ H s)(E:Value->Shared->Prop):Inv (X.wish E) pins σ H s:=⟨I.ok.wish E,I.os,I.bare,I.base,I.loc,I.cell,I.free,I.freeC,I.pin,I.hok,I.len⟩
theorem Inv.unwish(I:Inv (X.wish E) pins σ H s):Inv X pins σ H s:=⟨I.ok.unwish,I.os,I.bare,I.base,I.loc,I.cell,I.free,I.freeC,I.pin,I.hok,I.len⟩
theorem SP.unwish{D:Ends}{f:Flow}{s':Shared}(h:SP (X.wish E) pins D f s'):SP X pins D f s':=by
 cases f with
 | next=>obtain⟨σ',H',I,q⟩:=h; exact⟨σ',H',I.unwish,q⟩
 | brk=>obtain⟨σ',H',I,q⟩:=h; exact⟨σ',H',I.unwish,q⟩
 | cont=>obtain⟨σ',H',I,q⟩:=h; exact⟨σ',H',I.unwish,q⟩
 | ret u=>obtain⟨v,σ',H',I,r,q⟩:=h; exact⟨v,σ',H',I.unwish,r,q⟩
theorem PSs.nox{st:List Stmt}{t:TS}(h:PSs X.nox st t):PSs X st t:=fun pins s σ H D I hw =>
 wpAny_mono (h pins s σ H D (I.wish _) hw) (fun _ _ q=>q.unwish) fun _ _ z=>False.elim z
end
section
variable {X:Cx}{st:Stmt}{rest:List Stmt}{t u:TS}{e:Expr}{te:TE}{pos:Pos}
noncomputable def Rp:TS:=fun D σ H=>D.nx σ H
noncomputable def Nf(t u:TS):TS:=fun D σ H=>t { D with nx:=u D } σ H
theorem Jq:PSs X [] Rp:=fun _ _ σ H _ I h=>wpAny_execs_nil ⟨σ,H,I,h⟩
theorem BF(h1:PS X st t)(h2:PSs X rest u):PSs X (st::rest) (Nf t u):=by
 intro pins s σ H D I h
 refine wpAny_execs_cons (BX (h1 pins s σ H { D with nx:=u D } I h) fun f s1 q=>?_)
 cases f with
 | next =>
  obtain⟨σ',H',I',q⟩:=q
  exact h2 pins s1 σ' H' D I' q
 | ret v=>exact q
 | brk=>exact q
 | cont=>exact q
theorem DJ(h1:PS X st t):PSs X [st] t:=by
 intro pins s σ H D I h
 refine wpAny_execs_cons (BX (h1 pins s σ H D I h) fun f s1 q=>?_)
 cases f with
 | next=>exact wpAny_execs_nil q
 | ret v=>exact q
 | brk=>exact q
 | cont=>exact q
theorem Inv.quiet{pins:List (Addr×Obj)}{σ:St}{H:Hp}{s:Shared}(I:Inv X pins σ H s):interactive X.env=false:=by simp [interactive,I.ok.kind]
noncomputable def UI(te:TE):TS:=fun D σ H=>te σ H fun _ H1=>D.nx σ H1
theorem Qw(he:PE X e te)(hs:swapsWith e none pos.line X.env=pure false:=by rfl):PS X (.Expr e pos) (UI te):=by
 intro pins s σ H D I h
 exact wpAny_Expr_any (BX (he pins s σ H _ I h) fun v s1 ⟨x,H1,I1,r1,q1⟩=>⟨σ,H1,I1,q1⟩) I.quiet hs
noncomputable def Qo(te:TE):TS:=fun D σ H=>te σ H D.rt
theorem E6(he:PE X e te):PS X (.Return (some e) pos) (Qo te):=by
 intro pins s σ H D I h
 exact wpAny_Return_some (BX (he pins s σ H _ I h) fun v s1 ⟨x,H1,I1,r1,q1⟩=>⟨x,σ,H1,I1,r1,q1⟩)
noncomputable def UH(c:TT)(t u:TS):TS:=fun D σ H=>c σ H fun b H1=>if b=true then t D σ H1 else u D σ H1
theorem PR{c:Expr}{a b:List Stmt}{tc:TT}(hc:PT X c tc)(ha:PSs X a t)(hb:PSs X b u):PS X (.If c a b pos) (UH tc t u):=by
 intro pins s σ H D I h
 refine wpAny_If (BX (hc pins s σ H _ I h) fun d s1 ⟨H1,I1,q1⟩=>?_)
 cases d with
 | true=>exact ha pins s1 σ H1 D I1 q1
 | false=>exact hb pins s1 σ H1 D I1 q1
end
noncomputable abbrev TG:=V->St->Hp->(St->Hp->Prop)->Prop
noncomputable abbrev Rk:=List V->St->Hp->(St->Hp->Prop)->Prop
noncomputable def PG(X:Cx)(target:Expr)(t:TG):Prop :=
 ∀(pins:List (Addr×Obj)) (s:Shared) (σ:St) (H:Hp) (v:V) (u:Value) (Q:St->Hp->Prop),Inv X pins σ H s->RelV v u->t v σ H Q ->
  wpAny (model X.prog X.w) X.A (assign target X.env u) (fun _ s'=>∃σ' H',Inv X pins σ' H' s'/\Q σ' H') X.xe s
noncomputable def UA(X:Cx)(ts:List Expr)(t:Rk):Prop :=
 ∀(pins:List (Addr×Obj)) (s:Shared) (σ:St) (H:Hp) (vs:List V) (us:List Value) (Q:St->Hp->Prop),Inv X pins σ H s->Vals vs us->t vs σ H Q ->
  wpAny (model X.prog X.w) X.A (assignInOrder ((assignEach ts X.env).map (·.2)) us) (fun _ s'=>∃σ' H',Inv X pins σ' H' s'/\Q σ' H') X.xe s
noncomputable abbrev Tx:=V->V->V->Hp->(Hp->Prop)->Prop
noncomputable def U5(X:Cx)(t:Tx):Prop :=
 ∀(pins:List (Addr×Obj)) (s:Shared) (σ:St) (H:Hp) (o i v:V) (ov iv u:Value) (Q:Hp->Prop),Inv X pins σ H s->RelV o ov->RelV i iv->RelV v u->t o i v H Q ->
  wpAny (model X.prog X.w) X.A (setItem ov iv u) (fun _ s'=>∃H',Inv X pins σ H' s'/\Q H') X.xe s
noncomputable abbrev VL:=V->V->Hp->VK->Prop
noncomputable def V_(X:Cx)(op:Operator)(t:VL):Prop :=
 ∀(pins:List (Addr×Obj)) (s:Shared) (σ:St) (H:Hp) (x y:V) (v u:Value) (Q:VK),Inv X pins σ H s->RelV x v->RelV y u->t x y H Q ->
  wpAny (model X.prog X.w) X.A (inplaceOp op v u) (EP X pins σ Q) X.xe s
section
variable {X:Cx}{pos:Pos}
noncomputable def Gc(i:Nat):TG:=fun v σ H Q=>Q (σ.set i (some v)) H
theorem Ej{i:Nat}{x:Str}(hN:X.N.Nodup)(hi:X.N[i]?=some x)(hx:Loc X.env.scope x)(hf:X.fn x=true\/X.env.scope.names.lookup x=some .local:=by first | exact .inl rfl | exact .inr rfl | assumption):PG X (.Name x pos) (Gc i):=by
 intro pins s σ H v u Q I r h
 exact wpAny_assign_Name (HH I hN hi hx r (fun s' I'=>⟨_,H,I',h⟩) hf)
noncomputable def Vm:Rk:=fun vs σ H Q=>vs=[]/\Q σ H
noncomputable def Um(t:TG)(u:Rk):Rk:=fun vs σ H Q=>∃v r,vs=v::r/\t v σ H fun σ' H'=>u r σ' H' Q
theorem Mv:UA X [] Vm:=by
 intro pins s σ H vs us Q I r h
 obtain⟨e,h⟩:=h
 subst e
 cases r
 exact assignInOrder_nil ⟨σ,H,I,h⟩
theorem FO{e:Expr}{es:List Expr}{t:TG}{u:Rk}(h1:PG X e t)(h2:UA X es u)
  (hs:(assignEach (e::es) X.env).map (·.2)=assign e X.env::(assignEach es X.env).map (·.2):=by rfl):UA X (e::es) (Um t u):=by
 intro pins s σ H vs us Q I r h
 obtain⟨v,vr,e1,h⟩:=h
 subst e1
 cases r with
 | cons r rr =>
  rw [hs]
  refine assignInOrder_cons (BX (h1 pins s σ H _ _ _ I r h) fun _ s1 ⟨σ1,H1,I1,q1⟩=>?_)
  exact h2 pins s1 σ1 H1 _ _ Q I1 rr q1
noncomputable def Vl(K:Frag)(n:Nat)(t:Rk):TG:=fun v σ H Q=>∃a xs,v=.ref a/\SqT K H a xs/\xs.length=n/\t xs σ H Q
theorem Pa{es:List Expr}{k:Nat}{t:Rk}{n:Nat}(hc:X.calm=true)(h:UA X es t)
  (hn:(assignEach es X.env).length=n:=by rfl) (hst:(assignEach es X.env).findIdx? (·.1)=none:=by rfl):PG X (.Tuple es k pos) (Vl X.K n t):=by
 intro pins s σ H v u Q I r hw
 obtain⟨a,xs,e1,hq,hl,hw⟩:=hw
 subst e1
 cases r
 obtain⟨its,rv,ht,hz⟩:=I.tuple hq
 refine assign_Tuple_tuple (I.ok.hd hc) ht (by simp [hn,← hl,rv.length]) hst fun h' hx=>?_
 have I1:Inv X pins σ H { s with heap:=h' }:=I.kept (t':=s.toks) fun b o e=>hx b o (Nat.ne_of_lt (Heap.lt_size e)) e
 exact h pins _ σ H xs _ Q I1 (by simpa using rv) hw
noncomputable def Uk(to ti:TE)(t:Tx):TG:=fun v σ H Q=>to σ H fun o H1=>ti σ H1 fun i H2=>t o i v H2 fun H3=>Q σ H3
theorem L_{o i:Expr}{to ti:TE}{t:Tx}(ho:PE X o to)(hi:PE X i ti)(hs:U5 X t)
  (ha:∀v,assign (.Subscript o i pos) X.env v=(do
   let ov ← holding [v] (eval o X.env)
   let iv ← holding [v,ov] (eval i X.env)
   standAt pos
   holding [v,ov,iv] (setItem ov iv v)
   release [v,ov,iv] []):=by intro _; rfl):PG X (.Subscript o i pos) (Uk to ti t):=by
 intro pins s σ H v u Q I r h
 rw [ha]
 refine wpAny_bind (wpAny_holding (BX (ho pins s σ H _ I h) fun ov s1 ⟨x,H1,I1,r1,q1⟩=>?_))
 refine wpAny_bind (wpAny_holding (BX (hi pins s1 σ H1 _ I1 q1) fun iv s2 ⟨y,H2,I2,r2,q2⟩=>?_))
 refine wpAny_bind (wpAny_standAt (wpAny_bind (wpAny_holding (BX (hs pins s2 σ H2 x y v ov iv u _ I2 r1 r2 r q2) fun _ s3 ⟨H3,I3,q3⟩=>?_))))
 exact wpAny_release ⟨σ,H3,I3,q3⟩
noncomputable def Lr(te:TE)(g:TG):TS:=fun D σ H=>te σ H fun x H1=>g x σ H1 D.nx
theorem Fx{tg e:Expr}{te:TE}{g:TG}(he:PE X e te)(hg:PG X tg g)(hs:swapsWithSole [tg] e pos.line X.env=pure false:=by rfl)(hw:swappedStores [tg] e X.env=pure none:=by rfl)
  (h1:(assignEach [tg] X.env).map (·.2)=[assign tg X.env]:=by rfl):PS X (.Assign [tg] e pos) (Lr te g):=by
 intro pins s σ H D I h
 refine wpAny_Assign_stores (BX (he pins s σ H _ I h) fun v s1 ⟨x,H1,I1,r1,q1⟩=>?_) hs hw
 rw [h1]
 exact BX (hg pins s1 σ H1 x v _ I1 r1 q1) fun _ s2 q=>q
theorem EC{i:Nat}{x:Str}{e:Expr}{te:TE}{pos':Pos}(hN:X.N.Nodup)(hi:X.N[i]?=some x)(hx:Loc X.env.scope x)(he:PE X e te)(hs:swapsWith e (some (.Name x pos')) pos.line X.env=pure false:=by rfl)(hf:X.fn x=true\/X.env.scope.names.lookup x=some .local:=by first | exact .inl rfl | exact .inr rfl | assumption) :
  PS X (.Assign [.Name x pos'] e pos) (Lr te (Gc i)):=by
 intro pins s σ H D I h
 refine wpAny_Assign_Name (BX (he pins s σ H _ I h) fun v s1 ⟨y,H1,I1,r1,q1⟩=>?_) hs
 exact HH I1 hN hi hx r1 (fun s2 I2=>⟨_,H1,I2,q1⟩) hf
noncomputable def Va(i:Nat)(te:TE)(ti:VL):TS:=fun D σ H=>∃x,σ[i]?=some (some x)/\te σ H fun y H1=>ti x y H1 fun z H2=>D.nx (σ.set i (some z)) H2
theorem S2{i:Nat}{x:Str}{e:Expr}{te:TE}{op:Operator}{ti:VL}{pos':Pos}(hN:X.N.Nodup)(hi:X.N[i]?=some x)(hx:Loc X.env.scope x)(he:PE X e te)(ho:V_ X op ti)(hf:X.fn x=true\/X.env.scope.names.lookup x=some .local:=by first | exact .inl rfl | exact .inr rfl | assumption) :
  PS X (.AugAssign (.Name x pos') op e pos) (Va i te ti):=by
 intro pins s σ H D I h
 obtain⟨v,e1,h⟩:=h
 obtain⟨m,hn,hl⟩:=I.loc
 have vis:Tv X.env.scope x:=by rcases hx with k | k; exact .inl k; exact .inr (.inl k)
 obtain⟨u,r,l⟩:=hl i x v hi e1 vis
 refine wpAny_AugAssign_Name ?_
 have go:wpAny (model X.prog X.w) X.A (eval e X.env) (fun w s₂=>wpAny (model X.prog X.w) X.A (inplaceOp op u w) (fun r s₃=>wpAny (model X.prog X.w) X.A (storeName X.env x r) (fun _=>SP X pins D .next) X.xe s₃) X.xe s₂) X.xe s:=by
  refine BX (he pins s σ H _ I h) fun w s1 ⟨y,H1,I1,r1,q1⟩=>?_
  refine BX (ho pins s1 σ H1 v y u w _ I1 r r1 q1) fun z s2 ⟨zv,H2,I2,r2,q2⟩=>?_
  exact HH I2 hN hi hx r2 (fun s3 I3=>⟨_,H2,I3,q2⟩) hf
 rcases l with ⟨hk,hm⟩ | ⟨hk,c,hc,hcell⟩
 ·exact wpAny_loadName_local I.ok.kind hk hn hm go
 ·rcases hk with hk | hk
  ·exact wpAny_loadName_cell I.ok.kind hk hc hcell go
  ·rcases hx with k | k
   ·have:X.env.scope.names.lookup x=some .free:=hk
    rw [k] at this; cases this
   ·have:X.env.scope.names.lookup x=some .free:=hk
    rw [k] at this; cases this
noncomputable def WG(f:Int->Int->Int):VL:=fun x y H Q=>∃i j,x=.int i/\y=.int j/\Q (.int (f i j)) H
theorem TY:V_ X .Add (WG fun i j=>i+j):=by
 intro pins s σ H x y v u Q I r1 r2 h
 obtain⟨i,j,e1,e2,q⟩:=h
 subst e1; subst e2
 obtain⟨t,rfl⟩:=r1
 obtain⟨t',rfl⟩:=r2
 exact iadd_int ⟨.int _,H,I.tok _,⟨_,rfl⟩,q⟩
end
section
variable {X:Cx}{pos:Pos}
noncomputable def Si(c:TT)(tb:TS):TS:=fun D σ H=>∃W:Nat->St->Hp->Prop,(∃m,W m σ H)/\∀m σ H,W m σ H ->
 c σ H fun b H1=>if b=true then ∃N:St->Hp->Prop,(∀σ' H',N σ' H'->∃m',m'<m/\W m' σ' H')/\tb { D with nx:=N,ct:=N,bk:=D.nx } σ H1 else D.nx σ H1
theorem PQ{c:Expr}{body:List Stmt}{tc:TT}{tb:TS}(hp:PassesOwn (model X.prog X.w) X.A X.env X.xe)(hc:PT X c tc)(hb:PSs X body tb):PS X (.While c body [] pos) (Si tc tb):=by
 intro pins s σ H D I h
 obtain⟨W,⟨m0,w0⟩,turn⟩:=h
 refine wpAny_While (codeAny_whileLoop (fun n s'=>∃σ' H',Inv X pins σ' H' s'/\W n σ' H') ?_ m0 ⟨σ,H,I,w0⟩)
 rintro n s1 ⟨σ1,H1,I1,w1⟩
 refine wpAny_passesOwn hp (BX (hc pins s1 σ1 H1 _ I1 (turn n σ1 H1 w1)) fun b s2 ⟨H2,I2,q2⟩=>?_)
 cases b with
 | true =>
  obtain⟨N,hN,q2⟩:=q2
  rw [if_pos rfl]
  refine wpAny_passesOwn hp (BX (hb pins s2 σ1 H2 _ I2 q2) fun f s3 q3=>?_)
  cases f with
  | next =>
   obtain⟨σ3,H3,I3,n3⟩:=q3
   obtain⟨m',hm,w3⟩:=hN σ3 H3 n3
   exact⟨m',hm,σ3,H3,I3,w3⟩
  | cont =>
   obtain⟨σ3,H3,I3,n3⟩:=q3
   obtain⟨m',hm,w3⟩:=hN σ3 H3 n3
   exact⟨m',hm,σ3,H3,I3,w3⟩
  | brk=>exact q3
  | ret v=>exact q3
 | false =>
  rw [if_neg Bool.false_ne_true]
  exact wpAny_execs_nil ⟨σ1,H2,I2,q2⟩
end
structure It where
 go:Nat->Hp->Prop
 yld:Nat->Hp->V->Hp->Prop
 stop:Nat->Hp->Prop
noncomputable def Fo(X:Cx)(pins:List (Addr×Obj))(H:Hp)(b:Addr):Prop :=
 H b=none/\b≠X.env.locals/\b∉X.fs/\(b∈X.ex\/X.s₀.heap.objs.size<=b)/\(∀x c,X.env.cells.lookup x=some c->c≠b)/\∀p∈X.pn++pins,p.1≠b
theorem Inv.fpOk{X:Cx}{pins:List (Addr×Obj)}{σ:St}{H H':Hp}{s:Shared}{b:Addr}(I:Inv X pins σ H s)(hb:s.heap.objs.size<=b)(hn:H' b=none):Fo X pins H' b:=by
 refine⟨hn,Nat.ne_of_gt (Nat.lt_of_lt_of_le I.lt hb),I.nofs hb,.inr (Nat.le_trans I.sz hb),fun x c e z=>?_,fun p hp z=>?_⟩
 ·obtain⟨v,q⟩:=I.cell x c e
  exact absurd (Nat.lt_of_lt_of_le q.lt (by rw [z]; exact hb)) (Nat.lt_irrefl _)
 ·exact absurd (Nat.lt_of_lt_of_le (Heap.lt_size (I.pin p hp).1) (by rw [z]; exact hb)) (Nat.lt_irrefl _)
structure Turn (P:Program) (w:World) (K:Frag) (tg:Expr) (J:It) (fp:List Addr) (it:Addr) (tn:Nat->Heap->Prop):Prop where
 mem:it∈fp
 obj:∀i h,tn i h->∀b∈fp,∃o,h.get? b=some o/\∀v,o.data≠.cell v
 keep:∀i h h',tn i h->(∀b∈fp,∀o,h.get? b=some o->h'.get? b=some o)->tn i h'
 item:∀(X:Cx),X.prog=P->X.w=w->X.K=K->X.calm=true->∀(i:Nat) (pins:List (Addr×Obj)) (s:Shared) (σ:St) (H:Hp) (E:Value->Shared->Prop),Inv X pins σ H s->(∀b∈fp,Fo X pins H b)->tn i s.heap->J.go i H ->
  wpAny (model P w) X.A (pyNext (.ref it)) (fun r s1=>∃u,r=some u /\
   wpAny (model P w) X.A (letOwnedTupleGo tg (.ref it) u) (fun _ s2=>∃x H',Inv X pins σ H' s2/\RelV x u/\J.yld i H x H'/\tn (i+1) s2.heap/\∀b∈fp,H' b=none) E s1) E s
 done:∀(X:Cx),X.prog=P->X.w=w->X.K=K->X.calm=true->∀(i:Nat) (pins:List (Addr×Obj)) (s:Shared) (σ:St) (H:Hp) (E:Value->Shared->Prop),Inv X pins σ H s->(∀b∈fp,Fo X pins H b)->tn i s.heap->J.stop i H ->
  wpAny (model P w) X.A (pyNext (.ref it)) (fun r s1=>r=none/\Inv X pins σ H s1) E s
 self:∀(A:Around) (i:Nat) (s:Shared) (Q:Value->Shared->Prop) (E:Value->Shared->Prop),tn i s.heap->Q (.ref it) s->wpAny (model P w) A (pyIter (.ref it)) Q E s
noncomputable abbrev TI:=St->Hp->(It->Hp->Prop)->Prop
noncomputable def WA(X:Cx)(pins:List (Addr×Obj))(σ:St)(tg:Expr)(R:It->Hp->Prop)(itv:Value)(s2:Shared):Prop :=
 ∃(it:Addr) (fp:List Addr) (tn:Nat->Heap->Prop) (J:It) (H':Hp),itv=.ref it/\Inv X pins σ H' s2/\Turn X.prog X.w X.K tg J fp it tn/\tn 0 s2.heap/\(∀b∈fp,Fo X pins H' b)/\R J H'
noncomputable def PI(X:Cx)(tg iter:Expr)(wi:TI):Prop :=
 ∀(pins:List (Addr×Obj)) (s:Shared) (σ:St) (H:Hp) (R:It->Hp->Prop),Inv X pins σ H s->wi σ H R ->
  wpAny (model X.prog X.w) X.A (eval iter X.env) (fun v s1=>wpAny (model X.prog X.w) X.A (pyIter v) (WA X pins σ tg R) X.xe s1) X.xe s
theorem ND {M : Model} {A : Around} {E : Value → Shared → Prop} {s : Shared} {tg : Expr} {it : Addr} {u : Value} {o : Obj} {n : String} {vs : Array Value} {Q : Unit → Shared → Prop} (ho : s.heap.get? it = some o) (hc : o.cls = .type n) (hd : o.data = .fields vs)
    (hn : ["enumerate", "zip", "dict_itemiterator", "dict_reverseitemiterator", "odict_iterator", "itertools.zip_longest", "itertools.pairwise"].contains n = false) (hQ : Q () s) : wpAny M A (letOwnedTupleGo tg (.ref it) u) Q E s := by
  unfold letOwnedTupleGo
  cases tg <;> first
    | exact wpAny_pure hQ
    | (cases u <;> first
        | exact wpAny_pure hQ
        | (refine wpAny_bind (wpAny_load ho ?_)
           rw [hc, hd]
           show wpAny M A (if (["enumerate", "zip", "dict_itemiterator", "dict_reverseitemiterator", "odict_iterator", "itertools.zip_longest", "itertools.pairwise"].contains n && vs[0]? == some (rawInt _)) = true then _ else _) Q E s
           rw [if_neg (by intro h; rw [hn, Bool.false_and] at h; cases h)]
           exact wpAny_pure hQ))
noncomputable def V0(K:Frag)(a:Addr):It :=
 ⟨fun i H=>∃xs x,SqL K H a xs/\xs[i]?=some x,fun i H x H'=>H'=H/\∀xs,SqL K H a xs->xs[i]?=some x,fun i H=>∃xs,SqL K H a xs/\xs.length<=i⟩
noncomputable def T4(K:Frag)(a:Addr):It :=
 ⟨fun i H=>∃xs x,SqT K H a xs/\xs[i]?=some x,fun i H x H'=>H'=H/\∀xs,SqT K H a xs->xs[i]?=some x,fun i H=>∃xs,SqT K H a xs/\xs.length<=i⟩
noncomputable def VN(lo:Int)(n:Nat):It:=⟨fun i _=>i<n,fun i H x H'=>H'=H/\x=.int (lo+i),fun i _=>n<=i⟩
theorem Nd{P:Program}{w:World}{K:Frag}{tg:Expr}(a it:Addr):Turn P w K tg (V0 K a) [it] it (fun i h=>h.IsListIter it a i) where
 mem:=by simp
 obj:=fun i h st b hb=>by
  have e:b=it:=by simpa using hb
  subst e
  obtain⟨o,e,c,d⟩:=st
  exact⟨o,e,fun v z=>by rw [d] at z; cases z⟩
 keep:=fun i h h' st k=>st.at fun o e=>k it (by simp) o e
 item:=by
  intro X hP hw hK hc i pins s σ H E I hf st hg
  subst hP hw hK
  obtain⟨xs,x,hq,hx⟩:=hg
  obtain⟨its,rv,p,hz⟩:=I.list hq
  obtain⟨u,hu,ru⟩:=rv.get hx
  obtain⟨f0,f1,f2,f3,f4,f5⟩:=hf it (by simp)
  refine wpAny_pyNext_list_item st p.isList (x:=u) (by simpa using hu) fun h' st' sb=>?_
  have I1:Inv X pins σ H { s with heap:=h' }:=I.turned (t':=s.toks) (fun b o hb e=>(sb.2 b hb).trans e) f0 f1 f3 f4 f5
  obtain⟨o,e,c,d⟩:=id st'
  exact⟨u,rfl,ND (s:={ s with heap:=h' }) e c d (by decide) ⟨x,H,I1,ru,⟨rfl,fun ys hy=>by rw [I.list_inj hy hq]; exact hx⟩,st',fun b hb=>(hf b hb).1⟩⟩
 done:=by
  intro X hP hw hK hc i pins s σ H E I hf st hg
  subst hP hw hK
  obtain⟨xs,hq,hx⟩:=hg
  obtain⟨its,rv,p,hz⟩:=I.list hq
  obtain⟨f0,f1,f2,f3,f4,f5⟩:=hf it (by simp)
  have hl:=rv.length
  exact wpAny_pyNext_list_end (I.ok.hd hc) st p.isList (by simp; omega) fun h' eb=>⟨rfl,I.turned (t':=s.toks) (fun b o hb e=>eb b o hb e) f0 f1 f3 f4 f5⟩
 self:=fun _ _ _ _ _ st h=>wpAny_pyIter_listiter st h
theorem HA{P:Program}{w:World}{K:Frag}{tg:Expr}(a it:Addr):Turn P w K tg (T4 K a) [it] it (fun i h=>h.IsTupleIter it a i) where
 mem:=by simp
 obj:=fun i h st b hb=>by
  have e:b=it:=by simpa using hb
  subst e
  obtain⟨o,e,c,d⟩:=st
  exact⟨o,e,fun v z=>by rw [d] at z; cases z⟩
 keep:=fun i h h' st k=>st.at fun o e=>k it (by simp) o e
 item:=by
  intro X hP hw hK hc i pins s σ H E I hf st hg
  subst hP hw hK
  obtain⟨xs,x,hq,hx⟩:=hg
  obtain⟨its,rv,p,hz⟩:=I.tuple hq
  obtain⟨u,hu,ru⟩:=rv.get hx
  obtain⟨f0,f1,f2,f3,f4,f5⟩:=hf it (by simp)
  refine wpAny_pyNext_tuple_item st (show s.heap.IsTuple a its.toArray from p) (x:=u) (by simpa using hu) fun h' st' sb=>?_
  have I1:Inv X pins σ H { s with heap:=h' }:=I.turned (t':=s.toks) (fun b o hb e=>(sb.2 b hb).trans e) f0 f1 f3 f4 f5
  obtain⟨o,e,c,d⟩:=id st'
  exact⟨u,rfl,ND (s:={ s with heap:=h' }) e c d (by decide) ⟨x,H,I1,ru,⟨rfl,fun ys hy=>by rw [I.tuple_inj hy hq]; exact hx⟩,st',fun b hb=>(hf b hb).1⟩⟩
 done:=by
  intro X hP hw hK hc i pins s σ H E I hf st hg
  subst hP hw hK
  obtain⟨xs,hq,hx⟩:=hg
  obtain⟨its,rv,p,hz⟩:=I.tuple hq
  obtain⟨f0,f1,f2,f3,f4,f5⟩:=hf it (by simp)
  have hl:=rv.length
  exact wpAny_pyNext_tuple_end (I.ok.hd hc) st (show s.heap.IsTuple a its.toArray from p) (by simp; omega) fun h' eb=>⟨rfl,I.turned (t':=s.toks) (fun b o hb e=>eb b o hb e) f0 f1 f3 f4 f5⟩
 self:=fun _ _ _ _ _ st h=>wpAny_pyIter_tupleiter st h
theorem Lo{P:Program}{w:World}{K:Frag}{tg:Expr}(it:Addr)(lo:Int)(n:Nat):Turn P w K tg (VN lo n) [it] it (fun i h=>IsRangeIter h it (lo+(i:Nat)*1) ((n:Int) - (i:Nat)) 1) where
 mem:=by simp
 obj:=fun i h st b hb=>by
  have e:b=it:=by simpa using hb
  subst e
  exact⟨_,st,fun v z=>by
   have z':Data.fields _=Data.cell v:=z
   cases z'⟩
 keep:=fun i h h' st k=>k it (by simp) _ st
 item:=by
  intro X hP hw hK hc i pins s σ H E I hf st hg
  subst hP hw hK
  obtain⟨f0,f1,f2,f3,f4,f5⟩:=hf it (by simp)
  have W:=Walks.range (prog:=X.prog) (w:=X.w) (I.ok.hd hc) it lo 1 n
  refine W.item i s _ _ hg st fun v h' tk hv st' kk=>?_
  obtain⟨t,rfl⟩:=hv
  have I1:Inv X pins σ H { s with heap:=h',toks:=tk }:=I.turned (fun b o hb e=>kk b o (by simpa using hb) e) f0 f1 f3 f4 f5
  refine⟨_,rfl,ND (s:={ s with heap:=h',toks:=tk }) (n := "range_iterator") st' rfl rfl (by decide) ⟨.int (lo+i),H,I1,⟨t,?_⟩,⟨rfl,rfl⟩,st',fun b hb=>(hf b hb).1⟩⟩
  rw [Int.mul_one]
 done:=by
  intro X hP hw hK hc i pins s σ H E I hf st hg
  subst hP hw hK
  obtain⟨f0,f1,f2,f3,f4,f5⟩:=hf it (by simp)
  exact wpAny_pyNext_range_end (I.ok.hd hc) st (by have:n<=i:=hg; omega) fun h' eb=>⟨rfl,I.turned (t':=s.toks) (fun b o hb e=>eb b o hb e) f0 f1 f3 f4 f5⟩
 self:=fun _ _ _ _ _ st h=>wpAny_pyIter_rangeiter st h
section
variable {X:Cx}{tg:Expr}
noncomputable def Vj(K:Frag)(tl:TE):TI:=fun σ H R=>tl σ H fun x H1=>∃a,x=.ref a/\(∃xs,SqT K H1 a xs)/\R (T4 K a) H1
theorem PY{l:Expr}{tl:TE}(hl:PE X l tl):PI X tg l (Vj X.K tl):=by
 intro pins s σ H R I h
 refine BX (hl pins s σ H _ I h) fun v s1 ⟨x,H1,I1,r1,q1⟩=>?_
 obtain⟨a,e,⟨xs,hq⟩,q⟩:=q1
 subst e
 cases r1
 obtain⟨its,rv,p,hz⟩:=I1.tuple hq
 refine wpAny_pyIter_tuple (show s1.heap.IsTuple a its.toArray from p) ?_
 refine⟨s1.heap.objs.size,[s1.heap.objs.size],_,_,H1,rfl,I1.kept (t':=s1.toks) fun b o e=>Heap.get?_push_of_some _ e,HA a _,⟨_,Heap.get?_push_size _ rfl,rfl,rfl⟩,fun b hb=>?_,q⟩
 have e:b=s1.heap.objs.size:=by simpa using hb
 subst e
 exact I1.fpOk (Nat.le_refl _) (I1.hok.fresh (Nat.le_refl _))
theorem PC{pins:List (Addr×Obj)}{σ:St}{H:Hp}{s:Shared}{R:It->Hp->Prop}{E:Value->Shared->Prop}{lo hi:Int}{t u v:Tok}{tk:Nat}(I:Inv X pins σ H s)(h1:-(2 ^ 62)<=lo)(h2:lo<2 ^ 62)(h3:-(2 ^ 62)<=hi)(h4:hi<2 ^ 62)
  (q:R (VN lo (hi - lo).toNat) H):wpAny (model X.prog X.w) X.A (pyIter (.ref s.heap.objs.size)) (WA X pins σ tg R) E { s with heap:=s.heap.push { cls:=.type "range",data:=.fields #[.int lo t,.int hi u,.int 1 v] },toks:=tk }:=by
 refine wpAny_pyIter_range (IsRange.new ..) (small_one h1 h2 h3 h4) ?_
 have I1:Inv X pins σ H { s with heap:=s.heap.push { cls:=.type "range",data:=.fields #[.int lo t,.int hi u,.int 1 v] },toks:=tk }:=I.kept fun b o e=>Heap.get?_push_of_some _ e
 refine⟨(s.heap.push { cls:=.type "range",data:=.fields #[.int lo t,.int hi u,.int 1 v] }).objs.size,[(s.heap.push { cls:=.type "range",data:=.fields #[.int lo t,.int hi u,.int 1 v] }).objs.size],_,_,H,rfl,
  I1.kept (t':=tk) fun b o e=>Heap.get?_push_of_some _ e,Lo _ lo (hi - lo).toNat,?_,fun b hb=>?_,q⟩
 ·have e1:lo+((0:Nat):Int)*1=lo:=by simp
  have e2:(((hi - lo).toNat:Nat):Int) - ((0:Nat):Int)=Builtin.Range.rangeSize lo hi 1:=by rw [rangeSize_one]; split <;> omega
  show IsRangeIter _ _ (lo+((0:Nat):Int)*1) ((((hi - lo).toNat:Nat):Int) - ((0:Nat):Int)) 1
  rw [e1,e2]
  exact Heap.get?_push_size _ rfl
 ·have e:b=(s.heap.push { cls:=.type "range",data:=.fields #[.int lo t,.int hi u,.int 1 v] }).objs.size:=by simpa using hb
  subst e
  exact I1.fpOk (Nat.le_refl _) (I1.hok.fresh (Nat.le_refl _))
noncomputable def Uj(ta:TA):TI:=fun σ H R=>ta σ H fun vs H1=>∃j:Int,vs=[.int j]/\-(2 ^ 62)<=j/\j<2 ^ 62/\R (VN 0 j.toNat) H1
theorem Nn{a:Expr}{ta:TA}{p pos:Pos}(hg:Gl X "range")(hm:X.mg "range"=none)(ha:PA X [a] ta)(hs:starEach [a] X.env=[(false,eval a X.env)]:=by rfl):PI X tg (.Call (.Name "range" p) [a] [] pos) (Uj ta):=by
 intro pins s σ H R I h
 refine Call_ (EJ I hg hm boot_range (PyProof.Rows.callWith_type1 (BX (ha pos pins s σ H _ I h) fun us s1 ⟨vs,H1,I1,r1,q1⟩=>?_) hs rfl))
 obtain⟨j,e,q1,q2,q⟩:=q1
 subst e
 cases r1 with
 | cons r rr =>
  cases rr
  obtain⟨t,rfl⟩:=r
  exact call_range_1 (PC I1 (by omega) (by omega) q1 q2 (by simpa using q))
noncomputable def VZ(wi:TI)(g:TG)(tb:TS):TS:=fun D σ H=>wi σ H fun J H1=>∃W:Nat->Nat->St->Hp->Prop,(∃m,W 0 m σ H1)/\∀i m σ H,W i m σ H ->
 (J.stop i H/\D.nx σ H)\/(J.go i H/\∃N:St->Hp->Prop,(∀σ' H',N σ' H'->∃m',m'<m/\W (i+1) m' σ' H')/\∀x H',J.yld i H x H'->g x σ H' fun σ2 H2=>tb { D with nx:=N,ct:=N,bk:=D.nx } σ2 H2)
noncomputable def HX(fp:List Addr)(h:Heap):List (Addr×Obj):=fp.filterMap fun b=>(h.get? b).map fun o=>(b,o)
theorem Ds{fp:List Addr}{h:Heap}{b:Addr}{o:Obj}(hb:b∈fp)(e:h.get? b=some o):(b,o)∈HX fp h:=List.mem_filterMap.mpr ⟨b,hb,by rw [e]; rfl⟩
theorem Nz{fp:List Addr}{h:Heap}{p:Addr×Obj}(hp:p∈HX fp h):p.1∈fp/\h.get? p.1=some p.2:=by
 obtain⟨b,hb,e⟩:=List.mem_filterMap.mp hp
 cases q:h.get? b with
 | none=>rw [q] at e; cases e
 | some o =>
  rw [q] at e
  have e':(b,o)=p:=Option.some.inj e
  subst e'
  exact⟨hb,q⟩
theorem Inv.pinned{pins:List (Addr×Obj)}{σ:St}{H:Hp}{s:Shared}{fp:List Addr}(I:Inv X pins σ H s)(hf:∀b∈fp,Fo X pins H b)(ho:∀b∈fp,∃o,s.heap.get? b=some o/\∀v,o.data≠.cell v):Inv X (pins++HX fp s.heap) σ H s :=
 I.pins_of fun p hp=>(List.mem_append.mp hp).elim (fun z=>I.pin p (List.mem_append_right _ z)) fun z=>by
  obtain⟨hb,e⟩:=Nz z
  obtain⟨f0,f1,f2,_⟩:=hf p.1 hb
  obtain⟨o,e',d⟩:=ho p.1 hb
  rw [e] at e'; cases e'
  exact⟨e,f0,f1,f2,d⟩
theorem Inv.unpinned{pins pl:List (Addr×Obj)}{σ:St}{H:Hp}{s:Shared}(I:Inv X (pins++pl) σ H s):Inv X pins σ H s:=I.pins_of fun p hp=>I.pin p (List.mem_append_right _ (List.mem_append_left _ hp))
theorem Jr{iter:Expr}{body:List Stmt}{wi:TI}{g:TG}{tb:TS}{pos:Pos}(hp:PassesOwn (model X.prog X.w) X.A X.env X.xe)(hc:X.calm=true)(hi:PI X tg iter wi)(hg:PG X tg g)(hb:PSs X body tb)
  (hs:∀x,foldedSetIterable iter X.env x=pure x:=by intro _; rfl):PS X (.For tg iter body [] pos) (VZ wi g tb):=by
 intro pins s σ H D I h
 refine wpAny_For (BX (hi pins s σ H _ I h) fun v s1 h1=>BX h1 fun itv s2 h2=>?_) hs
 obtain⟨it,fp,tn,J,H2,e,I2,T,st2,f2,W,⟨m0,w0⟩,turn⟩:=h2
 subst e
 have stat:∀{H':Hp},(∀b∈fp,H' b=none)->∀b∈fp,Fo X pins H' b:=fun hn b hb=>⟨hn b hb,(f2 b hb).2⟩
 refine codeAny_forLoop_any (fun n s'=>∃i σ' H',Inv X pins σ' H' s'/\tn i s'.heap/\(∀b∈fp,H' b=none)/\W i n σ' H') ?_ m0 ⟨0,σ,H2,I2,st2,fun b hb=>(f2 b hb).1,w0⟩
 rintro n s3 ⟨i,σ3,H3,I3,st3,fr3,w3⟩
 rcases turn i n σ3 H3 w3 with ⟨stop,qn⟩ | ⟨go,N,hN,step⟩
 ·refine wpAny_passesOwn hp (BX (T.done X rfl rfl rfl hc i pins s3 σ3 H3 X.xe I3 (stat fr3) st3 stop) fun r s4 ⟨hr,I4⟩=>?_)
  subst hr
  exact wpAny_execs_nil ⟨σ3,H3,I4,qn⟩
 ·refine wpAny_passesOwn hp (BX (T.item X rfl rfl rfl hc i pins s3 σ3 H3 X.xe I3 (stat fr3) st3 go) fun r s4 ⟨u,hr,h4⟩=>?_)
  subst hr
  refine wpAny_passesOwn hp (BX h4 fun _ s5 ⟨x,H5,I5,r5,y5,st5,fr5⟩=>?_)
  have I5':=I5.pinned (stat fr5) (T.obj _ _ st5)
  refine wpAny_passesOwn hp (BX (hg _ s5 σ3 H5 x u _ I5' r5 (step x H5 y5)) fun _ s6 ⟨σ6,H6,I6,q6⟩=>?_)
  refine wpAny_passesOwn hp (BX (hb _ s6 σ6 H6 _ I6 q6) fun f s7 q7=>?_)
  have again:∀{σ7:St} {H7:Hp},Inv X (pins++HX fp s5.heap) σ7 H7 s7->N σ7 H7->∃m,m<n/\∃i σ' H',Inv X pins σ' H' s7/\tn i s7.heap/\(∀b∈fp,H' b=none)/\W i m σ' H':=fun {σ7 H7} I7 n7=>by
   obtain⟨m',hm,w7⟩:=hN σ7 H7 n7
   refine⟨m',hm,i+1,σ7,H7,I7.unpinned,T.keep _ _ _ st5 fun b hb o e=>(I7.pin (b,o) (List.mem_append_right _ (List.mem_append_right _ (Ds hb e)))).1,fun b hb=>?_,w7⟩
   obtain⟨o,e,d⟩:=T.obj _ _ st5 b hb
   exact(I7.pin (b,o) (List.mem_append_right _ (List.mem_append_right _ (Ds hb e)))).2.1
  cases f with
  | next=>obtain⟨σ7,H7,I7,n7⟩:=q7; exact again I7 n7
  | cont=>obtain⟨σ7,H7,I7,n7⟩:=q7; exact again I7 n7
  | brk=>obtain⟨σ7,H7,I7,q7⟩:=q7; exact⟨σ7,H7,I7.unpinned,q7⟩
  | ret v=>obtain⟨x7,σ7,H7,I7,r7,q7⟩:=q7; exact⟨x7,σ7,H7,I7.unpinned,r7,q7⟩
end
theorem NF{K:Frag}{a:Addr}{xs:List V}{g:TG}{tb:TS}{D:Ends}{σ:St}{H:Hp}(Pv:Nat->St->Hp->Prop)(h0:Pv 0 σ H)(hl:∀i σ H,i<=xs.length->Pv i σ H->SqT K H a xs)
  (hs:∀i x σ H,xs[i]?=some x->Pv i σ H->g x σ H fun σ2 H2=>tb { D with nx:=Pv (i+1),ct:=Pv (i+1),bk:=D.nx } σ2 H2) (hd:∀σ H,Pv xs.length σ H->D.nx σ H) :
  ∃W:Nat->Nat->St->Hp->Prop,(∃m,W 0 m σ H)/\∀i m σ H,W i m σ H ->
   ((T4 K a).stop i H/\D.nx σ H)\/((T4 K a).go i H/\∃N:St->Hp->Prop,(∀σ' H',N σ' H'->∃m',m'<m/\W (i+1) m' σ' H')/\∀x H',(T4 K a).yld i H x H'->g x σ H' fun σ2 H2=>tb { D with nx:=N,ct:=N,bk:=D.nx } σ2 H2):=by
 refine⟨fun i m σ H=>m=xs.length - i/\i<=xs.length/\Pv i σ H,⟨xs.length,by simp,Nat.zero_le _,h0⟩,?_⟩
 rintro i m σ H ⟨rfl,hi,p⟩
 have q:=hl i σ H hi p
 by_cases hlt:i<xs.length
 ·refine .inr ⟨⟨xs,xs[i],q,by simp [hlt]⟩,Pv (i+1),fun σ' H' p'=>⟨xs.length - (i+1),by omega,rfl,hlt,p'⟩,fun x H' y=>?_⟩
  obtain⟨e,y⟩:=y
  subst e
  exact hs i x σ _ (y xs q) p
 ·have e:i=xs.length:=by omega
  subst e
  exact .inl ⟨⟨xs,q,Nat.le_refl _⟩,hd σ H p⟩
noncomputable abbrev R2:=V->V->Hp->VK->Prop
noncomputable def OpR(X:Cx)(f:Value->Value->Sem Value)(r:R2):Prop :=
 ∀(pins:List (Addr×Obj)) (s:Shared) (σ:St) (H:Hp) (x y:V) (v u:Value) (Q:VK),Inv X pins σ H s->RelV x v->RelV y u->r x y H Q ->
  wpAny (model X.prog X.w) X.A (f v u) (EP X pins σ Q) X.xe s
noncomputable def Ck(X:Cx)(f:Value)(r:List V->Hp->VK->Prop):Prop :=
 ∀(pins:List (Addr×Obj)) (s:Shared) (σ:St) (H:Hp) (xs:List V) (us:List Value) (Q:VK),Inv X pins σ H s->Vals xs us->r xs H Q ->
  wpAny (model X.prog X.w) X.A (call f us) (EP X pins σ Q) X.xe s
noncomputable def Vv(X:Cx)(r:V->Hp->(Bool->Hp->Prop)->Prop):Prop :=
 ∀(pins:List (Addr×Obj)) (s:Shared) (σ:St) (H:Hp) (x:V) (v:Value) (Q:Bool->Hp->Prop),Inv X pins σ H s->RelV x v->r x H Q ->
  wpAny (model X.prog X.w) X.A (truthy v) (TP X pins σ Q) X.xe s
noncomputable def DV(r:R2)(ta tb:TE):TE:=fun σ H Q=>ta σ H fun x H1=>tb σ H1 fun y H2=>r x y H2 Q
noncomputable def rI(C:Int->Int->Prop)(g:Int->Int->V):R2:=fun x y H Q=>∃i j,x=.int i/\y=.int j/\C i j/\Q (g i j) H
noncomputable def Gr(g:Int->Int->V):R2:=fun x y H Q=>∃i j,x=.int i/\y=.int j/\Q (g i j) H
section
variable {X:Cx}{a b c:Expr}{ta tb tc:TE}{pos:Pos}
theorem Tq(ha:PE X a ta)(hb:PE X b tb){pins:List (Addr×Obj)}{s:Shared}{σ:St}{H:Hp}{R:V->V->Hp->Prop}(I:Inv X pins σ H s)
  (h:ta σ H fun x H1=>tb σ H1 fun y H2=>R x y H2) {Q:Value->Shared->Prop} {f:Value->Value->Sem Value}
  (hf:∀v u s2 x y H2,Inv X pins σ H2 s2->RelV x v->RelV y u->R x y H2->wpAny (model X.prog X.w) X.A (f v u) Q X.xe s2) :
  wpAny (model X.prog X.w) X.A (eval a X.env) (fun v s₁=>wpAny (model X.prog X.w) X.A (eval b X.env) (fun u s₂=>wpAny (model X.prog X.w) X.A (f v u) Q X.xe s₂) X.xe s₁) X.xe s:=by
 refine BX (ha pins s σ H _ I h) fun v s1 ⟨x,H1,I1,r1,q1⟩=>?_
 refine BX (hb pins s1 σ H1 _ I1 q1) fun u s2 ⟨y,H2,I2,r2,q2⟩=>?_
 exact hf v u s2 x y H2 I2 r1 r2 q2
theorem Bs{op:Operator}{r:R2}(ho:OpR X (binaryOp op) r)(ha:PE X a ta)(hb:PE X b tb):PE X (.BinOp a op b pos) (DV r ta tb):=by
 intro pins s σ H Q I h
 exact wpAny_BinOp (Tq ha hb I h fun v u s2 x y H2 I2 rx ry q=>ho pins s2 σ H2 x y v u Q I2 rx ry q)
theorem VE{f:Value->Value->Sem Value}{C:Int->Int->Prop}{g:Int->Int->Int}
  (rule:∀(i j:Int) (t u:Tok) (s:Shared) (Q:Value->Shared->Prop) (E:Value->Shared->Prop),C i j->Q (.int (g i j) s.toks) { s with toks:=s.toks+1 }->wpAny (model X.prog X.w) X.A (f (.int i t) (.int j u)) Q E s) :
  OpR X f (rI C fun i j=>.int (g i j)):=by
 intro pins s σ H x y v u Q I rx ry h
 obtain⟨i,j,rfl,rfl,hc,q⟩:=h
 obtain⟨t,rfl⟩:=rx
 obtain⟨t',rfl⟩:=ry
 exact rule i j t t' s _ _ hc ⟨.int (g i j),H,I.tok _,⟨_,rfl⟩,q⟩
theorem Ug{f:Value->Value->Sem Value}{g:Int->Int->Int}
  (rule:∀(i j:Int) (t u:Tok) (s:Shared) (Q:Value->Shared->Prop) (E:Value->Shared->Prop),Q (.int (g i j) s.toks) { s with toks:=s.toks+1 }->wpAny (model X.prog X.w) X.A (f (.int i t) (.int j u)) Q E s) :
  OpR X f (Gr fun i j=>.int (g i j)):=by
 intro pins s σ H x y v u Q I rx ry h
 obtain⟨i,j,rfl,rfl,q⟩:=h
 obtain⟨t,rfl⟩:=rx
 obtain⟨t',rfl⟩:=ry
 exact rule i j t t' s _ _ ⟨.int (g i j),H,I.tok _,⟨_,rfl⟩,q⟩
theorem Q4{f:Value->Value->Sem Value}{g:Int->Int->Bool}
  (rule:∀(i j:Int) (t u:Tok) (s:Shared) (Q:Value->Shared->Prop) (E:Value->Shared->Prop),Q (.bool (g i j)) s->wpAny (model X.prog X.w) X.A (f (.int i t) (.int j u)) Q E s) :
  OpR X f (Gr fun i j=>.bl (g i j)):=by
 intro pins s σ H x y v u Q I rx ry h
 obtain⟨i,j,rfl,rfl,q⟩:=h
 obtain⟨t,rfl⟩:=rx
 obtain⟨t',rfl⟩:=ry
 exact rule i j t t' s _ _ ⟨.bl (g i j),H,I,rfl,q⟩
noncomputable def Qh(i j:Int):Prop:=0<j/\j<1073741824
noncomputable def Kf(i j:Int):Prop:=0<=j/\j<=1000000/\i.natAbs<2 ^ 64
noncomputable def CMul(i j:Int):Prop:=(-(2 ^ 64)<i/\i<2 ^ 64)\/(-(2 ^ 64)<j/\j<2 ^ 64)
theorem CMul.ok{i j:Int}(h:CMul i j):IntMulOk i j:=by
 rcases h with ⟨h1,h2⟩ | ⟨h1,h2⟩
 ·exact .of_left (intBits_le_64 h1 h2)
 ·exact .of_right (intBits_le_64 h1 h2)
theorem op_add:OpR X (binaryOp .Add) (Gr fun i j=>.int (i+j)):=Ug fun _ _ _ _ _ _ _ q=>add_int q
theorem op_sub:OpR X (binaryOp .Sub) (Gr fun i j=>.int (i - j)):=Ug fun _ _ _ _ _ _ _ q=>sub_int q
theorem op_mul:OpR X (binaryOp .Mult) (rI CMul fun i j=>.int (i*j)):=VE fun _ _ _ _ _ _ _ hc q=>mul_int q hc.ok
theorem G0:OpR X (binaryOp .FloorDiv) (rI Qh fun i j=>.int (i / j)):=VE fun i j _ _ _ _ _ hc q=>by
 have h1:(0:Int)<j:=hc.1
 have h2:j<1073741824:=hc.2
 exact floordiv_int (by omega) (by rw [Int.fdiv_eq_ediv_of_nonneg i (by omega)]; exact q) (.inl (PyProof.noPylong_small (by omega)))
theorem EG:OpR X (binaryOp .Mod) (rI (fun _ j=>0<j) fun i j=>.int (i % j)):=VE fun i j _ _ _ _ _ hc q=>by
 have h1:(0:Int)<j:=hc
 exact mod_int' (by omega) (by rw [Int.fmod_eq_emod_of_nonneg i (by omega)]; exact q)
theorem Fy:OpR X (binaryOp .Pow) (rI Kf fun i j=>.int (i ^ j.toNat)):=VE fun _ _ _ _ _ _ _ hc q=>pow_int_small hc.1 hc.2.1 hc.2.2 q
end
noncomputable def Vb:V->V->Bool
 | .non,.non=>true | .non,.int _=>true | .int _,.non=>true | .non,.bl _=>true | .bl _,.non=>true | .non,.str _=>true | .str _,.non=>true
 | .int _,.int _=>true | .bl _,.bl _=>true | .str _,.str _=>true | .byt _,.byt _=>true
 | .int _,.str _=>true | .str _,.int _=>true | .bl _,.str _=>true | .str _,.bl _=>true
 | _,_=>false
noncomputable def V7:R2:=fun x y H Q=>Vb x y=true/\Q (.bl (decide (x=y))) H
theorem NN{i j:Int}:decide (V.int i=V.int j)=(i==j):=by
 rw [Bool.eq_iff_iff]
 simp
theorem QL{i j:Bool}:decide (V.bl i=V.bl j)=(i==j):=by
 rw [Bool.eq_iff_iff]
 simp
theorem NM{i j:Str}:decide (V.str i=V.str j)=(i==j):=by
 rw [Bool.eq_iff_iff]
 simp
theorem Ra{i j:Array UInt8}:decide (V.byt i=V.byt j)=(i.toList==j.toList):=by
 rw [Bool.eq_iff_iff]
 cases i
 cases j
 simp
section
variable {X:Cx}{a b c:Expr}{ta tb tc:TE}{pos:Pos}
theorem Bi{pins:List (Addr×Obj)}{σ:St}{H:Hp}{s:Shared}{Q:VK}{k k':Bool}(I:Inv X pins σ H s)(q:Q (.bl k) H)(e:k=k'):EP X pins σ Q (.bool k') s:=by
 subst e
 exact⟨.bl k,H,I,rfl,q⟩
theorem GW:OpR X (compareOp .Eq) V7:=by
 intro pins s σ H x y v u Q I rx ry h
 obtain⟨hs,q⟩:=h
 cases x with
 | non =>
  cases rx
  cases y with
  | non=>cases ry; exact PySem.EqNone.eq_none_none (Bi I q (by simp))
  | bl j=>cases ry; exact PySem.EqNone.eq_none_bool (Bi I q (by simp))
  | int j=>obtain⟨t',rfl⟩:=ry; exact PySem.EqNone.eq_none_int (Bi I q (by simp))
  | str j=>obtain⟨t',rfl⟩:=ry; exact PySem.EqNone.eq_none_str (Bi I q (by simp))
  | _=>exact absurd (show false=true from hs) Bool.false_ne_true
 | bl i =>
  cases rx
  cases y with
  | non=>cases ry; exact PySem.EqNone.eq_bool_none (Bi I q (by simp))
  | bl j=>cases ry; exact eq_bool (Bi I q QL)
  | str j=>obtain⟨t',rfl⟩:=ry; exact PySem.EqMixed.eq_bool_str (Bi I q (by simp))
  | _=>exact absurd (show false=true from hs) Bool.false_ne_true
 | int i =>
  obtain⟨t,rfl⟩:=rx
  cases y with
  | non=>cases ry; exact PySem.EqNone.eq_int_none (Bi I q (by simp))
  | int j=>obtain⟨t',rfl⟩:=ry; exact eq_int (Bi I q NN)
  | str j=>obtain⟨t',rfl⟩:=ry; exact PySem.EqMixed.eq_int_str (Bi I q (by simp))
  | _=>exact absurd (show false=true from hs) Bool.false_ne_true
 | str i =>
  obtain⟨t,rfl⟩:=rx
  cases y with
  | non=>cases ry; exact PySem.EqNone.eq_str_none (Bi I q (by simp))
  | bl j=>cases ry; exact PySem.EqMixed.eq_str_bool (Bi I q (by simp))
  | int j=>obtain⟨t',rfl⟩:=ry; exact PySem.EqMixed.eq_str_int (Bi I q (by simp))
  | str j=>obtain⟨t',rfl⟩:=ry; exact eq_str (Bi I q NM)
  | _=>exact absurd (show false=true from hs) Bool.false_ne_true
 | byt i =>
  obtain⟨t,rfl⟩:=rx
  cases y with
  | byt j=>obtain⟨t',rfl⟩:=ry; exact PySem.W.eq_bytes (Bi I q Ra)
  | _=>exact absurd (show false=true from hs) Bool.false_ne_true
 | _=>cases y <;> exact absurd (show false=true from hs) Bool.false_ne_true
theorem op_lt:OpR X (compareOp .Lt) (Gr fun i j=>.bl (decide (i<j))):=Q4 fun _ _ _ _ _ _ _ q=>lt_int q
theorem op_le:OpR X (compareOp .LtE) (Gr fun i j=>.bl (decide (i<=j))):=Q4 fun _ _ _ _ _ _ _ q=>le_int q
theorem SF:OpR X (compareOp .Gt) (Gr fun i j=>.bl (decide (j<i))):=Q4 fun _ _ _ _ _ _ _ q=>gt_int q
theorem Ue:OpR X (compareOp .GtE) (Gr fun i j=>.bl (decide (j<=i))):=Q4 fun _ _ _ _ _ _ _ q=>ge_int q
theorem Nw:OpR X (compareOp .Lt) (fun x y H Q=>∃i j,x=.str i/\y=.str j/\Q (.bl (decide (i.cps.toList<j.cps.toList))) H):=by
 intro pins s σ H x y v u Q I rx ry h
 obtain⟨i,j,rfl,rfl,q⟩:=h
 obtain⟨t,rfl⟩:=rx
 obtain⟨t',rfl⟩:=ry
 exact lt_str (Bi I q rfl)
theorem Hb:OpR X (compareOp .Is) (fun x y H Q=>y=.non/\Q (.bl (decide (x=.non))) H):=by
 intro pins s σ H x y v u Q I rx ry h
 obtain⟨rfl,q⟩:=h
 cases ry
 refine is_none_gen (Bi I q ?_)
 cases x <;> first
  | (cases rx; rfl)
  | (obtain⟨t,rfl⟩:=rx; rfl)
theorem FQ:OpR X (compareOp .IsNot) (fun x y H Q=>y=.non/\Q (.bl (!decide (x=.non))) H):=by
 intro pins s σ H x y v u Q I rx ry h
 obtain⟨rfl,q⟩:=h
 cases ry
 refine isnot_none_gen (Bi I q ?_)
 cases x <;> first
  | (cases rx; rfl)
  | (obtain⟨t,rfl⟩:=rx; rfl)
theorem OpR.or{f:Value->Value->Sem Value}{r r':R2}(h:OpR X f r)(h':OpR X f r'):OpR X f (fun x y H Q=>r x y H Q\/r' x y H Q):=by
 intro pins s σ H x y v u Q I rx ry q
 rcases q with q | q
 ·exact h pins s σ H x y v u Q I rx ry q
 ·exact h' pins s σ H x y v u Q I rx ry q
theorem Av(b:Expr){op:CmpOp}(h:op≠.In:=by decide)(h2:op≠.NotIn:=by decide):behindInMarks op b=false:=by
 have e1:(op==CmpOp.In)=false:=by cases op <;> first | rfl | exact absurd rfl h
 have e2:(op==CmpOp.NotIn)=false:=by cases op <;> first | rfl | exact absurd rfl h2
 cases b <;> simp [behindInMarks,e1,e2]
theorem Q1{op:CmpOp}{r:R2}(ho:OpR X (compareOp op) r)(ha:PE X a ta)(hb:PE X b tb)(hm:behindInMarks op b=false):PE X (.Compare a [op] [b] pos) (DV r ta tb):=by
 intro pins s σ H Q I h
 exact wpAny_Compare1 (Tq ha hb I h fun v u s2 x y H2 I2 rx ry q=>ho pins s2 σ H2 x y v u Q I2 rx ry q) hm
noncomputable def Oz(t:TE):TT:=fun σ H Q=>t σ H fun x H'=>∃k,x=.bl k/\Q k H'
theorem FN{op:CmpOp}{r:R2}(ho:OpR X (compareOp op) r)(ha:PE X a ta)(hb:PE X b tb)(hm:behindInMarks op b=false):PT X (.Compare a [op] [b] pos) (Oz (DV r ta tb)):=by
 intro pins s σ H Q I h
 refine wpAny_isTrue_Compare1 (BX (ha pins s σ H _ I h) fun v s1 ⟨x,H1,I1,r1,q1⟩=>BX (hb pins s1 σ H1 _ I1 q1) fun u s2 ⟨y,H2,I2,r2,q2⟩ =>
  BX (ho pins s2 σ H2 x y v u _ I2 r1 r2 q2) fun c s3 ⟨z,H3,I3,r3,k,e,q3⟩=>?_) hm
 subst e
 cases r3
 exact wpAny_truthy_bool ⟨H3,I3,q3⟩
noncomputable def Tw(K:Frag)(x:V)(H:Hp)(k:Bool):Prop :=
 match x with
 | .non=>k=false
 | .bl b=>k=b
 | .int i=>k=(i != 0)
 | .str y=>y.length<=sizeLine/\k=((y.length:Int) != 0)
 | .byt y=>y.size<=sizeLine/\k=((y.size:Int) != 0)
 | .ref p=>(∃xs,SqL K H p xs/\k=!xs.isEmpty)\/(∃xs,SqT K H p xs/\k=!xs.isEmpty)\/∃kvs,H p=some (.dK kvs)/\k=!kvs.isEmpty
 | _=>False
theorem MM{κ:Type}{kvs:List (κ×V)}{vs:List (κ×Value)}(r:KV kvs vs):(!vs.isEmpty)=!kvs.isEmpty:=by
 cases r <;> rfl
theorem Hr{xs:List V}{its:List Value}(r:Vals xs its):(!its.toArray.isEmpty)=!xs.isEmpty:=by
 cases r <;> simp
theorem GA:(sizeLine:Nat)<2 ^ 63:=by rw [sizeLine_eq]; decide
theorem Sf:Vv X (fun x H Q=>∃k,Tw X.K x H k/\Q k H):=by
 intro pins s σ H x v Q I rx h
 obtain⟨k,e,q⟩:=h
 have hl:=GA
 have hs:sizeLine=16777216:=sizeLine_eq
 cases x with
 | non =>
  cases rx
  have e':k=false:=e
  subst e'
  exact truthy_none ⟨H,I,q⟩
 | bl b =>
  cases rx
  have e':k=b:=e
  subst e'
  exact wpAny_truthy_bool ⟨H,I,q⟩
 | int i =>
  obtain⟨t,rfl⟩:=rx
  have e':k=(i != 0):=e
  subst e'
  exact PySem.P.truthy_int ⟨H,I,q⟩
 | str y =>
  obtain⟨t,rfl⟩:=rx
  obtain⟨hy,e'⟩:y.length<=sizeLine/\k=((y.length:Int) != 0):=e
  subst e'
  exact PySem.P.truthy_str (by omega) ⟨H,I.tok _,q⟩
 | byt y =>
  obtain⟨t,rfl⟩:=rx
  obtain⟨hy,e'⟩:y.size<=sizeLine/\k=((y.size:Int) != 0):=e
  subst e'
  exact PySem.W.truthy_bytes (by omega) ⟨H,I.tok _,q⟩
 | ref p =>
  cases rx
  have e':(∃xs,SqL X.K H p xs/\k=!xs.isEmpty)\/(∃xs,SqT X.K H p xs/\k=!xs.isEmpty)\/∃kvs,H p=some (.dK kvs)/\k=!kvs.isEmpty:=e
  rcases e' with ⟨xs,hx,e'⟩ | ⟨xs,hx,e'⟩ | ⟨kvs,hx,e'⟩
  ·subst e'
   obtain⟨its,r,pl,hz⟩:=I.list hx
   have hlen:=r.length
   exact wpAny_truthy_list pl.isList (by simp only [List.size_toArray]; omega) ⟨H,I.tok _,by rw [Hr r]; exact q⟩
  ·subst e'
   obtain⟨its,r,pl,hz⟩:=I.tuple hx
   have hlen:=r.length
   exact truthy_tuple pl (by simp only [List.size_toArray]; omega) ⟨H,I.tok _,by rw [Hr r]; exact q⟩
  ·subst e'
   obtain⟨hz,hS,vs,r,m⟩:kvs.length<=sizeLine/\(p==sysModules)=false/\∃vs,KV kvs vs/\s.heap.DictOf (A3 X.prog X.w) p vs:=I.hok p _ hx
   have hlen:kvs.length=vs.length:=Paired.length r
   exact wpAny_truthy_dict hS m (by omega) ⟨H,I.tok _,by rw [MM r]; exact q⟩
 | _=>exact(show False from e).elim
theorem PP(ha:PE X a ta)(he:∀whole,isTrue a X.env whole=(do let v ← whole; standAt a.pos; holding [v] (truthy v))) :
  PT X a (fun σ H Q=>ta σ H fun x H'=>∃k,Tw X.K x H' k/\Q k H'):=by
 intro pins s σ H Q I h
 exact isTrue_plain (BX (ha pins s σ H _ I h) fun v s1 ⟨x,H1,I1,r1,q1⟩=>Sf pins s1 σ H1 x v Q I1 r1 q1) (he _)
theorem MD:OpR X (binaryOp .Add) (fun x y H Q=>∃i j,x=.str i/\y=.str j/\i.length+j.length<=sizeLine/\Q (.str (i++j)) H):=by
 intro pins s σ H x y v u Q I rx ry h
 obtain⟨i,j,rfl,rfl,hz,q⟩:=h
 obtain⟨t,rfl⟩:=rx
 obtain⟨t',rfl⟩:=ry
 exact add_str (fun t' tk=>⟨.str (i++j),H,I.tok _,⟨_,rfl⟩,q⟩) hz
theorem vals1{x:V}{us:List Value}(r:Vals [x] us):∃u,us=[u]/\RelV x u:=by
 cases r with
 | cons r1 r2=>cases r2; exact⟨_,rfl,r1⟩
theorem vals2{x y:V}{us:List Value}(r:Vals [x,y] us):∃u w',us=[u,w']/\RelV x u/\RelV y w':=by
 cases r with
 | cons r1 r2 =>
  cases r2 with
  | cons r3 r4=>cases r4; exact⟨_,_,rfl,r1,r3⟩
theorem Oa(hc:X.calm=true):Ck X (.builtin "min") (fun xs H Q=>∃i j,xs=[.int i,.int j]/\Q (.int (if j<i then j else i)) H):=by
 intro pins s σ H xs us Q I r h
 obtain⟨i,j,rfl,q⟩:=h
 obtain⟨u,w',rfl,⟨t,rfl⟩,⟨t',rfl⟩⟩:=vals2 r
 refine min_two_ints (I.ok.hd hc) fun h' tk k=>⟨_,H,I.kept k,?_,q⟩
 by_cases hj:j<i
 ·rw [if_pos hj,if_pos hj]; exact⟨_,rfl⟩
 ·rw [if_neg hj,if_neg hj]; exact⟨_,rfl⟩
noncomputable def T2(K:Frag)(x:V)(H:Hp)(n:Nat):Prop :=
 match x with
 | .str y=>y.length<=sizeLine/\n=y.length
 | .byt y=>y.size<=sizeLine/\n=y.size
 | .ref p=>(∃xs,SqL K H p xs/\n=xs.length)\/∃xs,SqT K H p xs/\n=xs.length
 | _=>False
theorem C8:Ck X (.builtin "len") (fun xs H Q=>∃x n,xs=[x]/\T2 X.K x H n/\Q (.int n) H):=by
 intro pins s σ H xs us Q I r h
 obtain⟨x,n,rfl,e,q⟩:=h
 obtain⟨u,rfl,rx⟩:=vals1 r
 have hl:=GA
 have hs:sizeLine=16777216:=sizeLine_eq
 cases x with
 | str y =>
  obtain⟨t,rfl⟩:=rx
  obtain⟨hy,e'⟩:y.length<=sizeLine/\n=y.length:=e
  subst e'
  exact len_str (by omega) ⟨.int _,H,I.tok _,⟨_,rfl⟩,q⟩
 | byt y =>
  obtain⟨t,rfl⟩:=rx
  obtain⟨hy,e'⟩:y.size<=sizeLine/\n=y.size:=e
  subst e'
  exact PySem.W.len_bytes (by omega) ⟨.int _,H,I.tok _,⟨_,rfl⟩,q⟩
 | ref p =>
  cases rx
  have e':(∃xs,SqL X.K H p xs/\n=xs.length)\/∃xs,SqT X.K H p xs/\n=xs.length:=e
  rcases e' with ⟨xs,hx,e'⟩ | ⟨xs,hx,e'⟩
  ·subst e'
   obtain⟨its,r',pl,hz⟩:=I.list hx
   have hlen:=r'.length
   exact Calls.call_len_list pl.isList (by simp only [List.size_toArray]; omega) ⟨.int xs.length,H,I.tok _,⟨_,by simp only [List.size_toArray]; rw [hlen]⟩,q⟩
  ·subst e'
   obtain⟨its,r',pl,hz⟩:=I.tuple hx
   have hlen:=r'.length
   exact len_tuple pl (by simp only [List.size_toArray]; omega) ⟨.int xs.length,H,I.tok _,⟨_,by simp only [List.size_toArray]; rw [hlen]⟩,q⟩
 | _=>exact(show False from e).elim
end
structure ObjM (h:Heap) (x dx C:Addr) (mA:Str->Option Value):Prop where
 obj:h.get? x=some (PySem.W.instObj C dx)
 ns:h.Ns1 dx mA
 ne:dx≠x
theorem OJ{h:Heap}{dx:Addr}{mA:Str->Option Value}(n:h.Ns1 dx mA):∃od,h.get? dx=some od/\∀name,PySem.W.lookIn name od=some (mA name):=by
 obtain⟨o,es,ep,ho,hd,hk,_,hm⟩:=n
 refine⟨o,ho,fun name=>?_⟩
 have e:=hm name
 unfold nsFind findBy at e
 rw [← Array.find?_toList] at e
 unfold PySem.W.lookIn
 rw [hd]
 dsimp only
 split
 ·rename_i y q
  rw [q] at e
  exact congrArg some e
 ·rename_i q
  rw [q] at e
  have a:es.toList.any (·.refKey)=false:=by
   rw [List.any_eq_false]
   intro y hy
   obtain⟨z,t,hkey⟩:=hk y (Array.mem_toList_iff.mp hy)
   simp [DictEntry.refKey,hkey]
  have a':¬es.toList.any (·.refKey)=true:=by rw [a]; exact Bool.false_ne_true
  rw [if_neg a']
  exact congrArg some e
theorem ObjM.look{h:Heap}{x dx C:Addr}{mA:Str->Option Value}(I:ObjM h x dx C mA):∃od,PySem.W.InstAt h x (PySem.W.instObj C dx) C (some od)/\∀name,PySem.W.lookIn name od=some (mA name) :=
 let ⟨od,ho,hl⟩:=OJ I.ns
 ⟨od,⟨I.obj,rfl,rfl,ho⟩,hl⟩
section
variable {prog:Program}{w:World}{A:Around}{E:Value->Shared->Prop}{s:Shared}{K:Frag}{x dx C f:Addr}{mA:Str->Option Value}{name:Str}{v:Value}
end
theorem RelO.some_of{v:V}{o:Option Value}(r:RelO (some v) o):∃u,o=some u/\RelV v u:=by
 cases o with
 | none=>exact(show False from r).elim
 | some u=>exact⟨u,rfl,r⟩
section
variable {P:Program}{w:World}{H H':Hp}{h h':Heap}{a C dx:Addr}{fs fs':List (Str×V)}
theorem RH(hok:HOk P w H h)(e:H a=some (.ins C dx fs)):∃mA,ObjM h a dx C mA/\(∀f,RelO (fs.lookup f) (mA f))/\PySem.Within mA (fs.map (·.1))/\fs.length<=1000/\H dx=some (.own a):=by
 obtain⟨d,z,ne,ob,mA,n,r,q⟩:=(show ObjOk P w H h a (.ins C dx fs) from hok a _ e)
 exact⟨mA,⟨ob,n,ne⟩,r,q,z,d⟩
end
structure Cls (K:Frag) (C:Addr):Prop where
 pg:PySem.W.plainGet K C Str.empty=true
 hd:PySem.W.hasDictIn K C=true
 po:PySem.W.plainOver K C=true
 sa:PySem.W.findIn K (.ref C) "__setattr__"=some (some (.builtin "object.__setattr__"))
theorem Cls.get{K:Frag}{C:Addr}(c:Cls K C)(f:Str):PySem.W.plainGet K C f=true:=c.pg
structure WJ (K:Frag) (C:Addr) (f:Str) (v:V) (u:Value):Prop where
 at_:PySem.W.findIn K (.ref C) f=some (some u)
 rel:RelV v u
 get:PySem.W.specialIn K u "__get__"=some none
 cp:PySem.W.copiedNames.contains f=false
structure WH (K:Frag) (C:Addr) (m:Str) (f:Addr):Prop where
 at_:PySem.W.findIn K (.ref C) m=some (some (.ref f))
 fn:PySem.W.isFn K (.ref f)=true
 kp:keepIn K (.ref f)=true
section
variable {X:Cx}{pins:List (Addr×Obj)}{σ:St}{H:Hp}{s:Shared}{a C dx:Addr}{fs:List (Str×V)}{f:Str}{v:V}{A:Around}{E:Value->Shared->Prop}
end
section
variable {X:Cx}{o e value:Expr}{f:Str}{pos pos' tpos:Pos}{ta tv:TE}
end
section
variable {X:Cx}{pins:List (Addr×Obj)}{σ:St}{H:Hp}{s:Shared}{A:Around}{E:Value->Shared->Prop}{Q:Value->Shared->Prop}{c:Value}{b:Bool}
inductive FD (K:Frag) (H:Hp):V->Value->Prop where
 | non:FD K H .non (.type "NoneType")
 | bl (x:Bool):FD K H (.bl x) (.type "bool")
 | int (i:Int):FD K H (.int i) (.type "int")
 | str (x:Str):FD K H (.str x) (.type "str")
 | flt (x:UInt64):FD K H (.flt x) (.type "float")
 | lst {a:Addr} {xs:List V} (e:H a=some (.lst xs)):FD K H (.ref a) (.type "list")
 | frz {a:Addr} {o:Obj} {xs:List V} (e:H a=some (.frz o (.lst xs))):FD K H (.ref a) (.type "list")
 | tup {a:Addr} {xs:List V} (e:H a=some (.tup xs)):FD K H (.ref a) (.type "tuple")
 | dF {a:Addr} {o:Obj} {kvs:List (Key×V)} (e:H a=some (.frz o (.dK kvs))):FD K H (.ref a) (.type "dict")
 | dK {a:Addr} {kvs:List (Key×V)} (e:H a=some (.dK kvs)):FD K H (.ref a) (.type "dict")
 | dT {a:Addr} {kvs:List (List Key×V)} (e:H a=some (.dT kvs)):FD K H (.ref a) (.type "dict")
 | ins {a C dx:Addr} {fs:List (Str×V)} (e:H a=some (.ins C dx fs)) (cl:Cls K C) (ha:PySem.W.findIn K (.ref C) "__class__"=some (some (.builtin "object.__class__")))
   (hn:PySem.W.specialIn K (.builtin "object.__class__") "__get__"=some (some (.builtin "getset_descriptor.__get__"))) (htk:PySem.W.takesIn K (.builtin "object.__class__")=some true)
   (hm:PySem.W.mroIn K C (.type "object")=some true):FD K H (.ref a) (.ref C)
theorem ON{x:V}{u t:Value}(I:Inv X pins σ H s)(rx:RelV x u)(ty:FD X.K H x t)(e:PySem.W.kitOne X.K t c=some b)(h:∀tk,Q (.bool b) { s with toks:=tk }) :
  wpAny (model X.prog X.w) A (call (.builtin "isinstance") [u,c]) Q E s:=by
 cases ty with
 | non=>cases (show u=Value.none from rx); exact PySem.W.kia_one PySem.W.kitx_none I.kIn True.intro e (fun z=>nomatch z) h
 | bl y=>cases (show u=Value.bool y from rx); exact PySem.W.kia_one PySem.W.kitx_bool I.kIn True.intro e (fun z=>nomatch z) h
 | int i=>obtain⟨t,q⟩:=(show ∃t,u=Value.int i t from rx); cases q; exact PySem.W.kia_one PySem.W.kitx_int I.kIn True.intro e (fun z=>nomatch z) h
 | str y=>obtain⟨t,q⟩:=(show ∃t,u=Value.str y t from rx); cases q; exact PySem.W.kia_one PySem.W.kitx_str I.kIn True.intro e (fun z=>nomatch z) h
 | flt y=>obtain⟨t,q⟩:=(show ∃t,u=Value.float y t from rx); cases q; exact PySem.W.kia_one PySem.W.kitx_float I.kIn True.intro e (fun z=>nomatch z) h
 | @lst a xs ea =>
  cases (show u=Value.ref a from rx)
  obtain⟨_,_,n,_,h1⟩:=(show ObjOk X.prog X.w H s.heap a (.lst xs) from I.hok a _ ea)
  exact PySem.W.kia_one PySem.W.kitx_list I.kIn ⟨_,h1,rfl⟩ e (fun z=>nomatch z) h
 | @frz a ob xs ea =>
  cases (show u=Value.ref a from rx)
  obtain⟨_,_,_,n,_,h1⟩:=(show ObjOk X.prog X.w H s.heap a (.frz ob (.lst xs)) from I.hok a _ ea)
  exact PySem.W.kia_one PySem.W.kitx_list I.kIn ⟨_,h1,rfl⟩ e (fun z=>nomatch z) h
 | @tup a xs ea =>
  cases (show u=Value.ref a from rx)
  obtain⟨_,_,_,p⟩:=(show ObjOk X.prog X.w H s.heap a (.tup xs) from I.hok a _ ea)
  obtain⟨o,h1,h2,_⟩:=p
  exact PySem.W.kia_one PySem.W.kitx_tuple I.kIn ⟨o,h1,h2⟩ e (fun z=>nomatch z) h
 | @dF a ob kvs ea =>
  cases (show u=Value.ref a from rx)
  obtain⟨_,_,_,vs,_,p⟩:=(show ObjOk X.prog X.w H s.heap a (.frz ob (.dK kvs)) from I.hok a _ ea)
  obtain⟨o,es,ep,h1,h2,_⟩:=p
  exact PySem.W.kia_one PySem.W.kitx_dict I.kIn ⟨o,h1,h2.1⟩ e (fun z=>nomatch z) h
 | @dK a kvs ea =>
  cases (show u=Value.ref a from rx)
  obtain⟨_,_,vs,_,p⟩:=(show ObjOk X.prog X.w H s.heap a (.dK kvs) from I.hok a _ ea)
  obtain⟨o,es,ep,h1,h2,_⟩:=p
  exact PySem.W.kia_one PySem.W.kitx_dict I.kIn ⟨o,h1,h2.1⟩ e (fun z=>nomatch z) h
 | @dT a kvs ea =>
  cases (show u=Value.ref a from rx)
  obtain⟨_,_,xs,_,o,es,ep,h1,h2,_⟩:=(show ObjOk X.prog X.w H s.heap a (.dT kvs) from I.hok a _ ea)
  exact PySem.W.kia_one PySem.W.kitx_dict I.kIn ⟨o,h1,h2.1⟩ e (fun z=>nomatch z) h
 | @ins a C dx fs ea cl ha hn htk hm =>
  cases (show u=Value.ref a from rx)
  obtain⟨mA,O,_⟩:=RH I.hok ea
  obtain⟨od,J,_⟩:=O.look
  exact PySem.W.kia_one (PySem.W.kitx_own (cl.get _) cl.hd ha hn htk hm) I.kIn J e (fun z=>nomatch z) h
end
structure Room (k:Nat) (A:Around):Prop where
 hd:A.handled=none
 dp:A.depth+3*k+5<recursionLimit
 un:A.units+16*k+200<cLine
 gd:A.guards=some []
theorem Room.mono{j k:Nat}{A:Around}(r:Room k A)(h:j<=k):Room j A:=⟨r.hd,by have:=r.dp; omega,by have:=r.un; omega,by first | exact r.gd | (show pushGuards _ _=_; rw [r.gd]; rfl) | (simp [Around.under,pushGuards,Code.guards,Code.isGuard,r.gd])⟩
theorem Room.deeper{k:Nat}{A:Around}(r:Room (k+1) A)(env:Env):Room k (A.deeper env) :=
 ⟨r.hd,by have:=r.dp; show A.depth+1+3*k+5<_; omega,by have:=r.un; show A.units+3+16*k+200<_; omega,by first | exact r.gd | (show pushGuards _ _=_; rw [r.gd]; rfl) | (simp [Around.under,pushGuards,Code.guards,Code.isGuard,r.gd])⟩
theorem Room.in1{k:Nat}{A:Around}(r:Room (k+1) A):Room k A.in1 :=
 ⟨r.hd,by have:=r.dp; show A.depth+3*k+5<_; omega,by have:=r.un; show A.units+1+16*k+200<_; omega,by first | exact r.gd | (show pushGuards _ _=_; rw [r.gd]; rfl) | (simp [Around.under,pushGuards,Code.guards,Code.isGuard,r.gd])⟩
theorem Room.depth{k:Nat}{A:Around}(r:Room k A):A.depth<recursionLimit:=by have:=r.dp; omega
theorem Room.units{k:Nat}{A:Around}(r:Room k A):A.units+64<cLine:=by have:=r.un; omega
theorem Room.units0{k:Nat}{A:Around}(r:Room k A):A.units<cLine:=by have:=r.un; omega
noncomputable def O0:TA:=fun _ H Q=>Q [] H
noncomputable def Kp(ta:TE)(tr:TA):TA:=fun σ H Q=>ta σ H fun x H1=>tr σ H1 fun xs H2=>Q (x::xs) H2
section
variable {X:Cx}{e:Expr}{es:List Expr}{te:TE}{t:TA}{pos:Pos}
theorem CV:PA X [] O0:=fun _ _ _ _ H Q I h=>Calls.spliced_nil ⟨[],H,I,.nil,h⟩
theorem BY(ha:PE X e te)(hr:PA X es t)(hs:starEach (e::es) X.env=(false,eval e X.env)::starEach es X.env:=by rfl):PA X (e::es) (Kp te t):=by
 intro pos pins s σ H Q I h
 rw [hs]
 show wpAny _ _ (spliced ((false,eval e X.env)::backTo pos (starEach es X.env))) _ _ s
 refine Calls.spliced_cons (BX (ha pins s σ H _ I h) fun u s1 ⟨x,H1,I1,r1,q1⟩=>?_)
 exact BX (hr pos pins s1 σ H1 _ I1 q1) fun us s2 ⟨xs,H2,I2,r2,q2⟩=>⟨x::xs,H2,I2,.cons r1 r2,q2⟩
noncomputable def VU(t:TA):TE:=fun σ H Q=>t σ H fun xs H1=>xs.length<=sizeLine/\∀p,H1 p=none->Q (.ref p) (A9 H1 p (.tup xs))
noncomputable def VX(t:TA):TE:=fun σ H Q=>t σ H fun xs H1=>xs.length<=sizeLine/\∀p,H1 p=none->Q (.ref p) (A9 H1 p (.lst xs))
theorem S3{x1}(h:PA X es t):PE X (.Tuple es x1 pos) (VU t):=by
 intro pins s σ H Q I hq
 refine wpAny_Tuple_spliced (BX (h pos pins s σ H _ I hq) fun us s1 ⟨xs,H1,I1,r,z,q⟩=>⟨by rw [← r.length]; exact z,?_⟩)
 have hf:H1 s1.heap.objs.size=none:=I1.hok.fresh (Nat.le_refl _)
 refine⟨.ref s1.heap.objs.size,A9 H1 s1.heap.objs.size (.tup xs),I1.laid (t':=s1.toks) (fun b u e=>Heap.get?_push_of_some _ e) (Nat.le_refl _) ?_,rfl,q _ hf⟩
 exact⟨z,us,r,IsTupN.new _ _⟩
theorem MA(h:PA X es t):PE X (.List es pos) (VX t):=by
 intro pins s σ H Q I hq
 refine wpAny_List_spliced (BX (h pos pins s σ H _ I hq) fun us s1 ⟨xs,H1,I1,r,z,q⟩=>⟨by rw [← r.length]; exact z,?_⟩)
 have hf:H1 s1.heap.objs.size=none:=I1.hok.fresh (Nat.le_refl _)
 refine⟨.ref s1.heap.objs.size,A9 H1 s1.heap.objs.size (.lst xs),I1.laid (t':=s1.toks) (fun b u e=>Heap.get?_push_of_some _ e) (Nat.le_refl _) ?_,rfl,q _ hf⟩
 exact⟨z,us,0,r,Heap.get?_push_size _ rfl⟩
end
noncomputable abbrev Sp:=List V->Hp->VK->XK->Prop
noncomputable abbrev Qg:=List Env->Hp->Shared->XK->Value->Shared->Prop
structure Env0 (P:Program) (w:World) (K:Frag) (mg:Str->Option Value) (base:Heap) (A:Around) (outer:List Env) (s:Shared) (H:Hp):Prop where
 frames:A.frames=some outer
 mod:Mod K mg base
 bs:∀b o,base.get? b=some o->s.heap.get? b=some o/\H b=none
 bsz:base.objs.size<=s.heap.objs.size
 funs:s.heap.FunFrames base outer
 frf:∀b∈Og outer,H b=none
 hok:HOk P w H s.heap
 bare:AllBare s.gens
noncomputable def CE(outer:List Env)(P:Program)(w:World)(H:Hp)(s:Shared)(Q:VK)(u:Value)(s':Shared):Prop :=
 ∃v H',s'.os=s.os/\AllBare s'.gens/\Un (Og outer) [] H H' s.heap s'.heap/\HOk P w H' s'.heap/\RelV v u/\Q v H'
noncomputable def CR(CX:Qg)(outer:List Env)(P:Program)(w:World)(H:Hp)(s:Shared)(Q:VK)(E:XK)(r:Result)(s':Shared):Prop :=
 match r with
 | .ok (.ret u)=>CE outer P w H s Q u s'
 | .ok _=>False
 | .error e=>CX outer H s E e s'
structure BG (P:Program) (w:World) (K:Frag) (mg:Str->Option Value) (base:Heap) (CX:Qg) (k:Nat) (f:Addr) (fd:FuncData) (ps:List Str) (sp:Sp):Prop where
 len:∀vs H Q E,sp vs H Q E->vs.length=ps.length
 run:∀(A:Around) (outer:List Env) (s:Shared) (H:Hp) (args:Args) (us:List Value) (vs:List V) (Q:VK) (E:XK),Room k A->Env0 P w K mg base A outer s H->BindsTo s fd args (ps.zip us)->Vals vs us->sp vs H Q E ->
  codeAny (model P w) A (.call (.ref f) args) (CR CX outer P w H s Q E) s
theorem Env0.in1{P:Program}{w:World}{K:Frag}{mg:Str->Option Value}{base:Heap}{A:Around}{outer:List Env}{s:Shared}{H:Hp}(e:Env0 P w K mg base A outer s H) :
  Env0 P w K mg base A.in1 outer s H:=⟨e.frames,e.mod,e.bs,e.bsz,e.funs,e.frf,e.hok,e.bare⟩
section
variable {X:Cx}{pins:List (Addr×Obj)}{σ:St}{H:Hp}{s s':Shared}
theorem Inv.env0(I:Inv X pins σ H s):Env0 X.prog X.w X.K X.mg X.base X.A X.stack s H :=
 ⟨I.ok.frames,I.ok.mod,I.bs,Nat.le_trans I.ok.bsz I.sz,I.stack,I.stkFree,I.hok,I.bare⟩
theorem Inv.after{Q:VK}{u:Value}(I:Inv X pins σ H s)(h:CE X.stack X.prog X.w H s Q u s'):EP X pins σ Q u s':=by
 obtain⟨v,H',os,bare,un,hok,r,q⟩:=h
 obtain⟨hh,g,d,t,os'⟩:=s'
 obtain rfl:os'=s.os:=os
 exact⟨v,H',I.call (h':=hh) (g':=g) (d':=d) (t':=t) (ch:=[]) un hok bare (fun b z=>absurd z (by simp)),r,q⟩
end
noncomputable def O1(sp:Sp)(dvs:List V)(E:XK)(t:TA):TE:=fun σ H Q=>t σ H fun vs H1=>sp (vs++dvs) H1 Q E
noncomputable def Binds(K:Frag)(fd:FuncData)(ps:List Str)(ds:List Value):Prop :=
 ∀(s:Shared) (us:List Value),K.In s.heap->(us++ds).length=ps.length->BindsTo s fd ⟨us,[]⟩ (ps.zip (us++ds))
theorem Binds.all{K:Frag}{fd:FuncData}{ps:List Str}(h:∀us:List Value,us.length=ps.length->bindArgs fd ⟨us,[]⟩=pure (ps.zip us)):Binds K fd ps []:=fun s us _ hl=>by
 rw [List.append_nil] at hl ⊢
 exact .of_eq (h us hl)
noncomputable def MY(CX:Qg)(X:Cx)(E:XK):Prop:=∀(pins:List (Addr×Obj)) (σ:St) (H:Hp) (s:Shared) (e:Value) (s':Shared),Inv X pins σ H s->CX X.stack H s E e s'->X.xe e s'
section
variable {X:Cx}{CX:Qg}{k:Nat}{f C:Addr}{fd:FuncData}{ps:List Str}{sp:Sp}{dvs:List V}{ds:List Value}{E:XK}{x m:Str}{p pos apos:Pos}{e o:Expr}{es:List Expr}{ta:TE}{t:TA}
theorem Su{pins:List (Addr×Obj)}{σ:St}{H:Hp}{s:Shared}{Q:VK}{us:List Value}{vs:List V}(F:BG X.prog X.w X.K X.mg X.base CX k f fd ps sp)(hr:Room k X.A)(hb:Binds X.K fd ps ds)(hd:Vals dvs ds)(hx:MY CX X E)
  (I:Inv X pins σ H s) (r:Vals vs us) (h:sp (vs++dvs) H Q E):wpAny (model X.prog X.w) X.A (call (.ref f) us) (EP X pins σ Q) X.xe s:=by
 have r2:Vals (vs++dvs) (us++ds):=r.append hd
 have hl:(us++ds).length=ps.length:=by rw [← r2.length]; exact F.len _ _ _ _ h
 refine wpAny_call (codeAny_mono (F.run X.A X.stack s H ⟨us,[]⟩ (us++ds) (vs++dvs) Q E hr I.env0 (hb s us I.kIn hl) r2 h) fun r s' hq=>?_)
 cases r with
 | error e=>exact hx pins σ H s e s' I hq
 | ok fl =>
  cases fl with
  | ret u=>exact I.after hq
  | next=>exact False.elim hq
  | brk=>exact False.elim hq
  | cont=>exact False.elim hq
theorem Mx(F:BG X.prog X.w X.K X.mg X.base CX k f fd ps sp)(hr:Room k X.A)(hg:Gl X x)(hm:X.mg x=some (.ref f))(hk:keepIn X.K (.ref f)=true)(hb:Binds X.K fd ps ds)(hd:Vals dvs ds)(hx:MY CX X E)
  (ha:PA X (e::es) t) (hdb:(x==("__debug__" : Str))=false:=by decide) (he:starEach (e::es) X.env=(false,eval e X.env)::starEach es X.env:=by rfl) (hpl:(backTo pos (starEach es X.env)).any (·.1)=false:=by rfl) :
  PE X (.Call (.Name x p) (e::es) [] pos) (O1 sp dvs E t):=by
 intro pins s σ H Q I h
 refine wpAny_Call_Name_kw (M_ I hg hm ?_ hdb)
 refine PySem.W.callWith_K (h₀:=X.base) I.ok.mod.kin hk (BX (ha pos pins s σ H _ I h) fun us s1 ⟨vs,H1,I1,r,q⟩=>⟨I1.kIn,?_⟩) he hpl
 exact Su F hr hb hd hx I1 r q
structure Mk (K:Frag) (C f:Addr):Prop where
 makes:PySem.W.makesIn K C=true
 init:PySem.W.findIn K (.ref C) "__init__"=some (some (.ref f))
 fn:PySem.W.isFn K (.ref f)=true
 kp:keepIn K (.ref C)=true
end
section
variable {X:Cx}{CX:Qg}{k:Nat}{f C:Addr}{fd:FuncData}{ps ks:List Str}{sp:Sp}{E:XK}{x m:Str}{p pos apos kpos:Pos}{e o:Expr}{es:List Expr}{kws:List Keyword}{te ta:TE}{t tk:TA}{nm:Option Str}
structure Vy (K:Frag) (fd:FuncData) (ps ks:List Str) (g:List Value->List Value->List Value) (gV:List V->List V->List V):Prop where
 to:∀(s:Shared) (us ws:List Value),K.In s.heap->(g us ws).length=ps.length->BindsTo s fd ⟨us,ks.zip ws⟩ (ps.zip (g us ws))
 rel:∀{vs:List V} {us:List Value} {zs:List V} {ws:List Value},Vals vs us->Vals zs ws->Vals (gV vs zs) (g us ws)
variable {g:List Value->List Value->List Value}{gV:List V->List V->List V}
end
structure Ae (N P:List Str) (sc:Scope):Prop where
 kind:sc.kind=.function
 co:sc.isCoroutine=false
 gen:sc.isGenerator=false
 nd:N.Nodup
 pre:N.take P.length=P
 par:∀x∈P,sc.names.lookup x=some .local\/sc.names.lookup x=some .cell
 nofree:∀y∈sc.names,y.2≠.free
theorem JN{kindOf:Str->Option NameKind}{x:Str}:∀{binds:List (Str×Value)} {m:Str->Option Value},(∀v,(x,v)∉binds)->bindL kindOf binds m x=m x
 | [],_,_=>rfl
 | (n,v)::r,m,h=>by
  unfold bindL
  rw [JN fun w hw=>h w (List.mem_cons_of_mem _ hw)]
  split
  ·have:x≠n:=by rintro rfl; exact h v List.mem_cons_self
   simp [this]
  ·rfl
theorem JP{kindOf:Str->Option NameKind}{x:Str}:∀{binds:List (Str×Value)} {m:Str->Option Value},(∀v,(x,v)∉binds)->bindC kindOf binds m x=m x
 | [],_,_=>rfl
 | (n,v)::r,m,h=>by
  unfold bindC
  rw [JP fun w hw=>h w (List.mem_cons_of_mem _ hw)]
  split
  ·rfl
  ·have:x≠n:=by rintro rfl; exact h v List.mem_cons_self
   simp [this]
theorem JO{kindOf:Str->Option NameKind}{x:Str}{v:Value}:∀{P:List Str} {vs:List Value} {i:Nat} {m:Str->Option Value},P.Nodup->P[i]?=some x->vs[i]?=some v->kindOf x=some .local ->
  bindL kindOf (P.zip vs) m x=some v
 | [],_,_,_,_,h,_,_=>by simp at h
 | _::_,[],_,_,_,_,h,_=>by simp at h
 | p::P,w::vs,0,m,nd,h1,h2,hk=>by
  simp at h1 h2; subst h1; subst h2
  show bindL kindOf ((p,w)::P.zip vs) m p=_
  unfold bindL
  rw [JN fun v hv=>(List.nodup_cons.mp nd).1 (List.of_mem_zip hv).1,if_pos hk]
  simp
 | p::P,w::vs,i+1,m,nd,h1,h2,hk=>by
  show bindL kindOf ((p,w)::P.zip vs) m x=_
  unfold bindL
  exact JO (i:=i) (List.nodup_cons.mp nd).2 (by simpa using h1) (by simpa using h2) hk
theorem JQ{kindOf:Str->Option NameKind}{x:Str}{v:Value}:∀{P:List Str} {vs:List Value} {i:Nat} {m:Str->Option Value},P.Nodup->P[i]?=some x->vs[i]?=some v->kindOf x≠some .local ->
  bindC kindOf (P.zip vs) m x=some v
 | [],_,_,_,_,h,_,_=>by simp at h
 | _::_,[],_,_,_,_,h,_=>by simp at h
 | p::P,w::vs,0,m,nd,h1,h2,hk=>by
  simp at h1 h2; subst h1; subst h2
  show bindC kindOf ((p,w)::P.zip vs) m p=_
  unfold bindC
  rw [JP fun v hv=>(List.nodup_cons.mp nd).1 (List.of_mem_zip hv).1,if_neg hk]
  simp
 | p::P,w::vs,i+1,m,nd,h1,h2,hk=>by
  show bindC kindOf ((p,w)::P.zip vs) m x=_
  unfold bindC
  exact JQ (i:=i) (List.nodup_cons.mp nd).2 (by simpa using h1) (by simpa using h2) hk
noncomputable def start(N:List Str)(vs:List V):St:=vs.map some++List.replicate (N.length - vs.length) none
noncomputable def KW(CX:Qg)(P:Program)(w:World)(K:Frag)(mg:Str->Option Value)(base:Heap)(N:List Str)(qual:Str)(scope:Scope)(f:Addr)(cd:Value)(A:Around)(outer:List Env)(s:Shared)(H:Hp)(E:XK):Cx where
 prog:=P
 w:=w
 K:=K
 mg:=mg
 base:=base
 A:=A.deeper (envOfC qual scope s.heap.objs.size f cd)
 N:=N
 s₀:=s
 H₀:=H
 env:=envOfC qual scope s.heap.objs.size f cd
 outer:=outer
 stack:=envOfC qual scope s.heap.objs.size f cd::outer
 ex:=[]
 calm:=true
 fn:=fun _=>true
 pn:=[]
 xe:=fun e s'=>wpAny (model P w) (A.deeper (envOfC qual scope s.heap.objs.size f cd)) (leaving (envOfC qual scope s.heap.objs.size f cd) e) (fun _ s''=>CX outer H s E e s'') (fun e' s''=>CX outer H s E e' s'') s'
theorem LV{sc:Scope}{n:Nat}{x:Str}(h:sc.names.lookup x=some .cell):∃c,(cellsFrom n sc.names []).lookup x=some c:=by
 have q:=PySem.W.cellsFrom_some sc.names n [] (.inl h)
 exact Option.isSome_iff_exists.mp q
theorem OP{CX:Qg}{P:Program}{w:World}{K:Frag}{mg:Str->Option Value}{base:Heap}{N ps:List Str}{qual:Str}{scope:Scope}{f:Addr}{cd:Value}{A:Around}{outer:List Env}{s s1:Shared}{H:Hp}{E:XK}{us:List Value}{vs:List V}
  (S:Ae N ps scope) (hd:A.handled=none) (e0:Env0 P w K mg base A outer s H) (hl:vs.length=ps.length) (r:Vals vs us)
  (x:InCallC s s.heap.objs.size (bindL (envOfC qual scope s.heap.objs.size f cd).kindOf (ps.zip us) fun _=>none) (cellsFrom (s.heap.objs.size+1) scope.names []) (bindC (envOfC qual scope s.heap.objs.size f cd).kindOf (ps.zip us) fun _=>none) s1) :
  Inv (KW CX P w K mg base N qual scope f cd A outer s H E) [] (start N vs) H s1:=by
 have hpl:ps.length<=N.length:=by have:=congrArg List.length S.pre; rw [List.length_take] at this; omega
 obtain⟨h1,tk,rfl,hk⟩:=x.done
 have noA:∀b:Addr,b∉(KW CX P w K mg base N qual scope f cd A outer s H E).ex:=fun b z=>absurd (show b∈([]:List Addr) from z) (by simp)
 refine⟨⟨e0.mod,S.kind,rfl,rfl,Nat.le_refl _,fun y z c h1 h2=>?_,fun y hy=>?_,fun y c _ h=>?_,fun _=>hd,Around.frames_deeper e0.frames,.inr ⟨rfl,rfl⟩,fun b z=>absurd z (noA b),e0.bs,e0.bsz,fun b _ _=>noA b,fun b z=>absurd z (noA b),e0.funs,e0.frf⟩,
  rfl,e0.bare,Un.kept hk,⟨_,x.toInCall.ns,fun i y v h1 h2 h3=>?_⟩,fun y c h=>⟨_,x.cell y c h⟩,e0.hok.fresh (Nat.le_refl _),fun y c h=>?_,fun p hp=>absurd (show p∈([]:List (Addr×Obj)) from hp) (by simp),e0.hok.kept hk,?_⟩
 ·exact name_of_addr x.apart (PySem.mem_of_lookup h1) (PySem.mem_of_lookup h2)
 ·have hy:scope.names.lookup y=some .cell\/scope.names.lookup y=some .free:=hy
  rcases hy with hy | hy
  ·exact LV hy
  ·exact absurd rfl (S.nofree _ (PySem.mem_of_lookup hy))
 ·exact Nat.le_of_lt (x.above y c (PySem.mem_of_lookup h))
 ·have hi:i<vs.length:=by
   unfold start at h2
   by_cases hi:i<vs.length
   ·exact hi
   ·rw [List.getElem?_append_right (by simpa using hi)] at h2
    rw [List.getElem?_replicate] at h2
    split at h2 <;> cases h2
  have ha:vs[i]?=some v:=by
   unfold start at h2
   rw [List.getElem?_append_left (by simpa using hi),List.getElem?_map] at h2
   cases e:vs[i]? with
   | none=>rw [e] at h2; cases h2
   | some a=>rw [e] at h2; cases h2; rfl
  obtain⟨u,hu,rv⟩:=r.get ha
  have hp:ps[i]?=some y:=by
   rw [← S.pre,List.getElem?_take_of_lt (by omega)]; exact h1
  have ndP:ps.Nodup:=by rw [← S.pre]; exact S.nd.sublist (List.take_sublist _ _)
  refine⟨u,rv,?_⟩
  rcases S.par y (List.mem_of_getElem? hp) with k | k
  ·exact .inl ⟨k,JO ndP hp hu k⟩
  ·obtain⟨c,e⟩:=LV (n:=s.heap.objs.size+1) k
   refine .inr ⟨.inl k,c,e,?_⟩
   have q:=x.cell y c e
   rw [JQ ndP hp hu (by show scope.names.lookup y≠_; rw [k]; decide)] at q
   exact q
 ·exact e0.hok.fresh (Nat.le_of_lt (x.above y c (PySem.mem_of_lookup h)))
 ·unfold start
  show _=N.length
  rw [List.length_append,List.length_map,List.length_replicate]
  omega
theorem Uo{CX:Qg}{P:Program}{w:World}{K:Frag}{mg:Str->Option Value}{base:Heap}{k:Nat}{f:Addr}{name qual:Str}{params:Arguments}{body:List Stmt}{scope:Scope}{dV kV doc pm cdv ct oc:Value}{an od:Option Addr}
  {osl:Array (Option Value)} {N ps:List Str} {sp:Sp} (lk:K.lookup f=some ⟨oc,od,.func (fnOf name qual params body scope dV kV doc pm an cdv ct),osl⟩) (hcd:codeIn K cdv qual=true) (S:Ae N ps scope)
  (len:∀vs H Q E,sp vs H Q E->vs.length=ps.length)
  (hbody:∀(A:Around) (outer:List Env) (s:Shared) (H:Hp) (vs:List V) (Q:VK) (E:XK),Room k (A.deeper (envOfC qual scope s.heap.objs.size f cdv))->sp vs H Q E ->
   ∃t,PSs (KW CX P w K mg base N qual scope f cdv A outer s H E) body t/\t { nx:=fun _ H'=>Q .non H',rt:=Q } (start N vs) H) :
  BG P w K mg base CX (k+1) f (fnOf name qual params body scope dV kV doc pm an cdv ct) ps sp:=by
 refine⟨len,fun A outer s H args us vs Q E hr e0 hb r hsp=>?_⟩
 have hl:=len _ _ _ _ hsp
 have KX:K.In s.heap:=e0.mod.kin.keeps fun b o e=>(e0.bs b o e).1
 have lim:s.heap.NoLimit:=e0.mod.nolimit.keeps fun b o e=>(e0.bs b o e).1
 have hkind:∀y∈ps.zip us,scope.names.lookup y.1=some .local\/(scope.names.lookup y.1=some .cell/\((cellsFrom (s.heap.objs.size+1) scope.names []).lookup y.1).isSome=true):=fun⟨n,v⟩ hy=>by
  rcases S.par n (List.of_mem_zip hy).1 with q | q
  ·exact .inl q
  ·exact .inr ⟨q,PySem.W.cellsFrom_some _ _ _ (.inl q)⟩
 refine codeAny_call_function hr.depth (KX _ _ lk) rfl S.co S.gen rfl (PySem.W.codeRec_of KX hcd) (hb _ _ _ _ ?_)
 refine wpAny_newFunctionEnv_cells S.kind hkind fun env he s1 x=>?_
 subst he
 refine⟨lim.keeps x.toInCall.keep,codeAny_func ?_⟩
 obtain⟨t,ht,hq⟩:=hbody A outer s H vs Q E (hr.deeper _) hsp
 have I:Inv (KW CX P w K mg base N qual scope f cdv A outer s H E) [] (start N vs) H s1:=OP S hr.hd e0 hl r x
 refine wpAny_mono (ht [] s1 (start N vs) H _ I hq) (fun fl s' hs=>?_) fun e s' hs=>hs
 have fin:∀{σ':St} {H':Hp} {v:V} {u:Value},Inv (KW CX P w K mg base N qual scope f cdv A outer s H E) [] σ' H' s'->RelV v u->Q v H'->CE outer P w H s Q u s' :=
  fun {σ' H' v u} J rv q=>⟨v,H',J.os,J.bare,J.base,J.hok,rv,q⟩
 cases fl with
 | ret u =>
  obtain⟨v,σ',H',J,rv,q⟩:=hs
  exact fin J rv q
 | next =>
  obtain⟨σ',H',J,q⟩:=hs
  exact fin (v:=V.non) (u:=Value.none) J rfl q
 | brk =>
  obtain⟨_,_,_,q⟩:=hs
  exact False.elim q
 | cont =>
  obtain⟨_,_,_,q⟩:=hs
  exact False.elim q
section
variable {X:Cx}{x:Str}{p pos:Pos}{e:Expr}{es:List Expr}{t:TA}{id T:String}{r:List V->Hp->VK->Prop}
noncomputable def VC(r:List V->Hp->VK->Prop)(t:TA):TE:=fun σ H Q=>t σ H fun vs H1=>r vs H1 Q
theorem FP(hc:Ck X (.builtin id) r)(hg:Gl X x)(hm:X.mg x=none)(hv:bootBuiltins x=some (.builtin id))(ha:PA X (e::es) t)(hn:x ≠ "__name__":=by decide)(hdb:(x==("__debug__" : Str))=false:=by decide)
  (he:starEach (e::es) X.env=(false,eval e X.env)::starEach es X.env:=by rfl) (hpl:(backTo pos (starEach es X.env)).any (·.1)=false:=by rfl):PE X (.Call (.Name x p) (e::es) [] pos) (VC r t):=by
 intro pins s σ H Q I h
 refine wpAny_Call_Name_kw (EJ I hg hm hv ?_ hn hdb)
 exact PyProof.Rows.callWith_builtin1 (BX (ha pos pins s σ H _ I h) fun us s1 ⟨vs,H1,I1,r1,q1⟩=>hc pins s1 σ H1 vs us Q I1 r1 q1) he hpl
theorem Iz(hc:Ck X (.type T) r)(hg:Gl X x)(hm:X.mg x=none)(hv:bootBuiltins x=some (.type T))(ha:PA X (e::es) t)(hn:x ≠ "__name__":=by decide)(hdb:(x==("__debug__" : Str))=false:=by decide)
  (he:starEach (e::es) X.env=(false,eval e X.env)::starEach es X.env:=by rfl) (hpl:(backTo pos (starEach es X.env)).any (·.1)=false:=by rfl):PE X (.Call (.Name x p) (e::es) [] pos) (VC r t):=by
 intro pins s σ H Q I h
 refine wpAny_Call_Name_kw (EJ I hg hm hv ?_ hn hdb)
 exact PyProof.Rows.callWith_type1 (BX (ha pos pins s σ H _ I h) fun us s1 ⟨vs,H1,I1,r1,q1⟩=>hc pins s1 σ H1 vs us Q I1 r1 q1) he hpl
end
end L2
namespace HT
open PySem PyProof.Rows
section
open PySem.SeqAt
open PySem.AutoSeq1 (wpAny_loadPart')
open PySem.MeetsSeq PySem.MeetsSeq2 PySem.MeetsSeq3
end
section
variable {prog:Program}{w:World}{A:Around}{E:Value->Shared->Prop}{s:Shared}
theorem cat_tup{t b:Addr}{vs ws:List Value}{Q:Value->Shared->Prop}(ht:IsTup s.heap t vs.toArray)(hb:IsTup s.heap b ws.toArray)(hv:vs≠[])
  (h1:ws=[]->Q (.ref t) s) (h2:ws≠[]->Q (.ref s.heap.objs.size) { s with heap:=s.heap.push { cls:=.type "tuple",data:=.seq (vs++ws).toArray } })
  (hsz:vs.length+ws.length<=sizeLine):wpAny (model prog w) A (binaryOp .Add (.ref t) (.ref b)) Q E s:=by
 obtain⟨⟨cls,dd,data,sl⟩,ho,hc,n,hd⟩:=id ht
 obtain⟨⟨cls2,dd2,data2,sl2⟩,ho2,hc2,n2,hd2⟩:=id hb
 simp only at hc hd hc2 hd2
 subst hc hd hc2 hd2
 have e:vs.toArray++ws.toArray=(vs++ws).toArray:=by simp
 by_cases hw:ws=[]
 ·exact concat_meets ⟨_,ho,rfl⟩ ⟨_,ho2,rfl⟩ noFill_tuple_add seq_tuple_add PySem.F.slot_tuple_add PySem.F.entry_tuple_add (PySem.F.args_tuple_add_2 _ _)
   (tuple_addW1 t b vs.toArray ws.toArray n n2 dd dd2 sl sl2 (by simpa using hv) (by simp [hw])) ⟨ho,ho2,h1 hw⟩
 ·refine concat_meets ⟨_,ho,rfl⟩ ⟨_,ho2,rfl⟩ noFill_tuple_add seq_tuple_add PySem.F.slot_tuple_add PySem.F.entry_tuple_add (PySem.F.args_tuple_add_2 _ _)
   (tuple_addW2 t b vs.toArray ws.toArray n n2 dd dd2 sl sl2 (by simpa using hv) (by simpa using hw) (by rw [List.size_toArray,List.size_toArray]; exact hsz)) ⟨ho,ho2,?_⟩
  rw [e]
  exact h2 hw
noncomputable def sIx(n d:Nat):Option Int->Nat
 | none=>d
 | some v=>if v<0 then (v+(n:Int)).toNat else min v.toNat n
theorem sIx_none(n d:Nat):sIx n d none=d:=rfl
theorem sIx_nat(n d k:Nat):sIx n d (some (k:Int))=min k n:=by
 show (if (k:Int)<0 then ((k:Int)+(n:Int)).toNat else min (k:Int).toNat n)=min k n
 rw [if_neg (by omega),Int.toNat_natCast]
theorem Ss(n d:Nat)(hd:d<=n)(o:Option Int):sIx n d o<=n:=by
 cases o with
 | none=>exact hd
 | some v =>
  show (if v<0 then (v+(n:Int)).toNat else min v.toNat n)<=n
  by_cases hv:v<0
  ·rw [if_pos hv]; omega
  ·rw [if_neg hv]; exact Nat.min_le_right _ _
theorem NR(v:Int)(n d:Nat):(if v<0 then max (v+(n:Int)) 0 else min v (n:Int))=((sIx n d (some v):Nat):Int):=by
 show (if v<0 then max (v+(n:Int)) 0 else min v (n:Int))=(((if v<0 then (v+(n:Int)).toNat else min v.toNat n):Nat):Int)
 by_cases hv:v<0
 ·simp only [if_pos hv]; omega
 ·simp only [if_neg hv]; omega
theorem MW(lo hi:Option Int)(n:Nat):Builtin.Slice.sliceAdjust lo hi 1 (n:Int)=(((sIx n 0 lo:Nat):Int),((sIx n n hi:Nat):Int)):=by
 have h1:¬((1:Int)<0):=by omega
 unfold Builtin.Slice.sliceAdjust
 simp only [h1,if_false]
 refine Prod.ext ?_ ?_
 ·cases lo with
  | none=>rfl
  | some v=>exact NR v n 0
 ·cases hi with
  | none=>rfl
  | some v=>exact NR v n n
theorem L8(i j:Nat):Builtin.Slice.slicePlaces (i:Int) (j:Int) 1=j - i:=by
 unfold Builtin.Slice.slicePlaces
 have h1:(1:Int) > 0:=by omega
 simp only [h1,if_true,Int.ediv_one]
 split <;> omega
theorem HK{v:Value}{o:Option Int}{Q:Option Int->Shared->Prop}(p:IsPart v o)(h:Q o s):wpAny (model prog w) A (Builtin.Slice.slicePartIndex v) Q E s:=by
 cases p with
 | none=>exact slicePart_none h
 | int i t=>exact slicePart_int h
theorem sliceApplied_gen{sl:Addr}{vl vu:Value}{lo hi:Option Int}{n:Nat}{Q:Int×Int×Nat->Shared->Prop}(hs:s.heap.IsSliceOf sl vl vu .none)(pl:IsPart vl lo)(pu:IsPart vu hi)
  (h:Q (((sIx n 0 lo:Nat):Int),1,sIx n n hi - sIx n 0 lo) s):wpAny (model prog w) A (Builtin.Slice.sliceApplied (.ref sl) (pure (n:Int))) Q E s:=by
 obtain⟨os,hos,hcs,hds⟩:=id hs
 unfold Builtin.Slice.sliceApplied Builtin.Slice.sliceFields
 refine wpAny_bind (wpAny_bind (wpAny_field hos hds (x:=vl) rfl (wpAny_bind (wpAny_field hos hds (x:=vu) rfl (wpAny_bind (wpAny_field hos hds (x:=.none) rfl (wpAny_pure ?_)))))))
 refine wpAny_bind (slicePart_none ?_)
 show wpAny _ _ (if ((1:Int)==0)=true then _ else _) _ _ s
 rw [if_neg (by decide)]
 refine wpAny_bind (HK pl (wpAny_bind (HK pu (wpAny_bind (wpAny_pure ?_)))))
 show wpAny _ _ (match Builtin.Slice.sliceAdjust lo hi 1 (n:Int) with | (lo,hi)=>pure (lo,(1:Int),Builtin.Slice.slicePlaces lo hi 1)) _ _ s
 rw [MW lo hi n]
 show wpAny _ _ (pure (((sIx n 0 lo:Nat):Int),(1:Int),Builtin.Slice.slicePlaces ((sIx n 0 lo:Nat):Int) ((sIx n n hi:Nat):Int) 1)) _ _ s
 rw [L8]
 exact wpAny_pure h
theorem PV(xs:Array Value)(i k:Nat):((List.range k).filterMap fun(m:Nat)=>xs[((i:Int)+(m:Int)*1).toNat]?).toArray=((xs.toList.drop i).take k).toArray:=by
 have e:(fun(m:Nat)=>xs[((i:Int)+(m:Int)*1).toNat]?)=fun m=>xs[i+m]?:=by
  funext m
  have:((i:Int)+(m:Int)*1).toNat=i+m:=by omega
  rw [this]
 rw [e]
 have:=pick_run xs i k
 rw [List.filterMap_map] at this
 have e2:((fun x=>xs[x]?)∘fun x=>i+x)=fun m=>xs[i+m]?:=rfl
 rw [e2] at this
 rw [this]
theorem getItem_tuple_cut{t sl:Addr}{items:Array Value}{vl vu:Value}{lo hi:Option Int}{Q:Value->Shared->Prop}(ht:IsTup s.heap t items)(hs:s.heap.IsSliceOf sl vl vu .none)(pl:IsPart vl lo)(pu:IsPart vu hi)
  (hw:¬(sIx items.size 0 lo=0/\sIx items.size items.size hi=items.size))
  (h:Q (.ref s.heap.objs.size) { s with heap:=s.heap.push { cls:=.type "tuple",data:=.seq ((items.toList.drop (sIx items.size 0 lo)).take (sIx items.size items.size hi - sIx items.size 0 lo)).toArray } })
  (hsz:items.size<=sizeLine):wpAny (model prog w) A (getItem (.ref t) (.ref sl)) Q E s:=by
 have htake:sizeOk (.seq ((items.toList.drop (sIx items.size 0 lo)).take (sIx items.size items.size hi - sIx items.size 0 lo)).toArray):=by
  show ((items.toList.drop (sIx items.size 0 lo)).take (sIx items.size items.size hi - sIx items.size 0 lo)).toArray.size<=sizeLine
  rw [List.size_toArray,List.length_take,List.length_drop,Array.length_toList]
  omega
 have hj:sIx items.size items.size hi<=items.size:=Ss _ _ (Nat.le_refl _) hi
 obtain⟨os,hos,hcs,hds⟩:=id hs
 have hTs:s.TypeIs (.ref sl) "slice":=⟨os,hos,hcs⟩
 unfold getItem
 try with_reducible refine wpAny_holding ?_
 first | refine wpAny_bind (wpAny_pure ?_) | skip
 refine wpAny_bind (wpAny_sequenceKey ht.typeIs (by decide) ?_)
 refine wpAny_bind (wpAny_callSpecial?_slot (name:=Str.ofString "__getitem__") ht.typeIs PyProof.Rows.slot_tuple_getitem
  (wpAny_call_entry PyProof.Rows.slot_tuple_getitem ht.typeIs entry_tuple_getitem ?_ (args_tuple_getitem _ _)))
 show wpAny _ _ (Builtin.Tuple.tupleItemsOf (.ref t) >>= _) _ _ s
 refine wpAny_bind (tupleItemsOf_ ht ?_)
 refine wpAny_bind (wpAny_typeOf hTs ?_)
 rw [if_pos (by decide)]
 refine wpAny_bind (sliceApplied_gen hs pl pu ?_)
 have hno:¬((((sIx items.size 0 lo:Nat):Int)==0&&(1:Int)==1&&(sIx items.size items.size hi - sIx items.size 0 lo)==items.size)=true):=by
  intro q
  rw [Bool.and_eq_true,Bool.and_eq_true] at q
  have q1:((sIx items.size 0 lo:Nat):Int)=0:=eq_of_beq q.1.1
  have q2:sIx items.size items.size hi - sIx items.size 0 lo=items.size:=eq_of_beq q.2
  exact hw ⟨by omega,by omega⟩
 show wpAny _ _ (if (((sIx items.size 0 lo:Nat):Int)==0&&(1:Int)==1&&(sIx items.size items.size hi - sIx items.size 0 lo)==items.size)=true then _ else _) _ _ s
 rw [if_neg hno,PV]
 first
  | exact wpAny_bind (m:=Builtin.Tuple.tupleExact _) (wpAny_newObj_type (wpAny_pure ⟨_,rfl,wpAny_pure h⟩) htake)
  | exact wpAny_bind (m:=Builtin.Tuple.tupleExact _) (wpAny_newObj_type (wpAny_bind (wpAny_pure (wpAny_pure ⟨_,rfl,wpAny_pure h⟩))) htake)
  | exact wpAny_bind (wpAny_bind (m:=Builtin.Tuple.tupleExact _) (wpAny_newObj_type (wpAny_pure (wpAny_pure ⟨_,rfl,wpAny_pure h⟩)) htake))
  | exact wpAny_bind (wpAny_bind (m:=Builtin.Tuple.tupleExact _) (wpAny_newObj_type (wpAny_pure ⟨_,rfl,wpAny_pure h⟩) htake))
end
end HT
namespace L2
open PySem PySem.Spec PyProof.Rows
noncomputable abbrev TO:=St->Hp->(Option Int->Hp->Prop)->Prop
noncomputable def PO(X:Cx)(e:Option Expr)(t:TO):Prop :=
 ∀(pins:List (Addr×Obj)) (s:Shared) (σ:St) (H:Hp) (Q:Option Int->Hp->Prop),Inv X pins σ H s->t σ H Q ->
  wpAny (model X.prog X.w) X.A (evalPart e X.env) (fun u s'=>∃o H',Inv X pins σ H' s'/\IsPart u o/\Q o H') X.xe s
noncomputable def Qp:TO:=fun _ H Q=>Q none H
noncomputable def UG(t:TE):TO:=fun σ H Q=>t σ H fun x H1=>∃i,x=.int i/\Q (some i) H1
section
variable {X:Cx}{e:Expr}{te:TE}{lo hi:Option Expr}{tl th:TO}{pos p2:Pos}
theorem Mt:PO X none Qp:=by
 intro pins s σ H Q I h
 rw [evalPart_none]
 exact wpAny_pure ⟨none,H,I,.none,h⟩
theorem Ms(h:PE X e te):PO X (some e) (UG te):=by
 intro pins s σ H Q I hw
 rw [evalPart_some]
 refine BX (h pins s σ H _ I hw) fun u s1 ⟨x,H1,I1,r1,q1⟩=>?_
 obtain⟨i,rfl,q⟩:=q1
 obtain⟨t,rfl⟩:=r1
 exact⟨some i,H1,I1,.int i t,q⟩
noncomputable def SlR(X:Cx)(r:V->Option Int->Option Int->Hp->VK->Prop):Prop :=
 ∀(pins:List (Addr×Obj)) (s:Shared) (σ:St) (H:Hp) (x:V) (v vl vu:Value) (lo hi:Option Int) (sl:Addr) (Q:VK),Inv X pins σ H s->RelV x v->s.heap.IsSliceOf sl vl vu .none->IsPart vl lo->IsPart vu hi->r x lo hi H Q ->
  ∃T id,typeLookup (.type T) "__getitem__"=pure (some (.builtin id))/\s.TypeIs v T/\wpAny (model X.prog X.w) X.A (getItem v (.ref sl)) (EP X pins σ Q) X.xe s
theorem SlR.or{r r':V->Option Int->Option Int->Hp->VK->Prop}(h:SlR X r)(h':SlR X r'):SlR X (fun x lo hi H Q=>r x lo hi H Q\/r' x lo hi H Q):=by
 intro pins s σ H x v vl vu lo hi sl Q I rx hs pl pu q
 rcases q with q | q
 ·exact h pins s σ H x v vl vu lo hi sl Q I rx hs pl pu q
 ·exact h' pins s σ H x v vl vu lo hi sl Q I rx hs pl pu q
noncomputable def WC(r:V->Option Int->Option Int->Hp->VK->Prop)(te:TE)(tl th:TO):TE:=fun σ H Q=>te σ H fun x H1=>tl σ H1 fun l H2=>th σ H2 fun u H3=>r x l u H3 Q
theorem K3{r:V->Option Int->Option Int->Hp->VK->Prop}(hr:SlR X r)(he:PE X e te)(hl:PO X lo tl)(hu:PO X hi th):PE X (.Subscript e (.Slice lo hi none p2) pos) (WC r te tl th):=by
 intro pins s σ H Q I h
 refine Subscript_ (BX (he pins s σ H _ I h) fun v s1 ⟨x,H1,I1,r1,q1⟩=>?_)
 refine wpAny_Slice (BX (hl pins s1 σ H1 _ I1 q1) fun vl s2 ⟨l,H2,I2,pl,q2⟩=>BX (hu pins s2 σ H2 _ I2 q2) fun vu s3 ⟨u,H3,I3,pu,q3⟩=>?_)
 rw [evalPart_none]
 refine wpAny_pure ?_
 have I4:Inv X pins σ H3 { s3 with heap:=s3.heap.push { cls:=.type "slice",data:=.fields #[vl,vu,.none] } }:=I3.kept (t':=s3.toks) fun b ob q=>Heap.get?_push_of_some _ q
 obtain⟨T,id,hT,ht,hg⟩:=hr pins { s3 with heap:=s3.heap.push { cls:=.type "slice",data:=.fields #[vl,vu,.none] } } σ H3 x v vl vu l u s3.heap.objs.size Q I4 r1 (Heap.IsSliceOf.new ..) pl pu q3
 show wpAny (model X.prog X.w) X.A (subscriptTail e (.Slice lo hi none p2) v (.ref s3.heap.objs.size)) (EP X pins σ Q) X.xe { s3 with heap:=s3.heap.push { cls:=.type "slice",data:=.fields #[vl,vu,.none] } }
 exact tail_any (ops:=[.ref s3.heap.objs.size,v]) ht hT hg (by with_unfolding_all rfl)
noncomputable def Ik(xs:List V)(lo hi:Option Int):List V:=(xs.drop (HT.sIx xs.length 0 lo)).take (HT.sIx xs.length xs.length hi - HT.sIx xs.length 0 lo)
theorem Gg(xs:List V)(lo hi:Option Int):(Ik xs lo hi).length<=xs.length:=by
 unfold Ik
 rw [List.length_take,List.length_drop]
 omega
noncomputable def UP(K:Frag):V->Option Int->Option Int->Hp->VK->Prop:=fun x lo hi H Q=>∃a xs,x=.ref a/\SqT K H a xs /\
 ¬(HT.sIx xs.length 0 lo=0/\HT.sIx xs.length xs.length hi=xs.length)/\∀p,H p=none->Q (.ref p) (A9 H p (.tup (Ik xs lo hi)))
theorem sl_tup:SlR X (UP X.K):=by
 intro pins s σ H x v vl vu lo hi sl Q I rx hs pl pu h
 obtain⟨a,xs,rfl,hx,hw,q⟩:=h
 cases rx
 obtain⟨its,r,ht,hz⟩:=I.tuple hx
 have hlen:its.toArray.size=xs.length:=by rw [List.size_toArray]; exact r.length.symm
 refine⟨"tuple",_,PyProof.Rows.slot_tuple_getitem.lookup,ht.typeIs,?_⟩
 refine HT.getItem_tuple_cut ht hs pl pu (by rw [hlen]; exact hw) ?_ (by rw [hlen]; exact hz)
 rw [hlen]
 refine⟨.ref s.heap.objs.size,_,I.laid (t':=s.toks) (o:=.tup (Ik xs lo hi)) (fun b ob q=>Heap.get?_push_of_some _ q) (Nat.le_refl _) ?_,rfl,q _ (I.hok.fresh (Nat.le_refl _))⟩
 exact⟨Nat.le_trans (Gg xs lo hi) hz,_,(r.drop (HT.sIx xs.length 0 lo)).take (HT.sIx xs.length xs.length hi - HT.sIx xs.length 0 lo),IsTupN.new _ _⟩
noncomputable def PK(K:Frag):R2:=fun x y H Q=>∃a b xs ys,x=.ref a/\y=.ref b/\SqT K H a xs/\SqT K H b ys/\xs≠[]/\xs.length+ys.length<=sizeLine /\
 (ys=[]->Q (.ref a) H)/\(ys≠[]->∀p,H p=none->Q (.ref p) (A9 H p (.tup (xs++ys))))
theorem Vals.nil_iff{xs:List V}{us:List Value}(r:Vals xs us):us=[]↔xs=[]:=by
 cases r with
 | nil=>simp
 | cons _ _=>simp
theorem op_catT:OpR X (binaryOp .Add) (PK X.K):=by
 intro pins s σ H x y v u Q I rx ry h
 obtain⟨a,b,xs,ys,rfl,rfl,ha,hb,hx,hz,q1,q2⟩:=h
 cases rx
 cases ry
 obtain⟨its,r1,p1,_⟩:=I.tuple ha
 obtain⟨its2,r2,p2,_⟩:=I.tuple hb
 refine HT.cat_tup p1 p2 (fun z=>hx (r1.nil_iff.mp z)) (fun z=>⟨.ref a,H,I,rfl,q1 (r2.nil_iff.mp z)⟩) (fun z=>?_) (by rw [← r1.length,← r2.length]; exact hz)
 refine⟨.ref s.heap.objs.size,_,I.laid (t':=s.toks) (o:=.tup (xs++ys)) (fun b ob q=>Heap.get?_push_of_some _ q) (Nat.le_refl _) ?_,rfl,q2 (fun w=>z (r2.nil_iff.mpr w)) _ (I.hok.fresh (Nat.le_refl _))⟩
 exact⟨by rw [List.length_append]; exact hz,_,r1.append r2,IsTupN.new _ _⟩
end
noncomputable def RE(n:Nat)(i:Int):Option Nat:=if 0<=i then (if i<n then some i.toNat else none) else if -(n:Int)<=i then some (i+n).toNat else none
noncomputable def atI{α:Type}(xs:List α)(i:Int):Option α:=(RE xs.length i).bind fun j=>xs[j]?
theorem J6{n:Nat}{i:Int}{j:Nat}(h:RE n i=some j):seqIndex? i n=some j/\j<n/\-(n:Int)<=i/\i<n:=by
 unfold RE at h
 by_cases h0:0<=i
 ·rw [if_pos h0] at h
  by_cases h1:i<n
  ·rw [if_pos h1] at h
   have e:i.toNat=j:=Option.some.inj h
   exact⟨by rw [seqIndex_of h0 h1,e],by omega,by omega,h1⟩
  ·rw [if_neg h1] at h; cases h
 ·rw [if_neg h0] at h
  by_cases h1:-(n:Int)<=i
  ·rw [if_pos h1] at h
   have e:(i+n).toNat=j:=Option.some.inj h
   exact⟨by rw [seqIndex_neg (by omega) h1,e],by omega,h1,by omega⟩
  ·rw [if_neg h1] at h; cases h
theorem Kb{α:Type}{xs:List α}{i:Int}{v:α}(h:atI xs i=some v):∃j,seqIndex? i xs.length=some j/\xs[j]?=some v/\j<xs.length/\-(xs.length:Int)<=i/\i<xs.length:=by
 unfold atI at h
 cases e:RE xs.length i with
 | none=>rw [e] at h; cases h
 | some j =>
  rw [e] at h
  obtain⟨h1,h2,h3,h4⟩:=J6 e
  exact⟨j,h1,h,h2,h3,h4⟩
theorem Aj{α:Type}{xs:List α}{j:Nat}{v:α}(h:xs[j]?=some v):atI xs (j:Int)=some v:=by
 have hj:j<xs.length:=(List.getElem?_eq_some_iff.mp h).1
 have e:RE xs.length (j:Int)=some j:=by
  unfold RE
  rw [if_pos (by omega),if_pos (by omega)]; simp
 unfold atI; rw [e]; exact h
noncomputable def Na(b:Expr):Prop:=∀o i,subscripted b false o i=operate [o,i] (getItem o i)
noncomputable def IxR(X:Cx)(r:R2):Prop :=
 ∀(value slice:Expr) (pins:List (Addr×Obj)) (s:Shared) (σ:St) (H:Hp) (x y:V) (v u:Value) (Q:VK),Inv X pins σ H s->RelV x v->RelV y u->r x y H Q ->
  subscripted slice false v u=operate [v,u] (getItem v u)->wpAny (model X.prog X.w) X.A (subscriptTail value slice v u) (EP X pins σ Q) X.xe s
noncomputable def Vw(X:Cx)(id:String)(r:V->List V->Hp->VK->Prop):Prop :=
 ∀(pins:List (Addr×Obj)) (s:Shared) (σ:St) (H:Hp) (x:V) (xs:List V) (v:Value) (us:List Value) (Q:VK),Inv X pins σ H s->RelV x v->Vals xs us->r x xs H Q ->
  wpAny (model X.prog X.w) X.A (call (.builtin id) (v::us)) (EP X pins σ Q) X.xe s
section
variable {X:Cx}{a b:Expr}{ta tb:TE}{pos:Pos}
theorem IxR.or{r r':R2}(h:IxR X r)(h':IxR X r'):IxR X (fun x y H Q=>r x y H Q\/r' x y H Q):=by
 intro value slice pins s σ H x y v u Q I rx ry q hs
 rcases q with q | q
 ·exact h value slice pins s σ H x y v u Q I rx ry q hs
 ·exact h' value slice pins s σ H x y v u Q I rx ry q hs
theorem Dv{r:R2}(hr:IxR X r)(ha:PE X a ta)(hb:PE X b tb)(hs:Na b):PE X (.Subscript a b pos) (DV r ta tb):=by
 intro pins s σ H Q I h
 exact Subscript_ (Tq ha hb I h fun v u s2 x y H2 I2 rx ry q=>hr a b pins s2 σ H2 x y v u Q I2 rx ry q (hs _ _))
noncomputable def Sy(K:Frag):R2:=fun x y H Q=>∃p xs i v,x=.ref p/\y=.int i/\SqL K H p xs/\atI xs i=some v/\Q v H
noncomputable def UV(K:Frag):R2:=fun x y H Q=>∃p xs i v,x=.ref p/\y=.int i/\SqT K H p xs/\atI xs i=some v/\Q v H
noncomputable def UW:R2:=fun x y H Q=>∃z i c,x=.str z/\y=.int i/\z.length<=sizeLine/\atI z.cps.toList i=some c/\Q (.str ⟨#[c]⟩) H
theorem ix_list:IxR X (Sy X.K):=by
 intro value slice pins s σ H x y v u Q I rx ry h hs
 obtain⟨p,xs,i,z,rfl,rfl,hq,he,q⟩:=h
 cases rx
 obtain⟨t,rfl⟩:=ry
 obtain⟨its,r,pl,hz⟩:=I.list hq
 obtain⟨j,h1,h2,h3,h4,h5⟩:=Kb he
 obtain⟨w,ew,rw'⟩:=r.get h2
 have hl:=r.length
 have hn:=GA
 have fin:EP X pins σ Q w s:=⟨z,H,I,rw',q⟩
 by_cases h0:0<=i
 ·have hj:i.toNat=j:=by
   rw [seqIndex_of h0 h5] at h1
   exact Option.some.inj h1
  exact item_listR pl.isList h0 (by omega) (by rw [hj]; simpa using ew) fin hs
 ·have hj:(i+(its.toArray.size:Int)).toNat=j:=by
   rw [seqIndex_neg (by omega) h4] at h1
   rw [List.size_toArray,← hl]
   exact Option.some.inj h1
  exact subscriptTail_builtinR (x:=w) pl.isList.typeIs slot_list_getitem.lookup
   (wpAny_getItem_list_neg (Q:=fun r s'=>r=w/\EP X pins σ Q r s') pl.isList (by omega) (by rw [List.size_toArray] <;> omega) (by omega) (by rw [hj]; simpa using ew) ⟨rfl,fin⟩) hs
theorem ix_tup:IxR X (UV X.K):=by
 intro value slice pins s σ H x y v u Q I rx ry h hs
 obtain⟨p,xs,i,z,rfl,rfl,hq,he,q⟩:=h
 cases rx
 obtain⟨t,rfl⟩:=ry
 obtain⟨its,r,pl,hz⟩:=I.tuple hq
 obtain⟨j,h1,h2,h3,h4,h5⟩:=Kb he
 obtain⟨w,ew,rw'⟩:=r.get h2
 have hl:=r.length
 have hn:=GA
 have fin:EP X pins σ Q w s:=⟨z,H,I,rw',q⟩
 exact subscriptTail_builtinR (x:=w) pl.typeIs slot_tuple_getitem.lookup
  (getItem_tuple (j:=j) (Q:=fun r s'=>r=w/\EP X pins σ Q r s') pl (by omega) (by omega) (by rw [List.size_toArray,← hl]; exact h1) (by simpa using ew) ⟨rfl,fin⟩) hs
theorem TR:IxR X UW:=by
 intro value slice pins s σ H x y v u Q I rx ry h hs
 obtain⟨z,i,c,rfl,rfl,hz,he,q⟩:=h
 obtain⟨t,rfl⟩:=rx
 obtain⟨t',rfl⟩:=ry
 obtain⟨j,h1,h2,h3,h4,h5⟩:=Kb he
 have hl:z.cps.toList.length=z.length:=by simp [Str.length]
 rw [hl] at h1 h4 h5
 have hn:=GA
 exact tail_any (typeIs_str s z t) slot_str_getitem.lookup (getItem_str (c:=c) (by
  have e1:decide (i < -(2 ^ 63:Int))=false:=decide_eq_false (by omega)
  have e2:decide (i≥2 ^ 63)=false:=decide_eq_false (by omega)
  rw [e1,e2,Bool.or_false]) (by rw [h1]; simpa using h2) ⟨.str ⟨#[c]⟩,H,I.tok _,⟨_,rfl⟩,q⟩) hs
noncomputable def V5(K:Frag):R2:=fun x y H Q=>Sy K x y H Q\/UV K x y H Q\/UW x y H Q
theorem An:IxR X (V5 X.K):=ix_list.or (ix_tup.or TR)
theorem MJ(its:List Value)(n j:Nat)(u:Value):Obj.mapSeq (·.setIfInBounds j u) { cls:=.type "list",data:=.seq its.toArray n }={ cls:=.type "list",data:=.seq (its.set j u).toArray n }:=by
 simp [Obj.mapSeq]
theorem Inv.lst{pins:List (Addr×Obj)}{σ:St}{H:Hp}{s:Shared}{p:Addr}{xs:List V}(I:Inv X pins σ H s)(h:H p=some (.lst xs)) :
  ∃(its:List Value) (n:Nat),Vals xs its/\s.heap.get? p=some { cls:=.type "list",data:=.seq its.toArray n }/\xs.length<=sizeLine:=by
 obtain⟨z,its,n,r,e⟩:=I.hok p _ h
 exact⟨its,n,r,e,z⟩
theorem Inv.lstUpd{pins:List (Addr×Obj)}{σ:St}{H:Hp}{s:Shared}{p:Addr}{xs ys:List V}{its its':List Value}{n n':Nat}{f:Obj->Obj}(I:Inv X pins σ H s)(h:H p=some (.lst xs))
  (ho:s.heap.get? p=some { cls:=.type "list",data:=.seq its.toArray n }) (hf:f { cls:=.type "list",data:=.seq its.toArray n }={ cls:=.type "list",data:=.seq its'.toArray n' }) (r:Vals ys its') (hz:ys.length<=sizeLine) (t:Nat) :
  Inv X pins σ (A9 H p (.lst ys)) { s with heap:=s.heap.update p f,toks:=t }:=by
 have e:(s.heap.update p f).get? p=some { cls:=.type "list",data:=.seq its'.toArray n' }:=by
  rw [Heap.get?_update_self f ho (by rw [hf] <;> rfl),hf]
 refine I.write (x:=p) (e:=p) (by rw [h]; trivial) (.inl rfl) (fun b u hb q=>(Heap.get?_update_other _ _ (Ne.symm hb)).trans q) ⟨_,e⟩ ?_
 exact⟨hz,its',n',r,e⟩
noncomputable def Rw:V->V->V->Hp->(Hp->Prop)->Prop:=fun o i v H Q=>∃p xs k j,o=.ref p/\i=.int k/\H p=some (.lst xs)/\RE xs.length k=some j/\Q (A9 H p (.lst (xs.set j v)))
theorem set_list:U5 X Rw:=by
 intro pins s σ H o i v ov iv u Q I ro ri rv h
 obtain⟨p,xs,k,j,rfl,rfl,hp,hj,q⟩:=h
 cases ro
 obtain⟨t,rfl⟩:=ri
 obtain⟨its,n,r,ho,hz⟩:=I.lst hp
 obtain⟨h1,h2,h3,h4⟩:=J6 hj
 have hl:=r.length
 have hn:=GA
 have I':Inv X pins σ (A9 H p (.lst (xs.set j v))) { s with heap:=s.heap.update p (Obj.mapSeq (·.setIfInBounds j u)) } :=
  I.lstUpd hp ho (MJ its n j u) (r.set rv j) (by rw [List.length_set]; exact hz) s.toks
 by_cases h0:0<=k
 ·have hk:k.toNat=j:=by
   rw [seqIndex_of h0 h4] at h1
   exact Option.some.inj h1
  exact PySem.W.ki_setAt ho h0 (by omega) (by rw [List.size_toArray,← hl]; exact h4) (by rw [hk]; exact⟨_,I',q⟩)
 ·have hk:(k+(its.toArray.size:Int)).toNat=j:=by
   rw [seqIndex_neg (by omega) h3] at h1
   rw [List.size_toArray,← hl]
   exact Option.some.inj h1
  exact PySem.W.ki_setBack ho (by omega) (by rw [List.size_toArray,← hl]; exact h3) (by omega) (by rw [hk]; exact⟨_,I',q⟩)
theorem Jc(lo hi:Option Int)(n:Nat):(sliceBounds lo hi none n).1=((HT.sIx n 0 lo:Nat):Int)/\(sliceBounds lo hi none n).2.1=((HT.sIx n n hi:Nat):Int)/\(sliceBounds lo hi none n).2.2=1:=by
 refine⟨?_,?_,rfl⟩
 ·cases lo with
  | none=>simp [sliceBounds,HT.sIx]
  | some i =>
   simp only [sliceBounds,HT.sIx,Option.getD_none,show (1:Int) > 0 by decide,if_true]
   by_cases h:i<0
   ·simp only [h,if_true] <;> omega
   ·simp only [h,if_false] <;> omega
 ·cases hi with
  | none=>simp [sliceBounds,HT.sIx]
  | some i =>
   simp only [sliceBounds,HT.sIx,Option.getD_none,show (1:Int) > 0 by decide,if_true]
   by_cases h:i<0
   ·simp only [h,if_true] <;> omega
   ·simp only [h,if_false] <;> omega
theorem IM(its:List Value)(lo hi:Option Int):slicePick its.toArray lo hi none=((its.drop (HT.sIx its.length 0 lo)).take (HT.sIx its.length its.length hi - HT.sIx its.length 0 lo)).toArray:=by
 obtain⟨h1,h2,h3⟩:=Jc lo hi its.toArray.size
 unfold slicePick
 rw [h1,h2,h3]
 simp only [sliceRange_one,pick_run,List.size_toArray] <;> rfl
noncomputable def UQ(K:Frag):V->Option Int->Option Int->Hp->VK->Prop:=fun x lo hi H Q=>∃a xs,x=.ref a/\SqL K H a xs/\∀p,H p=none->Q (.ref p) (A9 H p (.lst (Ik xs lo hi)))
theorem sl_list:SlR X (UQ X.K):=by
 intro pins s σ H x v vl vu lo hi sl Q I rx hs pl pu h
 obtain⟨a,xs,rfl,hx,q⟩:=h
 cases rx
 obtain⟨its,r,ht,hz⟩:=I.list hx
 have hlen:=r.length
 refine⟨"list",_,slot_list_getitem.lookup,ht.isList.typeIs,?_⟩
 refine wpAny_getItem_list_slice ht.isList hs pl pu .none (by simp) ?_ (by rw [List.size_toArray] <;> omega)
 rw [IM,← hlen]
 refine⟨.ref s.heap.objs.size,_,I.laid (t':=s.toks) (o:=.lst (Ik xs lo hi)) (fun b ob q=>Heap.get?_push_of_some _ q) (Nat.le_refl _) ?_,rfl,q _ (I.hok.fresh (Nat.le_refl _))⟩
 exact⟨Nat.le_trans (Gg xs lo hi) hz,_,0,(r.drop (HT.sIx xs.length 0 lo)).take (HT.sIx xs.length xs.length hi - HT.sIx xs.length 0 lo),Heap.get?_push_size _ rfl⟩
noncomputable def SH:V->Bool
 | .non=>true
 | .bl _=>true
 | .int _=>true
 | .str _=>true
 | _=>false
noncomputable def Uw:V->V->Bool
 | .non,.non=>true
 | .bl a,.bl b=>a==b
 | .bl a,.int b=>(if a then 1 else 0)==b
 | .int a,.bl b=>a==(if b then 1 else 0)
 | .int a,.int b=>a==b
 | .str a,.str b=>a==b
 | _,_=>false
theorem KJ{A:Around}{s:Shared}{y x:V}{u v:Value}(ry:RelV y u)(rx:RelV x v)(fy:SH y=true)(fx:SH x=true):SeqAt.EqAt A s u v (Uw y x):=by
 cases y with
 | non =>
  cases ry
  cases x with
  | non=>cases rx; exact SeqAt.EqAt.same _
  | bl b=>cases rx; exact SeqAt.EqAt.none_bool b
  | int b=>obtain⟨t,rfl⟩:=rx; exact SeqAt.EqAt.none_int b t
  | str b=>obtain⟨t,rfl⟩:=rx; exact SeqAt.EqAt.none_str b t
  | _=>exact absurd (show false=true from fx) Bool.false_ne_true
 | bl a =>
  cases ry
  cases x with
  | non=>cases rx; exact SeqAt.EqAt.bool_none a
  | bl b=>cases rx; exact SeqAt.EqAt.bool_bool a b
  | int b=>obtain⟨t,rfl⟩:=rx; exact SeqAt.EqAt.bool_int a b t
  | str b=>obtain⟨t,rfl⟩:=rx; exact SeqAt.EqAt.bool_str a b t
  | _=>exact absurd (show false=true from fx) Bool.false_ne_true
 | int a =>
  obtain⟨t',rfl⟩:=ry
  cases x with
  | non=>cases rx; exact SeqAt.EqAt.int_none a t'
  | bl b=>cases rx; exact SeqAt.EqAt.int_bool a t' b
  | int b=>obtain⟨t,rfl⟩:=rx; exact SeqAt.EqAt.int_int a t' b t
  | str b=>obtain⟨t,rfl⟩:=rx; exact SeqAt.EqAt.int_str a t' b t
  | _=>exact absurd (show false=true from fx) Bool.false_ne_true
 | str a =>
  obtain⟨t',rfl⟩:=ry
  cases x with
  | non=>cases rx; exact SeqAt.EqAt.str_none a t'
  | bl b=>cases rx; exact SeqAt.EqAt.str_bool a t' b
  | int b=>obtain⟨t,rfl⟩:=rx; exact SeqAt.EqAt.str_int a t' b t
  | str b=>obtain⟨t,rfl⟩:=rx; exact SeqAt.EqAt.str_str a t' b t
  | _=>exact absurd (show false=true from fx) Bool.false_ne_true
 | _=>exact absurd (show false=true from fy) Bool.false_ne_true
theorem Fe:Ck X (.type "list") (fun xs H Q=>∃p ys,xs=[.ref p]/\(SqL X.K H p ys\/SqT X.K H p ys)/\∀l,H l=none->Q (.ref l) (A9 H l (.lst ys))):=by
 intro pins s σ H xs us Q I r h
 obtain⟨p,ys,rfl,hq,q⟩:=h
 obtain⟨u,rfl,rx⟩:=vals1 r
 cases rx
 have fin:∀(its:List Value),Vals ys its->ys.length<=sizeLine->∀(h':Heap) (c':Nat),(∀b o',s.heap.get? b=some o'->h'.get? b=some o') ->
   h'.get? s.heap.objs.size=some { cls:=.type "list",dict:=none,data:=.seq its.toArray c',slots:=#[] }->EP X pins σ Q (.ref s.heap.objs.size) { s with heap:=h' }:=fun its r' hz h' c' kp e =>
  ⟨.ref s.heap.objs.size,_,I.laid (t':=s.toks) kp (Nat.le_refl _) (show ObjOk X.prog X.w _ h' _ (.lst ys) from⟨hz,its,c',r',e⟩),rfl,q _ (I.hok.fresh (Nat.le_refl _))⟩
 rcases hq with hq | hq
 ·obtain⟨its,r',pl,hz⟩:=I.list hq
  have hlen:=r'.length
  obtain⟨o,ho,hc,n,hd⟩:=pl.isList
  exact call_list_seq p (.inl rfl) ho hc hd (fun h' c' kp e=>fin its r' hz h' c' kp e) (by simp only [List.size_toArray] <;> omega)
 ·obtain⟨its,r',pl,hz⟩:=I.tuple hq
  have hlen:=r'.length
  obtain⟨o,ho,hc,n,hd⟩:=pl
  exact call_list_seq p (.inr rfl) ho hc hd (fun h' c' kp e=>fin its r' hz h' c' kp e) (by simp only [List.size_toArray] <;> omega)
theorem BO:Ck X (.type "tuple") (fun xs H Q=>∃p ys,xs=[.ref p]/\((SqL X.K H p ys/\∀l,H l=none->Q (.ref l) (A9 H l (.tup ys)))\/(SqT X.K H p ys/\Q (.ref p) H))):=by
 intro pins s σ H xs us Q I r h
 obtain⟨p,ys,rfl,h⟩:=h
 obtain⟨u,rfl,rx⟩:=vals1 r
 cases rx
 rcases h with ⟨hq,q⟩ | ⟨hq,q⟩
 ·obtain⟨its,r',pl,hz⟩:=I.list hq
  have hlen:=r'.length
  refine call_tuple_list pl.isList (fun h' kp=>?_) (by simp only [List.size_toArray] <;> omega)
  have I1:Inv X pins σ H { s with heap:=h' }:=I.kept (t':=s.toks) kp
  have I2:Inv X pins σ (A9 H h'.objs.size (.tup ys)) { s with heap:=h'.push { cls:=.type "tuple",data:=.seq its.toArray } } :=
   I1.laid (t':=s.toks) (fun b o e=>Heap.get?_push_of_some _ e) (Nat.le_refl _) (show ObjOk X.prog X.w _ _ _ (.tup ys) from⟨hz,its,r',IsTupN.new _ _⟩)
  exact⟨.ref h'.objs.size,_,I2,rfl,q _ (I1.hok.fresh (Nat.le_refl _))⟩
 ·obtain⟨its,r',pl,hz⟩:=I.tuple hq
  exact call_tuple_same pl ⟨.ref p,H,I,rfl,q⟩
noncomputable def VS(K:Frag)(T:String)(x:V)(H:Hp):Prop:=match x with
 | .str _=>T = "str"
 | .int _=>T = "int"
 | .ref p=>(T = "list"/\∃xs,SqL K H p xs)\/(T = "tuple"/\∃o,K.lookup p=some o/\o.cls=.type "tuple"/\o.dict=none) \/
   (T = "dict"/\((∃kvs,H p=some (.dK kvs))\/∃kvs,H p=some (.dT kvs)))\/(T = "set"/\∃S n,H p=some (.set S n))
 | _=>False
theorem Sd{pins:List (Addr×Obj)}{σ:St}{H:Hp}{s:Shared}{T:String}{x:V}{v:Value}(I:Inv X pins σ H s)(r:RelV x v)(ty:VS X.K T x H) :
  s.TypeIs v T/\∀a,v=.ref a->∃ob,s.heap.get? a=some ob/\ob.dict=none:=by
 cases x with
 | str z =>
  obtain⟨t,rfl⟩:=r
  cases (show T = "str" from ty)
  exact⟨typeIs_str s z t,fun _ e=>nomatch e⟩
 | int i =>
  obtain⟨t,rfl⟩:=r
  cases (show T = "int" from ty)
  exact⟨typeIs_int s i t,fun _ e=>nomatch e⟩
 | ref p =>
  cases r
  rcases ty with ⟨rfl,xs,hq⟩ | ⟨rfl,o,hk,hc,hd⟩ | ⟨rfl,hk⟩ | ⟨rfl,S,n,hk⟩
  ·obtain⟨its,_,pl,_⟩:=I.list hq
   refine⟨pl.isList.typeIs,fun a e=>?_⟩
   cases e
   obtain⟨o,n,e,c,hd,_⟩:=pl
   exact⟨o,e,hd⟩
  ·refine⟨⟨o,I.kIn p o hk,hc⟩,fun a e=>?_⟩
   cases e
   exact⟨o,I.kIn _ o hk,hd⟩
  ·have z:∃o,s.heap.get? p=some o/\o.ExactDict:=by
    rcases hk with ⟨kvs,hk⟩ | ⟨kvs,hk⟩
    ·obtain⟨_,_,_,_,o,_,_,e,ex,_⟩:=I.hok p _ hk
     exact⟨o,e,ex⟩
    ·obtain⟨_,_,_,_,o,_,_,e,ex,_⟩:=I.hok p _ hk
     exact⟨o,e,ex⟩
   obtain⟨o,e,ex⟩:=z
   refine⟨⟨o,e,ex.1⟩,fun a e2=>?_⟩
   cases e2
   exact⟨o,e,ex.2.1⟩
  ·obtain⟨o,_,_,_,e,ex,_⟩:=I.hok p _ hk
   refine⟨⟨o,e,ex.1⟩,fun a e2=>?_⟩
   cases e2
   exact⟨o,e,ex.2.1⟩
 | _=>exact False.elim ty
noncomputable def V4(K:Frag)(T:String)(r:V->List V->Hp->VK->Prop)(to:TE)(t:TA):TE:=fun σ H Q=>to σ H fun x H1=>VS K T x H1/\t σ H1 fun xs H2=>r x xs H2 Q
variable {o e:Expr}{es:List Expr}{to:TE}{t:TA}{name:Str}{apos cpos:Pos}{T id:String}{r:V->List V->Hp->VK->Prop}
theorem Pg(pa:PlainAttrs T)(slot:Slot T name id)(hty:typeOf (.builtin id)=pure (.type "method_descriptor"))(hm:Vw X id r)(ho:PE X o to)(ha:PA X (e::es) t)
  (hbase:attributeBase o name X.env (eval o X.env)=eval o X.env:=by rfl)
  (hfew:((backTo cpos (starEach (e::es) X.env)).all (fun x=>!x.1)&&(backToKw cpos (keywordEach [] X.env)).all (fun x=>x.1.isSome)
   && decide ((e::es).length+([]:List Keyword).length+(if ([]:List Keyword).isEmpty then 0 else 1)<30))=true:=by rfl)
  (hline:(apos.endLine==cpos.line)=true:=by rfl) (hs:starEach (e::es) X.env=(false,eval e X.env)::starEach es X.env:=by rfl) (hplain:(backTo cpos (starEach es X.env)).any (·.1)=false:=by rfl) :
  PE X (.Call (.Attribute o name apos) (e::es) [] cpos) (V4 X.K T r to t):=by
 intro pins s σ H Q I h
 refine wpAny_Call_method_late hbase hfew hline rfl (BX (ho pins s σ H _ I h) fun v s1 ⟨x,H1,I1,r1,ty,q1⟩=>?_)
 obtain⟨h1,h2⟩:=Sd I1 r1 ty
 refine⟨T,id,pa,slot,hty,h1,h2,?_⟩
 have hA:=ha cpos pins s1 σ H1 _ I1 q1
 rw [hs] at hA ⊢
 refine Calls.callWith_builtin (by show (false||(backTo cpos (starEach es X.env)).any (·.1))=false; rw [hplain] <;> rfl) (Calls.evalArgs_plain ?_)
 exact BX hA fun us s2 ⟨vs,H2,I2,r2,q2⟩=>hm pins s2 σ H2 x vs v us Q I2 r1 r2 q2
end
noncomputable def Vx(X:Cx)(id:String)(r:V->List V->Hp->VK->Prop):Prop :=
 ∀(pins:List (Addr×Obj)) (s:Shared) (σ:St) (H:Hp) (x:V) (xs:List V) (v:Value) (us:List Value) (Q:VK),Inv X pins σ H s->RelV x v->Vals xs us->r x xs H Q ->
  wpAny (model X.prog X.w) X.A (call (.builtin id) (v::us)) (EP X pins σ Q) X.xe s
theorem Vals.one:∀{x:V} {us:List Value},Vals [x] us->∃u,us=[u]/\RelV x u
 | _,_,.cons r .nil=>⟨_,rfl,r⟩
theorem Vals.eraseIdx:∀{xs:List V} {us:List Value} (i:Nat),Vals xs us->Vals (xs.eraseIdx i) (us.eraseIdx i)
 | _,_,_,.nil=>.nil
 | _,_,0,.cons _ t=>t
 | _,_,i+1,.cons r t=>.cons r (Vals.eraseIdx i t)
theorem Vals.reverse{xs:List V}{us:List Value}(h:Vals xs us):Vals xs.reverse us.reverse:=by
 induction h with
 | nil=>exact .nil
 | cons r t ih=>rw [List.reverse_cons,List.reverse_cons]; exact Vals.append ih (.cons r .nil)
theorem GB{α:Type}:∀(l:List α) (i:Nat),(l.eraseIdx i).length<=l.length
 | [],_=>Nat.le_refl _
 | _::_,0=>Nat.le_succ _
 | _::r,i+1=>Nat.succ_le_succ (GB r i)
section
variable {X:Cx}{pins:List (Addr×Obj)}{σ:St}{H:Hp}{s:Shared}{l b:Addr}{xs ys zs:List V}
theorem Inv.lset{its its':List Value}{n:Nat}{f:Array Value->Array Value}{t':Nat}(I:Inv X pins σ H s)(hH:H l=some (.lst xs))
  (e:s.heap.get? l=some { cls:=.type "list",data:=.seq its.toArray n }) (hf:f its.toArray=its'.toArray) (hv:Vals ys its') (hz:ys.length<=sizeLine) :
  Inv X pins σ (A9 H l (.lst ys)) { s with heap:=s.heap.update l (Obj.mapSeq f),toks:=t' }:=by
 have q:=PySem.IsL.update e f
 rw [hf] at q
 refine I.write (x:=l) (e:=l) (by rw [hH]; exact trivial) (.inl rfl) (fun b' u hb hu=>(Heap.get?_update_other s.heap (Obj.mapSeq f) (Ne.symm hb)).trans hu) ⟨_,q⟩ ?_
 exact⟨hz,its',_,hv,q⟩
theorem Inv.lnew{its:List Value}{t':Nat}(I:Inv X pins σ H s)(hv:Vals ys its)(hz:ys.length<=sizeLine) :
  Inv X pins σ (A9 H s.heap.objs.size (.lst ys)) { s with heap:=s.heap.push { cls:=.type "list",data:=.seq its.toArray },toks:=t' } :=
 I.laid (fun _ _ q=>Heap.get?_push_of_some _ q) (Nat.le_refl _) ⟨hz,its,0,hv,Heap.get?_push_size _ rfl⟩
theorem Inv.fresh(I:Inv X pins σ H s):H s.heap.objs.size=none:=I.hok.fresh (Nat.le_refl _)
theorem Inv.lstM(I:Inv X pins σ H s)(hH:H l=some (.lst xs)):xs.length<=sizeLine/\∃(its:List Value) (n:Nat),Vals xs its/\xs.length=its.length/\s.heap.get? l=some { cls:=.type "list",data:=.seq its.toArray n }:=by
 obtain⟨z,its,n,r,e⟩:=I.hok l _ hH
 exact⟨z,its,n,r,r.length,e⟩
theorem Pl{n:Nat}(h:n<=sizeLine):Builtin.List.listTooLong n=false:=by
 unfold Builtin.List.listTooLong
 exact decide_eq_false (by omega)
end
section
variable {X:Cx}
noncomputable def Mn:V->List V->Hp->VK->Prop:=fun x vs H Q=>∃l xs y,x=.ref l/\vs=[y]/\H l=some (.lst xs)/\xs.length<sizeLine/\Q .non (A9 H l (.lst (xs++[y])))
theorem BK:Vx X "list.append" Mn:=by
 intro pins s σ H x vs v us Q I rx rv h
 obtain⟨l,xs,y,rfl,rfl,hH,hz,q⟩:=h
 cases rx
 obtain⟨u,rfl,ru⟩:=rv.one
 obtain⟨z,its,n,r,hl,e⟩:=I.lstM hH
 refine call_meets F.slot_list_append ⟨_,e,rfl⟩ F.entry_list_append (F.args_list_append_2 _ _) (PySem.list_append l its.toArray n u (by rw [List.size_toArray]; omega)) ⟨e,?_⟩
 refine⟨.non,_,I.lset (its':=its++[u]) hH e (by simp) (r.append (.cons ru .nil)) ?_,rfl,q⟩
 rw [List.length_append,List.length_singleton]
 omega
noncomputable def Mm:V->List V->Hp->VK->Prop:=fun x vs H Q=>∃l b xs zs,x=.ref l/\vs=[.ref b]/\H l=some (.lst xs)/\H b=some (.lst zs)/\xs.length+zs.length<=sizeLine/\Q .non (A9 H l (.lst (xs++zs)))
theorem JA:Vx X "list.extend" Mm:=by
 intro pins s σ H x vs v us Q I rx rv h
 obtain⟨l,b,xs,zs,rfl,rfl,hH,hB,hz,q⟩:=h
 cases rx
 obtain⟨u,rfl,ru⟩:=rv.one
 cases ru
 obtain⟨z,its,n,r,hl,e⟩:=I.lstM hH
 obtain⟨z2,its2,n2,r2,hl2,e2⟩:=I.lstM hB
 have hsz:its.toArray.size+its2.toArray.size<=sizeLine:=by rw [List.size_toArray,List.size_toArray]; omega
 have hlong:¬(!its.toArray.isEmpty&&Builtin.List.listTooLong (its.toArray.size+its2.toArray.size))=true:=by
  rw [Pl hsz,Bool.and_false]
  exact Bool.false_ne_true
 refine call_meets F.slot_list_extend ⟨_,e,rfl⟩ F.entry_list_extend (F.args_list_extend_2 _ _)
  (AutoSeq1.list_extend_list_list_0 l its.toArray n b its2.toArray n2 hlong (by rw [List.size_toArray]; omega) (by omega)) ⟨e,e2,?_⟩
 refine⟨.non,_,I.lset (its':=its++its2) hH e (by simp) (r.append r2) ?_,rfl,q⟩
 rw [List.length_append]
 omega
noncomputable def PH:V->List V->Hp->VK->Prop:=fun x vs H Q=>∃l xs i k y,x=.ref l/\vs=[.int i]/\H l=some (.lst xs)/\-(2 ^ 63)<=i/\i<2 ^ 63/\seqIndex? i xs.length=some k/\xs[k]?=some y/\Q y (A9 H l (.lst (xs.eraseIdx k)))
theorem LC:Vx X "list.pop" PH:=by
 intro pins s σ H x vs v us Q I rx rv h
 obtain⟨l,xs,i,k,y,rfl,rfl,hH,h1,h2,hk,hy,q⟩:=h
 cases rx
 obtain⟨u,rfl,ru⟩:=rv.one
 obtain⟨t,rfl⟩:=ru
 obtain⟨z,its,n,r,hl,e⟩:=I.lstM hH
 obtain⟨w,hw,rw'⟩:=r.get hy
 refine call_meets F.slot_list_pop ⟨_,e,rfl⟩ F.entry_list_pop (F.args_list_pop_2 _ _)
  (MeetsSeq.list_pop_at l its.toArray n i t k w (fitsIndex_both h1 h2) (by rw [List.size_toArray,← hl]; exact hk) (by rw [← Array.getElem?_toList]; exact hw) (by rw [List.size_toArray]; omega)) ⟨e,?_⟩
 refine⟨y,_,I.lset (its':=its.eraseIdx k) hH e ?_ (r.eraseIdx k) ?_,rw',q⟩
 ·show its.toArray.eraseIdxIfInBounds k=(its.eraseIdx k).toArray
  rw [List.eraseIdxIfInBounds_toArray]
 ·have:=GB xs k
  omega
end
section
variable {prog:Program}{w:World}{A:Around}{E:Value->Shared->Prop}{s:Shared}
end
section
variable {X:Cx}
end
end L2
namespace Att
open PySem PySem.W PySem.Calls PyProof.Rows
theorem Gv{P:Params}{h:Heap}:∀(ns:List Int) (vs:List Value),WellAll P h vs (ns.map WData.int)->IntsAre vs ns:=by
 intro ns
 induction ns with
 | nil =>
  intro vs w
  rw [List.map_nil] at w
  cases w
  exact .nil
 | cons n ns ih =>
  intro vs w
  rw [List.map_cons] at w
  cases w with
  | cons a b =>
   cases a
   exact .cons _ _ (ih _ b)
theorem Ni{l:OpenLaw}{n:Nat}(hn:l.most=some n){P:Params}{h:Heap}{args:List WData}{vals:List Value}
  (hpre:l.row.toRowW.claim.pre args=true) (hwl:WellAll P h vals args) :
  ∃a vs ns,vals=[Value.ref a]/\args=[WData.list (ns.map WData.int)]/\h.get? a=some { cls:=.type "list",data:=.seq vs.toArray }/\IntsAre vs ns/\ns.length<=n:=by
 have hsh:WShape.hasAll [] args [.list .int]=true:=(pre_splitW hpre).1
 have hc:l.pre.holds [] { args:=args }=true:=(pre_splitW hpre).2
 obtain⟨d,r,rfl,h1,h2⟩:=hasAllW_cons hsh
 obtain rfl:=hasAllW_nil h2
 obtain⟨xs,rfl,h3⟩:=hasW_list h1
 obtain⟨ns,rfl⟩:=items_int h3
 have hlen:ns.length<=n:=by
  unfold OpenLaw.pre at hc
  have h4:(WTm.not (.lt (.lit (.int (n:Int))) (.len (.arg 0)))).holds [] { args:=[.list (ns.map .int)] }=true:=by
   have h4:=(holds_andW hc).1
   rw [hn] at h4
   exact h4
  have h5:=condW_of h4 (w_not (w_lt w_lit (w_len_list (w_arg rfl))))
  rw [List.length_map] at h5
  refine Nat.le_of_not_lt fun q=>?_
  have q':(n:Int)<((ns.length:Nat):Int):=by omega
  first
   | (rw [decide_eq_true q'] at h5; exact absurd h5 (by decide))
   | (simp at h5; omega)
 cases hwl with
 | cons w1 w2 =>
  cases w2
  cases w1 with
  | list ho hall=>exact⟨_,_,ns,rfl,rfl,ho,Gv ns _ hall,hlen⟩
theorem Nm(l:OpenLaw)(args:List WData):l.row.toRowW.claim.post args (.bool true) args=true :=
 postW_of (r:=l.row.toRowW) (X:=(true==true))
  (show WShape.has [] (.bool true) .bool=true by first | rfl | decide | simp [WShape.has,WShape.arms,WShape.armsAll])
  (show (WTm.eq .res (.lit (.bool true))).value [] { args:=args,res:=some (.bool true),after:=args }=some (.bool (true==true)) from w_eq_bool (w_res rfl) w_lit) rfl
theorem attach_call{l:OpenLaw}{n:Nat}{q:Program}{loose:List Str}{XP:(Str->Option Value)->Heap->Prop}{YP:World->Heap->Prop}{d:DefRec}
  (hn:l.most=some n) (hdf:d.params.defaults=[])
  (call:∀(w:World) (s₀ s₁:Shared) (mg mb:Str->Option Value) (fa:Addr) (o:Obj) (pm cd doc:Value) (a:Addr) (vs:List Value) (ns:List Int),
   Ground q loose [] XP w s₀ mg mb s₁.heap->YP w s₁.heap ->
   s₁.heap.get? fa=some o->o.data=.func (docDef d.name d.params d.body d.scope pm cd doc)->s₁.heap.CodeRec cd d.name->mg d.name=some (.ref fa) ->
   s₁.heap.get? a=some { cls:=.type "list",data:=.seq vs.toArray }->IntsAre vs ns->ns.length<=n->s₁.gens=#[] ->
   codeAny (model l.prog w) callerA (.call (.ref fa) ⟨[.ref a],[]⟩) (fun r s'=>r=.ok (.ret (.bool true))/\OldK s₁.heap s'.heap/\s'.os=s₁.os/\AllBare s'.gens) s₁) :
  WalkO q loose XP YP l.row.toRowW d [] (fun f vs=>PySem.call f vs):=by
 intro w s₀ s₁ mg mb G Y fa o pm cd doc dV kV ho hd hcd hD hmg hg args vals as hpre hlay hrd hwl hlo
 obtain rfl:dV=.none:=Dflts.none hD hdf
 obtain rfl:kV=.none:=Dflts.noKw hD
 obtain⟨a,vs,ns,rfl,rfl,hobj,hints,hlen⟩:=Ni hn hpre hwl
 refine enter_call (codeAny_mono (call w s₀ s₁ mg mb fa o pm cd doc a vs ns G Y ho (fd_plain hd) hcd hmg hobj hints hlen hg) fun r s' hq=>?_)
 obtain⟨rfl,h2,h3,h4⟩:=hq
 exact⟨.inl ⟨.bool true,.bool true,[],rfl,fun _=>rfl,.bool true,Nm l _,fun _=>⟨List.Pairwise.nil,fun _ hm=>(nomatch hm)⟩⟩,h2,h3,h4⟩
section
variable {prog:Program}{w:World}{A:Around}{E:Value->Shared->Prop}{s:Shared}{K:Frag}
end
end Att
namespace L2
open PySem PySem.Spec PyProof.Rows
theorem Ip:∀{vs:List Value} {ns:List Int},IntsAre vs ns->Vals (ns.map V.int) vs
 | _,_,.nil=>.nil
 | _,_,.cons n t h=>.cons ⟨t,rfl⟩ (Ip h)
noncomputable def Tz(H:Hp):Prop:=∀b,H b=none\/∃o xs,H b=some (.frz o (.lst xs))
theorem Pu{P:Program}{w:World}{K:Frag}{mg mb:Str->Option Value}{CX:Qg}{k:Nat}{fa a:Addr}{fd:FuncData}{x:Str}{sp:Sp}{s₁:Shared}{vs:List Value}{ns:List Int}
  (KX:K.In s₁.heap) (hns:s₁.heap.Ns mainGlobals mg) (hb:s₁.heap.Ns builtinsNs mb) (hbb:∀x:Str,x ≠ "__name__"->mb x=bootBuiltins x) (hlim:s₁.heap.NoLimit) (hg:s₁.gens=#[])
  (ha:s₁.heap.get? a=some { cls:=.type "list",data:=.seq vs.toArray }) (hi:IntsAre vs ns) (hl:ns.length<=sizeLine) (hr:Room k callerA)
  (F:∀base:Heap,K.In base->base.Ns mainGlobals mg->BG P w K mg base CX k fa fd [x] sp) (hbind:∀(s:Shared) (u:Value),BindsTo s fd ⟨[u],[]⟩ [(x,u)])
  (hsp:∀H:Hp,Tz H->SqL K H a (ns.map V.int)->sp [.ref a] H (fun v _=>v=.bl true) fun _ _ _=>False)
  (hCX:∀H e s',CX [] H s₁ (fun _ _ _=>False) e s'->False) :
  codeAny (model P w) callerA (.call (.ref fa) ⟨[.ref a],[]⟩) (fun r s'=>r=.ok (.ret (.bool true))/\OldK s₁.heap s'.heap/\s'.os=s₁.os/\AllBare s'.gens) s₁:=by
 have rv:=Ip hi
 have lenV:=hi.length
 have core:∀H:Hp,Tz H->SqL K H a (ns.map V.int)->HOk P w H s₁.heap->(∀b,H b≠none->b=a)->(H a≠none->K.lookup a=none) ->
   codeAny (model P w) callerA (.call (.ref fa) ⟨[.ref a],[]⟩) (fun r s'=>r=.ok (.ret (.bool true))/\OldK s₁.heap s'.heap/\s'.os=s₁.os/\AllBare s'.gens) s₁:=by
  intro H hO hS hok hA hK
  have base_of:∀{b:Addr} {o:Obj},s₁.heap.get? b=some o->H b=none->(J_ s₁.heap H).get? b=some o:=fun e n=>P_ e n
  have noA:∀{b:Addr} {o:Obj} {es:Array DictEntry} {ep:Nat},s₁.heap.get? b=some o->o.data=.dict es ep->H b=none:=fun {b o es ep} e d=>by
   cases q:H b with
   | none=>rfl
   | some u =>
    have e':b=a:=hA b (by rw [q]; simp)
    subst e'
    rw [ha] at e; cases e
    have d':Data.seq vs.toArray _=Data.dict es ep:=d
    cases d'
  have nsK:∀{b:Addr} {m:Str->Option Value},s₁.heap.Ns b m->(J_ s₁.heap H).Ns b m:=fun {b m} ⟨o,es,ep,e,d,r⟩=>⟨o,es,ep,base_of e (noA e d),d,r⟩
  have hKb:K.In (J_ s₁.heap H):=fun b o e=>base_of (KX b o e) (by
   cases q:H b with
   | none=>rfl
   | some u =>
    have e':b=a:=hA b (by rw [q]; simp)
    subst e'
    rw [hK (by rw [q]; simp)] at e; cases e)
  have hM:Mod K mg (J_ s₁.heap H):=⟨hKb,nsK hns,⟨mb,nsK hb,hbb⟩,let ⟨mc,h1,h2⟩:=hlim; ⟨mc,nsK h1,h2⟩⟩
  have e0:Env0 P w K mg (J_ s₁.heap H) callerA [] s₁ H:=⟨rfl,hM,fun b o e=>Q7 e,Nat.le_of_eq (OQ _ _),trivial,fun b hb=>absurd (show b∈([]:List Addr) from hb) (by simp),hok,.of_eq hg⟩
  refine codeAny_mono ((F _ hKb (nsK hns)).run callerA [] s₁ H ⟨[.ref a],[]⟩ [.ref a] [.ref a] _ _ hr e0 (hbind s₁ (.ref a)) (.cons rfl .nil) (hsp H hO hS)) fun r s' h=>?_
  cases r with
  | error e=>exact(hCX H e s' h).elim
  | ok fl =>
   cases fl with
   | next=>exact False.elim h
   | brk=>exact False.elim h
   | cont=>exact False.elim h
   | ret u =>
    obtain⟨v,H',os,bare,un,hok',r',q⟩:=h
    have q':v=.bl true:=q
    subst q'
    obtain rfl:u=Value.bool true:=r'
    refine⟨rfl,OldK.of_keep fun b o e=>?_,os,bare⟩
    cases q:H b with
    | none=>exact un.keep b o e q (by intro z; exact absurd (show b∈([]:List Addr) from z) (by simp)) (by simp)
    | some u =>
     rcases hO b with z | ⟨ob,xs,z⟩
     ·rw [q] at z; cases z
     ·have z2:=un.frzs b ob _ z
      obtain⟨e1,_⟩:=hok b _ z
      obtain⟨e2,_⟩:=hok' b _ z2
      rw [e] at e1; cases e1
      exact e2
 cases hk:K.lookup a with
 | some o =>
  have e:=KX a o hk
  rw [ha] at e
  cases e
  refine core (fun _=>none) (fun _=>.inl rfl) (.inr ⟨_,vs.toArray,_,hk,rfl,rfl,rfl,by rw [List.size_toArray,lenV]; exact hl,by simpa using rv⟩) (fun b u z=>by have z':(none:Option HO)=some u:=z; cases z') (fun b z=>absurd rfl z) fun z=>absurd rfl z
 | none =>
  refine core (fun b=>if b=a then some (.frz { cls:=.type "list",data:=.seq vs.toArray } (.lst (ns.map V.int))) else none) (fun b=>?_) (.inl (.inr ⟨{ cls:=.type "list",data:=.seq vs.toArray },if_pos rfl⟩)) (fun b u z=>?_) (fun b z=>?_) fun _=>hk
  ·by_cases hb:b=a
   ·exact .inr ⟨_,_,if_pos hb⟩
   ·exact .inl (if_neg hb)
  ·by_cases hb:b=a
   ·have z':=(if_pos hb).symm.trans z
    cases z'
    subst hb
    exact⟨ha,by rw [List.length_map]; exact hl,vs,_,rv,ha⟩
   ·have z':=(if_neg hb).symm.trans z
    cases z'
  ·by_cases hb:b=a
   ·exact hb
   ·exact absurd (if_neg hb) z
theorem Ma{l:PySem.W.OpenLaw}{n k:Nat}{q:Program}{loose:List Str}{XP:(Str->Option Value)->Heap->Prop}{YP:World->Heap->Prop}{d:DefRec}{K:Params->Frag}{CX:World->Qg}{sp:World->Sp}{x:Str}
  (hn:l.most=some n) (hn2:n<=sizeLine) (hdf:d.params.defaults=[]) (hr:Room k callerA)
  (hY:∀(w:World) (h:Heap),YP w h->(K w.params).In h)
  (F:∀(w:World) (mg:Str->Option Value) (fa:Addr) (h:Heap),(K w.params).In h->h.Ns mainGlobals mg->mg d.name=some (.ref fa) ->
   ∃fd:FuncData,(∀(s:Shared) (u:Value),BindsTo s fd ⟨[u],[]⟩ [(x,u)]) /\
    ∀base:Heap,(K w.params).In base->base.Ns mainGlobals mg->BG l.prog w (K w.params) mg base (CX w) k fa fd [x] (sp w))
  (hsp:∀(w:World) (H:Hp) (a:Addr) (ns:List Int),ns.length<=n->Tz H->SqL (K w.params) H a (ns.map V.int)->sp w [.ref a] H (fun v _=>v=.bl true) fun _ _ _=>False)
  (hCX:∀(w:World) (H:Hp) (s:Shared) (e:Value) (s':Shared),CX w [] H s (fun _ _ _=>False) e s'->False) :
  PySem.W.WalkO q loose XP YP l.row.toRowW d [] (fun f vs=>PySem.call f vs):=by
 refine Att.attach_call hn hdf fun w s₀ s₁ mg mb fa o pm cd doc a vs ns G Y ho hd hcd hmg hobj hints hlen hg=>?_
 have KX:=hY w _ Y
 obtain⟨fd,hb,hF⟩:=F w mg fa _ KX G.T.g hmg
 exact Pu KX G.T.g G.T.b G.T.builtins G.T.nolimit hg hobj hints (Nat.le_trans hlen hn2) hr hF hb (fun H hO hS=>hsp w H a ns hlen hO hS) fun H e s'=>hCX w H s₁ e s'
end L2
/- THE LAST THEOREM (shape; LID, My.* are yours):
   My.Adr: a structure of the addresses that your layer names (classes, functions); My.Txt K t: a structure (Prop) of the equations over K;
   My.txt_mk : {K} {implicit addresses ..} (e1 : nsIn K mainGlobals "law" = some (some (.ref f))) (e2 : K.lookup f = some ⟨oc, od, .func (fnOf "law" "law" params body scope dV kV doc pm an cdv ct), sl⟩) (e3 : codeIn K cdv "law" = true) .. : ∃ t, My.Txt K t
set_option maxRecDepth 100000 in
set_option maxHeartbeats 0 in
theorem PySem.Challenge.cw_LID_holds : PySem.Challenge.rw_LID.Holds := by
 w_on; o_law; k_head; (case hw=>w_witness2)
 k_fill
 refine L2.Ma (l:=PySem.Challenge.rw_LID) (n:=63) (k:=40) (x := "script") (CX:=fun w=>..) (sp:=fun _=>My.sp_law) rfl (by decide) rfl ⟨rfl,by decide,by decide⟩ (fun w h Y=>PySem.W.kIn_of Y) ?F ?S ?C
 case F =>
  intro w mg fa h KX G hmg
  have T:∃t,My.Txt (L2.KOf KX) t:=by
   dsimp only [L2.KOf]                          -- K must stand as «<heap const> w.params» for k_is
   refine' My.txt_mk ?e1 ?e2 ?e3 ..
   (case e1=>PySem.W.k_is)                    -- in the order: a name -> its address -> its object -> its parts
   (case e2=>PySem.W.k_is)
   ..
  obtain⟨t,T⟩:=T
  have e0:=hmg.symm.trans (mg_of KX G T.law)
  cases e0                                       -- fa is the law's own address
  exact⟨_,fun s u=>.of_eq rfl,fun base kb nb=>My.law_fn T kb nb⟩     -- if «.of_eq rfl» comes too early: refine' ⟨_,?b,fun base kb nb=>My.law_fn T kb nb⟩; exact fun s u=>.of_eq rfl
 case S=>exact fun w H a ns hl hO hS=>..
 case C=>exact ..
(the tactic k_is has no namespace: write k_is) -/
namespace L2
open PySem PySem.Spec PyProof.Rows
noncomputable def Ad(s:Stmt):Arguments:=match s with
 | .FunctionDef _ a _ _ _ _ _ _ _ _=>a
 | _=>{ posonlyargs:=[],args:=[],vararg:=none,kwonlyargs:=[],kw_defaults:=[],kwarg:=none,defaults:=[] }
noncomputable def AZ(s:Stmt):List Stmt:=match s with
 | .FunctionDef _ _ b _ _ _ _ _ _ _=>b
 | _=>[]
noncomputable def AH(s:Stmt):Scope:=match s with
 | .FunctionDef _ _ _ _ _ _ sc _ _ _=>sc
 | _=>{ kind:=.function,names:=[],isGenerator:=false,isCoroutine:=false }
noncomputable abbrev C0:Qg:=fun _ _ _ _ _ _=>False
noncomputable abbrev E0:XK:=fun _ _ _=>False
theorem SE{X:Cx}:MY C0 X E0:=fun _ _ _ _ _ _ _ h=>h.elim
structure Fun (K:Frag) (x qual:Str) (st:Stmt) (f:Addr) (fd:FuncData):Prop where
 ex:∃(oc:Value) (od:Option Addr) (kV doc pm:Value) (an:Option Addr) (cdv ct:Value) (osl:Array (Option Value)),
  fd=fnOf x qual (Ad st) (AZ st) (AH st) .none kV doc pm an cdv ct/\K.lookup f=some ⟨oc,od,.func fd,osl⟩/\codeIn K cdv qual=true
 kp:keepIn K (.ref f)=true
section
variable {P:Program}{w:World}{K:Frag}{mg:Str->Option Value}{base:Heap}
theorem Fun.ok{x qual:Str}{st:Stmt}{f:Addr}{fd:FuncData}{N ps:List Str}{k:Nat}{sp:Sp}(F:Fun K x qual st f fd)(S:Ae N ps (AH st))(len:∀vs H Q E,sp vs H Q E->vs.length=ps.length)
  (hbody:∀(cdv:Value) (A:Around) (outer:List Env) (s:Shared) (H:Hp) (vs:List V) (Q:VK) (E:XK),Room k (A.deeper (envOfC qual (AH st) s.heap.objs.size f cdv))->sp vs H Q E ->
   ∃t,PSs (KW C0 P w K mg base N qual (AH st) f cdv A outer s H E).nox (AZ st) t/\t { nx:=fun _ H'=>Q .non H',rt:=Q } (start N vs) H):BG P w K mg base C0 (k+1) f fd ps sp:=by
 obtain⟨oc,od,kV,doc,pm,an,cdv,ct,osl,rfl,lk,hcd⟩:=F.ex
 refine Uo lk hcd S len fun A outer s H vs Q E hr hsp=>?_
 obtain⟨t,h,q⟩:=hbody cdv A outer s H vs Q E hr hsp
 exact⟨t,h.nox,q⟩
theorem Fun.binds{x qual:Str}{st:Stmt}{f:Addr}{fd:FuncData}{ps:List Str}(F:Fun K x qual st f fd)
  (h:∀(kV doc pm:Value) (an:Option Addr) (cdv ct:Value) (us:List Value),us.length=ps.length->bindArgs (fnOf x qual (Ad st) (AZ st) (AH st) .none kV doc pm an cdv ct) ⟨us,[]⟩=pure (ps.zip us)):Binds K fd ps []:=by
 obtain⟨oc,od,kV,doc,pm,an,cdv,ct,osl,rfl,lk,hcd⟩:=F.ex
 exact .all (h kV doc pm an cdv ct)
theorem Ax{x qual:Str}{st:Stmt}{f:Addr}{oc:Value}{od an:Option Addr}{osl:Array (Option Value)}{kV doc pm cdv ct:Value}(l:K.lookup f=some ⟨oc,od,.func (fnOf x qual (Ad st) (AZ st) (AH st) .none kV doc pm an cdv ct),osl⟩)
  (c:codeIn K cdv qual=true) (k:keepIn K (.ref f)=true):Fun K x qual st f (fnOf x qual (Ad st) (AZ st) (AH st) .none kV doc pm an cdv ct):=⟨⟨oc,od,kV,doc,pm,an,cdv,ct,osl,rfl,l,c⟩,k⟩
end
theorem Hs{A:Around}{k:Nat}(hr:Room k A):A.units+1<cLine:=Nat.lt_of_le_of_lt (Nat.add_le_add_left (by decide:1<=64) _) hr.units
section
variable {X:Cx}
theorem pv(i:Nat){x:Str}{pos:Pos}(hN:X.N[i]?=some x:=by rfl)(hv:Tv X.env.scope x:=by first | exact Or.inl rfl | exact Or.inr (Or.inl rfl) | exact Or.inr (Or.inr rfl))(hd:(x==("__debug__" : Str))=false:=by decide)
  (hcd:(x==("__classdict__" : Str))=false:=by decide):PE X (.Name x pos) (Bo i):=Jt hN hv hd hcd
end
theorem Ih{A B:Prop}(h:B):if false=true then A else B:=by
 rw [if_neg Bool.false_ne_true]
 exact h
theorem Hq{A B:Prop}(h:A):if true=true then A else B:=by
 rw [if_pos rfl]
 exact h
theorem EK{c A B:Prop}[Decidable c](h1:c->A)(h2:¬c->B):if c then A else B:=by
 by_cases h:c
 ·rw [if_pos h]
  exact h1 h
 ·rw [if_neg h]
  exact h2 h
section
variable {κ:Type}[DecidableEq κ]
noncomputable def Co(kvs:List (κ×V))(k:κ):Option V:=(kvs.find? fun kv=>decide (kv.1=k)).map (·.2)
noncomputable def putK(kvs:List (κ×V))(k:κ)(v:V):List (κ×V) :=
 if (kvs.any fun kv=>decide (kv.1=k))=true then kvs.map (fun kv=>if kv.1=k then (kv.1,v) else kv) else kvs++[(k,v)]
theorem D9{p:κ×V}{r:List (κ×V)}{k:κ}(e:p.1=k):Co (p::r) k=some p.2:=by simp [Co,List.find?_cons,e]
theorem D_{p:κ×V}{r:List (κ×V)}{k:κ}(e:¬p.1=k):Co (p::r) k=Co r k:=by simp [Co,List.find?_cons,e]
theorem Kh(k:κ):∀kvs:List (κ×V),(kvs.any fun kv=>decide (kv.1=k))=(Co kvs k).isSome
 | []=>rfl
 | p::r=>by
  rw [List.any_cons]
  by_cases e:p.1=k
  ·simp only [D9 e,decide_eq_true e,Bool.true_or,Option.isSome_some]
  ·rw [D_ e,decide_eq_false e,Bool.false_or]; exact Kh k r
theorem EI(kvs:List (κ×V))(k:κ)(v:V):(putK kvs k v).length<=kvs.length+1:=by
 unfold putK
 split
 ·rw [List.length_map]; omega
 ·rw [List.length_append,List.length_cons,List.length_nil]; omega
theorem RelO.isSome_eq{o:Option V}{u:Option Value}(r:RelO o u):o.isSome=u.isSome:=by
 cases o with
 | none=>cases u with
  | none=>rfl
  | some _=>exact(show False from r).elim
 | some _=>cases u with
  | none=>exact(show False from r).elim
  | some _=>rfl
theorem RelO.getD{o:Option V}{u:Option Value}{d:V}{d':Value}(r:RelO o u)(rd:RelV d d'):RelV (o.getD d) (u.getD d'):=by
 cases o with
 | none=>cases u with
  | none=>exact rd
  | some _=>exact(show False from r).elim
 | some _=>cases u with
  | none=>exact(show False from r).elim
  | some _=>exact r
theorem KV.val{kvs:List (κ×V)}{vs:List (κ×Value)}(r:KV kvs vs)(k:κ):RelO (Co kvs k) (valueAt vs k):=by
 unfold KV at r
 induction r with
 | nil=>exact True.intro
 | @cons p q ps qs h t ih =>
  obtain⟨h1,h2⟩:=h
  by_cases e:p.1=k
  ·have e':q.1=k:=h1.symm.trans e
   have b:valueAt (q::qs) k=some q.2:=by simp [valueAt,List.find?_cons,e']
   rw [D9 e,b]; exact h2
  ·have e':¬q.1=k:=fun z=>e (h1.trans z)
   have b:valueAt (q::qs) k=valueAt qs k:=by simp [valueAt,List.find?_cons,e']
   rw [D_ e,b]; exact ih
theorem KV.any{kvs:List (κ×V)}{vs:List (κ×Value)}(r:KV kvs vs)(k:κ):(kvs.any fun kv=>decide (kv.1=k))=vs.any fun kv=>decide (kv.1=k):=by
 unfold KV at r
 induction r with
 | nil=>rfl
 | cons h t ih=>rw [List.any_cons,List.any_cons,ih,h.1]
theorem KV.repl{kvs:List (κ×V)}{vs:List (κ×Value)}(r:KV kvs vs)(k:κ){y:V}{u:Value}(ry:RelV y u) :
  KV (kvs.map fun kv=>if kv.1=k then (kv.1,y) else kv) (vs.map fun kv=>if kv.1=k then (kv.1,u) else kv):=by
 unfold KV at r ⊢
 induction r with
 | nil=>exact .nil
 | @cons p q ps qs h t ih =>
  rw [List.map_cons,List.map_cons]
  refine .cons ?_ ih
  obtain⟨h1,h2⟩:=h
  by_cases e:p.1=k
  ·rw [if_pos e,if_pos (h1.symm.trans e)]; exact⟨h1,ry⟩
  ·rw [if_neg e,if_neg (fun z=>e (h1.trans z))]; exact⟨h1,h2⟩
theorem KV.put{kvs:List (κ×V)}{vs:List (κ×Value)}(r:KV kvs vs)(k:κ){y:V}{u:Value}(ry:RelV y u):KV (putK kvs k y) (stored vs k u):=by
 unfold putK stored
 rw [r.any k]
 by_cases e:(vs.any fun kv=>decide (kv.1=k))=true
 ·rw [if_pos e,if_pos e]; exact r.repl k ry
 ·rw [if_neg e,if_neg e]; exact Paired.snoc r ⟨rfl,ry⟩
theorem KV.length{kvs:List (κ×V)}{vs:List (κ×Value)}(r:KV kvs vs):kvs.length=vs.length:=Paired.length r
end
theorem Gb{P:Program}{w:World}{k:Key}{u:Value}(r:RelV (kV k) u):(A3 P w).is k u=true:=by
 cases k with
 | inl i=>obtain⟨t,e⟩:=(show ∃t,u=Value.int i t from r); subst e; exact LE P w i t
 | inr x=>obtain⟨t,e⟩:=(show ∃t,u=Value.str x t from r); subst e; exact LD P w x t
theorem JF{P:Program}{w:World}:∀{ks:List Key} {us:List Value},Vals (ks.map kV) us->ItemsAre (A3 P w) ks us
 | [],_,r=>by rw [List.map_nil] at r; cases r; exact .nil
 | k::ks,_,r=>by
  rw [List.map_cons] at r
  cases r with
  | cons h t=>exact .cons (Gb h) (JF t)
noncomputable abbrev KT(H:Hp):List (List Key×V)->List (List Key×Addr×Value)->Prop:=Paired fun p q=>p.1=q.1/\H q.2.1=some (.tup (p.1.map kV))/\RelV p.2 q.2.2
theorem KT.val{H:Hp}{kvs:List (List Key×V)}{xs:List (List Key×Addr×Value)}(r:KT H kvs xs)(k:List Key):RelO (Co kvs k) ((atKey xs k).map (·.2)):=by
 induction r with
 | nil=>exact True.intro
 | @cons p q ps qs h t ih =>
  obtain⟨h1,_,h2⟩:=h
  by_cases e:p.1=k
  ·have e':q.1=k:=h1.symm.trans e
   have b:atKey (q::qs) k=some q.2:=by simp [atKey,List.find?_cons,e']
   rw [D9 e,b]; exact h2
  ·have e':¬q.1=k:=fun z=>e (h1.trans z)
   have b:atKey (q::qs) k=atKey qs k:=by simp [atKey,List.find?_cons,e']
   rw [D_ e,b]; exact ih
theorem KT.repl{H:Hp}{kvs:List (List Key×V)}{xs:List (List Key×Addr×Value)}(r:KT H kvs xs)(k:List Key){y:V}{u:Value}(ry:RelV y u) :
  KT H (kvs.map fun kv=>if kv.1=k then (kv.1,y) else kv) (xs.map (putAt k u)):=by
 induction r with
 | nil=>exact .nil
 | @cons p q ps qs h t ih =>
  rw [List.map_cons,List.map_cons]
  refine .cons ?_ ih
  obtain⟨h1,h2,h3⟩:=h
  unfold putAt
  by_cases e:p.1=k
  ·rw [if_pos e,if_pos (h1.symm.trans e)]; exact⟨h1,h2,ry⟩
  ·rw [if_neg e,if_neg (fun z=>e (h1.trans z))]; exact⟨h1,h2,h3⟩
theorem KT.put{H:Hp}{kvs:List (List Key×V)}{xs:List (List Key×Addr×Value)}(r:KT H kvs xs)(k:List Key){b:Addr}{y:V}{u:Value}(hb:H b=some (.tup (k.map kV)))(ry:RelV y u) :
  KT H (putK kvs k y) (storedH xs k b u):=by
 have e:(kvs.any fun kv=>decide (kv.1=k))=(atKey xs k).isSome:=by
  rw [Kh,(r.val k).isSome_eq,Option.isSome_map]
 unfold putK storedH
 rw [e]
 by_cases q:(atKey xs k).isSome=true
 ·rw [if_pos q,if_pos q]; exact r.repl k ry
 ·rw [if_neg q,if_neg q]; exact Paired.snoc r ⟨rfl,hb,ry⟩
theorem KT.keeps{H H':Hp}{kvs:List (List Key×V)}{xs:List (List Key×Addr×Value)}(r:KT H kvs xs)(ht:∀b ys,H b=some (.tup ys)->H' b=some (.tup ys)):KT H' kvs xs :=
 Paired.mapP r fun _ _ z=>⟨z.1,ht _ _ z.2.1,z.2.2⟩
section
variable {P:Program}{w:World}{H:Hp}{h:Heap}{a:Addr}
theorem Rq{u:HO}(ok:HOk P w H h)(e:Rd H a u):ObjOk P w H h a u:=e.ok ok
theorem FZ{kvs:List (Key×V)}(ok:HOk P w H h)(e:Rd H a (.dK kvs)):kvs.length<=sizeLine/\(a==sysModules)=false/\∃vs,KV kvs vs/\h.DictOf (A3 P w) a vs :=
 show ObjOk P w H h a (.dK kvs) from Rq ok e
theorem SK{kvs:List (Key×V)}(ok:HOk P w H h)(e:H a=some (.dK kvs)):kvs.length<=sizeLine/\(a==sysModules)=false/\∃vs,KV kvs vs/\h.DictOf (A3 P w) a vs:=FZ ok (.inl e)
theorem E9{ks:List Key}(ok:HOk P w H h)(e:H a=some (.tup (ks.map kV))):(tupleKind (A3 P w)).is h ks a:=by
 obtain⟨_,its,r,o,h1,h2,n,h3,_⟩:=(show ObjOk P w H h a (.tup (ks.map kV)) from ok a _ e)
 exact⟨o,its.toArray,n,h1,h2,h3,by simpa using JF r⟩
theorem Gd{kvs:List (List Key×V)}(ok:HOk P w H h)(e:Rd H a (.dT kvs)):kvs.length<=sizeLine/\(a==sysModules)=false /\
  ∃xs,KT H kvs xs/\h.DictOfH (tupleKind (A3 P w)) a xs:=by
 obtain⟨z,y,xs,r,o,es,ep,h1,h2,h3,h4,h5⟩:=(show ObjOk P w H h a (.dT kvs) from Rq ok e)
 refine⟨z,y,xs,r,o,es,ep,h1,h2,h3,h4,fun x hx=>?_,h5⟩
 have all:∀{l:List (List Key×V)} {m:List (List Key×Addr×Value)},KT H l m->∀x∈m,(tupleKind (A3 P w)).is h x.1 x.2.1:=by
  intro l m q
  induction q with
  | nil=>intro x hx; exact nomatch hx
  | @cons p q ps qs hq t ih =>
   intro x hx
   rcases List.mem_cons.mp hx with e | hx
   ·subst e
    exact E9 ok (by rw [← hq.1]; exact hq.2.1)
   ·exact ih x hx
 exact all r x hx
theorem Ux{kvs:List (List Key×V)}(ok:HOk P w H h)(e:H a=some (.dT kvs)):kvs.length<=sizeLine/\(a==sysModules)=false /\
  ∃xs,KT H kvs xs/\h.DictOfH (tupleKind (A3 P w)) a xs:=Gd ok (.inl e)
end
noncomputable def DGet(H:Hp)(a:Addr)(y:V)(r:Option V):Prop :=
 (∃kvs k,Rd H a (.dK kvs)/\y=kV k/\r=Co kvs k)\/∃kvs k b,Rd H a (.dT kvs)/\y=.ref b/\H b=some (.tup (k.map kV))/\r=Co kvs k
noncomputable def DPut(H:Hp)(a:Addr)(y v:V)(H':Hp):Prop :=
 (∃kvs k,H a=some (.dK kvs)/\y=kV k/\kvs.length<sizeLine/\H'=A9 H a (.dK (putK kvs k v))) \/
 ∃kvs k b,H a=some (.dT kvs)/\y=.ref b/\H b=some (.tup (k.map kV))/\kvs.length<sizeLine/\H'=A9 H a (.dT (putK kvs k v))
theorem DGet.k{H:Hp}{a:Addr}{kvs:List (Key×V)}{k:Key}(e:H a=some (.dK kvs)):DGet H a (kV k) (Co kvs k):=.inl ⟨kvs,k,.inl e,rfl,rfl⟩
theorem DPut.k{H:Hp}{a:Addr}{kvs:List (Key×V)}{k:Key}{v:V}(e:H a=some (.dK kvs))(hl:kvs.length<sizeLine):DPut H a (kV k) v (A9 H a (.dK (putK kvs k v))):=.inl ⟨kvs,k,e,rfl,hl,rfl⟩
section
variable {X:Cx}{pins:List (Addr×Obj)}{σ:St}{H:Hp}{s:Shared}{a:Addr}{y v:V}{u r:Value}{o:Option V}{A:Around}{E:Value->Shared->Prop}
theorem Inv.big(I:Inv X pins σ H s):sysModules<s.heap.objs.size:=by
 have h:mainGlobals<s.heap.objs.size:=(I.mod.glob.keeps I.bk).lt
 exact Nat.lt_trans (by decide) h
theorem OU{Q:Value->Shared->Prop}(hu:A.units+1<cLine)(I:Inv X pins σ H s)(g:DGet H a y (some v))(ry:RelV y u)(h:∀w' s',Inv X pins σ H s'->RelV v w'->Q w' s') :
  wpAny (model X.prog X.w) A (getItem (.ref a) u) Q E s:=by
 rcases g with ⟨kvs,k,e,ey,l⟩ | ⟨kvs,k,b,e,ey,eb,l⟩
 ·subst ey
  obtain⟨z,hd,vs,rel,dd⟩:=FZ I.hok e
  obtain⟨w',hw,rw'⟩:=RelO.some_of (v:=v) (o:=valueAt vs k) (by rw [l]; exact rel.val k)
  exact wpAny_getItem_of (Gb ry) dd.mapOf hw (h w' _ (I.tok _) rw')
 ·subst ey
  cases (show u=Value.ref b from ry)
  obtain⟨z,hd,xs,rel,dd⟩:=Gd I.hok e
  obtain⟨w',hw,rw'⟩:=RelO.some_of (v:=v) (o:=(atKey xs k).map (·.2)) (by rw [l]; exact rel.val k)
  obtain⟨p,hp,hp2⟩:=Option.map_eq_some_iff.mp hw
  refine wpAny_getItem_heap (tupleKind_room_in1 hu) (E9 I.hok eb) dd hp ?_
  rw [hp2]
  exact h w' _ (I.tok _) rw'
theorem Vr{Q:Value->Shared->Prop}(hu:A.units+1<cLine)(I:Inv X pins σ H s)(g:DGet H a y o)(ry:RelV y u)(h:∀s',Inv X pins σ H s'->Q (.bool o.isSome) s') :
  wpAny (model X.prog X.w) A (compareOp .In u (.ref a)) Q E s:=by
 rcases g with ⟨kvs,k,e,ey,l⟩ | ⟨kvs,k,b,e,ey,eb,l⟩
 ·subst ey
  obtain⟨z,hd,vs,rel,dd⟩:=FZ I.hok e
  refine wpAny_in_of (Gb ry) hd dd.mapOf ?_
  rw [← (rel.val k).isSome_eq,← l]
  exact h _ (I.tok _)
 ·subst ey
  cases (show u=Value.ref b from ry)
  obtain⟨z,hd,xs,rel,dd⟩:=Gd I.hok e
  refine wpAny_in_heap (tupleKind_room_in1 hu) (E9 I.hok eb) hd dd ?_
  have q:=(rel.val k).isSome_eq
  rw [Option.isSome_map] at q
  rw [← q,← l]
  exact h _ (I.tok _)
theorem Rh{Q:Value->Shared->Prop}(hu:A.units+1<cLine)(I:Inv X pins σ H s)(g:DGet H a y o)(ry:RelV y u)(h:∀s',Inv X pins σ H s'->Q (.bool (!o.isSome)) s') :
  wpAny (model X.prog X.w) A (compareOp .NotIn u (.ref a)) Q E s:=by
 rcases g with ⟨kvs,k,e,ey,l⟩ | ⟨kvs,k,b,e,ey,eb,l⟩
 ·subst ey
  obtain⟨z,hd,vs,rel,dd⟩:=FZ I.hok e
  refine wpAny_notIn_of (Gb ry) hd dd.mapOf ?_
  rw [← (rel.val k).isSome_eq,← l]
  exact h _ (I.tok _)
 ·subst ey
  cases (show u=Value.ref b from ry)
  obtain⟨z,hd,xs,rel,dd⟩:=Gd I.hok e
  refine wpAny_notIn_heap (tupleKind_room_in1 hu) (E9 I.hok eb) hd dd ?_
  have q:=(rel.val k).isSome_eq
  rw [Option.isSome_map] at q
  rw [← q,← l]
  exact h _ (I.tok _)
theorem KU{h':Heap}{t':Nat}{ob:HO}(I:Inv X pins σ H s)(mu:U8 (H a))(hs:Heap.SameBut a s.heap h')(he:∃q,h'.get? a=some q)(new:ObjOk X.prog X.w (A9 H a ob) h' a ob) :
  Inv X pins σ (A9 H a ob) { s with heap:=h',toks:=t' } :=
 I.write (x:=a) (e:=a) mu (.inl rfl) (fun b q hb z=>(hs.2 b hb).trans z) he new
theorem QJ{P:Program}{w:World}{H':Hp}{h':Heap}{kvs:List (Key×V)}{vs:List (Key×Value)}(z:kvs.length<=sizeLine)(hd:(a==sysModules)=false)(rel:KV kvs vs)(dd:h'.DictOf (A3 P w) a vs) :
  ObjOk P w H' h' a (.dK kvs):=⟨z,hd,vs,rel,dd⟩
theorem OT{H':Hp}{Q:Unit->Shared->Prop}(hu:A.units+1<cLine)(I:Inv X pins σ H s)(g:DPut H a y v H')(ry:RelV y u)(rv:RelV v r)(h:∀s',Inv X pins σ H' s'->Q () s') :
  wpAny (model X.prog X.w) A (setItem (.ref a) u r) Q E s:=by
 rcases g with ⟨kvs,k,e,ey,l,eH⟩ | ⟨kvs,k,b,e,ey,eb,l,eH⟩
 ·subst ey eH
  obtain⟨z,hd,vs,rel,dd⟩:=SK I.hok e
  have hz:vs.length<=sizeLine:=by rw [← rel.length]; exact z
  have hl:(putK kvs k v).length<=sizeLine:=by have:=EI kvs k v; omega
  refine wpAny_setItem_pairs (hsz:=hz) (Gb ry) dd fun h' dd' hs=>h _ ?_
  have he:∃q,h'.get? a=some q:=let ⟨q,_,_,hq,_⟩:=dd'; ⟨q,hq⟩
  exact KU I (by rw [e]; exact True.intro) hs he (QJ hl hd (rel.put k rv) dd')
 ·subst ey eH
  cases (show u=Value.ref b from ry)
  obtain⟨z,hd,xs,rel,dd⟩:=Ux I.hok e
  have hz:xs.length<=sizeLine:=by rw [← Paired.length rel]; exact z
  have hl:(putK kvs k v).length<=sizeLine:=by have:=EI kvs k v; omega
  refine wpAny_setItem_heap (hsz:=hz) (tupleKind_room_in1 hu) (E9 I.hok eb) dd fun h' dd' hs=>h _ ?_
  obtain⟨q,es,ep,hq,h2,h3,h4,_,h5⟩:=dd'
  refine KU I (by rw [e]; exact True.intro) hs ⟨q,hq⟩ ⟨hl,hd,_,(rel.put k eb rv).keeps fun c ys ec=>?_,q,es,ep,hq,h2,h3,h4,h5⟩
  rw [AQ (Uh ec e (fun z=>nomatch z))]
  exact ec
end
section
variable {X:Cx}{pins:List (Addr×Obj)}{σ:St}{H:Hp}{s:Shared}{a:Addr}{kvs:List (Key×V)}{k:Key}{u:Value}{A:Around}{E:Value->Shared->Prop}
end
noncomputable def T1(i:Expr):Prop:=∀ov iv,subscripted i false ov iv=operate [ov,iv] (getItem ov iv)
theorem Qq{prog:Program}{w:World}{A:Around}{E:Value->Shared->Prop}{s:Shared}{env:Env}{value slice:Expr}{pos:Pos}{T id:String}{Q:Value->Shared->Prop}
  (hl:typeLookup (.type T) "__getitem__"=pure (some (.builtin id))) (hs:T1 slice)
  (h:wpAny (model prog w) A (eval value env) (fun o s₁=>wpAny (model prog w) A (eval slice env) (fun i s₂=>s₂.TypeIs o T/\wpAny (model prog w) A (getItem o i) Q E s₂) E s₁) E s) :
  wpAny (model prog w) A (eval (.Subscript value slice pos) env) Q E s:=by
 refine Subscript_ (wpAny_mono h (fun o s₁ h₁=>wpAny_mono h₁ (fun i s₂ h₂=>?_) fun _ _ x=>x) fun _ _ x=>x)
 obtain⟨hT,h₂⟩:=h₂
 unfold subscriptTail
 refine wpAny_bind ?_
 rw [getitemInPython_of_ne hT.not_modules]
 refine wpAny_bind (wpAny_specialOf hT hl ?_)
 have fin:wpAny (model prog w) A (subscripted slice false o i) (fun r s₃=>wpAny (model prog w) A (letTemporaryGo value o r >>= fun _=>pure r) Q E s₃) E s₂:=by
  rw [hs o i]
  exact wpAny_operating (wpAny_mono h₂ (fun r s₃ h₃=>wpAny_bind (wpAny_letTemporaryGo (wpAny_pure h₃))) fun _ _ x=>x)
 first
  | exact wpAny_pure (wpAny_bind fin)
  | exact wpAny_bind (wpAny_pure (wpAny_bind fin))
  | exact wpAny_bind fin
theorem LO{X:Cx}{pins:List (Addr×Obj)}{σ:St}{H:Hp}{s:Shared}{a:Addr}{y:V}{o:Option V}(I:Inv X pins σ H s)(g:DGet H a y o):s.TypeIs (.ref a) "dict":=by
 rcases g with ⟨kvs,k,e,_,_⟩ | ⟨kvs,k,b,e,_,_,_⟩
 ·obtain⟨_,_,vs,_,dd⟩:=FZ I.hok e
  exact dd.typeIs
 ·obtain⟨_,_,xs,_,dd⟩:=Gd I.hok e
  exact dd.typeIs
noncomputable def UK(td ty:TE):TE:=fun σ H Q=>td σ H fun x H1=>ty σ H1 fun y H2=>∃a v,x=.ref a/\DGet H2 a y (some v)/\Q v H2
noncomputable def UN(td ty tv:TE):TS:=fun D σ H=>tv σ H fun v H1=>td σ H1 fun x H2=>ty σ H2 fun y H3=>∃a H4,x=.ref a/\DPut H3 a y v H4/\D.nx σ H4
section
variable {X:Cx}{o i e value:Expr}{pos pos' tpos:Pos}{td ty tv:TE}
theorem Ju(hu:X.A.units+1<cLine)(ho:PE X o td)(hi:PE X i ty)(hs:T1 i):PE X (.Subscript o i pos) (UK td ty):=by
 intro pins s σ H Q I h
 refine Qq PySem.F.slot_dict_getitem.lookup hs (BX (ho pins s σ H _ I h) fun u s1 ⟨x,H1,I1,rx,q1⟩=>BX (hi pins s1 σ H1 _ I1 q1) fun iv s2 ⟨y,H2,I2,ry,a,v,ex,g,q2⟩=>?_)
 subst ex
 obtain rfl:u=Value.ref a:=rx
 exact⟨LO I2 g,OU hu I2 g ry fun w' s3 I3 rw'=>⟨v,H2,I3,rw',q2⟩⟩
theorem Gz(hu:X.A.units+1<cLine)(ho:PE X o td)(hi:PE X i ty)(hv:PE X value tv)(hs:swapsWith value (some (.Subscript o i pos')) pos.line X.env=pure false) :
  PS X (.Assign [.Subscript o i pos'] value pos) (UN td ty tv):=by
 intro pins s σ H D I h
 refine wpAny_Assign_Subscript (BX (hv pins s σ H _ I h) fun r s1 ⟨v,H1,I1,rv,q1⟩=>BX (ho pins s1 σ H1 _ I1 q1) fun u s2 ⟨x,H2,I2,rx,q2⟩=>BX (hi pins s2 σ H2 _ I2 q2) fun iv s3 ⟨y,H3,I3,ry,a,H4,ex,g,q3⟩=>?_) hs
 subst ex
 obtain rfl:u=Value.ref a:=rx
 exact OT hu I3 g ry rv fun s4 I4=>⟨σ,H4,I4,q3⟩
end
theorem LN{P:Program}{w:World}{H:Hp}(h:Heap)(hb:sysModules<h.objs.size):ObjOk P w H (h.push { cls:=.type "dict",data:=.dict #[] }) h.objs.size (.dK []) :=
 ⟨Nat.zero_le _,beq_eq_false_iff_ne.mpr (Ne.symm (Nat.ne_of_lt hb)),[],.nil,Heap.DictOf.new h⟩
noncomputable def Sk:TE:=fun _ H Q=>∀p,H p=none->Q (.ref p) (A9 H p (.dK []))
section
variable {X:Cx}{pos:Pos}
theorem K4:PE X (.Dict [] [] pos) Sk:=fun pins s σ H Q I h =>
 wpAny_Dict_empty ⟨.ref s.heap.objs.size,_,I.laid (a:=s.heap.objs.size) (o:=.dK []) (t':=s.toks) (fun _ _ q=>Heap.get?_push_of_some _ q) (Nat.le_refl _) (LN s.heap I.big),rfl,h _ (I.hok.fresh (Nat.le_refl _))⟩
end
noncomputable def Lq:List (TE×TE)->St->Hp->(List (V×V)->Hp->Prop)->Prop
 | [],_,H,Q=>Q [] H
 | (tk,tv)::r,σ,H,Q=>tk σ H fun x H1=>tv σ H1 fun y H2=>Lq r σ H2 fun ps H3=>Q ((x,y)::ps) H3
noncomputable abbrev VV:List (V×V)->List (Value×Value)->Prop:=Paired fun p q=>RelV p.1 q.1/\RelV p.2 q.2
noncomputable def VM(X:Cx)(pos:Pos)(keys:List (Option Expr))(values:List Expr)(trs:List (TE×TE)):Prop :=
 ∀(pins:List (Addr×Obj)) (s:Shared) (σ:St) (H:Hp) (Q:List (V×V)->Hp->Prop),Inv X pins σ H s->Lq trs σ H Q ->
  wpAny (model X.prog X.w) X.A (evalPairs (pairTrees keys values X.env pos)) (fun vs s'=>∃ps H',Inv X pins σ H' s'/\VV ps vs/\Q ps H') X.xe s
theorem Qx{X:Cx}{pos:Pos}:VM X pos [] [] []:=fun pins s σ H Q I h=>pairTrees_nil_walk ⟨[],H,I,.nil,h⟩
theorem PU{X:Cx}{pos:Pos}{k v:Expr}{ks:List (Option Expr)}{vs:List Expr}{tk tv:TE}{trs:List (TE×TE)}(hk:PE X k tk)(hv:PE X v tv)(hr:VM X pos ks vs trs) :
  VM X pos (some k::ks) (v::vs) ((tk,tv)::trs):=fun pins s σ H Q I h =>
 pairTrees_cons_walk (BX (hk pins s σ H _ I h) fun u s1 ⟨x,H1,I1,rx,q1⟩=>BX (hv pins s1 σ H1 _ I1 q1) fun w2 s2 ⟨y,H2,I2,ry,q2⟩ =>
  BX (hr pins s2 σ H2 _ I2 q2) fun ws s3 ⟨ps,H3,I3,rel,q3⟩=>⟨(x,y)::ps,H3,I3,.cons ⟨rx,ry⟩ rel,q3⟩)
noncomputable def Hj(kvs more:List (Key×V)):List (Key×V):=more.foldl (fun acc kv=>putK acc kv.1 kv.2) kvs
theorem KV.merge:∀{more:List (Key×V)} {rs:List (Key×Value)} {kvs:List (Key×V)} {vs:List (Key×Value)},KV more rs->KV kvs vs->KV (Hj kvs more) (merged vs rs):=by
 intro more rs kvs vs r
 unfold KV at r
 induction r generalizing kvs vs with
 | nil=>intro q; exact q
 | @cons p q ps qs h t ih =>
  intro r0
  have e:KV (putK kvs p.1 p.2) (stored vs q.1 q.2):=by
   have:=r0.put p.1 h.2
   rw [← h.1]; exact this
  exact ih e
theorem Eu:∀(more kvs:List (Key×V)),(Hj kvs more).length<=kvs.length+more.length
 | [],kvs=>by show kvs.length<=kvs.length+0; omega
 | p::r,kvs=>by
  have h1:=Eu r (putK kvs p.1 p.2)
  have h2:=EI kvs p.1 p.2
  show (Hj (putK kvs p.1 p.2) r).length<=_
  rw [List.length_cons]; omega
theorem ID{P:Program}{w:World}:∀{kvs:List (Key×V)} {ws:List (Value×Value)},VV (kvs.map fun kv=>(kV kv.1,kv.2)) ws->∃rs,Carries (A3 P w) ws rs/\KV kvs rs
 | [],_,r=>by rw [List.map_nil] at r; cases r; exact⟨[],True.intro,.nil⟩
 | p::kvs,_,r=>by
  rw [List.map_cons] at r
  cases r with
  | @cons a b as bs h t =>
   obtain⟨rs,c,q⟩:=ID (P:=P) (w:=w) t
   obtain⟨b1,b2⟩:=b
   exact⟨(p.1,b2)::rs,⟨Gb h.1,rfl,c⟩,.cons ⟨rfl,h.2⟩ q⟩
noncomputable def UJ(trs:List (TE×TE)):TE:=fun σ H Q=>∀p,H p=none->Lq trs σ (A9 H p (.dK [])) fun ps H2=>H2 p=some (.dK [])/\∃kvs:List (Key×V),ps=kvs.map (fun kv=>(kV kv.1,kv.2))/\kvs.length<=15/\Q (.ref p) (A9 H2 p (.dK (Hj [] kvs)))
theorem Q0{X:Cx}{pos:Pos}{keys:List (Option Expr)}{values:List Expr}{trs:List (TE×TE)}(h:VM X pos keys values trs)(hall:keys.all (·.isSome)=true)(hl:keys.length=values.length)(h0:keys≠[])
  (h15:keys.length<=15):PE X (.Dict keys values pos) (UJ trs):=by
 intro pins s σ H Q I q
 have hn:=I.hok.fresh (Nat.le_refl s.heap.objs.size)
 have I1:=I.laid (a:=s.heap.objs.size) (o:=.dK []) (h':=s.heap.push { cls:=.type "dict",data:=.dict #[] }) (t':=s.toks) (fun _ _ q=>Heap.get?_push_of_some _ q) (Nat.le_refl _) (LN s.heap I.big)
 refine wpAny_Dict_walk (knd:=A3 X.prog X.w) hall hl h0 h15 (BX (h pins _ σ _ _ I1 (q _ hn)) fun ws s2 ⟨ps,H2,I2,rel,e,kvs,ep,lk,q2⟩=>?_)
 subst ep
 obtain⟨rs,c,rk⟩:=ID (P:=X.prog) (w:=X.w) rel
 obtain⟨z,hd,vs0,r0,dd⟩:=SK I2.hok e
 cases r0
 refine⟨rs,c,dd,fun h' dd' hs=>⟨.ref s.heap.objs.size,_,?_,rfl,q2⟩⟩
 have hz:(Hj [] kvs).length<=sizeLine:=by
  have h1:=Eu kvs []
  rw [List.length_nil] at h1
  rw [sizeLine_eq]; omega
 have he:∃q,h'.get? s.heap.objs.size=some q:=let ⟨q,_,_,hq,_⟩:=dd'; ⟨q,hq⟩
 exact KU I2 (by rw [e]; exact True.intro) hs he (QJ hz hd (rk.merge .nil) dd')
structure M1 (X:Cx) (o:Expr) (m:Str) (apos:Pos) (e:Expr) (cpos:Pos):Prop where
 base:attributeBase o m X.env (eval o X.env)=eval o X.env
 few:((backTo cpos (starEach [e] X.env)).all (fun x=>!x.1)&&(backToKw cpos (keywordEach [] X.env)).all (fun x=>x.1.isSome)
  && decide (([e]:List Expr).length+([]:List Keyword).length+(if ([]:List Keyword).isEmpty then 0 else 1)<30))=true
 line:(apos.endLine==cpos.line)=true
 trees:backTo cpos (starEach [e] X.env)=[(false,eval e X.env)]
structure M2 (X:Cx) (o:Expr) (m:Str) (apos:Pos) (e f:Expr) (cpos:Pos):Prop where
 base:attributeBase o m X.env (eval o X.env)=eval o X.env
 few:((backTo cpos (starEach [e,f] X.env)).all (fun x=>!x.1)&&(backToKw cpos (keywordEach [] X.env)).all (fun x=>x.1.isSome)
  && decide (([e,f]:List Expr).length+([]:List Keyword).length+(if ([]:List Keyword).isEmpty then 0 else 1)<30))=true
 line:(apos.endLine==cpos.line)=true
 trees:backTo cpos (starEach [e,f] X.env)=[(false,eval e X.env),(false,eval f X.env)]
noncomputable def VO(H:Hp)(a:Addr):Prop:=(∃kvs,Rd H a (.dK kvs))\/∃kvs,Rd H a (.dT kvs)
theorem MN{X:Cx}{pins:List (Addr×Obj)}{σ:St}{H:Hp}{s:Shared}{a:Addr}(I:Inv X pins σ H s)(d:VO H a) :
  s.TypeIs (.ref a) "dict"/\(∀b,Value.ref a=.ref b->∃ob,s.heap.get? b=some ob/\ob.dict=none)/\(a==sysModules)=false:=by
 rcases d with ⟨kvs,e⟩ | ⟨kvs,e⟩
 ·obtain⟨_,hd,vs,_,dd⟩:=FZ I.hok e
  refine⟨dd.typeIs,fun b q=>?_,hd⟩
  cases q
  obtain⟨ob,_,_,h1,h2,_⟩:=dd
  exact⟨ob,h1,h2.2.1⟩
 ·obtain⟨_,hd,xs,_,dd⟩:=Gd I.hok e
  refine⟨dd.typeIs,fun b q=>?_,hd⟩
  cases q
  obtain⟨ob,_,_,h1,h2,_⟩:=dd
  exact⟨ob,h1,h2.2.1⟩
section
variable {X:Cx}{pins:List (Addr×Obj)}{σ:St}{H:Hp}{s:Shared}{a:Addr}{y d:V}{u r:Value}{o:Option V}{A:Around}{E:Value->Shared->Prop}
theorem Ti{Q:Value->Shared->Prop}(hu:A.units+1<cLine)(I:Inv X pins σ H s)(g:DGet H a y o)(ry:RelV y u)(h:∀w' s',Inv X pins σ H s'->RelV (o.getD .non) w'->Q w' s') :
  wpAny (model X.prog X.w) A (call (.builtin "dict.get") [.ref a,u]) Q E s:=by
 rcases g with ⟨kvs,k,e,ey,l⟩ | ⟨kvs,k,b,e,ey,eb,l⟩
 ·subst ey
  obtain⟨z,hd,vs,rel,dd⟩:=FZ I.hok e
  refine call_meetsIn PySem.F.slot_dict_get dd.typeIs PySem.F.entry_dict_get (PySem.F.args_dict_get_2 _ _) (meets_dict_get (A3 X.prog X.w) a (Gb ry) hd) ⟨_,dd.mapOf,h _ _ (I.tok _) ?_⟩
  rw [l]
  exact(rel.val k).getD rfl
 ·subst ey
  cases (show u=Value.ref b from ry)
  obtain⟨z,hd,xs,rel,dd⟩:=Gd I.hok e
  refine call_meetsIn PySem.F.slot_dict_get dd.typeIs PySem.F.entry_dict_get (PySem.F.args_dict_get_2 _ _) (meetsH_dict_get (tupleKind (A3 X.prog X.w)) a b hd) ⟨tupleKind_room_in1 hu,k,xs,E9 I.hok eb,dd,h _ _ (I.tok _) ?_⟩
  rw [l]
  exact(rel.val k).getD rfl
theorem Th{Q:Value->Shared->Prop}(hu:A.units+1<cLine)(I:Inv X pins σ H s)(g:DGet H a y o)(ry:RelV y u)(rd:RelV d r)(h:∀w' s',Inv X pins σ H s'->RelV (o.getD d) w'->Q w' s') :
  wpAny (model X.prog X.w) A (call (.builtin "dict.get") [.ref a,u,r]) Q E s:=by
 rcases g with ⟨kvs,k,e,ey,l⟩ | ⟨kvs,k,b,e,ey,eb,l⟩
 ·subst ey
  obtain⟨z,hd,vs,rel,dd⟩:=FZ I.hok e
  refine call_meetsIn PySem.F.slot_dict_get dd.typeIs PySem.F.entry_dict_get (PySem.F.args_dict_get_3 _ _ _) (meets_dict_get_default (A3 X.prog X.w) a (Gb ry) hd r) ⟨_,dd.mapOf,h _ _ (I.tok _) ?_⟩
  rw [l]
  exact(rel.val k).getD rd
 ·subst ey
  cases (show u=Value.ref b from ry)
  obtain⟨z,hd,xs,rel,dd⟩:=Gd I.hok e
  refine call_meetsIn PySem.F.slot_dict_get dd.typeIs PySem.F.entry_dict_get (PySem.F.args_dict_get_3 _ _ _) (meetsH_dict_get_default (tupleKind (A3 X.prog X.w)) a b hd r) ⟨tupleKind_room_in1 hu,k,xs,E9 I.hok eb,dd,h _ _ (I.tok _) ?_⟩
  rw [l]
  exact(rel.val k).getD rd
end
noncomputable def Sm(td ty:TE):TE:=fun σ H Q=>td σ H fun x H1=>∃a,x=.ref a/\VO H1 a/\ty σ H1 fun y H2=>∃o,DGet H2 a y o/\Q (o.getD .non) H2
noncomputable def Sl(td ty tx:TE):TE:=fun σ H Q=>td σ H fun x H1=>∃a,x=.ref a/\VO H1 a/\ty σ H1 fun y H2=>tx σ H2 fun z H3=>∃o,DGet H3 a y o/\Q (o.getD z) H3
section
variable {X:Cx}{o e f:Expr}{apos cpos:Pos}{td ty tx:TE}
theorem Pf(hu:X.A.units+1<cLine)(ho:PE X o td)(he:PE X e ty)(m:M1 X o "get" apos e cpos):PE X (.Call (.Attribute o "get" apos) [e] [] cpos) (Sm td ty):=by
 intro pins s σ H Q I h
 refine wpAny_Call_method m.base m.few m.line PySem.F.plainAttrs_dict PySem.F.slot_dict_get PySem.F.type_dict_get (BX (ho pins s σ H _ I h) fun u s1 ⟨x,H1,I1,rx,a,ex,d,q1⟩=>?_)
 subst ex
 obtain rfl:u=Value.ref a:=rx
 obtain⟨t1,t2,_⟩:=MN I1 d
 refine⟨t1,t2,?_⟩
 rw [m.trees]
 refine Calls.callWith_builtin rfl (Calls.evalArgs_plain (Calls.spliced_cons (BX (he pins s1 σ H1 _ I1 q1) fun iv s2 ⟨y,H2,I2,ry,ov,g,q2⟩=>Calls.spliced_nil ?_)))
 exact Ti hu I2 g ry fun w' s3 I3 rw'=>⟨_,H2,I3,rw',q2⟩
theorem Pe(hu:X.A.units+1<cLine)(ho:PE X o td)(he:PE X e ty)(hf:PE X f tx)(m:M2 X o "get" apos e f cpos):PE X (.Call (.Attribute o "get" apos) [e,f] [] cpos) (Sl td ty tx):=by
 intro pins s σ H Q I h
 refine wpAny_Call_method m.base m.few m.line PySem.F.plainAttrs_dict PySem.F.slot_dict_get PySem.F.type_dict_get (BX (ho pins s σ H _ I h) fun u s1 ⟨x,H1,I1,rx,a,ex,d,q1⟩=>?_)
 subst ex
 obtain rfl:u=Value.ref a:=rx
 obtain⟨t1,t2,_⟩:=MN I1 d
 refine⟨t1,t2,?_⟩
 rw [m.trees]
 refine Calls.callWith_builtin rfl (Calls.evalArgs_plain (Calls.spliced_cons (BX (he pins s1 σ H1 _ I1 q1) fun iv s2 ⟨y,H2,I2,ry,q2⟩ =>
  Calls.spliced_cons (BX (hf pins s2 σ H2 _ I2 q2) fun fv s3 ⟨z,H3,I3,rz,ov,g,q3⟩=>Calls.spliced_nil ?_))))
 exact Th hu I3 g ry rz fun w' s4 I4 rw'=>⟨_,H3,I4,rw',q3⟩
end
section
variable {X:Cx}{pins:List (Addr×Obj)}{σ:St}{H:Hp}{s:Shared}{a:Addr}{kvs:List (Key×V)}{A:Around}{E:Value->Shared->Prop}
end
section
variable {X:Cx}{pins:List (Addr×Obj)}{σ:St}{H:Hp}{s:Shared}{a:Addr}{y:V}{u:Value}{A:Around}{E:Value->Shared->Prop}
end
end L2
set_option maxHeartbeats 4000000
namespace L2
open PySem PySem.Spec PyProof.Rows
section
theorem MT{env:Env}:∀(names:List (Str×NameKind)) (cs:List (Str×Addr)),(∀x,(x,NameKind.free)∈names->∃c,env.cells.lookup x=some c)->(∀x c,cs.lookup x=some c->env.cells.lookup x=some c) ->
  ∃cl,(forIn names cs fun(x:Str×NameKind) (r:List (Str×Addr))=>(if (x.2==NameKind.free)=true then do let a ← cellOf env x.1; pure (ForInStep.yield ((x.1,a)::r)) else pure (ForInStep.yield r):Sem (ForInStep (List (Str×Addr)))))=(pure cl:Sem _) /\
   (∀x c,cl.lookup x=some c->env.cells.lookup x=some c)/\(∀x,((x,NameKind.free)∈names\/∃c,cs.lookup x=some c)->∃c,cl.lookup x=some c):=by
 intro names
 induction names with
 | nil =>
  intro cs _ h2
  exact⟨cs,rfl,h2,fun x hx=>hx.elim (fun z=>absurd z (by simp)) fun z=>z⟩
 | cons p r ih =>
  intro cs h1 h2
  obtain⟨n,k⟩:=p
  by_cases hk:k=NameKind.free
  ·subst hk
   obtain⟨c,hc⟩:=h1 n List.mem_cons_self
   have hcell:cellOf env n=pure c:=by simp only [cellOf,hc]
   obtain⟨cl,e,a,b⟩:=ih ((n,c)::cs) (fun x hx=>h1 x (List.mem_cons_of_mem _ hx)) (fun x c' hx=>by
    rw [List.lookup_cons] at hx
    cases hb:x==n with
    | true =>
     rw [hb] at hx
     have hx':some c=some c':=hx
     cases hx'
     have:x=n:=by simpa using hb
     rw [this]; exact hc
    | false=>rw [hb] at hx; exact h2 x c' hx)
   refine⟨cl,?_,a,fun x hx=>b x ?_⟩
   ·rw [List.forIn_cons]
    simp only [beq_self_eq_true,if_true,hcell,pure_bind]
    exact e
   ·by_cases hxn:x=n
    ·subst hxn
     exact .inr ⟨c,by simp [List.lookup_cons]⟩
    ·rcases hx with hx | ⟨c',hx⟩
     ·rcases List.mem_cons.mp hx with hx | hx
      ·cases hx; exact absurd rfl hxn
      ·exact .inl hx
     ·refine .inr ⟨c',?_⟩
      have:(x==n)=false:=by simpa using hxn
      rw [List.lookup_cons,this]
      exact hx
  ·have hk':(k==NameKind.free)=false:=by simpa using hk
   obtain⟨cl,e,a,b⟩:=ih cs (fun x hx=>h1 x (List.mem_cons_of_mem _ hx)) h2
   refine⟨cl,?_,a,fun x hx=>b x ?_⟩
   ·rw [List.forIn_cons]
    simp only [hk',Bool.false_eq_true,if_false,pure_bind]
    exact e
   ·rcases hx with hx | hx
    ·rcases List.mem_cons.mp hx with hx | hx
     ·cases hx; exact absurd rfl hk
     ·exact .inl hx
    ·exact .inr hx
theorem MS{scope:Scope}{env:Env}(h:∀x,(x,NameKind.free)∈scope.names->∃c,env.cells.lookup x=some c) :
  ∃cl,closureFor scope env=pure cl/\(∀x c,cl.lookup x=some c->env.cells.lookup x=some c)/\(∀x,(x,NameKind.free)∈scope.names->∃c,cl.lookup x=some c):=by
 obtain⟨cl,e,a,b⟩:=MT scope.names [] h (fun x c hx=>by simp at hx)
 refine⟨cl,?_,a,fun x hx=>b x (.inl hx)⟩
 simp only [closureFor]
 rw [e,pure_bind]
variable {prog:Program}{w:World}{A:Around}{E:Value->Shared->Prop}{R:Result->Shared->Prop}{s:Shared}
theorem KY{elt target iter:Expr}{ifs:List Expr}{scope:Scope}{pos:Pos}{it acc:Value}{env:Env}(I:Nat->Shared->Prop)
  (turn:∀n s,I n s->wpAny (model prog w) A (pyNext it) (fun r s₁=>match r with
   | none=>R (.ok .next) s₁
   | some v=>wpAny (model prog w) A (letOwnedTupleGo target it v) (fun _ s₁'=>wpAny (model prog w) A (assign target env v) (fun _ s₂ =>
     wpAny (model prog w) A (forIn ifs true fun c r=>if r=true then do let ok ← isTrue c env (eval c env); pure (ForInStep.yield ok) else pure (ForInStep.yield r)) (fun ok s₃ =>
      if ok=true then wpAny (model prog w) A (eval elt env) (fun x s₄ =>
       wpAny (model prog w) A (call (.builtin "list.append") [acc,x]) (fun _ s₅=>∃m,m<n/\I m s₅) (fun _ _=>False) s₄) (fun _ _=>False) s₃
      else ∃m,m<n/\I m s₃) (fun _ _=>False) s₂) (fun _ _=>False) s₁') (fun _ _=>False) s₁) (fun _ _=>False) s)
  (n:Nat) (h:I n s) :
  codeAny (model prog w) A (.compLoop (.ListComp elt [⟨target,iter,ifs,0⟩] scope pos) 0 it acc env) R s:=by
 refine codeAny_loop rfl I (fun n s hI=>?_) n h
 show wpAny _ A ((compTurn (.ListComp elt [⟨target,iter,ifs,0⟩] scope pos) 0 it acc env).onRaise (fun x=>do noteFrame x env; theTreesLotGoes x)) _ _ s
 refine wpAny_noted ?_
 rw [compTurn_list]
 refine wpAny_bind (wpAny_standAt (wpAny_bind (wpAny_mono (turn n s hI) (fun r s₁ h₁=>?_) fun _ _ h'=>h'.elim)))
 cases r with
 | none=>exact wpAny_pure h₁
 | some v =>
  refine wpAny_bind (wpAny_mono h₁ (fun _ s₁' h₁'=>?_) fun _ _ h'=>h'.elim)
  refine wpAny_bind (wpAny_mono h₁' (fun _ s₂ h₂=>wpAny_bind (wpAny_mono h₂ (fun ok s₃ h₃=>?_) fun _ _ h'=>h'.elim)) fun _ _ h'=>h'.elim)
  cases ok with
  | false=>exact wpAny_pure ⟨rfl,h₃⟩
  | true =>
   exact wpAny_bind (wpAny_bind (wpAny_mono h₃ (fun x s₄ h₄=>wpAny_bind (wpAny_mono h₄ (fun _ s₅ h₅=>wpAny_pure (wpAny_pure ⟨rfl,h₅⟩)) fun _ _ h'=>h'.elim)) fun _ _ h'=>h'.elim))
end
noncomputable def A6(X:Cx)(sc:Scope)(N':List Str)(cl:List (Str×Addr))(C:Addr)(s:Shared)(H:Hp)(ex:List Addr):Cx where
 prog:=X.prog
 w:=X.w
 K:=X.K
 mg:=X.mg
 base:=X.base
 A:=X.A
 N:=N'
 s₀:=s
 H₀:=H
 env:=compEnvC sc cl C X.env
 outer:=X.stack
 stack:=X.stack
 ex:=ex
 fn:=fun _=>false
 calm:=true
 pn:=[]
 xe:=fun _ _=>False
noncomputable def CW(js:List (Option Nat))(σ:St):St:=js.map fun o=>match o with
 | some i=>(σ[i]?).getD none
 | none=>none
noncomputable def RG(o:Option NameKind):Bool:=match o with
 | some .cell=>true
 | some .free=>true
 | _=>false
theorem NC{o:Option NameKind}(h:RG o=true):o=some .cell\/o=some .free:=by
 unfold RG at h
 split at h
 ·exact .inl rfl
 ·exact .inr rfl
 ·cases h
noncomputable def isFree(o:Option NameKind):Bool:=match o with
 | some .free=>true
 | _=>false
theorem OO{o:Option NameKind}(h:isFree o=true):o=some .free:=by
 unfold isFree at h
 split at h
 ·rfl
 ·cases h
noncomputable def Pz(o:Option NameKind):Bool:=match o with
 | some .local=>true
 | _=>false
theorem Py{o:Option NameKind}(h:Pz o=true):o=some .local:=by
 unfold Pz at h
 split at h
 ·rfl
 ·cases h
noncomputable def P1(k:ScopeKind):Bool:=match k with
 | .function=>true
 | _=>false
theorem P0{k:ScopeKind}(h:P1 k=true):k=.function:=by
 unfold P1 at h
 split at h
 ·rfl
 ·cases h
noncomputable def Vd(sc esc:Scope)(p:Str×NameKind):Bool:=match p.2 with
 | .cell=>false
 | .free=>RG (esc.names.lookup p.1)
 | .local=>Pz (sc.names.lookup p.1)
 | _=>true
noncomputable def Vq(x:Option Str)(y:Str):Bool:=match x with
 | some z=>z==y
 | none=>false
theorem Tb{x:Option Str}{y:Str}(h:Vq x y=true):x=some y:=by
 unfold Vq at h
 split at h
 ·exact congrArg some (by simpa using h)
 ·cases h
noncomputable def Fd(sc esc:Scope)(N:List Str):List Str->List (Option Nat)->Bool
 | [],[]=>true
 | x::xs,some j::js=>isFree (sc.names.lookup x)&&Vq (N[j]?) x&&RG (esc.names.lookup x)&&Fd sc esc N xs js
 | _::xs,none::js=>Fd sc esc N xs js
 | _,_=>false
noncomputable def LQ(sc esc:Scope)(N N':List Str)(js:List (Option Nat)):Bool:=P1 sc.kind&&sc.names.all (Vd sc esc)&&Fd sc esc N N' js
theorem Fc{sc esc:Scope}{N:List Str}:∀{N':List Str} {js:List (Option Nat)},Fd sc esc N N' js=true->js.length=N'.length
 | [],[],_=>rfl
 | x::xs,some j::js,h=>by
  unfold Fd at h
  rw [Bool.and_eq_true] at h
  rw [List.length_cons,List.length_cons,Fc h.2]
 | x::xs,none::js,h=>by
  unfold Fd at h
  rw [List.length_cons,List.length_cons,Fc h]
 | [],some _::_,h=>by unfold Fd at h; cases h
 | [],none::_,h=>by unfold Fd at h; cases h
 | _::_,[],h=>by unfold Fd at h; cases h
theorem KZ{sc esc:Scope}{N:List Str}:∀{N':List Str} {js:List (Option Nat)},Fd sc esc N N' js=true->∀{k:Nat} {x:Str} {j:Nat},N'[k]?=some x->js[k]?=some (some j) ->
  sc.names.lookup x=some .free/\N[j]?=some x/\(esc.names.lookup x=some .cell\/esc.names.lookup x=some .free)
 | [],_,_,k,x,j,h1,_=>by simp at h1
 | _::_,[],h,_,_,_,_,_=>by unfold Fd at h; cases h
 | y::ys,some i::js,h,k,x,j,h1,h2=>by
  unfold Fd at h
  rw [Bool.and_eq_true,Bool.and_eq_true,Bool.and_eq_true] at h
  cases k with
  | zero =>
   simp at h1 h2
   subst h1 h2
   exact⟨OO h.1.1.1,Tb h.1.1.2,NC h.1.2⟩
  | succ k=>exact KZ h.2 (k:=k) (by simpa using h1) (by simpa using h2)
 | y::ys,none::js,h,k,x,j,h1,h2=>by
  unfold Fd at h
  cases k with
  | zero=>simp at h2
  | succ k=>exact KZ h (k:=k) (by simpa using h1) (by simpa using h2)
theorem OK{js:List (Option Nat)}{σ:St}{k:Nat}{v:V}(h:(CW js σ)[k]?=some (some v)):∃j,js[k]?=some (some j)/\σ[j]?=some (some v):=by
 unfold CW at h
 rw [List.getElem?_map] at h
 cases e:js[k]? with
 | none=>rw [e] at h; cases h
 | some o =>
  rw [e] at h
  cases o with
  | none=>cases h
  | some j =>
   refine⟨j,rfl,?_⟩
   have h':some ((σ[j]?).getD none)=some (some v):=h
   have h2:=Option.some.inj h'
   cases q:σ[j]? with
   | none=>rw [q] at h2; cases h2
   | some w=>rw [q] at h2; exact congrArg some h2
theorem Cg{env:Env}:∀{names:List (Str×NameKind)} {x:Str},names.lookup x=some .free ->
  (names.map fun(n,k)=>if (k==NameKind.free&&env.scope.kind==.function&&env.kindOf n==some .cell) then (n,NameKind.cell) else (n,k)).lookup x=some .cell \/
  (names.map fun(n,k)=>if (k==NameKind.free&&env.scope.kind==.function&&env.kindOf n==some .cell) then (n,NameKind.cell) else (n,k)).lookup x=some .free
 | [],_,h=>by simp at h
 | (n,k)::r,x,h=>by
  have ih:=@Cg env r x
  show List.lookup x ((if (k==NameKind.free&&env.scope.kind==.function&&env.kindOf n==some .cell)=true then (n,NameKind.cell) else (n,k))::_)=_\/List.lookup x ((if (k==NameKind.free&&env.scope.kind==.function&&env.kindOf n==some .cell)=true then (n,NameKind.cell) else (n,k))::_)=_
  by_cases hc:(k==NameKind.free&&env.scope.kind==.function&&env.kindOf n==some .cell)=true
  ·rw [if_pos hc]
   cases hx:x==n with
   | true=>exact .inl (by simp only [List.lookup_cons,hx])
   | false =>
    simp only [List.lookup_cons,hx] at h ⊢
    exact ih h
  ·rw [if_neg hc]
   cases hx:x==n with
   | true =>
    simp only [List.lookup_cons,hx] at h ⊢
    exact .inr h
   | false =>
    simp only [List.lookup_cons,hx] at h ⊢
    exact ih h
theorem L0{env:Env}{sc:Scope}(hcell:∀y∈sc.names,y.2≠.cell){x:Str}(h:(relabel sc env).names.lookup x=some .cell\/(relabel sc env).names.lookup x=some .free):(x,NameKind.free)∈sc.names:=by
 have hm:(x,NameKind.cell)∈(relabel sc env).names\/(x,NameKind.free)∈(relabel sc env).names:=h.elim (fun z=>.inl (PySem.mem_of_lookup z)) fun z=>.inr (PySem.mem_of_lookup z)
 have go:∀k:NameKind,(k=.cell\/k=.free)->(x,k)∈(relabel sc env).names->(x,NameKind.free)∈sc.names:=by
  intro k hk hmem
  unfold relabel at hmem
  obtain⟨⟨n,k0⟩,hn,e⟩:=List.mem_map.mp hmem
  by_cases hc:(k0==NameKind.free&&env.scope.kind==.function&&env.kindOf n==some .cell)=true
  ·have e':(n,NameKind.cell)=(x,k):=by
    have:=e
    simp only [hc,if_true] at this
    exact this
   have hk0:k0=.free:=by
    rw [Bool.and_eq_true,Bool.and_eq_true] at hc
    simpa using hc.1.1
   cases e'
   subst hk0
   exact hn
  ·have e':(n,k0)=(x,k):=by
    have:=e
    simp only [hc,if_false] at this
    exact this
   cases e'
   rcases hk with rfl | rfl
   ·exact absurd rfl (hcell _ hn)
   ·exact hn
 exact hm.elim (go _ (.inl rfl)) (go _ (.inr rfl))
section
variable {X:Cx}{pins:List (Addr×Obj)}{σ:St}{H:Hp}{s:Shared}
structure CompOk (X:Cx) (sc:Scope) (N':List Str) (js:List (Option Nat)):Prop where
 kind:sc.kind=.function
 cell:∀y∈sc.names,y.2≠.cell
 free:∀x,(x,NameKind.free)∈sc.names->X.env.scope.names.lookup x=some .cell\/X.env.scope.names.lookup x=some .free
 names:∀y∈sc.names,y.2=.local->sc.names.lookup y.1=some .local
 cap:Fd sc X.env.scope X.N N' js=true
theorem CompOk.of{sc:Scope}{N':List Str}{js:List (Option Nat)}(h:LQ sc X.env.scope X.N N' js=true):CompOk X sc N' js:=by
 unfold LQ at h
 rw [Bool.and_eq_true,Bool.and_eq_true,List.all_eq_true] at h
 obtain⟨⟨h1,h2⟩,h3⟩:=h
 refine⟨P0 h1,fun y hy e=>?_,fun x hx=>?_,fun y hy e=>?_,h3⟩
 ·have q:=h2 y hy
  unfold Vd at q
  rw [e] at q
  cases q
 ·have q:=h2 _ hx
  exact NC q
 ·have q:=h2 y hy
  unfold Vd at q
  rw [e] at q
  exact Py q
theorem P4{sc:Scope}{N':List Str}{js:List (Option Nat)}{cl:List (Str×Addr)}{fp:List Addr}{h₁:Heap}{tk:Nat}(I:Inv X pins σ H s)(hc:X.calm=true)(O:CompOk X sc N' js)
  (hcl:∀x c,cl.lookup x=some c->X.env.cells.lookup x=some c) (hcl2:∀x,(x,NameKind.free)∈sc.names->∃c,cl.lookup x=some c)
  (hf:∀b∈fp,Fo X pins H b) (ho:∀b∈fp,∃o,s.heap.get? b=some o)
  (hns:h₁.Ns (s.heap.objs.size+1) (fun _=>none)) (hk:∀b o,s.heap.get? b=some o->h₁.get? b=some o) (hD:∃n,h₁.get? s.heap.objs.size=some { cls:=.type "list",data:=.seq #[] n }) :
  Inv (A6 X sc N' cl (s.heap.objs.size+1) s H fp) [] (CW js σ) (A9 H s.heap.objs.size (.lst [])) { s with heap:=h₁,toks:=tk }:=by
 have fr:∀a,s.heap.objs.size<=a->H a=none:=fun a ha=>I.hok.fresh ha
 have cellLt:∀x c,cl.lookup x=some c->c<s.heap.objs.size:=fun x c e=>by
  obtain⟨v,q⟩:=I.cell x c (hcl x c e)
  exact q.lt
 have ok:(A6 X sc N' cl (s.heap.objs.size+1) s H fp).Ok:=by
  refine⟨I.ok.mod,O.kind,I.ok.glob,I.ok.blt,Nat.le_succ _,fun x y c h1 h2=>I.ok.inj x y c (hcl x c h1) (hcl y c h2),fun x hx=>?_,fun x c hx=>?_,fun _=>I.ok.hd hc,I.ok.frames,.inl rfl,fun b hb=>⟨?_,fun x c e=>?_⟩,I.bs,Nat.le_trans I.ok.bsz I.sz,fun b o e hb=>?_,fun b hb hb2=>?_,I.stack,I.stkFree⟩
  ·exact hcl2 x (L0 (env:=X.env) O.cell hx)
  ·exact absurd (show false=true from hx) Bool.false_ne_true
  ·obtain⟨o,e⟩:=ho b hb
   exact Nat.ne_of_lt (Nat.lt_succ_of_lt (Heap.lt_size e))
  ·exact(hf b hb).2.2.2.2.1 x c (hcl x c e)
  ·rcases (hf b hb).2.2.2.1 with z | z
   ·exact I.ok.noex b o e z
   ·have h1:b<X.base.objs.size:=Heap.lt_size e
    exact absurd (Nat.lt_of_lt_of_le h1 (Nat.le_trans I.ok.bsz z)) (Nat.lt_irrefl _)
  ·rcases List.mem_cons.mp (I.stkSub b hb2) with z | z
   ·exact(hf b hb).2.1 z
   ·exact(hf b hb).2.2.1 z
 refine⟨ok,rfl,I.bare,?_,⟨_,hns,fun i x v h1 h2 h3=>?_⟩,fun x c e=>?_,?_,fun x c e=>?_,fun p hp=>absurd (show p∈([]:List (Addr×Obj)) from hp) (by simp),?_,?_⟩
 ·exact Un.laid hk (Nat.le_refl _) (fr _ (Nat.le_refl _))
 ·obtain⟨j,e1,e2⟩:=OK h2
  obtain⟨c1,c2,c3⟩:=KZ O.cap h1 e1
  obtain⟨m,_,hl⟩:=I.loc
  obtain⟨u,r,l⟩:=hl j x v c2 e2 (.inr c3)
  refine⟨u,r,.inr ⟨Cg c1,?_⟩⟩
  rcases l with ⟨l1,_⟩ | ⟨_,c,l2,l3⟩
  ·have l1':X.env.scope.names.lookup x=some .local:=l1
   rcases c3 with c3 | c3 <;> (rw [l1'] at c3; cases c3)
  ·obtain⟨c',e'⟩:=hcl2 x (PySem.mem_of_lookup c1)
   have:c'=c:=Option.some.inj ((hcl x c' e').symm.trans l2)
   subst this
   obtain⟨oc,hoc,hocd⟩:=id l3
   exact⟨c',e',oc,hk _ _ hoc,hocd⟩
 ·obtain⟨v,oc,hoc,hocd⟩:=I.cell x c (hcl x c e)
  exact⟨v,oc,hk _ _ hoc,hocd⟩
 ·show A9 H s.heap.objs.size (.lst []) (s.heap.objs.size+1)=none
  rw [AQ (Nat.succ_ne_self _)]
  exact fr _ (Nat.le_succ _)
 ·show A9 H s.heap.objs.size (.lst []) c=none
  rw [AQ (Nat.ne_of_lt (cellLt x c e))]
  exact I.freeC x c (hcl x c e)
 ·refine I.hok.laid hk (Nat.le_refl _) ?_
  obtain⟨n,e⟩:=hD
  exact⟨Nat.zero_le _,[],n,.nil,e⟩
 ·unfold CW
  show (js.map _).length=N'.length
  rw [List.length_map]
  exact Fc O.cap
theorem Un.but{fs ex:List Addr}{H H1:Hp}{h h1 h':Heap}{C:Addr}(u:Un fs ex H H1 h h1)(hC:h.get? C=none)(hs:∀b,b≠C->h'.get? b=h1.get? b):Un fs ex H H1 h h':=by
 have ne:∀{b:Addr} {o:Obj},h.get? b=some o->b≠C:=fun {b o} e z=>by rw [z,hC] at e; cases e
 refine⟨fun b o e n h1 h2=>(hs b (ne e)).trans (u.keep b o e n h1 h2),fun b o e n h1 h2=>?_,u.free,fun b o e h1=>?_,u.tups,u.frzs,u.tbls⟩
 ·obtain⟨sl,q⟩:=u.slot b o e n h1 h2
  exact⟨sl,(hs b (ne e)).trans q⟩
 ·obtain⟨o',q⟩:=u.there b o e h1
  exact⟨o',(hs b (ne e)).trans q⟩
theorem MO{sc:Scope}{N':List Str}{cl:List (Str×Addr)}{C:Addr}{fp:List Addr}{pins':List (Addr×Obj)}{σ':St}{H':Hp}{s':Shared}{h':Heap}(I:Inv X pins σ H s)(hf:∀b∈fp,Fo X pins H b)(hC:s.heap.objs.size<=C)
  (J:Inv (A6 X sc N' cl C s H fp) pins' σ' H' s') (hs:∀b,b≠C->h'.get? b=s'.heap.get? b):Inv X pins σ H' { s' with heap:=h' }:=by
 have nC:s.heap.get? C=none:=by
  cases e:s.heap.get? C with
  | none=>rfl
  | some o=>exact absurd (Heap.lt_size e) (Nat.not_lt.mpr hC)
 have hC':H' C=none:=J.free
 refine I.call' (s':={ s' with heap:=h' }) (ch:=fp) J.os (Un.but J.base nC hs) (fun a o e=>?_) J.bare fun b hb=>?_
 ·exact(J.hok a o e).stay (fun b u hb q=>(hs b (fun z=>by
   rw [z] at hb
   rcases hb with z2 | z2
   ·rw [← z2,hC'] at e; cases e
   ·rw [hC'] at z2; cases z2)).trans q) (fun _ q=>q) fun _ _ q=>q
 ·obtain⟨f0,f1,f2,f3,f4,f5⟩:=hf b hb
  exact⟨f3,f1,f4,f5⟩
end
noncomputable def U6(X:Cx)(ifs:List Expr)(t:TT):Prop :=
 ∀(pins:List (Addr×Obj)) (s:Shared) (σ:St) (H:Hp) (Q:Bool->Hp->Prop),Inv X pins σ H s->t σ H Q ->
  wpAny (model X.prog X.w) X.A (forIn ifs true fun c r=>if r=true then do let ok ← isTrue c X.env (eval c X.env); pure (ForInStep.yield ok) else pure (ForInStep.yield r)) (TP X pins σ Q) X.xe s
noncomputable def VT:TT:=fun _ H Q=>Q true H
theorem Mu{X:Cx}:U6 X [] VT:=fun pins s σ H Q I h=>wpAny_tests_nil ⟨H,I,h⟩
theorem Qy{X:Cx}{c:Expr}{t:TT}(h:PT X c t):U6 X [c] t:=fun pins s σ H Q I q=>wpAny_tests_one (h pins s σ H Q I q)
noncomputable def UL(X:Cx)(sc:Scope)(N':List Str)(js:List (Option Nat))(tg elt:Expr)(ifs:List Expr)(wi:TI):TE:=fun σ H Q=>wi σ H fun J H1=>∀l,H1 l=none->X.K.lookup l=none->∀cl C s H0 fp,∃(g:TG) (tt:TT) (te:TE) (W:Nat->Nat->St->Hp->Prop),
 PG (A6 X sc N' cl C s H0 fp) tg g/\U6 (A6 X sc N' cl C s H0 fp) ifs tt/\PE (A6 X sc N' cl C s H0 fp) elt te/\(∃m,W 0 m (CW js σ) (A9 H1 l (.lst [])))/\∀i m σ' H',W i m σ' H' ->
 (J.stop i H'/\Q (.ref l) H')\/(J.go i H'/\∀x H2,J.yld i H' x H2->g x σ' H2 fun σ3 H3=>tt σ3 H3 fun b H4=>if b=true then te σ3 H4 fun y H5=>∃ys,H5 l=some (.lst ys)/\ys.length<sizeLine/\∃m',m'<m/\W (i+1) m' σ3 (A9 H5 l (.lst (ys++[y]))) else ∃m',m'<m/\W (i+1) m' σ3 H4)
section
variable {X:Cx}{tg elt iter:Expr}{ifs:List Expr}{sc:Scope}{pos:Pos}{N':List Str}{js:List (Option Nat)}{wi:TI}{g:TG}{tt:TT}{te:TE}
theorem OW{pins:List (Addr×Obj)}{σ:St}{H:Hp}{s:Shared}{cl:List (Str×Addr)}{C l it:Addr}{fp:List Addr}{tn:Nat->Heap->Prop}{J:It}{s3:Shared}{Q:VK}{R:Result->Shared->Prop}{W:Nat->Nat->St->Hp->Prop}{m0:Nat}{σ0:St}{H0:Hp}
  (I:Inv X pins σ H s) (hf:∀b∈fp,Fo X pins H b) (hlt:∀b∈fp,b<s.heap.objs.size) (hC:s.heap.objs.size<=C)
  (T:Turn X.prog X.w X.K tg J fp it tn)
  (hg:PG (A6 X sc N' cl C s H fp) tg g) (ht:U6 (A6 X sc N' cl C s H fp) ifs tt) (he:PE (A6 X sc N' cl C s H fp) elt te)
  (hW:∀i m σ' H',W i m σ' H' ->
   (J.stop i H'/\Q (.ref l) H')\/(J.go i H'/\∀x H2,J.yld i H' x H2->g x σ' H2 fun σ3 H3=>tt σ3 H3 fun b H4=>if b=true then te σ3 H4 fun y H5=>∃ys,H5 l=some (.lst ys)/\ys.length<sizeLine/\∃m',m'<m/\W (i+1) m' σ3 (A9 H5 l (.lst (ys++[y]))) else ∃m',m'<m/\W (i+1) m' σ3 H4))
  (hR:∀σ' H' s',Inv (A6 X sc N' cl C s H fp) [] σ' H' s'->Q (.ref l) H'->R (.ok .next) s')
  (I3:Inv (A6 X sc N' cl C s H fp) [] σ0 H0 s3) (t3:tn 0 s3.heap) (f3:∀b∈fp,H0 b=none) (w0:W 0 m0 σ0 H0) :
  codeAny (model X.prog X.w) X.A (.compLoop (.ListComp elt [⟨tg,iter,ifs,0⟩] sc pos) 0 (.ref it) (.ref l) (compEnvC sc cl C X.env)) R s3:=by
 have stat:∀{H':Hp},(∀b∈fp,H' b=none)->∀b∈fp,Fo (A6 X sc N' cl C s H fp) [] H' b:=fun hn b hb=>by
  have q:=I3.ok.exf b hb
  refine⟨hn b hb,q.1,I3.ok.exfs b hb,.inl hb,q.2,fun p hp=>absurd (show p∈([]:List (Addr×Obj)) from hp) (by simp)⟩
 refine KY (fun n s'=>∃i σ' H',Inv (A6 X sc N' cl C s H fp) [] σ' H' s'/\tn i s'.heap/\(∀b∈fp,H' b=none)/\W i n σ' H') ?_ m0 ⟨0,σ0,H0,I3,t3,f3,w0⟩
 rintro n s4 ⟨i,σ4,H4,I4,st4,fr4,w4⟩
 rcases hW i n σ4 H4 w4 with ⟨stop,qn⟩ | ⟨go,step⟩
 ·refine BX (T.done (A6 X sc N' cl C s H fp) rfl rfl rfl rfl i [] s4 σ4 H4 (fun _ _=>False) I4 (stat fr4) st4 stop) fun r s5 ⟨hr,I5⟩=>?_
  subst hr
  exact hR σ4 H4 s5 I5 qn
 ·refine BX (T.item (A6 X sc N' cl C s H fp) rfl rfl rfl rfl i [] s4 σ4 H4 (fun _ _=>False) I4 (stat fr4) st4 go) fun r s5 ⟨u,hr,h5⟩=>?_
  subst hr
  refine BX h5 fun _ s6 ⟨x,H6,I6,r6,y6,st6,fr6⟩=>?_
  have I6':=I6.pinned (stat fr6) (T.obj _ _ st6)
  refine BX (hg _ s6 σ4 H6 x u _ I6' r6 (step x H6 y6)) fun _ s7 ⟨σ7,H7,I7,q7⟩=>?_
  have again:∀{σ9:St} {H9:Hp} {s9:Shared} {m':Nat},Inv (A6 X sc N' cl C s H fp) ([]++HX fp s6.heap) σ9 H9 s9->m'<n->W (i+1) m' σ9 H9->∃m,m<n/\∃i σ' H',Inv (A6 X sc N' cl C s H fp) [] σ' H' s9/\tn i s9.heap/\(∀b∈fp,H' b=none)/\W i m σ' H':=fun {σ9 H9 s9 m'} I9 hm w9=>by
   refine⟨m',hm,i+1,σ9,H9,I9.unpinned,T.keep _ _ _ st6 fun b hb o e=>(I9.pin (b,o) (List.mem_append_right _ (List.mem_append_right _ (Ds hb e)))).1,fun b hb=>?_,w9⟩
   obtain⟨o,e,d⟩:=T.obj _ _ st6 b hb
   exact(I9.pin (b,o) (List.mem_append_right _ (List.mem_append_right _ (Ds hb e)))).2.1
  refine BX (ht _ s7 σ7 H7 _ I7 q7) fun ok s8 ⟨H8,I8,q8⟩=>?_
  cases ok with
  | false =>
   have q8':∃m',m'<n/\W (i+1) m' σ7 H8:=q8
   obtain⟨m',hm,w8⟩:=q8'
   show ∃m,m<n/\_
   exact again I8 hm w8
  | true =>
   refine BX (he _ s8 σ7 H8 _ I8 q8) fun y s9 ⟨yv,H9,I9,ry,q9⟩=>?_
   obtain⟨ys,hl,hz,m',hm,w9⟩:=q9
   refine BX (BK (X:=A6 X sc N' cl C s H fp) _ s9 σ7 H9 (.ref l) [yv] (.ref l) [y] (fun v H'=>v=.non/\H'=A9 H9 l (.lst (ys++[yv]))) I9 rfl (.cons ry .nil) ⟨l,ys,yv,rfl,rfl,hl,hz,rfl,rfl⟩) fun _ sa ⟨v,Ha,Ia,_,_,eH⟩=>?_
   subst eH
   exact again Ia hm w9
theorem Mw(hc:X.calm=true)(N':List Str)(js:List (Option Nat))(hi:PI X tg iter wi)
  (hB:LQ sc X.env.scope X.N N' js=true)
  (hs:∀x,foldedSetIterable iter X.env x=pure x:=by intro _; rfl) :
  PE X (.ListComp elt [⟨tg,iter,ifs,0⟩] sc pos) (UL X sc N' js tg elt ifs wi):=by
 intro pins s σ H Q I h
 have O:CompOk X sc N' js:=CompOk.of hB
 obtain⟨cl,hclos,hcl,hcl2⟩:=MS (scope:=sc) (env:=X.env) fun x hx=>I.ok.has x (O.free x hx)
 rw [eval_ListComp]
 refine wpAny_comprehension_free (use:=none) rfl hs hclos O.kind O.names (BX (hi pins s σ H _ I h) fun v s1 h1=>BX h1 fun itv s2 h2=>?_)
 obtain⟨it,fp,tn,J,H2,e,I2,T,st2,f2,hq⟩:=h2
 subst e
 have kfree:X.K.lookup s2.heap.objs.size=none:=by
  cases q:X.K.lookup s2.heap.objs.size with
  | none=>rfl
  | some o=>exact absurd (Heap.lt_size (I2.kIn _ _ q)) (Nat.lt_irrefl _)
 obtain⟨g,tt,te,W,hg,ht,he,⟨m0,w0⟩,hW⟩:=hq s2.heap.objs.size (I2.hok.fresh (Nat.le_refl _)) kfree cl (s2.heap.objs.size+1) s2 H2 fp
 refine wpAny_newObj_type (wpAny_newFunctionEnv O.cell (by intro y hy; simp at hy) (fun h₁ hns₁ hsb₁=>?_) O.kind)
 dsimp only at hns₁ hsb₁ ⊢
 generalize hH2:s2.heap.push { cls:=.type "list",dict:=none,data:=.seq ([]:List Value).toArray }=Hh at hns₁ hsb₁ ⊢
 have hCe:Hh.objs.size=s2.heap.objs.size+1:=by rw [← hH2,Heap.size_push]
 have hlt:∀b∈fp,b<s2.heap.objs.size:=fun b hb=>by
  obtain⟨o,e,_⟩:=T.obj _ _ st2 b hb
  exact Heap.lt_size e
 have old:∀b o,s2.heap.get? b=some o->h₁.get? b=some o:=fun b o e=>hsb₁.extBut b o (by rw [hCe]; exact Nat.ne_of_lt (Nat.lt_succ_of_lt (Heap.lt_size e))) (Heap.get?_push_of_some _ (hH2▸Heap.get?_push_of_some _ e))
 have hD:∃n,h₁.get? s2.heap.objs.size=some { cls:=.type "list",data:=.seq #[] n }:=⟨_,hsb₁.extBut _ _ (by rw [hCe]; exact Nat.ne_of_lt (Nat.lt_succ_self _)) (Heap.get?_push_of_some _ (hH2▸Heap.get?_push_size _ rfl))⟩
 have I3:∀tk,Inv (A6 X sc N' cl (s2.heap.objs.size+1) s2 H2 fp) [] (CW js σ) (A9 H2 s2.heap.objs.size (.lst [])) { s2 with heap:=h₁,toks:=tk }:=fun tk =>
  P4 I2 hc O hcl hcl2 f2 (fun b hb=>let ⟨o,e,_⟩:=T.obj _ _ st2 b hb; ⟨o,e⟩) (by rw [← hCe]; exact hns₁) old hD
 have st3:tn 0 h₁:=T.keep _ _ _ st2 fun b hb o e=>old b o e
 have fr3:∀b∈fp,A9 H2 s2.heap.objs.size (.lst []) b=none:=fun b hb=>by
  rw [AQ (Nat.ne_of_lt (hlt b hb))]
  exact(f2 b hb).1
 have loop:∀tk,codeAny (model X.prog X.w) X.A (.compLoop (.ListComp elt [⟨tg,iter,ifs,0⟩] sc pos) 0 (.ref it) (.ref s2.heap.objs.size) (compEnvC sc cl (s2.heap.objs.size+1) X.env))
   (compPost (model X.prog X.w) X.A X.xe none (EP X pins σ Q) (.ref s2.heap.objs.size) (s2.heap.objs.size+1)) { s2 with heap:=h₁,toks:=tk }:=fun tk=>by
  refine OW (W:=W) (m0:=m0) (Q:=Q) I2 f2 hlt (Nat.le_succ _) T hg ht he hW (fun σ' H' s' J' q'=>?_) (I3 tk) st3 fr3 w0
  obtain⟨m,hn,_⟩:=J'.loc
  exact⟨m,hn,fun h' hs'=>⟨.ref _,H',MO I2 f2 (Nat.le_succ _) J' fun b hb=>hs'.2 b hb,rfl,q'⟩⟩
 rw [show (newEnv sc Hh.objs.size X.env.globals cl X.env.qual none .none (some X.env) builtinsNs).locals=s2.heap.objs.size+1 from hCe]
 show codeAny (model X.prog X.w) X.A (.compStart (.ListComp elt [⟨tg,iter,ifs,0⟩] sc pos) 0 (.ref it) (.ref s2.heap.objs.size) (compEnvC sc cl (s2.heap.objs.size+1) X.env)) _ _
 exact codeAny_compStart_list (loop _) (T.self _ 0 _ _ _ st3 (loop _))
end
end L2
namespace Dp
open PySem PySem.Spec PyProof.Rows L2
inductive D where
 | non | bl (b:Bool) | int (i:Int) | str (x:Str) | tup (xs:List D) | lst (xs:List D) | dic (ks:List Key) (xs:List D) | fdi (ks:List Key) (xs:List D)
 deriving Inhabited
noncomputable def NdT(M:Addr->Prop)(H:Hp)(a:Addr)(vs:List V):Prop:=¬M a/\H a=some (.tup vs)
noncomputable def NdL(M:Addr->Prop)(H:Hp)(a:Addr)(vs:List V):Prop:=¬M a/\H a=some (.lst vs)
noncomputable def NdD(M:Addr->Prop)(H:Hp)(a:Addr)(ks:List Key)(vs:List V):Prop:=¬M a/\H a=some (.dK (ks.zip vs))
noncomputable def NdF(M:Addr->Prop)(H:Hp)(a:Addr)(ks:List Key)(vs:List V):Prop:=∃o,¬M a/\H a=some (.frz o (.dK (ks.zip vs)))
mutual
noncomputable def At(K:Frag)(M:Addr->Prop)(H:Hp):D->V->Prop
 | .non,v=>v=.non
 | .bl b,v=>v=.bl b
 | .int i,v=>v=.int i
 | .str x,v=>v=.str x/\x.length<=sizeLine
 | .tup ds,v=>∃a vs,v=.ref a/\NdT M H a vs/\Ats K M H ds vs
 | .lst ds,v=>∃a vs,v=.ref a/\NdL M H a vs/\Ats K M H ds vs
 | .dic ks ds,v=>∃a vs,v=.ref a/\NdD M H a ks vs/\ks.length=ds.length/\Ats K M H ds vs
 | .fdi ks ds,v=>∃a vs,v=.ref a/\NdF M H a ks vs/\ks.length=ds.length/\Ats K M H ds vs
noncomputable def Ats(K:Frag)(M:Addr->Prop)(H:Hp):List D->List V->Prop
 | [],vs=>vs=[]
 | d::ds,vs=>∃v r,vs=v::r/\At K M H d v/\Ats K M H ds r
end
section
variable {K:Frag}{M M':Addr->Prop}{H H':Hp}{a:Addr}{vs:List V}{ks:List Key}
theorem NdT.sq(h:NdT M H a vs):SqT K H a vs:=.inl (.inl h.2)
theorem NdL.sq(h:NdL M H a vs):SqL K H a vs:=.inl (.inl h.2)
noncomputable def Pres(M:Addr->Prop)(H:Hp)(M':Addr->Prop)(H':Hp):Prop:=(∀b o,H b=some o->¬M b->H' b=some o)/\∀b,M' b->M b\/H b=none
theorem Pres.nd{u:HO}(p:Pres M H M' H')(n:¬M a)(h:H a=some u):¬M' a/\H' a=some u:=by
 refine⟨fun z=>?_,p.1 _ _ h n⟩
 rcases p.2 a z with z | z
 ·exact n z
 ·rw [z] at h; cases h
theorem NdT.pres(p:Pres M H M' H')(h:NdT M H a vs):NdT M' H' a vs:=p.nd h.1 h.2
theorem NdL.pres(p:Pres M H M' H')(h:NdL M H a vs):NdL M' H' a vs:=p.nd h.1 h.2
theorem NdD.pres(p:Pres M H M' H')(h:NdD M H a ks vs):NdD M' H' a ks vs:=p.nd h.1 h.2
theorem NdF.pres(p:Pres M H M' H')(h:NdF M H a ks vs):NdF M' H' a ks vs:=let ⟨o,h1,h2⟩:=h; ⟨o,p.nd h1 h2⟩
mutual
theorem At.pres(p:Pres M H M' H'):∀{d:D} {v:V},At K M H d v->At K M' H' d v
 | .non,v,h=>h
 | .bl b,v,h=>h
 | .int i,v,h=>h
 | .str x,v,h=>h
 | .tup ds,v,h=>by
  obtain⟨a,vs,e,hn,hs⟩:=h
  exact⟨a,vs,e,hn.pres p,Ats.pres p hs⟩
 | .lst ds,v,h=>by
  obtain⟨a,vs,e,hn,hs⟩:=h
  exact⟨a,vs,e,hn.pres p,Ats.pres p hs⟩
 | .dic ks ds,v,h=>by
  obtain⟨a,vs,e,hn,hl,hs⟩:=h
  exact⟨a,vs,e,hn.pres p,hl,Ats.pres p hs⟩
 | .fdi ks ds,v,h=>by
  obtain⟨a,vs,e,hn,hl,hs⟩:=h
  exact⟨a,vs,e,hn.pres p,hl,Ats.pres p hs⟩
theorem Ats.pres(p:Pres M H M' H'):∀{ds:List D} {vs:List V},Ats K M H ds vs->Ats K M' H' ds vs
 | [],vs,h=>h
 | d::ds,vs,h=>by
  obtain⟨v,r,e,h1,h2⟩:=h
  exact⟨v,r,e,At.pres p h1,Ats.pres p h2⟩
end
theorem Pres.trans{M1 M2 M3:Addr->Prop}{H1 H2 H3:Hp}(p:Pres M1 H1 M2 H2)(q:Pres M2 H2 M3 H3):Pres M1 H1 M3 H3:=by
 refine⟨fun b o e n=>?_,fun b z=>?_⟩
 ·refine q.1 b o (p.1 b o e n) fun z=>?_
  rcases p.2 b z with z | z
  ·exact n z
  ·rw [z] at e; cases e
 ·rcases q.2 b z with z | z
  ·exact p.2 b z
  ·cases e:H1 b with
   | none=>exact .inr rfl
   | some o =>
    by_cases n:M1 b
    ·exact .inl n
    ·rw [p.1 b o e n] at z; cases z
theorem Pres.refl(M:Addr->Prop)(H:Hp):Pres M H M H:=⟨fun _ _ e _=>e,fun _ z=>.inl z⟩
theorem Pres.less(h:∀b,M' b->M b):Pres M H M' H:=⟨fun _ _ e _=>e,fun b z=>.inl (h b z)⟩
theorem Ats.length:∀{ds:List D} {vs:List V},Ats K M H ds vs->vs.length=ds.length
 | [],vs,h=>by cases h; rfl
 | d::ds,vs,h=>by
  obtain⟨v,r,e,h1,h2⟩:=h
  subst e
  rw [List.length_cons,List.length_cons,Ats.length h2]
theorem Ats.get:∀{ds:List D} {vs:List V} {i:Nat} {d:D},Ats K M H ds vs->ds[i]?=some d->∃v,vs[i]?=some v/\At K M H d v
 | [],vs,i,d,h,e=>by simp at e
 | d0::ds,vs,0,d,h,e=>by
  obtain⟨v,r,e1,h1,h2⟩:=h
  simp at e
  subst e e1
  exact⟨v,rfl,h1⟩
 | d0::ds,vs,i+1,d,h,e=>by
  obtain⟨v,r,e1,h1,h2⟩:=h
  subst e1
  obtain⟨u,e2,h3⟩:=Ats.get (i:=i) (d:=d) h2 (by simpa using e)
  exact⟨u,by simpa using e2,h3⟩
theorem Ats.append:∀{ds es:List D} {vs us:List V},Ats K M H ds vs->Ats K M H es us->Ats K M H (ds++es) (vs++us)
 | [],es,vs,us,h,g=>by cases h; exact g
 | d::ds,es,vs,us,h,g=>by
  obtain⟨v,r,e,h1,h2⟩:=h
  subst e
  exact⟨v,r++us,rfl,h1,Ats.append h2 g⟩
theorem Ats.drop:∀{ds:List D} {vs:List V} (n:Nat),Ats K M H ds vs->Ats K M H (ds.drop n) (vs.drop n)
 | ds,vs,0,h=>h
 | [],vs,n+1,h=>by cases h; exact rfl
 | d::ds,vs,n+1,h=>by
  obtain⟨v,r,e,h1,h2⟩:=h
  subst e
  exact Ats.drop n h2
theorem Ats.take:∀{ds:List D} {vs:List V} (n:Nat),Ats K M H ds vs->Ats K M H (ds.take n) (vs.take n)
 | ds,vs,0,h=>rfl
 | [],vs,n+1,h=>by cases h; exact rfl
 | d::ds,vs,n+1,h=>by
  obtain⟨v,r,e,h1,h2⟩:=h
  subst e
  exact⟨v,r.take n,rfl,h1,Ats.take n h2⟩
theorem Ats.one{d:D}{v:V}(h:At K M H d v):Ats K M H [d] [v]:=⟨v,[],rfl,h,rfl⟩
theorem Ats.eraseIdx:∀{ds:List D} {vs:List V} (i:Nat),Ats K M H ds vs->Ats K M H (ds.eraseIdx i) (vs.eraseIdx i)
 | [],vs,i,h=>by cases h; exact rfl
 | d0::ds,vs,0,h=>by
  obtain⟨u,r,e1,h1,h2⟩:=h
  subst e1
  exact h2
 | d0::ds,vs,i+1,h=>by
  obtain⟨u,r,e1,h1,h2⟩:=h
  subst e1
  exact⟨u,r.eraseIdx i,rfl,h1,Ats.eraseIdx i h2⟩
theorem Ats.reverse:∀{ds:List D} {vs:List V},Ats K M H ds vs->Ats K M H ds.reverse vs.reverse
 | [],vs,h=>by cases h; exact rfl
 | d::ds,vs,h=>by
  obtain⟨v,r,e,h1,h2⟩:=h
  subst e
  rw [List.reverse_cons,List.reverse_cons]
  exact Ats.append (Ats.reverse h2) (Ats.one h1)
end
inductive Kd where
 | sh | tp | fr
noncomputable def Tops(K:Frag)(M:Addr->Prop)(H:Hp)(a:Addr):D->Prop
 | .lst ds=>∃vs,H a=some (.lst vs)/\Ats K M H ds vs
 | .dic ks ds=>∃vs,H a=some (.dK (ks.zip vs))/\ks.length=ds.length/\Ats K M H ds vs
 | _=>False
theorem Tops.pres{K:Frag}{M M':Addr->Prop}{H H':Hp}{a:Addr}{d:D}(h:Tops K M H a d)(p:Pres M H M' H')(e:∀o,H a=some o->H' a=some o):Tops K M' H' a d:=by
 cases d with
 | lst ds=>obtain⟨vs,h1,h2⟩:=h; exact⟨vs,e _ h1,h2.pres p⟩
 | dic ks ds=>obtain⟨vs,h1,h2,h3⟩:=h; exact⟨vs,e _ h1,h2,h3.pres p⟩
 | _=>exact(show False from h).elim
theorem Tops.at{K:Frag}{M:Addr->Prop}{H:Hp}{a:Addr}{d:D}(h:Tops K M H a d)(n:¬M a):At K M H d (.ref a):=by
 cases d with
 | lst ds=>obtain⟨vs,h1,h2⟩:=h; exact⟨a,vs,rfl,⟨n,h1⟩,h2⟩
 | dic ks ds=>obtain⟨vs,h1,h2,h3⟩:=h; exact⟨a,vs,rfl,⟨n,h1⟩,h2,h3⟩
 | _=>exact(show False from h).elim
noncomputable def AtT(K:Frag)(U:Addr->Prop)(M:Addr->Prop)(H:Hp):D->V->Prop
 | .lst ds,v=>∃a vs,v=.ref a/\¬U a/\Rd H a (.lst vs)/\Ats K M H ds vs
 | .dic ks ds,v=>∃a vs,v=.ref a/\¬U a/\H a=some (.dK (ks.zip vs))/\ks.length=ds.length/\Ats K M H ds vs
 | d,v=>At K M H d v
theorem Tops.att{K:Frag}{U M:Addr->Prop}{H:Hp}{a:Addr}{d:D}(h:Tops K M H a d)(n:¬U a):AtT K U M H d (.ref a):=by
 cases d with
 | lst ds=>obtain⟨vs,h1,h2⟩:=h; exact⟨a,vs,rfl,n,.inl h1,h2⟩
 | dic ks ds=>obtain⟨vs,h1,h2,h3⟩:=h; exact⟨a,vs,rfl,n,h1,h2,h3⟩
 | _=>exact(show False from h).elim
noncomputable def VR(K:Frag)(U:Addr->Prop)(M:Addr->Prop)(H H':Hp):Kd->V->D->Prop
 | .sh,v,d=>At K M H' d v
 | .tp,v,d=>AtT K U M H' d v
 | .fr,v,d=>∃a,v=.ref a/\H a=none/\Tops K (fun b=>M b\/b=a) H' a d
noncomputable def FeedOk(K:Frag)(M:Addr->Prop)(H:Hp)(f:Addr×Addr)(n:Nat):Prop :=
 ∃(at_ rest:Int) (cells:List Int),H f.1=some (.lst [.ref f.2,.int at_,.int rest])/\f.2≠f.1/\NdL M H f.2 (cells.map V.int)/\cells.length<=63/\0<=at_/\at_+n<=2 ^ 60
noncomputable def FeedC(K:Frag)(F:Option (Addr×Addr))(M:Addr->Prop)(H:Hp)(n:Nat):Prop:=∀f,F=some f->FeedOk K M H f n
noncomputable def Ext(U:Addr->Prop)(H H':Hp):Prop:=∀b o,H b=some o->∃o',H' b=some o'/\(¬U b->o'=o)
theorem Ext.keep{U:Addr->Prop}{H H':Hp}(p:Ext U H H'){b:Addr}{o:HO}(e:H b=some o)(n:¬U b):H' b=some o:=by
 obtain⟨o',q,r⟩:=p b o e
 rw [q,r n]
theorem Ext.free{U:Addr->Prop}{H H':Hp}(p:Ext U H H'){b:Addr}(e:H' b=none):H b=none:=by
 cases q:H b with
 | none=>rfl
 | some o =>
  obtain⟨o',z,_⟩:=p b o q
  rw [e] at z; cases z
theorem Ext.refl(U:Addr->Prop)(H:Hp):Ext U H H:=fun _ o e=>⟨o,e,fun _=>rfl⟩
theorem Ext.trans{U:Addr->Prop}{H1 H2 H3:Hp}(p:Ext U H1 H2)(q:Ext U H2 H3):Ext U H1 H3:=fun b o e=>by
 obtain⟨o',e1,r1⟩:=p b o e
 obtain⟨o2,e2,r2⟩:=q b o' e1
 exact⟨o2,e2,fun n=>(r2 n).trans (r1 n)⟩
noncomputable def Grow(H H':Hp):Prop:=H'=H\/∃p o,H p=none/\H'=A9 H p o
theorem Grow.all{H H':Hp}(g:Grow H H'):∀b o,H b=some o->H' b=some o:=by
 intro b o e
 rcases g with rfl | ⟨p,u,n,rfl⟩
 ·exact e
 ·rw [AQ (Al e n)]; exact e
theorem Grow.refl{H:Hp}:Grow H H:=.inl rfl
theorem Grow.ext{U:Addr->Prop}{H H':Hp}(g:Grow H H'):Ext U H H':=fun b o e=>⟨o,g.all b o e,fun _=>rfl⟩
theorem Grow.pres{M:Addr->Prop}{H H':Hp}(g:Grow H H'):Pres M H M H':=⟨fun b o e _=>g.all b o e,fun _ z=>.inl z⟩
theorem FeedOk.pres{K:Frag}{M M':Addr->Prop}{H H':Hp}{f:Addr×Addr}{n:Nat}(h:FeedOk K M H f n)(p:Pres M H M' H')(e:∀o,H f.1=some o->H' f.1=some o):FeedOk K M' H' f n:=by
 obtain⟨a,r,cs,h1,h2,h3,h4⟩:=h
 exact⟨a,r,cs,e _ h1,h2,h3.pres p,h4⟩
theorem FeedC.pres{K:Frag}{F:Option (Addr×Addr)}{M M':Addr->Prop}{H H':Hp}{n:Nat}(h:FeedC K F M H n)(p:Pres M H M' H')(e:∀f o,F=some f->H f.1=some o->H' f.1=some o):FeedC K F M' H' n:=fun f hf=>(h f hf).pres p fun o q=>e f o hf q
theorem FeedC.grow{K:Frag}{F:Option (Addr×Addr)}{M:Addr->Prop}{H H':Hp}{n:Nat}(h:FeedC K F M H n)(g:Grow H H'):FeedC K F M H' n:=h.pres g.pres fun f o _ e=>g.all f.1 o e
theorem FeedC.more{K:Frag}{F:Option (Addr×Addr)}{M:Addr->Prop}{H:Hp}{n:Nat}(h:FeedC K F M H n)(a:Addr)(ha:∀f,F=some f->f.2≠a):FeedC K F (fun b=>M b\/b=a) H n:=fun f hf=>by
 obtain⟨x,r,cs,h1,h2,h3,h4⟩:=h f hf
 exact⟨x,r,cs,h1,h2,⟨fun z=>z.elim h3.1 (ha f hf),h3.2⟩,h4⟩
inductive Slot where
 | no | sh (d:D) | br (d:D) | fd | ow (d:D) | lt (a:Addr) (d:D)
noncomputable def Slot.owns:Slot->Bool
 | .ow _=>true
 | .lt _ _=>true
 | _=>false
noncomputable def SlotOk(K:Frag)(F:Option (Addr×Addr))(U:Addr->Prop)(M:Addr->Prop)(H:Hp):Slot->Option V->Prop
 | .no,_=>True
 | .sh d,o=>∃v,o=some v/\At K M H d v
 | .br d,o=>∃v,o=some v/\AtT K U M H d v
 | .fd,o=>∃f,o=some (.ref f.1)/\F=some f
 | .ow d,o=>∃a,o=some (.ref a)/\M a/\¬U a/\Tops K M H a d
 | .lt a d,o=>o=some (.ref a)/\M a/\¬U a/\Tops K M H a d
structure Fm where
 M0:Addr->Prop
 F:Option (Addr×Addr)
 U:Addr->Prop
 V:Addr->Prop
 H0:Hp
 pins:List ((Addr->Prop)×Hp)
 kp:List (Addr×HO)
noncomputable def Apart(ρ:List Slot)(σ:L2.St):Prop:=∀(i j:Nat) (s t:Slot) (a:Addr),ρ[i]?=some s->s.owns=true->ρ[j]?=some t->t.owns=true->(σ[i]?).getD none=some (.ref a)->(σ[j]?).getD none=some (.ref a)->i=j
structure Rel (K:Frag) (C:Fm) (M:Addr->Prop) (H:Hp) (n:Nat) (ρ:List Slot) (σ:L2.St):Prop where
 len:ρ.length=σ.length
 sub:∀a,C.M0 a->M a
 dom:∀a,M a->∃o,H a=some o
 ext:Ext C.U C.H0 H
 fU:∀f,C.F=some f->C.U f.1
 uV:∀a,C.U a->C.V a
 vM:∀a,C.V a->M a
 feed:FeedC K C.F M H n
 sl:∀(i:Nat) (s:Slot),ρ[i]?=some s->SlotOk K C.F C.V M H s ((σ[i]?).getD none)
 pin:∀p∈C.pins,Pres p.1 p.2 M H
 br0:∀(i:Nat) (d:D) (a:Addr),ρ[i]?=some (.br d)->(σ[i]?).getD none=some (.ref a)->∃o,C.H0 a=some o
 new:∀(i:Nat) (s:Slot) (a:Addr),ρ[i]?=some s->s.owns=true->(σ[i]?).getD none=some (.ref a)->¬C.M0 a/\C.H0 a=none
 two:Apart ρ σ
 kept:∀p∈C.kp,H p.1=some p.2/\M p.1/\¬C.V p.1/\∀(i:Nat) (d:D),ρ[i]?=some (.ow d)->(σ[i]?).getD none≠some (.ref p.1)
section
variable {K:Frag}{C:Fm}{M:Addr->Prop}{H H':Hp}{n n':Nat}{ρ:List Slot}{σ:L2.St}{d:D}{v:V}{κ:Kd}
theorem Rel.pres(R:Rel K C M H n ρ σ)(e:Ext C.U H H'):Pres M H M H':=⟨fun b o q nb=>e.keep q fun z=>nb (R.vM b (R.uV b z)),fun _ z=>.inl z⟩
theorem AtT.pres{U V':Addr->Prop}{M':Addr->Prop}(h:AtT K V' M H d v)(p:Pres M H M' H')(e:Ext U H H')(uV:∀a,U a->V' a):AtT K V' M' H' d v:=by
 cases d with
 | lst ds =>
  obtain⟨a,vs,e1,n1,hq,hs⟩:=h
  refine⟨a,vs,e1,n1,?_,hs.pres p⟩
  rcases hq with hq | ⟨o,hq⟩
  ·exact .inl (e.keep hq fun z=>n1 (uV a z))
  ·exact .inr ⟨o,e.keep hq fun z=>n1 (uV a z)⟩
 | dic ks ds =>
  obtain⟨a,vs,e1,n1,hq,hl,hs⟩:=h
  exact⟨a,vs,e1,n1,e.keep hq fun z=>n1 (uV a z),hl,hs.pres p⟩
 | non=>exact At.pres (K:=K) p (d:=.non) h
 | bl b=>exact At.pres (K:=K) p (d:=.bl b) h
 | int i=>exact At.pres (K:=K) p (d:=.int i) h
 | str x=>exact At.pres (K:=K) p (d:=.str x) h
 | tup ds=>exact At.pres (K:=K) p (d:=.tup ds) h
 | fdi ks ds=>exact At.pres (K:=K) p (d:=.fdi ks ds) h
theorem AtT.same{U V':Addr->Prop}{M':Addr->Prop}(h:AtT K U M H d v)(p:Pres M H M' H')(e:∀a o,v=.ref a->H a=some o->H' a=some o)(nv:∀a,v=.ref a->¬U a->¬V' a):AtT K V' M' H' d v:=by
 cases d with
 | lst ds =>
  obtain⟨a,vs,e1,n1,hq,hs⟩:=h
  refine⟨a,vs,e1,nv a e1 n1,?_,hs.pres p⟩
  rcases hq with hq | ⟨o,hq⟩
  ·exact .inl (e a _ e1 hq)
  ·exact .inr ⟨o,e a _ e1 hq⟩
 | dic ks ds =>
  obtain⟨a,vs,e1,n1,hq,hl,hs⟩:=h
  exact⟨a,vs,e1,nv a e1 n1,e a _ e1 hq,hl,hs.pres p⟩
 | non=>exact At.pres (K:=K) p (d:=.non) h
 | bl b=>exact At.pres (K:=K) p (d:=.bl b) h
 | int i=>exact At.pres (K:=K) p (d:=.int i) h
 | str x=>exact At.pres (K:=K) p (d:=.str x) h
 | tup ds=>exact At.pres (K:=K) p (d:=.tup ds) h
 | fdi ks ds=>exact At.pres (K:=K) p (d:=.fdi ks ds) h
theorem AtT.lies{U:Addr->Prop}{a:Addr}(h:AtT K U M H d (.ref a)):∃o,H a=some o:=by
 cases d with
 | lst ds =>
  obtain⟨b,vs,e,_,hq,_⟩:=h
  cases e
  rcases hq with hq | ⟨o,hq⟩
  ·exact⟨_,hq⟩
  ·exact⟨_,hq⟩
 | dic ks ds =>
  obtain⟨b,vs,e,_,hq,_⟩:=h
  cases e
  exact⟨_,hq⟩
 | non=>cases (show V.ref a=.non from h)
 | bl b=>cases (show V.ref a=.bl b from h)
 | int i=>cases (show V.ref a=.int i from h)
 | str x=>cases (show V.ref a=.str x/\_ from h).1
 | tup ds =>
  obtain⟨b,vs,e,hq,_⟩:=h
  cases e
  exact⟨_,hq.2⟩
 | fdi ks ds =>
  obtain⟨b,vs,e,⟨o,_,hq⟩,_⟩:=h
  cases e
  exact⟨_,hq⟩
theorem SlotOk.pres{F:Option (Addr×Addr)}{U V' M':Addr->Prop}{s:Slot}{o:Option V}(h:SlotOk K F V' M H s o)(p:Pres M H M' H')(m:∀a,M a->M' a)(e:Ext U H H')(uV:∀a,U a->V' a):SlotOk K F V' M' H' s o:=by
 cases s with
 | no=>trivial
 | sh d=>obtain⟨v,e1,h1⟩:=h; exact⟨v,e1,h1.pres p⟩
 | br d=>obtain⟨v,e1,h1⟩:=h; exact⟨v,e1,h1.pres p e uV⟩
 | fd=>exact h
 | ow d=>obtain⟨a,e1,h1,h2,h3⟩:=h; exact⟨a,e1,m a h1,h2,h3.pres p fun o q=>e.keep q fun z=>h2 (uV a z)⟩
 | lt a d=>obtain⟨e1,h1,h2,h3⟩:=h; exact⟨e1,m a h1,h2,h3.pres p fun o q=>e.keep q fun z=>h2 (uV a z)⟩
theorem Rel.step(R:Rel K C M H n ρ σ)(e:Ext C.U H H')(f:FeedC K C.F M H' n'):Rel K C M H' n' ρ σ:=by
 have p:=R.pres e
 refine⟨R.len,R.sub,fun a z=>?_,R.ext.trans e,R.fU,R.uV,R.vM,f,fun i s q=>(R.sl i s q).pres p (fun _ z=>z) e R.uV,fun q hq=>(R.pin q hq).trans p,R.br0,R.new,R.two,fun q hq=>?_⟩
 ·obtain⟨o,h1⟩:=R.dom a z
  obtain⟨o',h2,_⟩:=e a o h1
  exact⟨o',h2⟩
 ·obtain⟨h1,h2,h3,h4⟩:=R.kept q hq
  exact⟨e.keep h1 fun z=>h3 (R.uV _ z),h2,h3,h4⟩
theorem Rel.udom(R:Rel K C M H n ρ σ):∀a,C.U a->∃o,H a=some o:=fun a z=>R.dom a (R.vM a (R.uV a z))
theorem At.tp{U:Addr->Prop}(uM:∀a,U a->M a)(h:At K M H d v):AtT K U M H d v:=by
 cases d with
 | lst ds =>
  obtain⟨a,vs,e,hn,hs⟩:=h
  exact⟨a,vs,e,fun z=>hn.1 (uM a z),.inl hn.2,hs⟩
 | dic ks ds =>
  obtain⟨a,vs,e,hn,hl,hs⟩:=h
  exact⟨a,vs,e,fun z=>hn.1 (uM a z),hn.2,hl,hs⟩
 | non=>exact h
 | bl b=>exact h
 | int i=>exact h
 | str x=>exact h
 | tup ds=>exact h
 | fdi ks ds=>exact h
theorem VR.back{U V':Addr->Prop}{H1:Hp}(e:Ext U H H1)(h:VR K V' M H1 H' κ v d):VR K V' M H H' κ v d:=by
 cases κ with
 | sh=>exact h
 | tp=>exact h
 | fr =>
  obtain⟨a,e1,h1,h2⟩:=h
  exact⟨a,e1,e.free h1,h2⟩
theorem VR.shOf{U:Addr->Prop}(dom:∀a,M a->∃o,H a=some o)(h:VR K U M H H' κ v d)(hk:κ≠.tp):At K M H' d v:=by
 cases κ with
 | sh=>exact h
 | tp=>exact absurd rfl hk
 | fr =>
  obtain⟨a,rfl,h1,h2⟩:=h
  refine(h2.pres (Pres.less (M':=M) fun _ z=>.inl z) fun _ z=>z).at fun z=>?_
  obtain⟨o,q⟩:=dom a z
  rw [h1] at q; cases q
theorem VR.tpOf{U:Addr->Prop}(dom:∀a,M a->∃o,H a=some o)(uM:∀a,U a->M a)(h:VR K U M H H' κ v d):AtT K U M H' d v:=by
 cases κ with
 | sh=>exact At.tp uM h
 | tp=>exact h
 | fr=>exact At.tp uM (VR.shOf dom h (by intro z; cases z))
theorem HL{α:Type}{l:List α}{i j:Nat}{x y:α}(h:(l.set i x)[j]?=some y):(j=i/\i<l.length/\y=x)\/(j≠i/\l[j]?=some y):=by
 rw [List.getElem?_set] at h
 by_cases e:i=j
 ·rw [if_pos e] at h
  by_cases hl:i<l.length
  ·rw [if_pos hl] at h
   exact .inl ⟨e.symm,hl,(Option.some.inj h).symm⟩
  ·rw [if_neg hl] at h; cases h
 ·rw [if_neg e] at h
  exact .inr ⟨fun z=>e z.symm,h⟩
theorem Je{l:L2.St}{i j:Nat}{x:Option V}(h:j≠i):((l.set i x)[j]?).getD none=(l[j]?).getD none:=by
 rw [List.getElem?_set,if_neg (fun z=>h z.symm)]
theorem O6{l:L2.St}{i:Nat}{x:Option V}(h:i<l.length):((l.set i x)[i]?).getD none=x:=by
 rw [List.getElem?_set,if_pos rfl,if_pos h]
 rfl
theorem Rel.set(R:Rel K C M H n ρ σ){i:Nat}(h:At K M H d v):Rel K C M H n (ρ.set i (.sh d)) (σ.set i (some v)):=by
 have two:∀(j:Nat) (s:Slot),(ρ.set i (.sh d))[j]?=some s->s.owns=true->ρ[j]?=some s/\((σ.set i (some v))[j]?).getD none=(σ[j]?).getD none:=fun j s q o=>by
  rcases HL q with ⟨_,_,rfl⟩ | ⟨hj,q⟩
  ·cases o
  ·exact⟨q,Je hj⟩
 refine⟨by rw [List.length_set,List.length_set]; exact R.len,R.sub,R.dom,R.ext,R.fU,R.uV,R.vM,R.feed,fun j s q=>?_,R.pin,fun j e a q q2=>?_,fun j s a q o q2=>?_,fun j k s t a q1 o1 q2 o2 z1 z2=>?_,fun p hp=>?_⟩
 ·rcases HL q with ⟨rfl,hl,rfl⟩ | ⟨hj,q⟩
  ·rw [O6 (by rw [← R.len]; exact hl)]
   exact⟨v,rfl,h⟩
  ·rw [Je hj]
   exact R.sl j s q
 ·rcases HL q with ⟨_,_,e⟩ | ⟨hj,q⟩
  ·cases e
  ·rw [Je hj] at q2
   exact R.br0 j e a q q2
 ·obtain⟨q1,e⟩:=two j s q o
  rw [e] at q2
  exact R.new j s a q1 o q2
 ·obtain⟨p1,e1⟩:=two j s q1 o1
  obtain⟨p2,e2⟩:=two k t q2 o2
  rw [e1] at z1
  rw [e2] at z2
  exact R.two j k s t a p1 o1 p2 o2 z1 z2
 ·obtain⟨h1,h2,h3,h4⟩:=R.kept p hp
  refine⟨h1,h2,h3,fun j e q=>?_⟩
  obtain⟨q1,e2⟩:=two j _ q rfl
  rw [e2]
  exact h4 j e q1
theorem Rel.owner(R:Rel K C M H n ρ σ){i:Nat}{s:Slot}(h:ρ[i]?=some s)(o:s.owns=true):∃a e,(σ[i]?).getD none=some (.ref a)/\M a/\¬C.V a/\Tops K M H a e/\¬C.M0 a/\C.H0 a=none:=by
 have q:=R.sl i s h
 cases s with
 | ow d=>obtain⟨a,e1,h1,h2,h3⟩:=q; exact⟨a,d,e1,h1,h2,h3,R.new i _ a h o e1⟩
 | lt a d=>obtain⟨e1,h1,h2,h3⟩:=q; exact⟨a,d,e1,h1,h2,h3,R.new i _ a h o e1⟩
 | _=>cases o
theorem Rel.setOw(R:Rel K C M H n ρ σ){i:Nat}{a:Addr}(e:Ext C.U H H')(f:FeedC K C.F M H' n')(ha:H a=none)(h:Tops K (fun b=>M b\/b=a) H' a d) :
  Rel K C (fun b=>M b\/b=a) H' n' (ρ.set i (.ow d)) (σ.set i (some (.ref a))):=by
 have R1:=R.step e f
 have ne:∀b,M b->b≠a:=fun b z q=>by
  obtain⟨o,w⟩:=R.dom b z
  rw [q,ha] at w; cases w
 have a0:¬C.M0 a/\C.H0 a=none:=⟨fun z=>ne a (R.sub a z) rfl,R.ext.free ha⟩
 have pr:Pres M H (fun b=>M b\/b=a) H':=⟨fun b o q nb=>e.keep q fun z=>nb (R.vM b (R.uV b z)),fun b z=>z.elim .inl fun z=>.inr (by rw [z]; exact ha)⟩
 have two:∀(j:Nat) (s:Slot),(ρ.set i (.ow d))[j]?=some s->(j=i/\s=.ow d/\((σ.set i (some (.ref a)))[j]?).getD none=some (.ref a))\/(j≠i/\ρ[j]?=some s/\((σ.set i (some (.ref a)))[j]?).getD none=(σ[j]?).getD none):=fun j s q=>by
  rcases HL q with ⟨rfl,hl,rfl⟩ | ⟨hj,q⟩
  ·exact .inl ⟨rfl,rfl,O6 (by rw [← R.len]; exact hl)⟩
  ·exact .inr ⟨hj,q,Je hj⟩
 have old:∀(j:Nat) (s:Slot) (b:Addr),ρ[j]?=some s->s.owns=true->(σ[j]?).getD none=some (.ref b)->b≠a:=fun j s b q o z=>by
  obtain⟨c,_,e1,m,_⟩:=R.owner q o
  rw [e1] at z
  cases z
  exact ne _ m
 have hd:∃o,H' a=some o:=by
  cases d with
  | lst ds=>obtain⟨vs,q,_⟩:=h; exact⟨_,q⟩
  | dic ks ds=>obtain⟨vs,q,_⟩:=h; exact⟨_,q⟩
  | _=>exact(show False from h).elim
 refine⟨by rw [List.length_set,List.length_set]; exact R.len,fun b z=>.inl (R.sub b z),fun b z=>?_,R1.ext,R.fU,R.uV,fun b z=>.inl (R.vM b z),f.more a fun g hg q=>?_,fun j s q=>?_,fun q hq=>(R.pin q hq).trans pr,fun j e2 b q q2=>?_,fun j s b q o q2=>?_,fun j k s t b q1 o1 q2 o2 z1 z2=>?_,fun p hp=>?_⟩
 ·rcases z with z | z
  ·exact R1.dom b z
  ·rw [z]; exact hd
 ·obtain⟨_,_,_,_,_,h3,_⟩:=R.feed g hg
  have:=h3.2
  rw [q,ha] at this; cases this
 ·rcases two j s q with ⟨rfl,rfl,e1⟩ | ⟨hj,q1,e1⟩
  ·rw [e1]
   exact⟨a,rfl,.inr rfl,fun z=>ne a (R.vM a z) rfl,h⟩
  ·rw [e1]
   exact(R.sl j s q1).pres pr (fun _ z=>.inl z) e R.uV
 ·rcases two j _ q with ⟨_,e1,_⟩ | ⟨hj,q1,e1⟩
  ·cases e1
  ·rw [e1] at q2
   exact R.br0 j e2 b q1 q2
 ·rcases two j s q with ⟨_,_,e1⟩ | ⟨hj,q1,e1⟩
  ·rw [e1] at q2
   cases q2
   exact a0
  ·rw [e1] at q2
   exact R.new j s b q1 o q2
 ·rcases two j s q1 with ⟨rfl,_,e1⟩ | ⟨hj,p1,e1⟩
  ·rw [e1] at z1
   cases z1
   rcases two k t q2 with ⟨rfl,_,_⟩ | ⟨hk,p2,e2⟩
   ·rfl
   ·rw [e2] at z2
    exact absurd rfl (old k t a p2 o2 z2)
  ·rw [e1] at z1
   rcases two k t q2 with ⟨rfl,_,e2⟩ | ⟨hk,p2,e2⟩
   ·rw [e2] at z2
    cases z2
    exact absurd rfl (old j s a p1 o1 z1)
   ·rw [e2] at z2
    exact R.two j k s t b p1 o1 p2 o2 z1 z2
 ·obtain⟨h1,h2,h3,h4⟩:=R1.kept p hp
  refine⟨h1,.inl h2,h3,fun j e2 q=>?_⟩
  rcases two j _ q with ⟨_,_,e1⟩ | ⟨hj,q1,e1⟩
  ·rw [e1]
   intro z
   cases z
   exact ne _ h2 rfl
  ·rw [e1]
   exact h4 j e2 q1
theorem Rel.mut(R:Rel K C M H n ρ σ){i:Nat}{a:Addr}{e:D}{o:HO}(hi:ρ[i]?=some (.ow d))(ha:(σ[i]?).getD none=some (.ref a))(h:Tops K M (A9 H a o) a e) :
  Rel K C M (A9 H a o) n (ρ.set i (.ow e)) σ:=by
 obtain⟨b,_,e1,m,nv,t,n0,h0⟩:=R.owner hi rfl
 rw [ha] at e1
 cases e1
 have pr:Pres M H M (A9 H a o):=⟨fun b o' q nb=>by rw [AQ (fun z=>nb (by rw [z]; exact m))]; exact q,fun _ z=>.inl z⟩
 have old:∀(j:Nat) (s:Slot),(ρ.set i (.ow e))[j]?=some s->(j=i/\s=.ow e)\/(j≠i/\ρ[j]?=some s):=fun j s q=>by
  rcases HL q with ⟨rfl,hl,rfl⟩ | ⟨hj,q⟩
  ·exact .inl ⟨rfl,rfl⟩
  ·exact .inr ⟨hj,q⟩
 have far:∀(j:Nat) (s:Slot) (b:Addr),j≠i->ρ[j]?=some s->s.owns=true->(σ[j]?).getD none=some (.ref b)->b≠a:=fun j s b hj q o z w=>by
  subst w
  exact hj (R.two j i s _ b q o hi rfl z ha)
 refine⟨by rw [List.length_set]; exact R.len,R.sub,fun b z=>?_,fun b o' q=>?_,R.fU,R.uV,R.vM,R.feed.pres pr fun f o' hf q=>?_,fun j s q=>?_,fun q hq=>(R.pin q hq).trans pr,fun j e2 b q q2=>?_,fun j s b q o2 q2=>?_,fun j k s t b q1 o1 q2 o2 z1 z2=>?_,fun p hp=>?_⟩
 ·by_cases hb:b=a
  ·exact⟨o,by rw [hb,AV]⟩
  ·obtain⟨o',q⟩:=R.dom b z
   exact⟨o',by rw [AQ hb]; exact q⟩
 ·obtain⟨o2,q2,r⟩:=R.ext b o' q
  have hb:b≠a:=fun z=>by rw [z,h0] at q; cases q
  exact⟨o2,by rw [AQ hb]; exact q2,r⟩
 ·have hb:f.1≠a:=fun z=>nv (by rw [← z]; exact R.uV _ (R.fU f hf))
  rw [AQ hb]; exact q
 ·rcases old j s q with ⟨rfl,rfl⟩ | ⟨hj,q1⟩
  ·rw [ha]
   exact⟨a,rfl,m,nv,h⟩
  ·have q2:=R.sl j s q1
   cases s with
   | no=>trivial
   | sh d=>obtain⟨v,e1,h1⟩:=q2; exact⟨v,e1,h1.pres pr⟩
   | br d =>
    obtain⟨v,e1,h1⟩:=q2
    refine⟨v,e1,h1.same pr (fun b o' z q=>?_) fun _ _ z=>z⟩
    subst z
    obtain⟨o3,w⟩:=R.br0 j d b q1 e1
    rw [AQ (fun z=>by rw [z,h0] at w; cases w)]
    exact q
   | fd=>exact q2
   | ow d =>
    obtain⟨b,e1,h1,h2,h3⟩:=q2
    exact⟨b,e1,h1,h2,h3.pres pr fun o' w=>by rw [AQ (far j _ b hj q1 rfl e1)]; exact w⟩
   | lt b d =>
    obtain⟨e1,h1,h2,h3⟩:=q2
    exact⟨e1,h1,h2,h3.pres pr fun o' w=>by rw [AQ (far j _ b hj q1 rfl e1)]; exact w⟩
 ·rcases old j _ q with ⟨_,e1⟩ | ⟨hj,q1⟩
  ·cases e1
  ·exact R.br0 j e2 b q1 q2
 ·rcases old j s q with ⟨rfl,_⟩ | ⟨hj,q1⟩
  ·exact R.new j _ b hi rfl q2
  ·exact R.new j s b q1 o2 q2
 ·rcases old j s q1 with ⟨rfl,rfl⟩ | ⟨hj,p1⟩
  ·rcases old k t q2 with ⟨rfl,_⟩ | ⟨hk,p2⟩
   ·rfl
   ·exact R.two j k _ t b hi rfl p2 o2 z1 z2
  ·rcases old k t q2 with ⟨rfl,rfl⟩ | ⟨hk,p2⟩
   ·exact R.two j k s _ b p1 o1 hi rfl z1 z2
   ·exact R.two j k s t b p1 o1 p2 o2 z1 z2
 ·obtain⟨h1,h2,h3,h4⟩:=R.kept p hp
  have hb:p.1≠a:=fun z=>h4 i d hi (by rw [ha,z])
  refine⟨by rw [AQ hb]; exact h1,h2,h3,fun j e2 q=>?_⟩
  rcases old j _ q with ⟨rfl,_⟩ | ⟨hj,q1⟩
  ·exact h4 j d hi
  ·exact h4 j e2 q1
end
noncomputable abbrev DW:=Nat->List Slot->(D->Nat->Prop)->Prop
noncomputable abbrev G5:=Nat->List Slot->(Bool->Nat->Prop)->Prop
noncomputable abbrev FE:=Nat->List Slot->(List D->Nat->Prop)->Prop
noncomputable abbrev T5:=Nat->List Slot->(List Slot->Nat->Prop)->Prop
section
variable (X:Cx)
noncomputable def DE(e:Expr)(κ:Kd)(w:DW):Prop:=∃t,PE X e t/\∀(C:Fm) (M:Addr->Prop) (H:Hp) (n:Nat) (ρ:List Slot) (σ:L2.St) (P:D->Nat->Prop) (Q:VK),Rel X.K C M H n ρ σ->w n ρ P ->
 (∀v H' d n',Ext C.U H H'->FeedC X.K C.F M H' n'->VR X.K C.V M H H' κ v d->P d n'->Q v H')->t σ H Q
noncomputable def DT(e:Expr)(w:G5):Prop:=∃t,PT X e t/\∀(C:Fm) (M:Addr->Prop) (H:Hp) (n:Nat) (ρ:List Slot) (σ:L2.St) (P:Bool->Nat->Prop) (Q:Bool->Hp->Prop),Rel X.K C M H n ρ σ->w n ρ P ->
 (∀b H' n',Ext C.U H H'->FeedC X.K C.F M H' n'->P b n'->Q b H')->t σ H Q
noncomputable def DTW(e:Expr)(w:G5):Prop:=∃t,PW X e t/\∀(C:Fm) (M:Addr->Prop) (H:Hp) (n:Nat) (ρ:List Slot) (σ:L2.St) (P:Bool->Nat->Prop) (Q:Bool->Hp->Prop),Rel X.K C M H n ρ σ->w n ρ P ->
 (∀b H' n',Ext C.U H H'->FeedC X.K C.F M H' n'->P b n'->Q b H')->t σ H Q
noncomputable def T7(es:List Expr)(w:FE):Prop:=∃t,PA X es t/\∀(C:Fm) (M:Addr->Prop) (H:Hp) (n:Nat) (ρ:List Slot) (σ:L2.St) (P:List D->Nat->Prop) (Q:List V->Hp->Prop),Rel X.K C M H n ρ σ->w n ρ P ->
 (∀vs H' ds n',Ext C.U H H'->FeedC X.K C.F M H' n'->Paired (fun v d=>AtT X.K C.V M H' d v) vs ds->P ds n'->Q vs H')->t σ H Q
noncomputable def T6(es:List Expr)(w:FE):Prop:=∃t,PA X es t/\∀(C:Fm) (M:Addr->Prop) (H:Hp) (n:Nat) (ρ:List Slot) (σ:L2.St) (P:List D->Nat->Prop) (Q:List V->Hp->Prop),Rel X.K C M H n ρ σ->w n ρ P ->
 (∀vs H' ds n',Ext C.U H H'->FeedC X.K C.F M H' n'->Ats X.K M H' ds vs->P ds n'->Q vs H')->t σ H Q
noncomputable def JX(K:Frag)(F:Option (Addr×Addr))(V' M:Addr->Prop)(H:Hp)(v:V)(s:Slot):Prop:=SlotOk K F V' M H s (some v)/\s.owns=false
noncomputable def VQ(e:Expr)(w:Nat->List Slot->(Slot->Nat->Prop)->Prop):Prop:=∃t,PE X e t/\∀(C:Fm) (M:Addr->Prop) (H:Hp) (n:Nat) (ρ:List Slot) (σ:L2.St) (P:Slot->Nat->Prop) (Q:VK),Rel X.K C M H n ρ σ->w n ρ P ->
 (∀v H' s n',Ext C.U H H'->FeedC X.K C.F M H' n'->JX X.K C.F C.V M H' v s->P s n'->Q v H')->t σ H Q
noncomputable def U_(es:List Expr)(w:T5):Prop:=∃t,PA X es t/\∀(C:Fm) (M:Addr->Prop) (H:Hp) (n:Nat) (ρ:List Slot) (σ:L2.St) (P:List Slot->Nat->Prop) (Q:List V->Hp->Prop),Rel X.K C M H n ρ σ->w n ρ P ->
 (∀vs H' ss n',Ext C.U H H'->FeedC X.K C.F M H' n'->Paired (JX X.K C.F C.V M H') vs ss->P ss n'->Q vs H')->t σ H Q
end
noncomputable def AE(i:Nat):DW:=fun n ρ P=>match ρ[i]? with
 | some (.sh d)=>P d n
 | _=>False
noncomputable def Af(i:Nat):DW:=fun n ρ P=>match ρ[i]? with
 | some (.sh d)=>P d n
 | some (.br d)=>P d n
 | some (.ow d)=>P d n
 | some (.lt _ d)=>P d n
 | _=>False
noncomputable def wC(d:D):DW:=fun n _ P=>P d n
section
variable {X:Cx}{a b c e:Expr}{κ κa κb:Kd}{wa wb wc:DW}{pos:Pos}
theorem getD_some{σ:L2.St}{i:Nat}{v:V}(h:(σ[i]?).getD none=some v):σ[i]?=some (some v):=by
 cases q:σ[i]? with
 | none=>rw [q] at h; cases h
 | some o=>rw [q] at h; exact congrArg some h
theorem Rb{i:Nat}(h:PE X e (Bo i)):DE X e .sh (AE i):=by
 refine⟨_,h,fun C M H n ρ σ P Q R w q=>?_⟩
 unfold AE at w
 split at w
 ·rename_i d hd
  obtain⟨v,e1,h1⟩:=R.sl i _ hd
  exact⟨v,getD_some e1,q v H d n (Ext.refl _ _) R.feed h1 w⟩
 ·exact w.elim
theorem QN{i:Nat}(h:PE X e (Bo i)):DE X e .tp (Af i):=by
 refine⟨_,h,fun C M H n ρ σ P Q R w q=>?_⟩
 unfold Af at w
 split at w
 ·rename_i d hd
  obtain⟨v,e1,h1⟩:=R.sl i _ hd
  exact⟨v,getD_some e1,q v H d n (Ext.refl _ _) R.feed (At.tp R.vM h1) w⟩
 ·rename_i d hd
  obtain⟨v,e1,h1⟩:=R.sl i _ hd
  exact⟨v,getD_some e1,q v H d n (Ext.refl _ _) R.feed h1 w⟩
 ·rename_i d hd
  obtain⟨a,e1,_,h2,h3⟩:=R.sl i _ hd
  exact⟨.ref a,getD_some e1,q _ H d n (Ext.refl _ _) R.feed (h3.att h2) w⟩
 ·rename_i a d hd
  obtain⟨e1,_,h2,h3⟩:=R.sl i _ hd
  exact⟨.ref a,getD_some e1,q _ H d n (Ext.refl _ _) R.feed (h3.att h2) w⟩
 ·exact w.elim
theorem dv(i:Nat){x:Str}{pos:Pos}(hN:X.N[i]?=some x:=by rfl)(hv:Tv X.env.scope x:=by first | exact Or.inl rfl | exact Or.inr (Or.inl rfl) | exact Or.inr (Or.inr rfl))(hd:(x==("__debug__" : Str))=false:=by decide)
  (hcd:(x==("__classdict__" : Str))=false:=by decide):DE X (.Name x pos) .sh (AE i):=Rb (Jt hN hv hd hcd)
theorem EN(i:Nat){x:Str}{pos:Pos}(hN:X.N[i]?=some x:=by rfl)(hv:Tv X.env.scope x:=by first | exact Or.inl rfl | exact Or.inr (Or.inl rfl) | exact Or.inr (Or.inr rfl))(hd:(x==("__debug__" : Str))=false:=by decide)
  (hcd:(x==("__classdict__" : Str))=false:=by decide):DE X (.Name x pos) .tp (Af i):=QN (Jt hN hv hd hcd)
theorem Fa{d:D}{v:V}(h:PE X e (tC v))(hd:∀M H,At X.K M H d v):DE X e .sh (wC d) :=
 ⟨_,h,fun C M H n ρ σ P Q R w q=>q v H d n (Ext.refl _ _) R.feed (hd M H) w⟩
theorem AF{i:Int}{j pos}:DE X (.Constant (.int i) j pos) .sh (wC (.int i)):=Fa Au fun _ _=>rfl
theorem NP{b:Bool}{j pos}:DE X (.Constant (.bool b) j pos) .sh (wC (.bl b)):=Fa Ub fun _ _=>rfl
theorem BI{j pos}:DE X (.Constant .none j pos) .sh (wC .non):=Fa S5 fun _ _=>rfl
theorem BC{x:Str}{j pos}(hx:decide (x.length<=1000)=true:=by rfl):DE X (.Constant (.str x) j pos) .sh (wC (.str x)) :=
 Fa S4 fun _ _=>⟨rfl,Nat.le_trans (of_decide_eq_true hx) (by rw [sizeLine_eq]; decide)⟩
theorem DE.sh(h:DE X e κ wa)(hk:κ≠.tp:=by intro z; cases z):DE X e .sh wa:=by
 obtain⟨t,h1,h2⟩:=h
 exact⟨t,h1,fun C M H n ρ σ P Q R w q=>h2 C M H n ρ σ P Q R w fun v H' d n' e f r p=>q v H' d n' e f (r.shOf R.dom hk) p⟩
noncomputable def Fp(K:Frag)(κ:Kd)(r:R2)(f:D->D->(D->Prop)->Prop):Prop:=∀(U:Addr->Prop) (M:Addr->Prop) (H:Hp) (d e:D) (x y:V) (P:D->Prop) (Q:VK),(∀a,M a->∃o,H a=some o)->(∀a,U a->M a) ->
 AtT K U M H d x->AtT K U M H e y->f d e P->(∀v H' z,Grow H H'->VR K U M H H' κ v z->P z->Q v H')->r x y H Q
noncomputable def Ak(f:D->D->(D->Prop)->Prop)(wa wb:DW):DW:=fun n ρ P=>wa n ρ fun x n1=>wb n1 ρ fun y n2=>f x y fun z=>P z n2
theorem EQ{r:R2}{f:D->D->(D->Prop)->Prop}(hA:Fp X.K κ r f){ta tb:TE}(ha:∀(C:Fm) (M:Addr->Prop) (H:Hp) (n:Nat) (ρ:List Slot) (σ:L2.St) (P:D->Nat->Prop) (Q:VK),Rel X.K C M H n ρ σ->wa n ρ P ->
   (∀v H' d n',Ext C.U H H'->FeedC X.K C.F M H' n'->VR X.K C.V M H H' κa v d->P d n'->Q v H')->ta σ H Q)
  (hb:∀(C:Fm) (M:Addr->Prop) (H:Hp) (n:Nat) (ρ:List Slot) (σ:L2.St) (P:D->Nat->Prop) (Q:VK),Rel X.K C M H n ρ σ->wb n ρ P ->
   (∀v H' d n',Ext C.U H H'->FeedC X.K C.F M H' n'->VR X.K C.V M H H' κb v d->P d n'->Q v H')->tb σ H Q)
  (C:Fm) (M:Addr->Prop) (H:Hp) (n:Nat) (ρ:List Slot) (σ:L2.St) (P:D->Nat->Prop) (Q:VK) (R:Rel X.K C M H n ρ σ) (w:Ak f wa wb n ρ P)
  (q:∀v H' d n',Ext C.U H H'->FeedC X.K C.F M H' n'->VR X.K C.V M H H' κ v d->P d n'->Q v H'):DV r ta tb σ H Q:=by
 refine ha C M H n ρ σ _ _ R w fun x H1 d n1 e1 f1 r1 w1=>?_
 have R1:=R.step e1 f1
 refine hb C M H1 n1 ρ σ _ _ R1 w1 fun y H2 e n2 e2 f2 r2 w2=>?_
 have R2':=R1.step e2 f2
 refine hA C.V M H2 d e x y _ _ R2'.dom R2'.vM ((r1.tpOf R.dom R.vM).pres (R1.pres e2) e2 R.uV) (r2.tpOf R1.dom R1.vM) w2 fun v H3 z g vr p=>?_
 exact q v H3 z n2 ((e1.trans e2).trans g.ext) (f2.grow g) (VR.back (e1.trans e2) vr) p
theorem Ay{op:Operator}{r:R2}{f:D->D->(D->Prop)->Prop}(ho:OpR X (binaryOp op) r)(hA:Fp X.K κ r f)(ha:DE X a κa wa)(hb:DE X b κb wb):DE X (.BinOp a op b pos) κ (Ak f wa wb):=by
 obtain⟨ta,ha1,ha2⟩:=ha
 obtain⟨tb,hb1,hb2⟩:=hb
 exact⟨_,Bs ho ha1 hb1,fun C M H n ρ σ P Q R w q=>EQ hA ha2 hb2 C M H n ρ σ P Q R w q⟩
theorem A8{r:R2}{f:D->D->(D->Prop)->Prop}(ho:IxR X r)(hA:Fp X.K κ r f)(ha:DE X a κa wa)(hb:DE X b κb wb)(hs:Na b:=by intro _ _; rfl):DE X (.Subscript a b pos) κ (Ak f wa wb):=by
 obtain⟨ta,ha1,ha2⟩:=ha
 obtain⟨tb,hb1,hb2⟩:=hb
 exact⟨_,Dv ho ha1 hb1 hs,fun C M H n ρ σ P Q R w q=>EQ hA ha2 hb2 C M H n ρ σ P Q R w q⟩
theorem KS{op:CmpOp}{r:R2}{f:D->D->(D->Prop)->Prop}(ho:OpR X (compareOp op) r)(hA:Fp X.K .sh r f)(ha:DE X a κa wa)(hb:DE X b κb wb)(hm:behindInMarks op b=false):DE X (.Compare a [op] [b] pos) .sh (Ak f wa wb):=by
 obtain⟨ta,ha1,ha2⟩:=ha
 obtain⟨tb,hb1,hb2⟩:=hb
 exact⟨_,Q1 ho ha1 hb1 hm,fun C M H n ρ σ P Q R w q=>EQ hA ha2 hb2 C M H n ρ σ P Q R w q⟩
noncomputable def Am(w:DW):G5:=fun n ρ P=>w n ρ fun d n1=>match d with
 | .bl b=>P b n1
 | _=>False
theorem Mg{U:Addr->Prop}{K:Frag}{M:Addr->Prop}{H H':Hp}{v:V}{b:Bool}(h:VR K U M H H' κ v (.bl b)):v=.bl b:=by
 cases κ with
 | sh=>exact h
 | tp=>exact h
 | fr=>obtain⟨a,_,_,t⟩:=h; exact(show False from t).elim
theorem A0{op:CmpOp}{r:R2}{f:D->D->(D->Prop)->Prop}(ho:OpR X (compareOp op) r)(hA:Fp X.K .sh r f)(ha:DE X a κa wa)(hb:DE X b κb wb)(hm:behindInMarks op b=false):DT X (.Compare a [op] [b] pos) (Am (Ak f wa wb)):=by
 obtain⟨ta,ha1,ha2⟩:=ha
 obtain⟨tb,hb1,hb2⟩:=hb
 refine⟨_,FN ho ha1 hb1 hm,fun C M H n ρ σ P Q R w q=>?_⟩
 refine EQ hA ha2 hb2 C M H n ρ σ _ _ R w fun v H' d n' e f r p=>?_
 cases d with
 | bl b=>exact⟨b,Mg r,q b H' n' e f p⟩
 | _=>exact p.elim
theorem GI(h:DE X e κ wa)(he:∀whole,isTrue e X.env whole=(do let v ← whole; standAt e.pos; holding [v] (truthy v)):=by intro _; rfl):DT X e (Am wa):=by
 obtain⟨t,h1,h2⟩:=h
 refine⟨_,S0 h1 he,fun C M H n ρ σ P Q R w q=>?_⟩
 refine h2 C M H n ρ σ _ _ R w fun v H' d n' e f r p=>?_
 cases d with
 | bl b=>exact⟨b,Mg r,q b H' n' e f p⟩
 | _=>exact p.elim
noncomputable def Mc(u v:G5):G5:=fun n ρ P=>u n ρ fun c n1=>if c=true then v n1 ρ P else P false n1
noncomputable def Om(u v:G5):G5:=fun n ρ P=>u n ρ fun c n1=>if c=true then P true n1 else v n1 ρ P
noncomputable def GQ(u:G5):G5:=fun n ρ P=>u n ρ fun c n1=>P (!c) n1
variable {wA wB:G5}{rest:List Expr}
theorem NL(h:DT X a wA):DTW X (.BoolOp .And [a] pos) wA:=by
 obtain⟨t,h1,h2⟩:=h
 exact⟨t,Mo h1,h2⟩
theorem MR(h:DT X a wA):DTW X (.BoolOp .Or [a] pos) wA:=by
 obtain⟨t,h1,h2⟩:=h
 exact⟨t,Sz h1,h2⟩
theorem QH(ha:DT X a wA)(hb:DTW X (.BoolOp .And (b::rest) pos) wB):DTW X (.BoolOp .And (a::b::rest) pos) (Mc wA wB):=by
 obtain⟨t,h1,h2⟩:=ha
 obtain⟨u,g1,g2⟩:=hb
 refine⟨_,PM h1 g1,fun C M H n ρ σ P Q R w q=>?_⟩
 refine h2 C M H n ρ σ _ _ R w fun c H1 n1 e1 f1 p=>?_
 cases c with
 | false=>exact q false H1 n1 e1 f1 p
 | true=>exact g2 C M H1 n1 ρ σ P Q (R.step e1 f1) p fun b H2 n2 e2 f2 p2=>q b H2 n2 (e1.trans e2) f2 p2
theorem QG(ha:DT X a wA)(hb:DTW X (.BoolOp .Or (b::rest) pos) wB):DTW X (.BoolOp .Or (a::b::rest) pos) (Om wA wB):=by
 obtain⟨t,h1,h2⟩:=ha
 obtain⟨u,g1,g2⟩:=hb
 refine⟨_,Ua h1 g1,fun C M H n ρ σ P Q R w q=>?_⟩
 refine h2 C M H n ρ σ _ _ R w fun c H1 n1 e1 f1 p=>?_
 cases c with
 | true=>exact q true H1 n1 e1 f1 p
 | false=>exact g2 C M H1 n1 ρ σ P Q (R.step e1 f1) p fun b H2 n2 e2 f2 p2=>q b H2 n2 (e1.trans e2) f2 p2
theorem DTW.dt(h:DTW X e wA):DT X e wA:=by
 obtain⟨t,h1,h2⟩:=h
 exact⟨t,h1.pt,h2⟩
theorem Hz(ha:DT X a wA):DT X (.UnaryOp .Not a pos) (GQ wA):=by
 obtain⟨t,h1,h2⟩:=ha
 refine⟨_,S1 h1,fun C M H n ρ σ P Q R w q=>?_⟩
 exact h2 C M H n ρ σ _ _ R w fun c H1 n1 e1 f1 p=>q (!c) H1 n1 e1 f1 p
noncomputable def AN:FE:=fun n _ P=>P [] n
noncomputable def AB(w:DW)(ws:FE):FE:=fun n ρ P=>w n ρ fun d n1=>ws n1 ρ fun ds n2=>P (d::ds) n2
variable {es:List Expr}{ws:FE}
theorem Ac:T7 X [] AN:=⟨_,CV,fun C M H n ρ σ P Q R w q=>q [] H [] n (Ext.refl _ _) R.feed .nil w⟩
theorem AI:T6 X [] AN:=⟨_,CV,fun C M H n ρ σ P Q R w q=>q [] H [] n (Ext.refl _ _) R.feed rfl w⟩
theorem AS(ha:DE X e κ wa)(hr:T7 X es ws)(hs:starEach (e::es) X.env=(false,eval e X.env)::starEach es X.env:=by rfl):T7 X (e::es) (AB wa ws):=by
 obtain⟨t,h1,h2⟩:=ha
 obtain⟨u,g1,g2⟩:=hr
 refine⟨_,BY h1 g1 hs,fun C M H n ρ σ P Q R w q=>?_⟩
 refine h2 C M H n ρ σ _ _ R w fun v H1 d n1 e1 f1 r1 p=>?_
 have R1:=R.step e1 f1
 refine g2 C M H1 n1 ρ σ _ _ R1 p fun vs H2 ds n2 e2 f2 r2 p2=>?_
 exact q (v::vs) H2 (d::ds) n2 (e1.trans e2) f2 (.cons ((r1.tpOf R.dom R.vM).pres (R1.pres e2) e2 R.uV) r2) p2
theorem AA(ha:DE X e κ wa)(hr:T6 X es ws)(hk:κ≠.tp:=by intro z; cases z)(hs:starEach (e::es) X.env=(false,eval e X.env)::starEach es X.env:=by rfl):T6 X (e::es) (AB wa ws):=by
 obtain⟨t,h1,h2⟩:=ha
 obtain⟨u,g1,g2⟩:=hr
 refine⟨_,BY h1 g1 hs,fun C M H n ρ σ P Q R w q=>?_⟩
 refine h2 C M H n ρ σ _ _ R w fun v H1 d n1 e1 f1 r1 p=>?_
 have R1:=R.step e1 f1
 refine g2 C M H1 n1 ρ σ _ _ R1 p fun vs H2 ds n2 e2 f2 r2 p2=>?_
 exact q (v::vs) H2 (d::ds) n2 (e1.trans e2) f2 ⟨v,vs,rfl,(r1.shOf R.dom hk).pres (R1.pres e2),r2⟩ p2
noncomputable def Az(ws:FE):DW:=fun n ρ P=>ws n ρ fun ds n1=>ds.length<=sizeLine/\P (.tup ds) n1
noncomputable def B7(ws:FE):DW:=fun n ρ P=>ws n ρ fun ds n1=>ds.length<=sizeLine/\P (.lst ds) n1
theorem FA{M:Addr->Prop}{H:Hp}{p:Addr}{o:HO}(h:H p=none):Pres M H (fun b=>M b\/b=p) (A9 H p o):=⟨fun b u e _=>by rw [AQ (Al e h)]; exact e,fun b z=>z.elim .inl fun z=>.inr (by rw [z]; exact h)⟩
theorem A1{H:Hp}{p:Addr}{o:HO}(h:H p=none):Grow H (A9 H p o):=.inr ⟨p,o,h,rfl⟩
theorem AX{x1}(h:T6 X es ws):DE X (.Tuple es x1 pos) .sh (Az ws):=by
 obtain⟨t,h1,h2⟩:=h
 refine⟨_,S3 h1,fun C M H n ρ σ P Q R w q=>?_⟩
 refine h2 C M H n ρ σ _ _ R w fun vs H1 ds n1 e1 f1 r1 p=>?_
 refine⟨by rw [r1.length]; exact p.1,fun a ha=>?_⟩
 have g:Grow H1 (A9 H1 a (.tup vs)):=A1 ha
 refine q _ _ (.tup ds) n1 (e1.trans g.ext) (f1.grow g) ⟨a,vs,rfl,⟨fun z=>?_,AV⟩,r1.pres g.pres⟩ p.2
 obtain⟨o,z⟩:=(R.step e1 f1).dom a z
 rw [ha] at z; cases z
theorem A2(h:T6 X es ws):DE X (.List es pos) .fr (B7 ws):=by
 obtain⟨t,h1,h2⟩:=h
 refine⟨_,MA h1,fun C M H n ρ σ P Q R w q=>?_⟩
 refine h2 C M H n ρ σ _ _ R w fun vs H1 ds n1 e1 f1 r1 p=>?_
 refine⟨by rw [r1.length]; exact p.1,fun a ha=>?_⟩
 have g:Grow H1 (A9 H1 a (.lst vs)):=A1 ha
 exact q _ _ (.lst ds) n1 (e1.trans g.ext) (f1.grow g) (VR.back e1 ⟨a,rfl,ha,vs,AV,r1.pres (FA ha)⟩) p.2
noncomputable def DP(K:Frag)(κ:Kd)(r:List V->Hp->VK->Prop)(f:List D->(D->Prop)->Prop):Prop:=∀(U:Addr->Prop) (M:Addr->Prop) (H:Hp) (ds:List D) (vs:List V) (P:D->Prop) (Q:VK),(∀a,M a->∃o,H a=some o)->(∀a,U a->M a) ->
 Paired (fun v d=>AtT K U M H d v) vs ds->f ds P->(∀v H' z,Grow H H'->VR K U M H H' κ v z->P z->Q v H')->r vs H Q
noncomputable def C1(f:List D->(D->Prop)->Prop)(ws:FE):DW:=fun n ρ P=>ws n ρ fun ds n1=>f ds fun z=>P z n1
theorem SL{r:List V->Hp->VK->Prop}{f:List D->(D->Prop)->Prop}{t:TA}(hA:DP X.K κ r f)(h2:∀(C:Fm) (M:Addr->Prop) (H:Hp) (n:Nat) (ρ:List Slot) (σ:L2.St) (P:List D->Nat->Prop) (Q:List V->Hp->Prop),Rel X.K C M H n ρ σ->ws n ρ P ->
   (∀vs H' ds n',Ext C.U H H'->FeedC X.K C.F M H' n'->Paired (fun v d=>AtT X.K C.V M H' d v) vs ds->P ds n'->Q vs H')->t σ H Q)
  (C:Fm) (M:Addr->Prop) (H:Hp) (n:Nat) (ρ:List Slot) (σ:L2.St) (P:D->Nat->Prop) (Q:VK) (R:Rel X.K C M H n ρ σ) (w:C1 f ws n ρ P)
  (q:∀v H' d n',Ext C.U H H'->FeedC X.K C.F M H' n'->VR X.K C.V M H H' κ v d->P d n'->Q v H'):VC r t σ H Q:=by
 refine h2 C M H n ρ σ _ _ R w fun vs H1 ds n1 e1 f1 r1 p=>?_
 have R1:=R.step e1 f1
 refine hA C.V M H1 ds vs _ _ R1.dom R1.vM r1 p fun v H2 z g vr pz=>?_
 exact q v H2 z n1 (e1.trans g.ext) (f1.grow g) (VR.back e1 vr) pz
theorem Ao{x:Str}{id:String}{p:Pos}{r:List V->Hp->VK->Prop}{f:List D->(D->Prop)->Prop}(hc:Ck X (.builtin id) r)(hA:DP X.K κ r f)(hg:Gl X x)(hm:X.mg x=none)(hv:bootBuiltins x=some (.builtin id))(ha:T7 X (e::es) ws)
  (hn:x ≠ "__name__":=by decide) (hdb:(x==("__debug__" : Str))=false:=by decide)
  (he:starEach (e::es) X.env=(false,eval e X.env)::starEach es X.env:=by rfl) (hpl:(backTo pos (starEach es X.env)).any (·.1)=false:=by rfl):DE X (.Call (.Name x p) (e::es) [] pos) κ (C1 f ws):=by
 obtain⟨t,h1,h2⟩:=ha
 exact⟨_,FP hc hg hm hv h1 hn hdb he hpl,fun C M H n ρ σ P Q R w q=>SL hA h2 C M H n ρ σ P Q R w q⟩
theorem CI{x:Str}{T:String}{p:Pos}{r:List V->Hp->VK->Prop}{f:List D->(D->Prop)->Prop}(hc:Ck X (.type T) r)(hA:DP X.K κ r f)(hg:Gl X x)(hm:X.mg x=none)(hv:bootBuiltins x=some (.type T))(ha:T7 X (e::es) ws)
  (hn:x ≠ "__name__":=by decide) (hdb:(x==("__debug__" : Str))=false:=by decide)
  (he:starEach (e::es) X.env=(false,eval e X.env)::starEach es X.env:=by rfl) (hpl:(backTo pos (starEach es X.env)).any (·.1)=false:=by rfl):DE X (.Call (.Name x p) (e::es) [] pos) κ (C1 f ws):=by
 obtain⟨t,h1,h2⟩:=ha
 exact⟨_,Iz hc hg hm hv h1 hn hdb he hpl,fun C M H n ρ σ P Q R w q=>SL hA h2 C M H n ρ σ P Q R w q⟩
end
end Dp
namespace L2
open PySem PySem.Spec PyProof.Rows
noncomputable def Vz(z:Str):It:=⟨fun i _=>i<z.cps.size,fun i H x H'=>H'=H/\∃c,z.cps[i]?=some c/\x=.str ⟨#[c]⟩,fun i _=>z.cps.size<=i⟩
theorem Kl{P:Program}{w:World}{K:Frag}{tg:Expr}(it:Addr)(z:Str)(t:Tok)(ty:String)(hty:ty = "str_ascii_iterator"\/ty = "str_iterator")
  (W:∀A':Around,A'.handled=none->Walks P w A' it [it] [it] z.cps.size (SignAt z) (fun i h=>h.IsStrIter it ty z t i)):Turn P w K tg (Vz z) [it] it (fun i h=>h.IsStrIter it ty z t i) where
 mem:=by simp
 obj:=fun i h st b hb=>by
  have e:b=it:=by simpa using hb
  subst e
  obtain⟨o,e,c,d⟩:=st
  exact⟨o,e,fun v z=>by rw [d] at z; cases z⟩
 keep:=fun i h h' st k=>let ⟨o,ho,r⟩:=st; ⟨o,k it (by simp) o ho,r⟩
 item:=by
  intro X hP hw hK hc i pins s σ H E I hf st hg
  subst hP hw hK
  obtain⟨f0,f1,f2,f3,f4,f5⟩:=hf it (by simp)
  refine(W X.A (I.ok.hd hc)).item i s _ _ hg st fun v h' tk hv st' kk=>?_
  obtain⟨c,u,hcu,rfl⟩:=hv
  have I1:Inv X pins σ H { s with heap:=h',toks:=tk }:=I.turned (fun b o hb e=>kk b o (by simpa using hb) e) f0 f1 f3 f4 f5
  obtain⟨o,e,cc,d⟩:=id st'
  exact⟨_,rfl,ND (s:={ s with heap:=h',toks:=tk }) e cc d (by rcases hty with rfl | rfl <;> decide) ⟨.str ⟨#[c]⟩,H,I1,⟨_,rfl⟩,⟨rfl,c,hcu,rfl⟩,st',fun b hb=>(hf b hb).1⟩⟩
 done:=by
  intro X hP hw hK hc i pins s σ H E I hf st hg
  subst hP hw hK
  obtain⟨f0,f1,f2,f3,f4,f5⟩:=hf it (by simp)
  have hx:z.cps[i]?=none:=by
   have:z.cps.size<=i:=hg
   simp [this]
  rcases hty with rfl | rfl
  ·exact wpAny_pyNext_ascii_end (I.ok.hd hc) st hx fun h' eb=>⟨rfl,I.turned (t':=s.toks) (fun b o hb e=>eb b o hb e) f0 f1 f3 f4 f5⟩
  ·exact wpAny_pyNext_wide_end (I.ok.hd hc) st hx fun h' eb=>⟨rfl,I.turned (t':=s.toks) (fun b o hb e=>eb b o hb e) f0 f1 f3 f4 f5⟩
 self:=fun A i s Q E st h=>by
  rcases hty with rfl | rfl
  ·exact wpAny_pyIter_striter_ascii st h
  ·exact wpAny_pyIter_striter_wide st h
section
variable {X:Cx}{tg:Expr}
noncomputable def Vk(K:Frag)(tl:TE):TI:=fun σ H R=>tl σ H fun x H1 =>
 (∃a,x=.ref a/\(∃xs,SqL K H1 a xs)/\R (V0 K a) H1)\/(∃a,x=.ref a/\(∃xs,SqT K H1 a xs)/\R (T4 K a) H1)\/∃z,x=.str z/\R (Vz z) H1
theorem L9{l:Expr}{tl:TE}(hl:PE X l tl):PI X tg l (Vk X.K tl):=by
 intro pins s σ H R I h
 refine BX (hl pins s σ H _ I h) fun v s1 ⟨x,H1,I1,r1,q1⟩=>?_
 have hne:∀b,b∈[s1.heap.objs.size]->Fo X pins H1 b:=fun b hb=>by
  have e:b=s1.heap.objs.size:=by simpa using hb
  subst e
  exact I1.fpOk (Nat.le_refl _) (I1.hok.fresh (Nat.le_refl _))
 rcases q1 with ⟨a,e,⟨xs,hq⟩,q⟩ | ⟨a,e,⟨xs,hq⟩,q⟩ | ⟨z,e,q⟩
 ·subst e
  cases r1
  obtain⟨its,rv,p,hz⟩:=I1.list hq
  refine wpAny_pyIter_list p.isList ?_
  exact⟨s1.heap.objs.size,[s1.heap.objs.size],_,_,H1,rfl,I1.kept (t':=s1.toks) fun b o e=>Heap.get?_push_of_some _ e,Nd a _,⟨_,Heap.get?_push_size _ rfl,rfl,rfl⟩,hne,q⟩
 ·subst e
  cases r1
  obtain⟨its,rv,p,hz⟩:=I1.tuple hq
  refine wpAny_pyIter_tuple (show s1.heap.IsTuple a its.toArray from p) ?_
  exact⟨s1.heap.objs.size,[s1.heap.objs.size],_,_,H1,rfl,I1.kept (t':=s1.toks) fun b o e=>Heap.get?_push_of_some _ e,HA a _,⟨_,Heap.get?_push_size _ rfl,rfl,rfl⟩,hne,q⟩
 ·subst e
  obtain⟨t,rfl⟩:=r1
  cases ha:z.cps.all (·<128)
  ·refine wpAny_pyIter_wide ha ?_
   exact⟨s1.heap.objs.size,[s1.heap.objs.size],_,_,H1,rfl,I1.kept (t':=s1.toks) fun b o e=>Heap.get?_push_of_some _ e,Kl _ z t "str_iterator" (.inr rfl) (fun A' hA=>Walks.strWide hA _ z t),⟨_,Heap.get?_push_size _ rfl,rfl,rfl⟩,hne,q⟩
  ·refine wpAny_pyIter_ascii ha ?_
   exact⟨s1.heap.objs.size,[s1.heap.objs.size],_,_,H1,rfl,I1.kept (t':=s1.toks) fun b o e=>Heap.get?_push_of_some _ e,Kl _ z t "str_ascii_iterator" (.inl rfl) (fun A' hA=>Walks.strAscii hA _ z t),⟨_,Heap.get?_push_size _ rfl,rfl,rfl⟩,hne,q⟩
end
section
variable {X:Cx}
theorem IU(bs:List Bool):((List.range bs.length).all fun i=>(bs[i]?).getD true)=bs.all id:=by
 induction bs with
 | nil=>rfl
 | cons b r ih =>
  rw [List.length_cons,List.range_succ_eq_map,List.all_cons,List.all_map,List.all_cons]
  simp only [List.getElem?_cons_zero,Option.getD_some,id_eq]
  congr 1
theorem QT(hc:X.calm=true):Ck X (.builtin "all") (fun xs H Q=>∃(p:Addr) (bs:List Bool),xs=[.ref p]/\SqL X.K H p (bs.map V.bl)/\Q (.bl (bs.all id)) H):=by
 intro pins s σ H xs us Q I r h
 obtain⟨p,bs,rfl,hq,q⟩:=h
 obtain⟨u,rfl,rx⟩:=vals1 r
 cases rx
 obtain⟨its,r',pl,hz⟩:=I.list hq
 have hlen:=r'.length
 have hl:s.heap.IsList p its.toArray:=pl.isList
 have hlt:p<s.heap.objs.size:=by obtain⟨_,e,_⟩:=id hl; exact Heap.lt_size e
 refine call_all_walk (wpAny_pyIter_list hl ?_)
 refine⟨s.heap.objs.size,[s.heap.objs.size,p],[s.heap.objs.size],its.toArray.size,_,_,fun i=>(bs[i]?).getD true,rfl,Walks.list (A:=X.A.in1) (I.ok.hd hc) _ p (Nat.ne_of_lt hlt) its.toArray,
  ⟨⟨_,Heap.get?_push_size _ rfl,rfl,rfl⟩,hl.push _⟩,fun i v s' Q' E' hP hQ=>?_,fun h' tk hk=>?_⟩
 ·have hv:its[i]?=some v:=by simpa using hP
  have hb:∃b,bs[i]?=some b:=by
   have hi:i<its.length:=(List.getElem?_eq_some_iff.mp hv).1
   rw [List.length_map] at hlen
   exact⟨bs[i]'(by omega),List.getElem?_eq_getElem (by omega)⟩
  obtain⟨b,eb⟩:=hb
  obtain⟨u,eu,ru⟩:=r'.get (i:=i) (x:=.bl b) (by rw [List.getElem?_map,eb]; rfl)
  rw [hv] at eu
  cases eu
  cases ru
  simp only [eb,Option.getD_some] at hQ
  exact wpAny_truthy_bool hQ
 ·have e:((List.range its.toArray.size).all fun i=>(bs[i]?).getD true)=bs.all id:=by
   rw [List.size_toArray,← hlen,List.length_map]; exact IU bs
  rw [e]
  exact⟨.bl _,H,I.kept (t':=tk) fun b x e=>hk b x (fun hm=>by rw [List.mem_singleton.mp hm] at e; exact Nat.lt_irrefl _ (Heap.lt_size e)) (Heap.get?_push_of_some _ e),rfl,q⟩
theorem LW:Ck X (.builtin "isinstance") (fun xs H Q=>∃x T t b,xs=[x,.ty T]/\FD X.K H x t/\PySem.W.kitOne X.K t (.type T)=some b/\Q (.bl b) H):=by
 intro pins s σ H xs us Q I r h
 obtain⟨x,T,t,b,rfl,ty,e,q⟩:=h
 obtain⟨u,w',rfl,rx,rt⟩:=vals2 r
 cases rt
 exact ON I rx ty e fun tk=>⟨.bl b,H,I.tok _,rfl,q⟩
theorem Nx:OpR X (compareOp .LtE) (fun x y H Q=>∃i j,x=.str i/\y=.str j/\Q (.bl (!(j.cps.toList<i.cps.toList))) H):=by
 intro pins s σ H x y v u Q I rx ry h
 obtain⟨i,j,rfl,rfl,q⟩:=h
 obtain⟨t,rfl⟩:=rx
 obtain⟨t',rfl⟩:=ry
 exact PySem.P.le_str ⟨.bl _,H,I,rfl,q⟩
theorem Lw{ys:List Str}:∀{us:List Value},Vals (ys.map V.str) us->StrsAre us ys:=by
 induction ys with
 | nil=>intro us r; rw [List.map_nil] at r; cases r; exact .nil
 | cons n ns ih =>
  intro us r
  rw [List.map_cons] at r
  cases r with
  | cons r1 r2 =>
   obtain⟨t,e⟩:=r1
   subst e
   exact .cons n t (ih r2)
theorem Sq:SlR X (fun x lo hi H Q=>∃z,x=.str z/\z.length<=sizeLine/\Q (.str (Txt.slice z lo hi)) H):=by
 intro pins s σ H x v vl vu lo hi sl Q I rx hs pl pu h
 obtain⟨z,rfl,hz,q⟩:=h
 obtain⟨t,rfl⟩:=rx
 refine⟨"str",_,F.slot_str_getitem.lookup,typeIs_str _ _ _,?_⟩
 have fin:∀t' k,EP X pins σ Q (.str (Txt.slice z lo hi) t') { s with toks:=k }:=fun t' k=>⟨.str _,H,I.tok _,⟨_,rfl⟩,q⟩
 cases pl with
 | none =>
  cases pu with
  | none=>exact wpAny_getItem_str_slice (l:=none) (u:=none) (st:=none) hs rfl (post_val_or_str ⟨Nat.le_trans (Txt.slice_le z _ _) hz,fun t' k=>fin t' k⟩)
  | int j tj=>exact wpAny_getItem_str_slice (l:=none) (u:=some (j,tj)) (st:=none) hs rfl (post_val_or_str ⟨Nat.le_trans (Txt.slice_le z _ _) hz,fun t' k=>fin t' k⟩)
 | int i ti =>
  cases pu with
  | none=>exact wpAny_getItem_str_slice (l:=some (i,ti)) (u:=none) (st:=none) hs rfl (post_val_or_str ⟨Nat.le_trans (Txt.slice_le z _ _) hz,fun t' k=>fin t' k⟩)
  | int j tj=>exact wpAny_getItem_str_slice (l:=some (i,ti)) (u:=some (j,tj)) (st:=none) hs rfl (post_val_or_str ⟨Nat.le_trans (Txt.slice_le z _ _) hz,fun t' k=>fin t' k⟩)
theorem Nv(hu:X.A.units<cLine):OpR X (compareOp .NotEq) (fun x y H Q=>∃a b xs,x=.ref a/\y=.ref b/\SqL X.K H a xs/\SqL X.K H b []/\Q (.bl (!xs.isEmpty)) H):=by
 intro pins s σ H x y v u Q I rx ry h
 obtain⟨a,b,xs,rfl,rfl,ha,hb,q⟩:=h
 cases rx
 cases ry
 obtain⟨its,r1,p1,_⟩:=I.list ha
 obtain⟨its2,r2,p2,_⟩:=I.list hb
 cases r2
 cases r1 with
 | nil=>exact SeqAt.RcNeAt.lists (e:=fun _=>true) p1.isList p2.isList rfl hu (fun j h1 h2=>absurd h1 (by simp)) X.prog X.w X.xe _ ⟨.bl _,H,I,rfl,q⟩
 | cons r1 r2=>exact SeqAt.RcNeAt.lists_lengths p1.isList p2.isList (by simp) hu X.prog X.w X.xe _ ⟨.bl _,H,I,rfl,q⟩
end
end L2
namespace Dp
open PySem PySem.Spec PyProof.Rows L2
noncomputable def U4(K:Frag)(F:Option (Addr×Addr))(U V' M:Addr->Prop)(H:Hp)(n:Nat)(ss:List Slot)(vs:List V):Prop :=
 (∀a,M a->∃o,H a=some o)/\(∀f,F=some f->U f.1)/\(∀a,U a->V' a)/\(∀a,V' a->M a)/\FeedC K F M H n/\Paired (JX K F V' M H) vs ss
noncomputable abbrev W2:=List Slot->Nat->(D->Nat->Prop)->Prop
noncomputable def EB(K:Frag)(κ:Kd)(W:W2)(np:Nat):Sp:=fun vs H Q _=>vs.length=np/\∃(F:Option (Addr×Addr)) (U V' M:Addr->Prop) (n:Nat) (ss:List Slot) (P:D->Nat->Prop),U4 K F U V' M H n ss vs/\W ss n P /\
 ∀v H' d n',Ext U H H'->FeedC K F M H' n'->VR K V' M H H' κ v d->P d n'->Q v H'
noncomputable def AK(w:DW):Nat->List Slot->(Slot->Nat->Prop)->Prop:=fun n ρ P=>w n ρ fun d n1=>P (.sh d) n1
noncomputable def Bp(w:DW):Nat->List Slot->(Slot->Nat->Prop)->Prop:=fun n ρ P=>w n ρ fun d n1=>P (.br d) n1
noncomputable def Ar(i:Nat):Nat->List Slot->(Slot->Nat->Prop)->Prop:=fun n ρ P=>match ρ[i]? with
 | some .fd=>P .fd n
 | _=>False
noncomputable def AT:T5:=fun n _ P=>P [] n
noncomputable def AD(w:Nat->List Slot->(Slot->Nat->Prop)->Prop)(ws:T5):T5:=fun n ρ P=>w n ρ fun s n1=>ws n1 ρ fun ss n2=>P (s::ss) n2
noncomputable def AR(W:W2)(was:T5):DW:=fun n ρ P=>was n ρ fun ss n1=>W ss n1 P
section
variable {X:Cx}{a b c e:Expr}{es:List Expr}{κ κa κb:Kd}{wa wb wc:DW}{pos:Pos}{w1:Nat->List Slot->(Slot->Nat->Prop)->Prop}{was:T5}{ws:FE}
theorem AO(h:DE X e κ wa)(hk:κ≠.tp:=by intro z; cases z):VQ X e (AK wa):=by
 obtain⟨t,h1,h2⟩:=h
 refine⟨t,h1,fun C M H n ρ σ P Q R w q=>h2 C M H n ρ σ _ _ R w fun v H' d n' e f r p=>?_⟩
 exact q v H' (.sh d) n' e f ⟨⟨v,rfl,r.shOf R.dom hk⟩,rfl⟩ p
theorem Ex(h:DE X e κ wa):VQ X e (Bp wa):=by
 obtain⟨t,h1,h2⟩:=h
 refine⟨t,h1,fun C M H n ρ σ P Q R w q=>h2 C M H n ρ σ _ _ R w fun v H' d n' e f r p=>?_⟩
 exact q v H' (.br d) n' e f ⟨⟨v,rfl,r.tpOf R.dom R.vM⟩,rfl⟩ p
theorem A4(i:Nat){x:Str}{pos:Pos}(hN:X.N[i]?=some x:=by rfl)(hv:Tv X.env.scope x:=by first | exact Or.inl rfl | exact Or.inr (Or.inl rfl) | exact Or.inr (Or.inr rfl))(hd:(x==("__debug__" : Str))=false:=by decide)
  (hcd:(x==("__classdict__" : Str))=false:=by decide):VQ X (.Name x pos) (Ar i):=by
 refine⟨_,Jt hN hv hd hcd,fun C M H n ρ σ P Q R w q=>?_⟩
 unfold Ar at w
 split at w
 ·rename_i hd
  obtain⟨f,e1,h1⟩:=R.sl i _ hd
  exact⟨.ref f.1,getD_some e1,q _ H .fd n (Ext.refl _ _) R.feed ⟨⟨f,rfl,h1⟩,rfl⟩ w⟩
 ·exact w.elim
theorem AM:U_ X [] AT:=⟨_,CV,fun C M H n ρ σ P Q R w q=>q [] H [] n (Ext.refl _ _) R.feed .nil w⟩
theorem AC(ha:VQ X e w1)(hr:U_ X es was)(hs:starEach (e::es) X.env=(false,eval e X.env)::starEach es X.env:=by rfl):U_ X (e::es) (AD w1 was):=by
 obtain⟨t,h1,h2⟩:=ha
 obtain⟨u,g1,g2⟩:=hr
 refine⟨_,BY h1 g1 hs,fun C M H n ρ σ P Q R w q=>?_⟩
 refine h2 C M H n ρ σ _ _ R w fun v H1 d n1 e1 f1 r1 p=>?_
 have R1:=R.step e1 f1
 refine g2 C M H1 n1 ρ σ _ _ R1 p fun vs H2 ds n2 e2 f2 r2 p2=>?_
 exact q (v::vs) H2 (d::ds) n2 (e1.trans e2) f2 (.cons ⟨r1.1.pres (R1.pres e2) (fun _ z=>z) e2 R.uV,r1.2⟩ r2) p2
theorem Rg{k:Nat}{f:Addr}{fd:FuncData}{ps:List Str}{W:W2}{x:Str}{p:Pos}(G:BG X.prog X.w X.K X.mg X.base C0 k f fd ps (EB X.K κ W ps.length))(hW:∀ss n P,W ss n P->ss.length=ps.length)
  (hr:Room k X.A) (hg:Gl X x) (hm:X.mg x=some (.ref f)) (hk:keepIn X.K (.ref f)=true) (hb:Binds X.K fd ps []) (ha:U_ X (e::es) was)
  (hdb:(x==("__debug__" : Str))=false:=by decide) (he:starEach (e::es) X.env=(false,eval e X.env)::starEach es X.env:=by rfl) (hpl:(backTo pos (starEach es X.env)).any (·.1)=false:=by rfl) :
  DE X (.Call (.Name x p) (e::es) [] pos) κ (AR W was):=by
 obtain⟨t,h1,h2⟩:=ha
 refine⟨_,Mx G hr hg hm hk hb .nil SE h1 hdb he hpl,fun C M H n ρ σ P Q R w q=>?_⟩
 refine h2 C M H n ρ σ _ _ R w fun vs H1 ss n1 e1 f1 r1 p=>?_
 have R1:=R.step e1 f1
 show EB X.K κ W ps.length (vs++[]) H1 Q E0
 rw [List.append_nil]
 refine⟨(Paired.length r1).trans (hW _ _ _ p),C.F,C.U,C.V,M,n1,ss,P,⟨R1.dom,R1.fU,R1.uV,R1.vM,f1,r1⟩,p,fun v H2 d n2 e2 f2 r2 p2=>?_⟩
 exact q v H2 d n2 (e1.trans e2) f2 (VR.back e1 r2) p2
noncomputable def Vh(T:String)(d:D):Prop:=match d with
 | .str _=>T = "str"
 | .int _=>T = "int"
 | .lst _=>T = "list"
 | _=>False
theorem Px{T:String}{K:Frag}{U:Addr->Prop}{M:Addr->Prop}{H:Hp}{d:D}{x:V}(h:Vh T d)(hx:AtT K U M H d x):VS K T x H:=by
 cases d with
 | str z=>obtain⟨e,_⟩:=hx; subst e; exact h
 | int i=>cases (show x=.int i from hx); exact h
 | lst ds=>obtain⟨a,vs,e,_,hq,_⟩:=hx; subst e; exact .inl ⟨h,vs,.inl hq⟩
 | _=>exact(show False from h).elim
noncomputable def DO(X:Cx)(e:Option Expr)(w:Nat->List Slot->(Option Int->Nat->Prop)->Prop):Prop:=∃t,PO X e t/\∀(C:Fm) (M:Addr->Prop) (H:Hp) (n:Nat) (ρ:List Slot) (σ:L2.St) (P:Option Int->Nat->Prop) (Q:Option Int->Hp->Prop),Rel X.K C M H n ρ σ->w n ρ P ->
 (∀o H' n',Ext C.U H H'->FeedC X.K C.F M H' n'->P o n'->Q o H')->t σ H Q
noncomputable def DD:Nat->List Slot->(Option Int->Nat->Prop)->Prop:=fun n _ P=>P none n
noncomputable def GP(w:DW):Nat->List Slot->(Option Int->Nat->Prop)->Prop:=fun n ρ P=>w n ρ fun d n1=>match d with
 | .int i=>P (some i) n1
 | _=>False
theorem G2:DO X none DD:=⟨_,Mt,fun C M H n ρ σ P Q R w q=>q none H n (Ext.refl _ _) R.feed w⟩
theorem J7{U:Addr->Prop}{K:Frag}{M:Addr->Prop}{H H':Hp}{v:V}{i:Int}(h:VR K U M H H' κ v (.int i)):v=.int i:=by
 cases κ with
 | sh=>exact h
 | tp=>exact h
 | fr=>obtain⟨a,_,_,t⟩:=h; exact(show False from t).elim
theorem G1(h:DE X e κ wa):DO X (some e) (GP wa):=by
 obtain⟨t,h1,h2⟩:=h
 refine⟨_,Ms h1,fun C M H n ρ σ P Q R w q=>?_⟩
 refine h2 C M H n ρ σ _ _ R w fun v H1 d n1 e1 f1 r1 p=>?_
 cases d with
 | int i=>exact⟨i,J7 r1,q _ H1 n1 e1 f1 p⟩
 | _=>exact p.elim
noncomputable def V9(K:Frag)(κ:Kd)(r:V->Option Int->Option Int->Hp->VK->Prop)(f:D->Option Int->Option Int->(D->Prop)->Prop):Prop:=∀(U:Addr->Prop) (M:Addr->Prop) (H:Hp) (d:D) (x:V) (lo hi:Option Int) (P:D->Prop) (Q:VK),(∀a,M a->∃o,H a=some o)->(∀a,U a->M a) ->
 AtT K U M H d x->f d lo hi P->(∀v H' z,Grow H H'->VR K U M H H' κ v z->P z->Q v H')->r x lo hi H Q
noncomputable def SY(f:D->Option Int->Option Int->(D->Prop)->Prop)(w:DW)(wl wh:Nat->List Slot->(Option Int->Nat->Prop)->Prop):DW:=fun n ρ P=>w n ρ fun d n1=>wl n1 ρ fun lo n2=>wh n2 ρ fun hi n3=>f d lo hi fun z=>P z n3
theorem NO{lo hi:Option Expr}{p2:Pos}{r:V->Option Int->Option Int->Hp->VK->Prop}{f:D->Option Int->Option Int->(D->Prop)->Prop}{wl wh:Nat->List Slot->(Option Int->Nat->Prop)->Prop}(hr:SlR X r)(hA:V9 X.K κ r f)(he:DE X e κa wa)(hl:DO X lo wl)(hh:DO X hi wh) :
  DE X (.Subscript e (.Slice lo hi none p2) pos) κ (SY f wa wl wh):=by
 obtain⟨t,h1,h2⟩:=he
 obtain⟨u,g1,g2⟩:=hl
 obtain⟨u',k1,k2⟩:=hh
 refine⟨_,K3 hr h1 g1 k1,fun C M H n ρ σ P Q R w q=>?_⟩
 refine h2 C M H n ρ σ _ _ R w fun v H1 d n1 e1 f1 r1 p=>?_
 have R1:=R.step e1 f1
 have tv:=r1.tpOf R.dom R.vM
 refine g2 C M H1 n1 ρ σ _ _ R1 p fun lo H2 n2 e2 f2 p2=>?_
 have R2':=R1.step e2 f2
 refine k2 C M H2 n2 ρ σ _ _ R2' p2 fun hi H3 n3 e3 f3 p3=>?_
 have R3:=R2'.step e3 f3
 refine hA C.V M H3 d v lo hi _ _ R3.dom R3.vM ((tv.pres (R1.pres e2) e2 R.uV).pres (R2'.pres e3) e3 R.uV) p3 fun v H4 z g vr pz=>?_
 exact q v H4 z n3 (((e1.trans e2).trans e3).trans g.ext) (f3.grow g) (VR.back ((e1.trans e2).trans e3) vr) pz
end
structure E2 where
 nx:Nat->List Slot->Prop
 rt:D->Nat->Prop
 bk:Nat->List Slot->Prop:=fun _ _=>False
 ct:Nat->List Slot->Prop:=fun _ _=>False
noncomputable abbrev Ab:=E2->Nat->List Slot->Prop
structure Qe (K:Frag) (C:Fm) (κ:Kd) (D2:E2) (E:Ends):Prop where
 nx:∀M H n ρ σ,Rel K C M H n ρ σ->D2.nx n ρ->E.nx σ H
 rt:∀v H d n,Ext C.U C.H0 H->FeedC K C.F C.M0 H n->VR K C.V C.M0 C.H0 H κ v d->D2.rt d n->E.rt v H
 bk:∀M H n ρ σ,Rel K C M H n ρ σ->D2.bk n ρ->E.bk σ H
 ct:∀M H n ρ σ,Rel K C M H n ρ σ->D2.ct n ρ->E.ct σ H
noncomputable def DS(X:Cx)(κ:Kd)(st:Stmt)(w:Ab):Prop:=∃t,PS X st t/\∀(C:Fm) (M:Addr->Prop) (H:Hp) (n:Nat) (ρ:List Slot) (σ:L2.St) (D2:E2) (E:Ends),Rel X.K C M H n ρ σ->Qe X.K C κ D2 E->w D2 n ρ->t E σ H
noncomputable def Qf(X:Cx)(κ:Kd)(st:List Stmt)(w:Ab):Prop:=∃t,PSs X st t/\∀(C:Fm) (M:Addr->Prop) (H:Hp) (n:Nat) (ρ:List Slot) (σ:L2.St) (D2:E2) (E:Ends),Rel X.K C M H n ρ σ->Qe X.K C κ D2 E->w D2 n ρ->t E σ H
noncomputable def BB:Ab:=fun D2 n ρ=>D2.nx n ρ
noncomputable def Ag(u v:Ab):Ab:=fun D2 n ρ=>u { D2 with nx:=v D2 } n ρ
noncomputable def BA(w:DW):Ab:=fun D2 n ρ=>w n ρ fun d n1=>D2.rt d n1
noncomputable def Bq(t:G5)(u v:Ab):Ab:=fun D2 n ρ=>t n ρ fun c n1=>if c=true then u D2 n1 ρ else v D2 n1 ρ
noncomputable def BZ(i:Nat)(w:DW):Ab:=fun D2 n ρ=>w n ρ fun d n1=>D2.nx n1 (ρ.set i (.sh d))
section
variable {X:Cx}{κ κe:Kd}{st:Stmt}{rest:List Stmt}{u v:Ab}{wa:DW}{wA:G5}{e c:Expr}{pos:Pos}
theorem As:Qf X κ [] BB:=⟨_,Jq,fun C M H n ρ σ D2 E R L w=>L.nx M H n ρ σ R w⟩
theorem AG(h1:DS X κ st u)(h2:Qf X κ rest v):Qf X κ (st::rest) (Ag u v):=by
 obtain⟨t,a1,a2⟩:=h1
 obtain⟨t',b1,b2⟩:=h2
 refine⟨_,BF a1 b1,fun C M H n ρ σ D2 E R L w=>?_⟩
 exact a2 C M H n ρ σ { D2 with nx:=v D2 } { E with nx:=t' E } R ⟨fun M H n ρ σ R w=>b2 C M H n ρ σ D2 E R L w,L.rt,L.bk,L.ct⟩ w
theorem AL(h1:DS X κ st u):Qf X κ [st] u:=by
 obtain⟨t,a1,a2⟩:=h1
 exact⟨t,DJ a1,a2⟩
theorem Sv{K:Frag}{C:Fm}{M:Addr->Prop}{H H':Hp}{n n':Nat}{ρ:List Slot}{σ:L2.St}{D2:E2}{E:Ends}{d:D}{v:V}(R:Rel K C M H n ρ σ)(L:Qe K C κ D2 E)(e:Ext C.U H H')(f:FeedC K C.F M H' n')(r:VR K C.V M H H' κ v d)(hk:κ≠.tp)(p:D2.rt d n'):E.rt v H':=by
 have less:Pres M H' C.M0 H':=Pres.less R.sub
 refine L.rt v H' d n' (R.ext.trans e) (f.pres less fun _ _ _ z=>z) ?_ p
 cases κ with
 | sh=>exact At.pres less r
 | tp=>exact absurd rfl hk
 | fr =>
  have r':=VR.back (κ:=.fr) R.ext r
  obtain⟨a,e1,h1,h2⟩:=r'
  exact⟨a,e1,h1,h2.pres (Pres.less fun b z=>z.imp (R.sub b) id) fun _ z=>z⟩
theorem Ai(h:DE X e κ wa)(hk:κ≠.tp:=by intro z; cases z):DS X κ (.Return (some e) pos) (BA wa):=by
 obtain⟨t,a1,a2⟩:=h
 refine⟨_,E6 a1,fun C M H n ρ σ D2 E R L w=>?_⟩
 exact a2 C M H n ρ σ _ _ R w fun v H' d n' e1 f1 r1 p=>Sv R L e1 f1 r1 hk p
theorem BU{a b:List Stmt}(hc:DT X c wA)(ha:Qf X κ a u)(hb:Qf X κ b v):DS X κ (.If c a b pos) (Bq wA u v):=by
 obtain⟨t,a1,a2⟩:=hc
 obtain⟨t',b1,b2⟩:=ha
 obtain⟨t'',c1,c2⟩:=hb
 refine⟨_,PR a1 b1 c1,fun C M H n ρ σ D2 E R L w=>?_⟩
 refine a2 C M H n ρ σ _ _ R w fun b H1 n1 e1 f1 p=>?_
 cases b with
 | true=>exact b2 C M H1 n1 ρ σ D2 E (R.step e1 f1) L p
 | false=>exact c2 C M H1 n1 ρ σ D2 E (R.step e1 f1) L p
theorem Aq{i:Nat}{x:Str}{pos':Pos}(hN:X.N.Nodup)(hi:X.N[i]?=some x)(hx:Loc X.env.scope x)(he:DE X e κe wa)(hk:κe≠.tp:=by intro z; cases z)(hs:swapsWith e (some (.Name x pos')) pos.line X.env=pure false:=by rfl)
  (hf:X.fn x=true\/X.env.scope.names.lookup x=some .local:=by first | exact .inl rfl | exact .inr rfl | assumption):DS X κ (.Assign [.Name x pos'] e pos) (BZ i wa):=by
 obtain⟨t,a1,a2⟩:=he
 refine⟨_,EC hN hi hx a1 hs hf,fun C M H n ρ σ D2 E R L w=>?_⟩
 refine a2 C M H n ρ σ _ _ R w fun v H' d n' e1 f1 r1 p=>?_
 exact L.nx M H' n' _ _ ((R.step e1 f1).set (r1.shOf R.dom hk)) p
end
section
variable {X:Cx}{κ κe:Kd}{e:Expr}{wa:DW}{pos:Pos}
noncomputable def Ce(i:Nat)(w:DW):Ab:=fun D2 n ρ=>w n ρ fun d n1=>D2.nx n1 (ρ.set i (.ow d))
theorem Bn{i:Nat}{x:Str}{pos':Pos}(hN:X.N.Nodup)(hi:X.N[i]?=some x)(hx:Loc X.env.scope x)(he:DE X e .fr wa)(hs:swapsWith e (some (.Name x pos')) pos.line X.env=pure false:=by rfl)
  (hf:X.fn x=true\/X.env.scope.names.lookup x=some .local:=by first | exact .inl rfl | exact .inr rfl | assumption):DS X κ (.Assign [.Name x pos'] e pos) (Ce i wa):=by
 obtain⟨t,a1,a2⟩:=he
 refine⟨_,EC hN hi hx a1 hs hf,fun C M H n ρ σ D2 E R L w=>?_⟩
 refine a2 C M H n ρ σ _ _ R w fun v H' d n' e1 f1 r1 p=>?_
 obtain⟨a,rfl,h1,h2⟩:=r1
 exact L.nx _ H' n' _ _ (R.setOw e1 f1 h1 h2) p
noncomputable def Im(i:Nat):Ab:=fun D2 n ρ=>∃d,ρ[i]?=some (.ow d)/\D2.rt d n
theorem KO{x:Str}{p:Pos}(i:Nat)(h:PE X (.Name x p) (Bo i)):DS X .fr (.Return (some (.Name x p)) pos) (Im i):=by
 refine⟨_,E6 h,fun C M H n ρ σ D2 E R L ⟨d,hd,hw⟩=>?_⟩
 obtain⟨a,e1,m,nv,t⟩:=R.sl i _ hd
 refine⟨.ref a,getD_some e1,L.rt _ H d n R.ext (R.feed.pres (Pres.less R.sub) fun _ _ _ z=>z) ⟨a,rfl,(R.new i _ a hd rfl e1).2,?_⟩ hw⟩
 exact t.pres (Pres.less fun b z=>z.elim (R.sub b) fun z=>by rw [z]; exact m) fun _ z=>z
noncomputable def Rl(K:Frag)(r:V->List V->Hp->VK->Prop)(f:D->List D->(D->D->Prop)->Prop):Prop:=∀(M:Addr->Prop) (H:Hp) (a:Addr) (d:D) (ds:List D) (vs:List V) (P:D->D->Prop) (Q:VK),M a->Tops K M H a d->Ats K M H ds vs->f d ds P ->
 (∀o e z v,Tops K M (A9 H a o) a e->At K M (A9 H a o) z v->P e z->Q v (A9 H a o))->r (.ref a) vs H Q
noncomputable def Io(i:Nat)(T:String)(f:D->List D->(D->D->Prop)->Prop)(ws:FE):Ab:=fun D2 n ρ=>∃d,ρ[i]?=some (.ow d)/\Vh T d/\ws n ρ fun ds n1=>f d ds fun e _=>D2.nx n1 (ρ.set i (.ow e))
theorem Dr{M:Addr->Prop}{H:Hp}{a:Addr}{o:HO}(m:M a):Pres M H M (A9 H a o):=⟨fun b o' q nb=>by rw [AQ (fun z=>nb (by rw [z]; exact m))]; exact q,fun _ z=>.inl z⟩
theorem DL{x name:Str}{p apos cpos:Pos}{T id:String}{r:V->List V->Hp->VK->Prop}{f:D->List D->(D->D->Prop)->Prop}{es:List Expr}{ws:FE}(i:Nat)(pa:PlainAttrs T)(slot:PySem.Slot T name id)(hty:typeOf (.builtin id)=pure (.type "method_descriptor"))
  (hm:Vw X id r) (hA:Rl X.K r f) (h:PE X (.Name x p) (Bo i)) (ha:T6 X (e::es) ws)
  (hbase:attributeBase (.Name x p) name X.env (eval (.Name x p) X.env)=eval (.Name x p) X.env:=by rfl)
  (hfew:((backTo cpos (starEach (e::es) X.env)).all (fun x=>!x.1)&&(backToKw cpos (keywordEach [] X.env)).all (fun x=>x.1.isSome)
   && decide ((e::es).length+([]:List Keyword).length+(if ([]:List Keyword).isEmpty then 0 else 1)<30))=true:=by rfl)
  (hline:(apos.endLine==cpos.line)=true:=by rfl) (hs:starEach (e::es) X.env=(false,eval e X.env)::starEach es X.env:=by rfl) (hplain:(backTo cpos (starEach es X.env)).any (·.1)=false:=by rfl)
  (hsw:swapsWith (.Call (.Attribute (.Name x p) name apos) (e::es) [] cpos) none pos.line X.env=pure false:=by rfl) :
  DS X κ (.Expr (.Call (.Attribute (.Name x p) name apos) (e::es) [] cpos) pos) (Io i T f ws):=by
 obtain⟨t,a1,a2⟩:=ha
 refine⟨_,Qw (Pg pa slot hty hm h a1 hbase hfew hline hs hplain) hsw,fun C M H n ρ σ D2 E R L ⟨d,hd,hT,hw⟩=>?_⟩
 obtain⟨a,e1,m,nv,tt⟩:=R.sl i _ hd
 refine⟨.ref a,getD_some e1,Px hT (tt.att nv),?_⟩
 refine a2 C M H n ρ σ _ _ R hw fun vs H1 ds n1 ee f1 r1 p=>?_
 have R1:=R.step ee f1
 obtain⟨a',e1',m',nv',tt'⟩:=R1.sl i _ hd
 rw [e1] at e1'
 cases e1'
 exact hA M H1 a d ds vs _ _ m' tt' r1 p fun o d' z v t2 hz pp=>L.nx M _ n1 _ σ (R1.mut hd e1 t2) pp
noncomputable def EM(d:D)(ds:List D)(P:D->D->Prop):Prop:=∃xs y,d=.lst xs/\ds=[y]/\xs.length<sizeLine/\P (.lst (xs++[y])) .non
theorem Ea{K:Frag}:Rl K Mn EM:=by
 intro M H a d ds vs P Q m t hv w q
 obtain⟨xs,y,rfl,rfl,hl,w⟩:=w
 obtain⟨us,h1,h2⟩:=t
 obtain⟨u,r,rfl,hu,hr⟩:=hv
 cases (show r=[] from hr)
 refine⟨a,us,u,rfl,rfl,h1,by rw [h2.length]; exact hl,q _ (.lst (xs++[y])) .non _ ⟨us++[u],AV,?_⟩ rfl w⟩
 exact(h2.append (Ats.one hu)).pres (Dr m)
noncomputable def Ta(d:D)(ds:List D)(P:D->D->Prop):Prop:=∃xs ys,d=.lst xs/\ds=[.lst ys]/\xs.length+ys.length<=sizeLine/\P (.lst (xs++ys)) .non
theorem SR{K:Frag}:Rl K Mm Ta:=by
 intro M H a d ds vs P Q m t hv w q
 obtain⟨xs,ys,rfl,rfl,hl,w⟩:=w
 obtain⟨us,h1,h2⟩:=t
 obtain⟨u,r,rfl,hu,hr⟩:=hv
 cases (show r=[] from hr)
 obtain⟨b,zs,rfl,hb,hz⟩:=hu
 refine⟨a,b,us,zs,rfl,rfl,h1,hb.2,by rw [h2.length,hz.length]; exact hl,q _ (.lst (xs++ys)) .non _ ⟨us++zs,AV,?_⟩ rfl w⟩
 exact(h2.append hz).pres (Dr m)
end
noncomputable def Yields(K:Frag)(M:Addr->Prop)(H:Hp)(J:It)(ds:List D):Prop:=∀(i:Nat) (M':Addr->Prop) (H':Hp),Pres M H M' H'->(∀a,M' a->∃o,H' a=some o) ->
 (∀d,ds[i]?=some d->J.go i H'/\∀x H2,J.yld i H' x H2->Grow H' H2/\At K M' H2 d x)/\(ds.length<=i->J.stop i H')
noncomputable def NY(K:Frag)(U M:Addr->Prop)(H:Hp)(J:It)(ds:List D):Prop:=∀(i:Nat) (M':Addr->Prop) (H':Hp),Pres M H M' H'->Ext U H H'->(∀a,M' a->∃o,H' a=some o) ->
 (∀d,ds[i]?=some d->J.go i H'/\∀x H2,J.yld i H' x H2->Grow H' H2/\At K M' H2 d x)/\(ds.length<=i->J.stop i H')
theorem Yields.e{K:Frag}{U M:Addr->Prop}{H:Hp}{J:It}{ds:List D}(h:Yields K M H J ds):NY K U M H J ds:=fun i M' H' p _ d=>h i M' H' p d
noncomputable def VP(X:Cx)(tg iter:Expr)(w:FE):Prop:=∃wi,PI X tg iter wi/\∀(C:Fm) (M:Addr->Prop) (H:Hp) (n:Nat) (ρ:List Slot) (σ:L2.St) (P:List D->Nat->Prop) (R:It->Hp->Prop),Rel X.K C M H n ρ σ->w n ρ P ->
 (∀J H' ds n',Ext C.U H H'->FeedC X.K C.F M H' n'->NY X.K C.U M H' J ds->P ds n'->R J H')->wi σ H R
noncomputable def DI(X:Cx)(tg iter:Expr)(w:FE):Prop:=∃wi,PI X tg iter wi/\∀(C:Fm) (M:Addr->Prop) (H:Hp) (n:Nat) (ρ:List Slot) (σ:L2.St) (P:List D->Nat->Prop) (R:It->Hp->Prop),Rel X.K C M H n ρ σ->w n ρ P ->
 (∀J H' ds n',Ext C.U H H'->FeedC X.K C.F M H' n'->Yields X.K M H' J ds->P ds n'->R J H')->wi σ H R
noncomputable def signs(x:Str):List D:=x.cps.toList.map fun c=>.str ⟨#[c]⟩
noncomputable def A_(w:DW):FE:=fun n ρ P=>w n ρ fun d n1=>match d with
 | .lst ds=>P ds n1
 | .tup ds=>P ds n1
 | .str x=>P (signs x) n1
 | _=>False
theorem Kg{K:Frag}{M:Addr->Prop}{H:Hp}{a:Addr}{vs:List V}{ds:List D}(h:NdL M H a vs)(hs:Ats K M H ds vs):Yields K M H (V0 K a) ds:=by
 intro i M' H' p _
 have hq:SqL K H' a vs:=(h.pres p).sq
 refine⟨fun d hd=>?_,fun hl=>⟨vs,hq,by rw [hs.length]; exact hl⟩⟩
 obtain⟨v,e,hv⟩:=(hs.pres p).get hd
 refine⟨⟨vs,v,hq,e⟩,fun x H2 y=>?_⟩
 obtain⟨e2,y⟩:=y
 subst e2
 have:some v=some x:=e.symm.trans (y vs hq)
 cases this
 exact⟨.refl,hv⟩
theorem G7{K:Frag}{M:Addr->Prop}{H:Hp}{a:Addr}{vs:List V}{ds:List D}(h:NdT M H a vs)(hs:Ats K M H ds vs):Yields K M H (T4 K a) ds:=by
 intro i M' H' p _
 have hq:SqT K H' a vs:=(h.pres p).sq
 refine⟨fun d hd=>?_,fun hl=>⟨vs,hq,by rw [hs.length]; exact hl⟩⟩
 obtain⟨v,e,hv⟩:=(hs.pres p).get hd
 refine⟨⟨vs,v,hq,e⟩,fun x H2 y=>?_⟩
 obtain⟨e2,y⟩:=y
 subst e2
 have:some v=some x:=e.symm.trans (y vs hq)
 cases this
 exact⟨.refl,hv⟩
theorem yields_str{K:Frag}{M:Addr->Prop}{H:Hp}{z:Str}:Yields K M H (Vz z) (signs z):=by
 intro i M' H' p _
 refine⟨fun d hd=>?_,fun hl=>?_⟩
 ·unfold signs at hd
  rw [List.getElem?_map] at hd
  have hi:i<z.cps.size:=by
   cases q:z.cps.toList[i]? with
   | none=>rw [q] at hd; cases hd
   | some c=>simpa using (List.getElem?_eq_some_iff.mp q).1
  refine⟨hi,fun x H2 y=>?_⟩
  obtain⟨e2,c,hc,rfl⟩:=y
  subst e2
  have:z.cps.toList[i]?=some c:=by simpa using hc
  rw [this] at hd
  have hd':D.str ⟨#[c]⟩=d:=Option.some.inj hd
  subst hd'
  exact⟨.refl,rfl,by rw [sizeLine_eq]; show 1<=16777216; decide⟩
 ·show z.cps.size<=i
  unfold signs at hl
  simpa using hl
noncomputable def D8(lo:Int)(n:Nat):List D:=(List.range n).map fun(i:Nat)=>.int (lo+(i:Int))
theorem JY{K:Frag}{M:Addr->Prop}{H:Hp}{lo:Int}{m:Nat}:Yields K M H (VN lo m) (D8 lo m):=by
 intro i M' H' p _
 refine⟨fun d hd=>?_,fun hl=>?_⟩
 ·unfold D8 at hd
  rw [List.getElem?_map] at hd
  have hi:i<m:=by
   cases q:(List.range m)[i]? with
   | none=>rw [q] at hd; cases hd
   | some c=>simpa using (List.getElem?_eq_some_iff.mp q).1
  rw [List.getElem?_range hi] at hd
  have hd':D.int (lo+i)=d:=Option.some.inj hd
  subst hd'
  refine⟨hi,fun x H2 y=>?_⟩
  obtain⟨e2,e3⟩:=y
  subst e2
  exact⟨.refl,e3⟩
 ·show m<=i
  unfold D8 at hl
  simpa using hl
section
variable {X:Cx}{tg e e2:Expr}{es:List Expr}{κ:Kd}{wa:DW}{ws:FE}{p pos:Pos}
theorem C7(h:DE X e κ wa)(hk:κ≠.tp:=by intro z; cases z):DI X tg e (A_ wa):=by
 obtain⟨t,a1,a2⟩:=h
 refine⟨_,L9 a1,fun C M H n ρ σ P Rr R w q=>?_⟩
 refine a2 C M H n ρ σ _ _ R w fun v H1 d n1 e1 f1 r1 p=>?_
 have hv:=r1.shOf R.dom hk
 cases d with
 | lst ds =>
  obtain⟨a,vs,e,hn,hs⟩:=hv
  exact .inl ⟨a,e,⟨vs,hn.sq⟩,q _ H1 ds n1 e1 f1 (Kg hn hs) p⟩
 | tup ds =>
  obtain⟨a,vs,e,hn,hs⟩:=hv
  exact .inr (.inl ⟨a,e,⟨vs,hn.sq⟩,q _ H1 ds n1 e1 f1 (G7 hn hs) p⟩)
 | str z=>exact .inr (.inr ⟨z,hv.1,q _ H1 _ n1 e1 f1 yields_str p⟩)
 | _=>exact p.elim
noncomputable def G9(ws:FE):FE:=fun n ρ P=>ws n ρ fun ds n1=>∃j:Int,ds=[.int j]/\(-(2 ^ 62)<=j/\j<2 ^ 62)/\P (D8 0 j.toNat) n1
theorem Dc(hg:Gl X "range")(hm:X.mg "range"=none)(ha:T7 X [e] ws)(hs:starEach [e] X.env=[(false,eval e X.env)]:=by rfl):DI X tg (.Call (.Name "range" p) [e] [] pos) (G9 ws):=by
 obtain⟨t,a1,a2⟩:=ha
 refine⟨_,Nn hg hm a1 hs,fun C M H n ρ σ P Rr R w q=>?_⟩
 refine a2 C M H n ρ σ _ _ R w fun vs H1 ds n1 e1 f1 r1 p=>?_
 obtain⟨j,rfl,hj,p⟩:=p
 cases r1 with
 | cons r rr =>
  cases rr
  have hv:_=V.int j:=r
  exact⟨j,by rw [hv],hj.1,hj.2,q _ H1 _ n1 e1 f1 JY p⟩
theorem DI.c(h:DI X tg e ws):VP X tg e ws:=by
 obtain⟨wi,a1,a2⟩:=h
 exact⟨wi,a1,fun C M H n ρ σ P Rr R w q=>a2 C M H n ρ σ P Rr R w fun J H' ds n' e1 f1 y p=>q J H' ds n' e1 f1 y.e p⟩
theorem Cs(h:DE X e κ wa):VP X tg e (A_ wa):=by
 obtain⟨t,a1,a2⟩:=h
 refine⟨_,L9 a1,fun C M H n ρ σ P Rr R w q=>?_⟩
 refine a2 C M H n ρ σ _ _ R w fun v H1 d n1 e1 f1 r1 p=>?_
 have hv:AtT X.K C.V M H1 d v:=r1.tpOf R.dom R.vM
 cases d with
 | lst ds =>
  obtain⟨a,vs,e,nv,hr,hs⟩:=hv
  refine .inl ⟨a,e,⟨vs,.inl hr⟩,q _ H1 ds n1 e1 f1 (fun i M' H' pr ex _=>?_) p⟩
  have hq:SqL X.K H' a vs:=by
   rcases hr with hr | ⟨o,hr⟩
   ·exact .inl (.inl (ex.keep hr fun z=>nv (R.uV a z)))
   ·exact .inl (.inr ⟨o,ex.keep hr fun z=>nv (R.uV a z)⟩)
  refine⟨fun d hd=>?_,fun hl=>⟨vs,hq,by rw [hs.length]; exact hl⟩⟩
  obtain⟨v,e,hv⟩:=(hs.pres pr).get hd
  refine⟨⟨vs,v,hq,e⟩,fun x H2 y=>?_⟩
  obtain⟨e2,y⟩:=y
  subst e2
  have:some v=some x:=e.symm.trans (y vs hq)
  cases this
  exact⟨.refl,hv⟩
 | tup ds =>
  obtain⟨a,vs,e,hn,hs⟩:=hv
  exact .inr (.inl ⟨a,e,⟨vs,hn.sq⟩,q _ H1 ds n1 e1 f1 (G7 hn hs).e p⟩)
 | str z=>exact .inr (.inr ⟨z,hv.1,q _ H1 _ n1 e1 f1 yields_str.e p⟩)
 | _=>exact p.elim
end
noncomputable abbrev BW:=D->List Slot->(List Slot->Prop)->Prop
noncomputable def DG(X:Cx)(tg:Expr)(b:BW):Prop:=∃g,PG X tg g/\∀(C:Fm) (M:Addr->Prop) (H:Hp) (n:Nat) (ρ:List Slot) (σ:L2.St) (d:D) (v:V) (P:List Slot->Prop) (Q:L2.St->Hp->Prop),Rel X.K C M H n ρ σ->At X.K M H d v->b d ρ P ->
 (∀ρ' σ',Rel X.K C M H n ρ' σ'->P ρ'->Q σ' H)->g v σ H Q
noncomputable def AW(i:Nat):BW:=fun d ρ P=>P (ρ.set i (.sh d))
theorem AU{X:Cx}{i:Nat}{x:Str}{pos:Pos}(hN:X.N.Nodup)(hi:X.N[i]?=some x)(hx:Loc X.env.scope x)(hf:X.fn x=true\/X.env.scope.names.lookup x=some .local:=by first | exact .inl rfl | exact .inr rfl | assumption):DG X (.Name x pos) (AW i) :=
 ⟨_,Ej hN hi hx hf,fun C M H n ρ σ d v P Q R h w q=>q _ _ (R.set h) w⟩
noncomputable def BM(b:BW)(body:Ab)(D2:E2):List D->Nat->List Slot->Prop
 | [],n,ρ=>D2.nx n ρ
 | d::ds,n,ρ=>b d ρ fun ρ1=>body { D2 with nx:=BM b body D2 ds,ct:=BM b body D2 ds,bk:=D2.nx } n ρ1
noncomputable def D7(src:FE)(b:BW)(body:Ab):Ab:=fun D2 n ρ=>src n ρ fun ds n1=>BM b body D2 ds n1 ρ
theorem Rel.unpin{K:Frag}{C:Fm}{p:(Addr->Prop)×Hp}{M:Addr->Prop}{H:Hp}{n:Nat}{ρ:List Slot}{σ:L2.St}(R:Rel K { C with pins:=p::C.pins } M H n ρ σ):Rel K C M H n ρ σ :=
 ⟨R.len,R.sub,R.dom,R.ext,R.fU,R.uV,R.vM,R.feed,R.sl,fun q hq=>R.pin q (List.mem_cons_of_mem _ hq),R.br0,R.new,R.two,R.kept⟩
theorem Rel.pinned{K:Frag}{C:Fm}{M:Addr->Prop}{H:Hp}{n:Nat}{ρ:List Slot}{σ:L2.St}(R:Rel K C M H n ρ σ):Rel K { C with pins:=(M,H)::C.pins } M H n ρ σ :=
 ⟨R.len,R.sub,R.dom,R.ext,R.fU,R.uV,R.vM,R.feed,R.sl,fun q hq=>(List.mem_cons.mp hq).elim (fun e=>e▸Pres.refl M H) (R.pin q),R.br0,R.new,R.two,R.kept⟩
section
variable {X:Cx}{κ:Kd}{tg iter:Expr}{body:List Stmt}{src:FE}{b:BW}{wb:Ab}{pos:Pos}
theorem CA(hp:PassesOwn (model X.prog X.w) X.A X.env X.xe)(hc:X.calm=true)(hi:DI X tg iter src)(hg:DG X tg b)(hb:Qf X κ body wb)
  (hs:∀x,foldedSetIterable iter X.env x=pure x:=by intro _; rfl):DS X κ (.For tg iter body [] pos) (D7 src b wb):=by
 obtain⟨wi,a1,a2⟩:=hi
 obtain⟨g,g1,g2⟩:=hg
 obtain⟨tb,b1,b2⟩:=hb
 refine⟨_,Jr hp hc a1 g1 b1 hs,fun C M H n ρ σ D2 E R L w=>?_⟩
 refine a2 C M H n ρ σ _ _ R w fun J H1 ds n1 e1 f1 y w1=>?_
 have R1:=R.step e1 f1
 refine⟨fun i m σ' H'=>m=ds.length - i/\i<=ds.length/\∃M' n' ρ',Rel X.K { C with pins:=(M,H1)::C.pins } M' H' n' ρ' σ'/\BM b wb D2 (ds.drop i) n' ρ',⟨ds.length,by simp,Nat.zero_le _,M,n1,ρ,R1.pinned,w1⟩,?_⟩
 rintro i m σ' H' ⟨rfl,hi,M',n',ρ',R',w'⟩
 have pr:Pres M H1 M' H':=R'.pin (M,H1) List.mem_cons_self
 by_cases hlt:i<ds.length
 ·have ed:ds.drop i=ds[i]::ds.drop (i+1):=List.drop_eq_getElem_cons hlt
  rw [ed] at w'
  obtain⟨go,yl⟩:=(y i M' H' pr R'.dom).1 ds[i] (List.getElem?_eq_getElem hlt)
  refine .inr ⟨go,fun σ2 H2=>∃M2 n2 ρ2,Rel X.K { C with pins:=(M,H1)::C.pins } M2 H2 n2 ρ2 σ2/\BM b wb D2 (ds.drop (i+1)) n2 ρ2,fun σ2 H2 ⟨M2,n2,ρ2,R2',w2⟩=>⟨ds.length - (i+1),by omega,rfl,hlt,M2,n2,ρ2,R2',w2⟩,fun x H2 hy=>?_⟩
  obtain⟨gr,hx⟩:=yl x H2 hy
  have R2':=R'.step gr.ext (R'.feed.grow gr)
  refine g2 _ M' H2 n' ρ' σ' ds[i] x _ _ R2' hx w' fun ρ3 σ3 R3 w3=>?_
  refine b2 _ M' H2 n' ρ3 σ3 { D2 with nx:=BM b wb D2 (ds.drop (i+1)),ct:=BM b wb D2 (ds.drop (i+1)),bk:=D2.nx } _ R3 ⟨fun M4 H4 n4 ρ4 σ4 R4 w4=>⟨M4,n4,ρ4,R4,w4⟩,L.rt,fun M4 H4 n4 ρ4 σ4 R4 w4=>L.nx M4 H4 n4 ρ4 σ4 R4.unpin w4,fun M4 H4 n4 ρ4 σ4 R4 w4=>⟨M4,n4,ρ4,R4,w4⟩⟩ w3
 ·have e:i=ds.length:=by omega
  subst e
  rw [List.drop_length] at w'
  exact .inl ⟨(y _ M' H' pr R'.dom).2 (Nat.le_refl _),L.nx M' H' n' ρ' σ' R'.unpin w'⟩
end
noncomputable def Dw(b:BW)(tt:G5)(te:DW)(P:List D->Nat->Prop):List D->List D->Nat->List Slot->Prop
 | [],acc,n,_=>P acc n
 | d::ds,acc,n,ρ=>b d ρ fun ρ1=>tt n ρ1 fun c n1=>if c=true then te n1 ρ1 fun y n2=>Dw b tt te P ds (acc++[y]) n2 ρ1 else Dw b tt te P ds acc n1 ρ1
noncomputable def OI:Slot->Slot
 | .ow d=>.br d
 | .lt _ d=>.br d
 | s=>s
theorem OH(s:Slot):(OI s).owns=false:=by cases s <;> rfl
theorem Hk{js:List (Option Nat)}{ρ:List Slot}{i:Nat}{s:Slot}(h:(js.map fun o=>match o with | some i=>OI ((ρ[i]?).getD .no) | none=>Slot.no)[i]?=some s):s.owns=false:=by
 rw [List.getElem?_map] at h
 cases q:js[i]? with
 | none=>rw [q] at h; cases h
 | some o =>
  rw [q] at h
  cases o with
  | none =>
   have e:Slot.no=s:=Option.some.inj h
   rw [← e]; rfl
  | some j =>
   have e:OI ((ρ[j]?).getD .no)=s:=Option.some.inj h
   rw [← e]; exact OH _
noncomputable def Hl(js:List (Option Nat))(ρ:List Slot):List Slot:=js.map fun o=>match o with
 | some i=>OI ((ρ[i]?).getD .no)
 | none=>.no
noncomputable def DF(js:List (Option Nat))(src:FE)(b:BW)(tt:G5)(te:DW):DW:=fun n ρ P=>src n ρ fun ds n1=>ds.length<=10000000/\Dw b tt te (fun acc n2=>P (.lst acc) n2) ds [] n1 (Hl js ρ)
noncomputable def V3(X:Cx)(ifs:List Expr)(w:G5):Prop:=∃t,U6 X ifs t/\∀(C:Fm) (M:Addr->Prop) (H:Hp) (n:Nat) (ρ:List Slot) (σ:L2.St) (P:Bool->Nat->Prop) (Q:Bool->Hp->Prop),Rel X.K C M H n ρ σ->w n ρ P ->
 (∀b H' n',Ext C.U H H'->FeedC X.K C.F M H' n'->P b n'->Q b H')->t σ H Q
noncomputable def E4:G5:=fun n _ P=>P true n
theorem Cr{X:Cx}:V3 X [] E4:=⟨_,Mu,fun C M H n ρ σ P Q R w q=>q true H n (Ext.refl _ _) R.feed w⟩
theorem KQ{X:Cx}{c:Expr}{w:G5}(h:DT X c w):V3 X [c] w:=by
 obtain⟨t,h1,h2⟩:=h
 exact⟨t,Qy h1,h2⟩
theorem JD{js:List (Option Nat)}{ρ:List Slot}{σ:L2.St}{i:Nat}{s:Slot}(hs:(Hl js ρ)[i]?=some s):s=.no\/∃(j:Nat) (s':Slot),ρ[j]?=some s'/\s=OI s'/\((CW js σ)[i]?).getD none=(σ[j]?).getD none:=by
 unfold Hl at hs
 unfold CW
 rw [List.getElem?_map] at hs ⊢
 cases q:js[i]? with
 | none=>rw [q] at hs; cases hs
 | some o =>
  rw [q] at hs
  cases o with
  | none=>exact .inl (Option.some.inj hs).symm
  | some j =>
   have e:OI ((ρ[j]?).getD .no)=s:=Option.some.inj hs
   cases q2:ρ[j]? with
   | none=>rw [q2] at e; exact .inl e.symm
   | some s' =>
    rw [q2] at e
    exact .inr ⟨j,s',q2,e.symm,rfl⟩
theorem Pp{K:Frag}{F:Option (Addr×Addr)}{U U' M M':Addr->Prop}{H H':Hp}{js:List (Option Nat)}{ρ:List Slot}{σ:L2.St}(hsl:∀(i:Nat) (s:Slot),ρ[i]?=some s->SlotOk K F U M H s ((σ[i]?).getD none))
  (pr:Pres M H M' H') (br:∀d v,AtT K U M H d v->AtT K U' M' H' d v):∀(i:Nat) (s:Slot),(Hl js ρ)[i]?=some s->SlotOk K F U' M' H' s (((CW js σ)[i]?).getD none):=by
 intro i s hs
 rcases JD (σ:=σ) hs with rfl | ⟨j,s',q,rfl,e⟩
 ·trivial
 ·rw [e]
  have h1:=hsl j s' q
  cases s' with
  | no=>trivial
  | sh d=>obtain⟨v,e1,h2⟩:=h1; exact⟨v,e1,h2.pres pr⟩
  | br d=>obtain⟨v,e1,h2⟩:=h1; exact⟨v,e1,br d v h2⟩
  | fd=>exact h1
  | ow d=>obtain⟨a,e1,_,nv,t⟩:=h1; exact⟨.ref a,e1,br d _ (t.att nv)⟩
  | lt a d=>obtain⟨e1,_,nv,t⟩:=h1; exact⟨.ref a,e1,br d _ (t.att nv)⟩
theorem RC{K:Frag}{F:Option (Addr×Addr)}{U M:Addr->Prop}{H:Hp}{js:List (Option Nat)}{ρ:List Slot}{σ:L2.St}(hsl:∀(i:Nat) (s:Slot),ρ[i]?=some s->SlotOk K F U M H s ((σ[i]?).getD none)){i:Nat}{d:D}{a:Addr}
  (hs:(Hl js ρ)[i]?=some (.br d)) (ha:((CW js σ)[i]?).getD none=some (.ref a)):∃o,H a=some o:=by
 rcases JD (σ:=σ) hs with z | ⟨j,s',q,z,e⟩
 ·cases z
 ·rw [e] at ha
  have h1:=hsl j s' q
  rw [ha] at h1
  cases s' with
  | br d=>obtain⟨v,e1,h2⟩:=h1; cases e1; exact h2.lies
  | ow d=>obtain⟨b,e1,_,nv,t⟩:=h1; cases e1; exact(t.att nv).lies
  | lt b d=>obtain⟨e1,_,nv,t⟩:=h1; cases e1; exact(t.att nv).lies
  | no=>cases z
  | sh d=>cases z
  | fd=>cases z
section
variable {X:Cx}{κe:Kd}{tg elt iter:Expr}{ifs:List Expr}{sc:Scope}{pos:Pos}{src:FE}{b:BW}{tt:G5}{te:DW}
theorem B_(hc:X.calm=true)(N':List Str)(js:List (Option Nat))(hi:VP X tg iter src)(hg:∀cl C s H fp,DG (A6 X sc N' cl C s H fp) tg b)(ht:∀cl C s H fp,V3 (A6 X sc N' cl C s H fp) ifs tt)(he:∀cl C s H fp,DE (A6 X sc N' cl C s H fp) elt κe te)
  (hB:LQ sc X.env.scope X.N N' js=true) (hk:κe≠.tp:=by intro z; cases z)
  (hs:∀x,foldedSetIterable iter X.env x=pure x:=by intro _; rfl):DE X (.ListComp elt [⟨tg,iter,ifs,0⟩] sc pos) .fr (DF js src b tt te):=by
 obtain⟨wi,a1,a2⟩:=hi
 refine⟨_,Mw hc N' js a1 hB hs,fun C M H n ρ σ P Q R w q=>?_⟩
 refine a2 C M H n ρ σ _ _ R w fun J H1 ds n1 e1 f1 y w1=>?_
 obtain⟨hlen,w1⟩:=w1
 have R1:=R.step e1 f1
 intro l hl hkl cl Ca s0 H0 fp
 obtain⟨g,g1,g2⟩:=hg cl Ca s0 H0 fp
 obtain⟨tc,c1,c2⟩:=ht cl Ca s0 H0 fp
 obtain⟨tx,x1,x2⟩:=he cl Ca s0 H0 fp
 have noU:¬C.U l:=fun z=>by
  obtain⟨o,z⟩:=R1.udom l z
  rw [hl] at z; cases z
 generalize hM':(fun b=>M b\/b=l)=M'
 have M'l:M' l:=by rw [← hM']; exact .inr rfl
 have M'of:∀b,M b->M' b:=fun b z=>by rw [← hM']; exact .inl z
 have ofM':∀b,M' b->M b\/b=l:=fun b z=>by rw [← hM'] at z; exact z
 have inV:∀b,C.V b\/b=l->M' b:=fun b z=>z.elim (fun z=>M'of b (R1.vM b z)) fun z=>by rw [z]; exact M'l
 have lenj:js.length=N'.length:=Fc (CompOk.of hB).cap
 refine⟨g,tc,tx,fun i m σ' H'=>m=ds.length - i/\i<=ds.length/\∃n' ρ' acc vs,Rel X.K ⟨M',C.F,C.U,fun b=>C.V b\/b=l,H1,[],[]⟩ M' H' n' ρ' σ'/\H' l=some (.lst vs)/\Ats X.K M' H' acc vs/\acc.length<=i/\Pres M H1 M' H' /\
   Dw b tt te (fun acc n2=>P (.lst acc) n2) (ds.drop i) acc n' ρ',g1,c1,x1,⟨ds.length,by simp,Nat.zero_le _,n1,Hl js ρ,[],[],?_⟩,?_⟩
 ·have gr:Grow H1 (A9 H1 l (.lst [])):=A1 hl
  have pr:Pres M H1 M' (A9 H1 l (.lst [])):=⟨fun b o e _=>gr.all b o e,fun b z=>(ofM' b z).elim .inl fun z=>.inr (by rw [z]; exact hl)⟩
  refine⟨⟨?_,fun a z=>z,fun a z=>?_,gr.ext,R1.fU,fun a z=>.inl (R1.uV a z),inV,f1.pres pr fun f o _ e=>gr.all f.1 o e,?_,fun p hp=>absurd hp (by simp),fun i d a q z=>RC R1.sl q z,fun i s a q o _=>absurd o (by rw [Hk q]; decide),fun i j s t a q o _ _ _ _=>absurd o (by rw [Hk q]; decide),fun p hp=>absurd hp (by simp)⟩,AV,rfl,Nat.zero_le _,pr,w1⟩
  ·unfold Hl CW
   rw [List.length_map,List.length_map]
  ·rcases ofM' a z with z | z
   ·obtain⟨o,z⟩:=R1.dom a z
    exact⟨o,gr.all a o z⟩
   ·subst z
    exact⟨_,AV⟩
  ·refine Pp R1.sl pr fun d v h=>h.same pr (fun a o _ e=>gr.all a o e) fun a e n1 z=>z.elim n1 fun z=>?_
   subst e
   obtain⟨o,w⟩:=h.lies
   rw [z,hl] at w
   cases w
 ·rintro i m σ' H' ⟨rfl,hi,n',ρ',acc,vs,R',hlv,hac,hal,pr,w'⟩
  by_cases hlt:i<ds.length
  ·have ed:ds.drop i=ds[i]::ds.drop (i+1):=List.drop_eq_getElem_cons hlt
   rw [ed] at w'
   obtain⟨go,yl⟩:=(y i M' H' pr R'.ext R'.dom).1 ds[i] (List.getElem?_eq_getElem hlt)
   refine .inr ⟨go,fun x H2 hy=>?_⟩
   obtain⟨gr,hx⟩:=yl x H2 hy
   have R2':=R'.step gr.ext (R'.feed.grow gr)
   refine g2 _ M' H2 n' ρ' σ' ds[i] x _ _ R2' hx w' fun ρ3 σ3 R3 w3=>?_
   refine c2 _ M' H2 n' ρ3 σ3 _ _ R3 w3 fun c H4 n4 e4 f4 w4=>?_
   have R4:=R3.step e4 f4
   have p4:Pres M' H' M' H4:=gr.pres.trans (R3.pres e4)
   have l4:H4 l=some (.lst vs):=e4.keep (gr.all _ _ hlv) noU
   cases c with
   | false=>exact⟨ds.length - (i+1),by omega,rfl,hlt,n4,ρ3,acc,vs,R4,l4,hac.pres p4,by omega,pr.trans p4,w4⟩
   | true =>
    refine x2 _ M' H4 n4 ρ3 σ3 _ _ R4 w4 fun yv H5 d5 n5 e5 f5 r5 w5=>?_
    have R5:=R4.step e5 f5
    have p5:Pres M' H4 M' H5:=R4.pres e5
    have l5:H5 l=some (.lst vs):=e5.keep l4 noU
    have hy5:=r5.shOf R4.dom hk
    have a5:=(hac.pres p4).pres p5
    have pu:Pres M' H5 M' (A9 H5 l (.lst (vs++[yv]))):=⟨fun b o e nb=>by rw [AQ (fun z=>nb (by rw [z]; exact M'l))]; exact e,fun _ z=>.inl z⟩
    have hvl:vs.length=acc.length:=hac.length
    refine⟨vs,l5,by rw [sizeLine_eq]; omega,ds.length - (i+1),by omega,rfl,hlt,n5,ρ3,acc++[d5],vs++[yv],?_,AV,(a5.append (Ats.one hy5)).pres pu,by rw [List.length_append,List.length_singleton]; omega,(pr.trans p4).trans (p5.trans pu),w5⟩
    refine⟨R5.len,R5.sub,fun a z=>?_,fun b o e=>?_,R5.fU,R5.uV,R5.vM,?_,fun j s hs=>?_,fun p hp=>absurd hp (by simp),R5.br0,R5.new,R5.two,fun p hp=>absurd hp (by simp)⟩
    ·by_cases ha:a=l
     ·subst ha; exact⟨_,AV⟩
     ·rw [AQ ha]; exact R5.dom a z
    ·obtain⟨o',q1,q2⟩:=R5.ext b o e
     by_cases hb:b=l
     ·subst hb
      have e':H1 b=some o:=e
      rw [hl] at e'; cases e'
     ·exact⟨o',by rw [AQ hb]; exact q1,q2⟩
    ·refine f5.pres pu fun f o hf e=>?_
     rw [AQ (fun z=>noU (by rw [← z]; exact R1.fU f hf))]
     exact e
    ·have hs5:=R5.sl j s hs
     cases s with
     | no=>trivial
     | sh d=>obtain⟨v,e1,h2⟩:=hs5; exact⟨v,e1,h2.pres pu⟩
     | br d =>
      obtain⟨v,e1,h2⟩:=hs5
      refine⟨v,e1,h2.same pu (fun a o z e=>?_) fun _ _ z=>z⟩
      subst z
      obtain⟨o3,w⟩:=R5.br0 j d a hs e1
      have hal:a≠l:=fun z=>by
       have w':H1 a=some o3:=w
       rw [z,hl] at w'; cases w'
      rw [AQ hal]; exact e
     | ow d =>
      obtain⟨a,e1,h2,_⟩:=hs5
      exact absurd h2 (R5.new j _ a hs rfl e1).1
     | lt a d =>
      obtain⟨e1,h2,_⟩:=hs5
      exact absurd h2 (R5.new j _ a hs rfl e1).1
     | fd=>exact hs5
  ·have e:i=ds.length:=by omega
   subst e
   rw [List.drop_length] at w'
   refine .inl ⟨(y _ M' H' pr R'.ext R'.dom).2 (Nat.le_refl _),?_⟩
   have eb:Ext C.U H1 H':=R'.ext
   have less:Pres M' H' M H':=Pres.less M'of
   refine q _ H' (.lst acc) n' (e1.trans eb) (R'.feed.pres less fun _ _ _ z=>z) (VR.back e1 ?_) w'
   exact⟨l,rfl,hl,vs,hlv,by rw [hM']; exact hac⟩
end
theorem Nj{K:Frag}{F:Option (Addr×Addr)}{U V' M:Addr->Prop}{H:Hp}{n:Nat}{ss:List Slot}{vs:List V}{N:List Str}(h:U4 K F U V' M H n ss vs)(hl:vs.length<=N.length) :
  Rel K ⟨M,F,U,V',H,[],[]⟩ M H n (ss++List.replicate (N.length - ss.length) .no) (L2.start N vs):=by
 obtain⟨dom,fU,uV,vM,fd,pa⟩:=h
 have el:vs.length=ss.length:=Paired.length pa
 have go:∀{vs:List V} {ss:List Slot} {i:Nat} {s:Slot},Paired (JX K F V' M H) vs ss->ss[i]?=some s->∃v,vs[i]?=some v/\JX K F V' M H v s:=by
  intro vs ss i s pa
  induction pa generalizing i with
  | nil=>intro e; simp at e
  | cons r t ih =>
   intro e
   cases i with
   | zero=>simp at e; subst e; exact⟨_,rfl,r⟩
   | succ i =>
    obtain⟨v,e1,h1⟩:=ih (i:=i) (by simpa using e)
    exact⟨v,by simpa using e1,h1⟩
 have at_:∀(i:Nat) (s:Slot),(ss++List.replicate (N.length - ss.length) Slot.no)[i]?=some s->s=.no\/∃v,((L2.start N vs)[i]?).getD none=some v/\JX K F V' M H v s:=by
  intro i s hs
  by_cases hi:i<ss.length
  ·rw [List.getElem?_append_left hi] at hs
   obtain⟨v,e1,h1⟩:=go pa hs
   refine .inr ⟨v,?_,h1⟩
   unfold L2.start
   rw [List.getElem?_append_left (by rw [List.length_map,el]; exact hi),List.getElem?_map,e1]
   rfl
  ·rw [List.getElem?_append_right (by omega),List.getElem?_replicate] at hs
   split at hs
   ·exact .inl (Option.some.inj hs).symm
   ·cases hs
 refine⟨?_,fun a z=>z,dom,Ext.refl _ _,fU,uV,vM,fd,fun i s hs=>?_,fun p hp=>absurd hp (by simp),fun i d a hs ha=>?_,fun i s a hs o _=>?_,fun i j s t a hs o _ _ _ _=>?_,fun p hp=>absurd hp (by simp)⟩
 ·unfold L2.start
  simp only [List.length_append,List.length_map,List.length_replicate]
  omega
 ·rcases at_ i s hs with rfl | ⟨v,e,h⟩
  ·trivial
  ·rw [e]; exact h.1
 ·rcases at_ i _ hs with z | ⟨v,e,h⟩
  ·cases z
  ·rw [e] at ha
   cases ha
   obtain⟨v,e1,h1⟩:=h.1
   cases e1
   exact h1.lies
 ·rcases at_ i s hs with rfl | ⟨v,e,h⟩
  ·cases o
  ·rw [h.2] at o; cases o
 ·rcases at_ i s hs with rfl | ⟨v,e,h⟩
  ·cases o
  ·rw [h.2] at o; cases o
theorem FX{P:Program}{w:World}{K:Frag}{mg:Str->Option Value}{base:Heap}{x qual:Str}{st:Stmt}{f:Addr}{fd:FuncData}{N ps:List Str}{k:Nat}{κ:Kd}{W:W2}{wb:Ab}(F:Fun K x qual st f fd)(S:Ae N ps (AH st))(hNp:ps.length<=N.length)
  (hb:∀(cdv:Value) (A:Around) (outer:List Env) (s:Shared) (H:Hp) (E:XK),Room k (A.deeper (envOfC qual (AH st) s.heap.objs.size f cdv))->Qf (KW C0 P w K mg base N qual (AH st) f cdv A outer s H E).nox κ (AZ st) wb)
  (hW:∀ss n Pd,ss.length=ps.length->W ss n Pd->wb { nx:=fun n _=>κ=.sh/\Pd .non n,rt:=Pd } n (ss++List.replicate (N.length - ps.length) .no)) :
  BG P w K mg base C0 (k+1) f fd ps (EB K κ W ps.length):=by
 refine F.ok S (fun vs H Q E h=>h.1) (fun cdv A outer s H vs Q E hr h=>?_)
 obtain⟨hl,F0,U,V',M,n,ss,Pd,ra,hw,q⟩:=h
 obtain⟨t,t1,t2⟩:=hb cdv A outer s H E hr
 refine⟨t,t1,?_⟩
 have el:vs.length=ss.length:=Paired.length ra.2.2.2.2.2
 have R:=Nj (N:=N) ra (by omega)
 refine t2 ⟨M,F0,U,V',H,[],[]⟩ M H n _ _ { nx:=fun n _=>κ=.sh/\Pd .non n,rt:=Pd } _ R ⟨fun M1 H1 n1 ρ1 σ1 R1 p=>?_,fun v H1 d n1 e1 f1 r1 p=>q v H1 d n1 e1 f1 r1 p,fun _ _ _ _ _ _ z=>z.elim,fun _ _ _ _ _ _ z=>z.elim⟩ ?_
 ·obtain⟨hk,p⟩:=p
  subst hk
  exact q .non H1 .non n1 R1.ext (R1.feed.pres (Pres.less R1.sub) fun _ _ _ z=>z) rfl p
 ·have e:ss.length=ps.length:=by omega
  have h1:=hW ss n Pd e hw
  rw [← e] at h1
  exact h1
end Dp
namespace L2
open PySem PySem.Spec PyProof.Rows
section
variable {X:Cx}
theorem Inv.rdl{pins:List (Addr×Obj)}{σ:L2.St}{H:Hp}{s:Shared}{l:Addr}{xs:List V}(I:Inv X pins σ H s)(h:Rd H l (.lst xs)):xs.length<=sizeLine/\∃(its:List Value) (n:Nat),Vals xs its/\xs.length=its.length/\s.heap.get? l=some { cls:=.type "list",data:=.seq its.toArray n }:=by
 obtain⟨z,its,n,r,e⟩:=h.ok I.hok
 exact⟨z,its,n,r,r.length,e⟩
theorem M6:OpR X (binaryOp .Add) (fun x y H Q=>∃l b xs zs,x=.ref l/\y=.ref b/\Rd H l (.lst xs)/\Rd H b (.lst zs)/\xs.length+zs.length<=sizeLine/\∀p,H p=none->Q (.ref p) (A9 H p (.lst (xs++zs)))):=by
 intro pins s σ H x y v u Q I rx ry h
 obtain⟨l,b,xs,zs,rfl,rfl,hH,hB,hz,q⟩:=h
 cases rx
 cases ry
 obtain⟨z,its,n,r,hl,e⟩:=I.rdl hH
 obtain⟨z2,its2,n2,r2,hl2,e2⟩:=I.rdl hB
 refine PySem.P.add_list e e2 ?_ (by rw [List.size_toArray,List.size_toArray]; omega)
 have ea:its.toArray++its2.toArray=(its++its2).toArray:=by simp
 rw [ea]
 exact⟨.ref _,_,I.lnew (t':=s.toks) (r.append r2) (by rw [List.length_append]; omega),rfl,q _ I.fresh⟩
end
end L2
namespace Dp
open PySem PySem.Spec PyProof.Rows L2
section
variable {K:Frag}
theorem AtT.int{U M:Addr->Prop}{H:Hp}{i:Int}{v:V}(h:AtT K U M H (.int i) v):v=.int i:=h
theorem AtT.bl{U M:Addr->Prop}{H:Hp}{i:Bool}{v:V}(h:AtT K U M H (.bl i) v):v=.bl i:=h
theorem AtT.str{U M:Addr->Prop}{H:Hp}{x:Str}{v:V}(h:AtT K U M H (.str x) v):v=.str x/\x.length<=sizeLine:=h
theorem AtT.tup{U M:Addr->Prop}{H:Hp}{ds:List D}{v:V}(h:AtT K U M H (.tup ds) v):∃a vs,v=.ref a/\NdT M H a vs/\Ats K M H ds vs:=h
noncomputable def VJ(g:Int->Int->(D->Prop)->Prop)(d e:D)(P:D->Prop):Prop:=match d,e with
 | .int i,.int j=>g i j P
 | _,_=>False
theorem KI{g:Int->Int->(D->Prop)->Prop}{d e:D}{P:D->Prop}(w:VJ g d e P):∃i j,d=.int i/\e=.int j/\g i j P:=by
 unfold VJ at w
 split at w
 ·exact⟨_,_,rfl,rfl,w⟩
 ·exact w.elim
noncomputable def f2(g:Int->Int->D):D->D->(D->Prop)->Prop:=VJ fun i j P=>P (g i j)
noncomputable def RR(C:Int->Int->Prop)(g:Int->Int->D):D->D->(D->Prop)->Prop:=VJ fun i j P=>C i j/\P (g i j)
theorem Qa{g:Int->Int->Int}:Fp K .sh (Gr fun i j=>.int (g i j)) (f2 fun i j=>.int (g i j)):=by
 intro U M H d e x y P Q dom vM hx hy w q
 obtain⟨i,j,rfl,rfl,w⟩:=KI w
 exact⟨i,j,hx,hy,q _ H (.int (g i j)) .refl rfl w⟩
theorem MX{g:Int->Int->Bool}:Fp K .sh (Gr fun i j=>.bl (g i j)) (f2 fun i j=>.bl (g i j)):=by
 intro U M H d e x y P Q dom vM hx hy w q
 obtain⟨i,j,rfl,rfl,w⟩:=KI w
 exact⟨i,j,hx,hy,q _ H (.bl (g i j)) .refl rfl w⟩
theorem EZ{C:Int->Int->Prop}{g:Int->Int->Int}:Fp K .sh (rI C fun i j=>.int (g i j)) (RR C fun i j=>.int (g i j)):=by
 intro U M H d e x y P Q dom vM hx hy w q
 obtain⟨i,j,rfl,rfl,w⟩:=KI w
 exact⟨i,j,hx,hy,w.1,q _ H (.int (g i j)) .refl rfl w.2⟩
noncomputable def VH(g:Str->Str->(D->Prop)->Prop)(d e:D)(P:D->Prop):Prop:=match d,e with
 | .str i,.str j=>g i j P
 | _,_=>False
theorem NG{g:Str->Str->(D->Prop)->Prop}{d e:D}{P:D->Prop}(w:VH g d e P):∃i j,d=.str i/\e=.str j/\g i j P:=by
 unfold VH at w
 split at w
 ·exact⟨_,_,rfl,rfl,w⟩
 ·exact w.elim
theorem QX{g:Str->Str->Bool}:Fp K .sh (fun x y H Q=>∃i j,x=.str i/\y=.str j/\Q (.bl (g i j)) H) (VH fun i j P=>P (.bl (g i j))):=by
 intro U M H d e x y P Q dom vM hx hy w q
 obtain⟨i,j,rfl,rfl,w⟩:=NG w
 exact⟨i,j,hx.1,hy.1,q _ H (.bl (g i j)) .refl rfl w⟩
theorem Oc:Fp K .sh (fun x y H Q=>∃i j,x=.str i/\y=.str j/\i.length+j.length<=sizeLine/\Q (.str (i++j)) H) (VH fun i j P=>i.length+j.length<=sizeLine/\P (.str (i++j))):=by
 intro U M H d e x y P Q dom vM hx hy w q
 obtain⟨i,j,rfl,rfl,w⟩:=NG w
 exact⟨i,j,hx.1,hy.1,w.1,q _ H (.str (i++j)) .refl ⟨rfl,by rw [show (i++j).length=i.length+j.length from Str.length_append i j]; exact w.1⟩ w.2⟩
noncomputable def Vp(g:List D->List D->(D->Prop)->Prop)(d e:D)(P:D->Prop):Prop:=match d,e with
 | .tup i,.tup j=>g i j P
 | _,_=>False
noncomputable def VI(g:List D->List D->(D->Prop)->Prop)(d e:D)(P:D->Prop):Prop:=match d,e with
 | .lst i,.lst j=>g i j P
 | _,_=>False
theorem RL{g:List D->List D->(D->Prop)->Prop}{d e:D}{P:D->Prop}(w:Vp g d e P):∃i j,d=.tup i/\e=.tup j/\g i j P:=by
 unfold Vp at w
 split at w
 ·exact⟨_,_,rfl,rfl,w⟩
 ·exact w.elim
theorem RN{g:List D->List D->(D->Prop)->Prop}{d e:D}{P:D->Prop}(w:VI g d e P):∃i j,d=.lst i/\e=.lst j/\g i j P:=by
 unfold VI at w
 split at w
 ·exact⟨_,_,rfl,rfl,w⟩
 ·exact w.elim
theorem DZ{M:Addr->Prop}{H:Hp}{p:Addr}{vs:List V}{ds:List D}(dom:∀a,M a->∃o,H a=some o)(hp:H p=none)(h:Ats K M H ds vs):At K M (A9 H p (.tup vs)) (.tup ds) (.ref p):=by
 refine⟨p,vs,rfl,⟨fun z=>?_,AV⟩,h.pres (A1 hp).pres⟩
 obtain⟨o,z⟩:=dom p z
 rw [hp] at z; cases z
theorem C6{U M:Addr->Prop}{H:Hp}{p:Addr}{vs:List V}{ds:List D}(hp:H p=none)(h:Ats K M H ds vs):VR K U M H (A9 H p (.lst vs)) .fr (.ref p) (.lst ds) :=
 ⟨p,rfl,hp,vs,AV,h.pres (FA hp)⟩
theorem Ob:Fp K .sh (PK K) (Vp fun i j P=>i≠[]/\i.length+j.length<=sizeLine/\P (.tup (i++j))):=by
 intro U M H d e x y P Q dom vM hx hy w q
 obtain⟨i,j,rfl,rfl,w⟩:=RL w
 obtain⟨a,vs,rfl,ha,hs⟩:=hx.tup
 obtain⟨b,us,rfl,hb,ht⟩:=hy.tup
 have l1:=hs.length
 have l2:=ht.length
 refine⟨a,b,vs,us,rfl,rfl,ha.sq,hb.sq,fun z=>w.1 ?_,by rw [l1,l2]; exact w.2.1,fun z=>?_,fun z p hp=>?_⟩
 ·rw [z] at l1; exact List.length_eq_zero_iff.mp l1.symm
 ·rw [z] at l2
  have:j=[]:=List.length_eq_zero_iff.mp l2.symm
  subst this
  exact q _ H (.tup i) .refl ⟨a,vs,rfl,ha,hs⟩ (by have:=w.2.2; rw [List.append_nil] at this; exact this)
 ·exact q _ _ (.tup (i++j)) (A1 hp) (DZ dom hp (hs.append ht)) w.2.2
theorem JU:Fp K .fr (fun x y H Q=>∃l b xs zs,x=.ref l/\y=.ref b/\Rd H l (.lst xs)/\Rd H b (.lst zs)/\xs.length+zs.length<=sizeLine/\∀p,H p=none->Q (.ref p) (A9 H p (.lst (xs++zs)))) (VI fun i j P=>i.length+j.length<=sizeLine/\P (.lst (i++j))):=by
 intro U M H d e x y P Q dom vM hx hy w q
 obtain⟨i,j,rfl,rfl,w⟩:=RN w
 obtain⟨a,vs,rfl,_,ha,hs⟩:=hx
 obtain⟨b,us,rfl,_,hb,ht⟩:=hy
 exact⟨a,b,vs,us,rfl,rfl,ha,hb,by rw [hs.length,ht.length]; exact w.1,fun p hp=>q _ _ (.lst (i++j)) (A1 hp) (C6 hp (hs.append ht)) w.2⟩
noncomputable def QA(neg:Bool)(d e:D)(P:D->Prop):Prop:=match d,e with
 | .bl i,.bl j=>P (.bl (if neg then !(i==j) else i==j))
 | .int i,.int j=>P (.bl (if neg then !(i==j) else i==j))
 | .str i,.str j=>P (.bl (if neg then !(i==j) else i==j))
 | _,_=>False
theorem RQ{neg:Bool}{d e:D}{P:D->Prop}(w:QA neg d e P):(∃i j,d=.bl i/\e=.bl j/\P (.bl (if neg then !(i==j) else i==j)))\/(∃i j,d=.int i/\e=.int j/\P (.bl (if neg then !(i==j) else i==j)))\/∃i j,d=.str i/\e=.str j/\P (.bl (if neg then !(i==j) else i==j)):=by
 unfold QA at w
 split at w
 ·exact .inl ⟨_,_,rfl,rfl,w⟩
 ·exact .inr (.inl ⟨_,_,rfl,rfl,w⟩)
 ·exact .inr (.inr ⟨_,_,rfl,rfl,w⟩)
 ·exact w.elim
theorem Lg:Fp K .sh V7 (QA false):=by
 intro U M H d e x y P Q dom vM hx hy w q
 rcases RQ w with ⟨i,j,rfl,rfl,w⟩ | ⟨i,j,rfl,rfl,w⟩ | ⟨i,j,rfl,rfl,w⟩
 ·rw [hx.bl,hy.bl]; exact⟨rfl,q _ H _ .refl (by rw [QL]; rfl) w⟩
 ·rw [hx.int,hy.int]; exact⟨rfl,q _ H _ .refl (by rw [NN]; rfl) w⟩
 ·rw [hx.str.1,hy.str.1]; exact⟨rfl,q _ H _ .refl (by rw [NM]; rfl) w⟩
noncomputable def LK:D->Bool
 | .non=>true
 | _=>false
theorem LJ{U M:Addr->Prop}{H:Hp}{d:D}{x:V}(h:AtT K U M H d x):decide (x=.non)=LK d:=by
 cases d with
 | non=>rw [show x=.non from h]; rfl
 | bl b=>rw [h.bl]; rfl
 | int i=>rw [h.int]; rfl
 | str z=>rw [h.str.1]; rfl
 | tup ds=>obtain⟨a,vs,rfl,_⟩:=h.tup; rfl
 | lst ds=>obtain⟨a,vs,rfl,_⟩:=h; rfl
 | dic ks ds=>obtain⟨a,vs,rfl,_⟩:=h; rfl
 | fdi ks ds=>obtain⟨a,vs,rfl,_⟩:=h; rfl
noncomputable def Cj(d e:D)(P:D->Prop):Prop:=match d,e with
 | .lst ds,.int i=>∃z,atI ds i=some z/\P z
 | .tup ds,.int i=>∃z,atI ds i=some z/\P z
 | .str x,.int i=>∃c,atI x.cps.toList i=some c/\P (.str ⟨#[c]⟩)
 | _,_=>False
theorem RO{d e:D}{P:D->Prop}(w:Cj d e P):(∃ds i z,d=.lst ds/\e=.int i/\atI ds i=some z/\P z)\/(∃ds i z,d=.tup ds/\e=.int i/\atI ds i=some z/\P z)\/∃x i c,d=.str x/\e=.int i/\atI x.cps.toList i=some c/\P (.str ⟨#[c]⟩):=by
 unfold Cj at w
 split at w
 ·obtain⟨z,h1,h2⟩:=w; exact .inl ⟨_,_,z,rfl,rfl,h1,h2⟩
 ·obtain⟨z,h1,h2⟩:=w; exact .inr (.inl ⟨_,_,z,rfl,rfl,h1,h2⟩)
 ·obtain⟨z,h1,h2⟩:=w; exact .inr (.inr ⟨_,_,z,rfl,rfl,h1,h2⟩)
 ·exact w.elim
theorem Ats.atI{M:Addr->Prop}{H:Hp}{ds:List D}{vs:List V}{i:Int}{z:D}(h:Ats K M H ds vs)(e:atI ds i=some z):∃v,L2.atI vs i=some v/\At K M H z v:=by
 unfold L2.atI at e ⊢
 rw [h.length]
 cases q:RE ds.length i with
 | none=>rw [q] at e; cases e
 | some j =>
  rw [q] at e
  exact h.get e
theorem Bj:Fp K .sh (V5 K) Cj:=by
 intro U M H d e x y P Q dom vM hx hy w q
 rcases RO w with ⟨ds,i,z,rfl,rfl,hz,w⟩ | ⟨ds,i,z,rfl,rfl,hz,w⟩ | ⟨x,i,c,rfl,rfl,hc,w⟩
 ·obtain⟨a,vs,rfl,_,ha,hs⟩:=hx
  obtain⟨v,hv,hAt⟩:=hs.atI hz
  exact .inl ⟨a,vs,i,v,rfl,hy,.inl ha,hv,q v H z .refl hAt w⟩
 ·obtain⟨a,vs,rfl,ha,hs⟩:=hx.tup
  obtain⟨v,hv,hAt⟩:=hs.atI hz
  exact .inr (.inl ⟨a,vs,i,v,rfl,hy,ha.sq,hv,q v H z .refl hAt w⟩)
 ·exact .inr (.inr ⟨x,i,c,hx.str.1,hy,hx.str.2,hc,q _ H (.str ⟨#[c]⟩) .refl ⟨rfl,by rw [sizeLine_eq]; show 1<=16777216; decide⟩ w⟩)
noncomputable def cutD{α:Type}(xs:List α)(lo hi:Option Int):List α:=(xs.drop (HT.sIx xs.length 0 lo)).take (HT.sIx xs.length xs.length hi - HT.sIx xs.length 0 lo)
theorem Es{R:V->D->Prop}{vs:List V}{d:D}(h:Paired R vs [d]):∃v,vs=[v]/\R v d:=by
 cases h with
 | cons r t=>cases t; exact⟨_,rfl,r⟩
noncomputable def Ve:D->Option Nat
 | .str x=>some x.length
 | .tup xs=>some xs.length
 | .lst xs=>some xs.length
 | _=>none
noncomputable def KH(ds:List D)(P:D->Prop):Prop:=∃d n,ds=[d]/\Ve d=some n/\P (.int (n:Int))
theorem Le:DP K .sh (fun xs H Q=>∃x n,xs=[x]/\T2 K x H n/\Q (.int n) H) KH:=by
 intro U M H ds vs P Q dom vM hp w q
 obtain⟨d,n,rfl,hn,w⟩:=w
 obtain⟨v,rfl,hx⟩:=Es hp
 refine⟨v,n,rfl,?_,q _ H (.int (n:Int)) .refl rfl w⟩
 cases d with
 | str z=>cases hn; rw [hx.str.1]; exact⟨hx.str.2,rfl⟩
 | tup xs =>
  cases hn
  obtain⟨a,us,rfl,ha,hs⟩:=hx.tup
  exact .inr ⟨us,ha.sq,hs.length.symm⟩
 | lst xs =>
  cases hn
  obtain⟨a,us,rfl,_,ha,hs⟩:=hx
  exact .inl ⟨us,.inl ha,hs.length.symm⟩
 | _=>cases hn
noncomputable def allB:List D->Option (List Bool)
 | []=>some []
 | .bl b::r=>(allB r).map (b::·)
 | _::_=>none
theorem NV{M:Addr->Prop}{H:Hp}:∀{ds:List D} {vs:List V} {bs:List Bool},allB ds=some bs->Ats K M H ds vs->vs=bs.map V.bl
 | [],vs,bs,e,h=>by cases e; exact h
 | .bl b::r,vs,bs,e,h=>by
  obtain⟨v,r',e1,h1,h2⟩:=h
  unfold allB at e
  obtain⟨bs',e2,rfl⟩:=Option.map_eq_some_iff.mp e
  rw [e1,NV e2 h2,show v=.bl b from h1]
  rfl
 | .non::r,vs,bs,e,h=>by unfold allB at e; cases e
 | .int _::r,vs,bs,e,h=>by unfold allB at e; cases e
 | .str _::r,vs,bs,e,h=>by unfold allB at e; cases e
 | .tup _::r,vs,bs,e,h=>by unfold allB at e; cases e
 | .lst _::r,vs,bs,e,h=>by unfold allB at e; cases e
 | .dic _ _::r,vs,bs,e,h=>by unfold allB at e; cases e
 | .fdi _ _::r,vs,bs,e,h=>by unfold allB at e; cases e
noncomputable def Uv(ds:List D)(P:D->Prop):Prop:=∃xs bs,ds=[.lst xs]/\allB xs=some bs/\P (.bl (bs.all id))
theorem U2:DP K .sh (fun xs H Q=>∃(p:Addr) (bs:List Bool),xs=[.ref p]/\SqL K H p (bs.map V.bl)/\Q (.bl (bs.all id)) H) Uv:=by
 intro U M H ds vs P Q dom vM hp w q
 obtain⟨xs,bs,rfl,e,w⟩:=w
 obtain⟨v,rfl,hx⟩:=Es hp
 obtain⟨a,us,rfl,_,ha,hs⟩:=hx
 have:=NV e hs
 subst this
 exact⟨a,bs,rfl,.inl ha,q _ H (.bl (bs.all id)) .refl rfl w⟩
noncomputable def C_:List D->Option (List Str)
 | []=>some []
 | .str b::r=>(C_ r).map (b::·)
 | _::_=>none
theorem NT{M:Addr->Prop}{H:Hp}:∀{ds:List D} {vs:List V} {bs:List Str},C_ ds=some bs->Ats K M H ds vs->vs=bs.map V.str
 | [],vs,bs,e,h=>by cases e; exact h
 | .str b::r,vs,bs,e,h=>by
  obtain⟨v,r',e1,h1,h2⟩:=h
  unfold C_ at e
  obtain⟨bs',e2,rfl⟩:=Option.map_eq_some_iff.mp e
  rw [e1,NT e2 h2,h1.1]
  rfl
 | .non::r,vs,bs,e,h=>by unfold C_ at e; cases e
 | .int _::r,vs,bs,e,h=>by unfold C_ at e; cases e
 | .bl _::r,vs,bs,e,h=>by unfold C_ at e; cases e
 | .tup _::r,vs,bs,e,h=>by unfold C_ at e; cases e
 | .lst _::r,vs,bs,e,h=>by unfold C_ at e; cases e
 | .dic _ _::r,vs,bs,e,h=>by unfold C_ at e; cases e
 | .fdi _ _::r,vs,bs,e,h=>by unfold C_ at e; cases e
noncomputable def MQ(ds:List D)(P:D->Prop):Prop:=match ds with
 | [.lst xs]=>P (.lst xs)
 | [.tup xs]=>P (.lst xs)
 | _=>False
theorem Rj:DP K .fr (fun xs H Q=>∃p ys,xs=[.ref p]/\(SqL K H p ys\/SqT K H p ys)/\∀l,H l=none->Q (.ref l) (A9 H l (.lst ys))) MQ:=by
 intro U M H ds vs P Q dom vM hp w q
 unfold MQ at w
 split at w
 ·obtain⟨v,rfl,hx⟩:=Es hp
  obtain⟨a,us,rfl,_,ha,hs⟩:=hx
  exact⟨a,us,rfl,.inl (.inl ha),fun l hl=>q _ _ _ (A1 hl) (C6 hl hs) w⟩
 ·obtain⟨v,rfl,hx⟩:=Es hp
  obtain⟨a,us,rfl,ha,hs⟩:=hx.tup
  exact⟨a,us,rfl,.inr ha.sq,fun l hl=>q _ _ _ (A1 hl) (C6 hl hs) w⟩
 ·exact w.elim
end
noncomputable def UC:D->String
 | .non => "NoneType"
 | .bl _ => "bool"
 | .int _ => "int"
 | .str _ => "str"
 | .tup _ => "tuple"
 | .lst _ => "list"
 | .dic _ _ => "dict"
 | .fdi _ _ => "dict"
noncomputable def TX(t T:String):Bool:=t==T||(t == "bool"&&T == "int")
noncomputable def Sa(T:String)(wa:DW):DW:=fun n ρ P=>wa n ρ fun d n1=>P (.bl (TX (UC d) T)) n1
structure T3 (K:Frag) (T:String):Prop where
 ans:∀t∈["NoneType","bool","int","str","tuple","list","dict"],PySem.W.kitOne K (.type t) (.type T)=some (TX t T)
theorem Ql{K:Frag}{M U:Addr->Prop}{H:Hp}{d:D}{x:V}(h:AtT K U M H d x):FD K H x (.type (UC d)):=by
 cases d with
 | non=>cases (show x=.non from h); exact .non
 | bl b=>cases h.bl; exact .bl b
 | int i=>cases h.int; exact .int i
 | str z=>cases h.str.1; exact .str z
 | tup ds =>
  obtain⟨a,vs,rfl,ha,hs⟩:=h.tup
  exact .tup ha.2
 | lst ds =>
  obtain⟨a,vs,rfl,_,ha,hs⟩:=h
  rcases ha with ha | ⟨o,ha⟩
  ·exact .lst ha
  ·exact .frz ha
 | dic ks ds =>
  obtain⟨a,vs,rfl,_,ha,_⟩:=h
  exact .dK ha
 | fdi ks ds =>
  obtain⟨a,vs,rfl,⟨o,_,ha⟩,_⟩:=h
  exact .dF ha
theorem Qm(d:D):UC d∈["NoneType","bool","int","str","tuple","list","dict"]:=by cases d <;> simp [UC]
theorem QO{X:Cx}{a:Expr}{κ:Kd}{wa:DW}{T:String}{Tn:Str}{p p2 pos:Pos}(kt:T3 X.K T)(ha:DE X a κ wa)(hg:Gl X "isinstance")(hm:X.mg "isinstance"=none)(hgT:Gl X Tn)(hmT:X.mg Tn=none)(hvT:bootBuiltins Tn=some (.type T))
  (hnT:Tn ≠ "__name__":=by decide) (hdT:(Tn==("__debug__" : Str))=false:=by decide)
  (he:starEach [a,.Name Tn p2] X.env=(false,eval a X.env)::starEach [.Name Tn p2] X.env:=by rfl) (he2:starEach [.Name Tn p2] X.env=[(false,eval (.Name Tn p2) X.env)]:=by rfl)
  (hpl:(backTo pos (starEach [.Name Tn p2] X.env)).any (·.1)=false:=by rfl):DE X (.Call (.Name "isinstance" p) [a,.Name Tn p2] [] pos) .sh (Sa T wa):=by
 obtain⟨t,h1,h2⟩:=ha
 have pT:PE X (.Name Tn p2) (tC (.ty T)):=Q2 hgT hmT hvT (v:=.ty T) rfl hnT hdT
 refine⟨_,FP LW hg hm (by decide +kernel) (BY h1 (BY pT CV he2) he) (by decide) (by decide) he hpl,fun C M H n ρ σ P Q R w q=>?_⟩
 refine h2 C M H n ρ σ _ _ R w fun v H1 d n1 e1 f1 r1 p=>?_
 exact⟨v,T,_,_,rfl,Ql (r1.tpOf R.dom R.vM),kt.ans _ (Qm d),q _ H1 (.bl (TX (UC d) T)) n1 e1 f1 rfl p⟩
section
variable {K:Frag}{X:Cx}
noncomputable def SJ(d e:D)(P:D->Prop):Prop:=match d,e with
 | .int i,.int j=>P (.int (i+j))
 | .str i,.str j=>i.length+j.length<=sizeLine/\P (.str (i++j))
 | .tup i,.tup j=>i≠[]/\i.length+j.length<=sizeLine/\P (.tup (i++j))
 | .lst i,.lst j=>i.length+j.length<=sizeLine/\P (.lst (i++j))
 | _,_=>False
noncomputable def SA:R2:=fun x y H Q=>∃l b xs zs,x=.ref l/\y=.ref b/\Rd H l (.lst xs)/\Rd H b (.lst zs)/\xs.length+zs.length<=sizeLine/\∀p,H p=none->Q (.ref p) (A9 H p (.lst (xs++zs)))
noncomputable def R_:R2:=fun x y H Q=>∃i j,x=.str i/\y=.str j/\i.length+j.length<=sizeLine/\Q (.str (i++j)) H
noncomputable def Ru(g:Str->Str->Bool):R2:=fun x y H Q=>∃i j,x=.str i/\y=.str j/\Q (.bl (g i j)) H
noncomputable def PL(K:Frag):R2:=fun x y H Q=>(Gr fun i j=>.int (i+j)) x y H Q\/R_ x y H Q\/PK K x y H Q\/SA x y H Q
theorem op_addU:OpR X (binaryOp .Add) (PL X.K):=op_add.or ((show OpR X (binaryOp .Add) R_ from MD).or (op_catT.or (show OpR X (binaryOp .Add) SA from M6)))
theorem Ke:Fp X.K .sh (PL X.K) SJ:=fun U M H d e x y P Q dom vM hx hy w q=>by
 unfold SJ at w
 split at w
 ·exact .inl (Qa (K:=X.K) (g:=fun i j=>i+j) U M H (.int _) (.int _) x y P Q dom vM hx hy w q)
 ·exact .inr (.inl (Oc (K:=X.K) U M H (.str _) (.str _) x y P Q dom vM hx hy w q))
 ·exact .inr (.inr (.inl (Ob (K:=X.K) U M H (.tup _) (.tup _) x y P Q dom vM hx hy w q)))
 ·exact .inr (.inr (.inr (JU (K:=X.K) U M H (.lst _) (.lst _) x y P Q dom vM hx hy w fun v H' z g r p=>q v H' z g (r.shOf dom (by intro z; cases z)) p)))
 ·exact w.elim
noncomputable def Ut(d e:D)(P:D->Prop):Prop:=match d,e with
 | .int i,.int j=>P (.bl (decide (i<j)))
 | .str i,.str j=>P (.bl (decide (i.cps.toList<j.cps.toList)))
 | _,_=>False
noncomputable def Sx:R2:=fun x y H Q=>(Gr fun i j=>.bl (decide (i<j))) x y H Q\/Ru (fun i j=>decide (i.cps.toList<j.cps.toList)) x y H Q
theorem op_ltU:OpR X (compareOp .Lt) Sx:=op_lt.or Nw
theorem SN:Fp X.K .sh Sx Ut:=fun U M H d e x y P Q dom vM hx hy w q=>by
 unfold Ut at w
 split at w
 ·exact .inl (MX (K:=X.K) (g:=fun i j=>decide (i<j)) U M H (.int _) (.int _) x y P Q dom vM hx hy w q)
 ·exact .inr (QX (K:=X.K) (g:=fun i j=>decide (i.cps.toList<j.cps.toList)) U M H (.str _) (.str _) x y P Q dom vM hx hy w q)
 ·exact w.elim
noncomputable def RM(d e:D)(P:D->Prop):Prop:=match d,e with
 | .int i,.int j=>P (.bl (decide (i<=j)))
 | .str i,.str j=>P (.bl (!(decide (j.cps.toList<i.cps.toList))))
 | _,_=>False
noncomputable def UU:R2:=fun x y H Q=>(Gr fun i j=>.bl (decide (i<=j))) x y H Q\/Ru (fun i j=>!(decide (j.cps.toList<i.cps.toList))) x y H Q
theorem Pj:OpR X (compareOp .LtE) UU:=op_le.or Nx
theorem SO:Fp X.K .sh UU RM:=fun U M H d e x y P Q dom vM hx hy w q=>by
 unfold RM at w
 split at w
 ·exact .inl (MX (K:=X.K) (g:=fun i j=>decide (i<=j)) U M H (.int _) (.int _) x y P Q dom vM hx hy w q)
 ·exact .inr (QX (K:=X.K) (g:=fun i j=>!(decide (j.cps.toList<i.cps.toList))) U M H (.str _) (.str _) x y P Q dom vM hx hy w q)
 ·exact w.elim
noncomputable def UY:R2:=Gr fun i j=>.bl (decide (j<i))
theorem MC:OpR X (compareOp .Gt) UY:=SF
theorem Qb:Fp X.K .sh UY (f2 fun i j=>.bl (decide (j<i))):=MX
noncomputable def UO:V->Option Int->Option Int->Hp->VK->Prop:=fun x lo hi H Q=>∃z,x=.str z/\z.length<=sizeLine/\Q (.str (Txt.slice z lo hi)) H
theorem sl_U:SlR X UO:=Sq
noncomputable def Got(P:Program)(w:World)(K:Frag)(mg:Str->Option Value)(base:Heap)(x:Str)(k:Nat)(ps:List Str)(κ:Kd)(W:W2):Prop :=
 ∃f fd,BG P w K mg base C0 k f fd ps (EB K κ W ps.length)/\mg x=some (.ref f)/\keepIn K (.ref f)=true/\Binds K fd ps []/\∀ss n P,W ss n P->ss.length=ps.length
theorem AJ{e:Expr}{es:List Expr}{k:Nat}{ps:List Str}{κ:Kd}{W:W2}{x:Str}{p pos:Pos}{was:T5}(G:Got X.prog X.w X.K X.mg X.base x k ps κ W)
  (hr:Room k X.A) (hg:Gl X x) (ha:U_ X (e::es) was)
  (hdb:(x==("__debug__" : Str))=false:=by decide) (he:starEach (e::es) X.env=(false,eval e X.env)::starEach es X.env:=by rfl) (hpl:(backTo pos (starEach es X.env)).any (·.1)=false:=by rfl) :
  DE X (.Call (.Name x p) (e::es) [] pos) κ (AR W was):=by
 obtain⟨f,fd,G,hm,hk,hb,hW⟩:=G
 exact Rg G hW hr hg hm hk hb ha hdb he hpl
theorem RD:T3 K "str":=⟨fun t ht=>by
 simp only [List.mem_cons,List.not_mem_nil,or_false] at ht
 rcases ht with rfl | rfl | rfl | rfl | rfl | rfl | rfl <;> kernel_rfl⟩
theorem kit_tuple:T3 K "tuple":=⟨fun t ht=>by
 simp only [List.mem_cons,List.not_mem_nil,or_false] at ht
 rcases ht with rfl | rfl | rfl | rfl | rfl | rfl | rfl <;> kernel_rfl⟩
end
theorem Lc{α:Type}(p:α->Bool):∀l:List α,allB (l.map fun c=>.bl (p c))=some (l.map p)
 | []=>rfl
 | a::l=>by
  rw [List.map_cons,List.map_cons]
  unfold allB
  rw [Lc p l]
  rfl
theorem Aw{P:Program}{w:World}{K:Frag}{mg:Str->Option Value}{base:Heap}{x:Str}{st:Stmt}{f:Addr}{fd:FuncData}{k:Nat}{ps:List Str}{κ:Kd}{W:W2}(F:Fun K x x st f fd)(m:mg x=some (.ref f))(b:Binds K fd ps [])
  (hW:∀ss n P,W ss n P->ss.length=ps.length) (ok:BG P w K mg base C0 k f fd ps (EB K κ W ps.length)):Got P w K mg base x k ps κ W:=⟨f,fd,ok,m,F.kp,b,hW⟩
noncomputable def Kt(K:Frag):Sp:=fun vs H Q _=>∃a ns,vs=[V.ref a]/\(List.length (α:=Int) ns<=63/\SqL K H a (ns.map V.int))/\∀H',Q (.bl true) H'
noncomputable def Jb(K:Frag):Sp:=fun vs H Q _=>∃a ns,vs=[V.ref a]/\(List.length (α:=Int) ns<=63/\SqL K H a (ns.map V.int)) /\
 ∀(c f:Addr) (H':Hp),c≠f->H' c=some (.lst (ns.map V.int))->H' f=some (.lst [.ref c,.int 0,.int 0])->Q (.ref f) H'
theorem Uy{ns:List Int}(h:ns.length<=63):Ik (ns.map V.int) none (some 63)=ns.map V.int:=by
 have e:HT.sIx (ns.map V.int).length (ns.map V.int).length (some 63)=ns.length:=by
  rw [show (63:Int)=((63:Nat):Int) from rfl,HT.sIx_nat,List.length_map,Nat.min_eq_right h]
 unfold Ik
 rw [e,HT.sIx_none,List.drop_zero,Nat.sub_zero]
 exact List.take_of_length_le (by rw [List.length_map]; exact Nat.le_refl _)
theorem JC{b:BW}{body:Ab}{D2:E2}(I:Nat->Nat->List Slot->Prop)(hend:∀n ρ,I 0 n ρ->D2.nx n ρ) :
  ∀(ds:List D) (n:Nat) (ρ:List Slot) (_:∀(k:Nat) (d:D) (n:Nat) (ρ:List Slot) (nx:Nat->List Slot->Prop),d∈ds->I (k+1) n ρ->(∀n' ρ',I k n' ρ'->nx n' ρ')->b d ρ fun ρ1=>body { D2 with nx:=nx,ct:=nx,bk:=D2.nx } n ρ1),
   I ds.length n ρ->BM b body D2 ds n ρ
 | [],n,ρ,_,h=>hend n ρ h
 | d::ds,n,ρ,hs,h=>hs ds.length d n ρ (BM b body D2 ds) List.mem_cons_self h fun n' ρ' h'=>JC I hend ds n' ρ' (fun k d n ρ nx hm=>hs k d n ρ nx (List.mem_cons_of_mem _ hm)) h'
theorem Up{P:Program}{w:World}{K:Frag}{mg:Str->Option Value}{base:Heap}{st s1:Stmt}{rest:List Stmt}{f:Addr}{fd:FuncData}{Nr:List Str}{k n0:Nat}{wb:Ab}(F:Fun K "law" "law" st f fd)
  (S:Ae ("_law_script" :: "_law_feed_here"::Nr) ["_law_script"] (AH st)) (hbd:AZ st=s1::rest) (hn0:n0<=2 ^ 60)
  (h1:∀(cdv:Value) (A:Around) (outer:List Env) (s:Shared) (H:Hp) (E:XK),Room k (A.deeper (envOfC "law" (AH st) s.heap.objs.size f cdv)) ->
   PS (KW C0 P w K mg base ("_law_script" :: "_law_feed_here"::Nr) "law" (AH st) f cdv A outer s H E).nox s1 (Lr (O1 (Jb K) [] E0 (Kp (Bo 0) O0)) (Gc 1)))
  (h2:∀(cdv:Value) (A:Around) (outer:List Env) (s:Shared) (H:Hp) (E:XK),Room k (A.deeper (envOfC "law" (AH st) s.heap.objs.size f cdv)) ->
   Qf (KW C0 P w K mg base ("_law_script" :: "_law_feed_here"::Nr) "law" (AH st) f cdv A outer s H E).nox .sh rest wb)
  (hW:wb { nx:=fun _ _=>False,rt:=fun d _=>d=.bl true } n0 (.no::.fd::List.replicate Nr.length .no)):BG P w K mg base C0 (k+1) f fd ["_law_script"] (Kt K):=by
 refine F.ok S (fun vs H Q E h=>?_) (fun cdv A outer s H vs Q E hr h=>?_)
 ·obtain⟨a,ns,rfl,_⟩:=h
  rfl
 ·obtain⟨a,ns,rfl,⟨hl,hS⟩,q⟩:=h
  obtain⟨t,t1,t2⟩:=h2 cdv A outer s H E hr
  refine⟨Nf (Lr (O1 (Jb K) [] E0 (Kp (Bo 0) O0)) (Gc 1)) t,by rw [hbd]; exact BF (h1 cdv A outer s H E hr) t1,?_⟩
  refine⟨_,rfl,a,ns,rfl,⟨hl,hS⟩,fun c g H' hcg hc hg=>?_⟩
  have at_:∀(i:Nat) (sl:Slot),(Slot.no::Slot.fd::List.replicate Nr.length Slot.no)[i]?=some sl->Slot.no=sl\/(Slot.fd=sl/\i=1):=by
   intro i sl hs
   match i,hs with
   | 0,hs=>exact .inl (Option.some.inj hs)
   | 1,hs=>exact .inr ⟨Option.some.inj hs,rfl⟩
   | i+2,hs =>
    rw [List.getElem?_cons_succ,List.getElem?_cons_succ,List.getElem?_replicate] at hs
    split at hs
    ·exact .inl (Option.some.inj hs)
    ·cases hs
  have R:Rel K ⟨fun b=>b=g,some (g,c),fun b=>b=g,fun b=>b=g,H',[],[]⟩ (fun b=>b=g) H' n0 (.no::.fd::List.replicate Nr.length .no) ((start ("_law_script" :: "_law_feed_here"::Nr) [V.ref a]).set 1 (some (.ref g))):=by
   refine⟨by simp [L2.start],fun _ z=>z,fun b z=>⟨_,(congrArg H' z).trans hg⟩,Ext.refl _ _,fun b z=>by rw [← Option.some.inj z],fun _ z=>z,fun _ z=>z,fun b z=>?_,fun i sl hs=>?_,fun p hp=>absurd hp (by simp),fun i d b hs _=>?_,fun i sl b hs o _=>?_,fun i j sl t b hs o _ _ _ _=>?_,fun p hp=>absurd hp (by simp)⟩
   ·have e:(g,c)=b:=Option.some.inj z
    subst e
    exact⟨0,0,ns,hg,hcg,⟨hcg,hc⟩,hl,by decide,by omega⟩
   ·rcases at_ i sl hs with e | ⟨e,rfl⟩
    ·rw [← e]; trivial
    ·rw [← e]
     exact⟨(g,c),by simp [L2.start],rfl⟩
   ·rcases at_ i _ hs with e | ⟨e,_⟩ <;> cases e
   ·rcases at_ i sl hs with e | ⟨e,_⟩ <;> (rw [← e] at o; cases o)
   ·rcases at_ i sl hs with e | ⟨e,_⟩ <;> (rw [← e] at o; cases o)
  refine t2 _ _ H' n0 _ _ { nx:=fun _ _=>False,rt:=fun d _=>d=.bl true } _ R ⟨fun _ _ _ _ _ _ z=>z.elim,fun v H2 d n' _ _ r p=>?_,fun _ _ _ _ _ _ z=>z.elim,fun _ _ _ _ _ _ z=>z.elim⟩ hW
  have e:d=.bl true:=p
  subst e
  have e2:v=.bl true:=r
  subst e2
  exact q H2
end Dp
namespace L2
open PySem PySem.Spec PyProof.Rows
section
variable {X:Cx}
theorem FH:∀{us:List Value} {ys:List Str},StrsAre us ys->Vals (ys.map V.str) us
 | _,_,.nil=>.nil
 | _,_,.cons x t r=>.cons ⟨t,rfl⟩ (FH r)
noncomputable def PF(K:Frag):List V->Hp->VK->Prop:=fun xs H Q=>∃(p:Addr) (ss:List Str),xs=[.ref p]/\SqL K H p (ss.map V.str)/\ss.length<64/\∀(ss':List Str) (l:Addr),ss'.Perm ss->sortedS ss'=true->H l=none->Q (.ref l) (A9 H l (.lst (ss'.map V.str)))
theorem IF:Ck X (.builtin "sorted") (PF X.K):=by
 intro pins s σ H xs us Q I r h
 obtain⟨p,ss,rfl,hq,h64,q⟩:=h
 obtain⟨u,rfl,rx⟩:=vals1 r
 cases rx
 obtain⟨its,r',pl,hz⟩:=I.list hq
 have hlen:=r'.length
 rw [List.length_map] at hlen
 refine sorted_strs pl.isList (Lw r') (by omega) fun out ss' a1 a2 a3=>?_
 obtain⟨e,he⟩:=sortedAll_at s.heap its out
 have hl':ss'.length=ss.length:=a2.length_eq
 have hn:H (s.heap.objs.size+1)=none:=I.hok.fresh (Nat.le_succ _)
 refine⟨.ref (s.heap.objs.size+1),_,I.laid (t':=s.toks) (fun b o z=>sortedAll_old z) (Nat.le_succ _) (show ObjOk X.prog X.w _ _ _ (.lst (ss'.map V.str)) from⟨?_,out.toList,e,FH a1,?_⟩),rfl,q ss' _ a2 a3 hn⟩
 ·rw [List.length_map,sizeLine_eq]; omega
 ·exact he
noncomputable def Ry:R2:=fun x y H Q=>∃z k,x=.str z/\y=.int k/\MulOk z k/\Q (.str (Txt.mul z k)) H
theorem Q3:OpR X (binaryOp .Mult) Ry:=by
 intro pins s σ H x y v u Q I rx ry h
 obtain⟨z,k,rfl,rfl,hm,q⟩:=h
 obtain⟨t,rfl⟩:=rx
 obtain⟨t',rfl⟩:=ry
 exact SB.mul hm fun t' k=>⟨.str _,H,I.tok _,⟨_,rfl⟩,q⟩
end
end L2
namespace Dp
open PySem PySem.Spec PyProof.Rows L2
section
variable {K:Frag}
noncomputable def Bk(ds:List D)(P:D->Prop):Prop:=match ds with
 | [.lst xs]=>P (.tup xs)
 | [.tup xs]=>P (.tup xs)
 | _=>False
theorem DA:DP K .sh (fun xs H Q=>∃p ys,xs=[.ref p]/\((SqL K H p ys/\∀l,H l=none->Q (.ref l) (A9 H l (.tup ys)))\/(SqT K H p ys/\Q (.ref p) H))) Bk:=by
 intro U M H ds vs P Q dom vM hp w q
 unfold Bk at w
 split at w
 ·obtain⟨v,rfl,hx⟩:=Es hp
  obtain⟨a,us,rfl,_,ha,hs⟩:=hx
  exact⟨a,us,rfl,.inl ⟨.inl ha,fun l hl=>q _ _ (.tup _) (A1 hl) (DZ dom hl hs) w⟩⟩
 ·obtain⟨v,rfl,hx⟩:=Es hp
  obtain⟨a,us,rfl,ha,hs⟩:=hx.tup
  exact⟨a,us,rfl,.inr ⟨ha.sq,q _ H (.tup _) .refl ⟨a,us,rfl,ha,hs⟩ w⟩⟩
 ·exact w.elim
theorem Ats.strs{M:Addr->Prop}{H:Hp}:∀{ss:List Str},(∀x∈ss,x.length<=sizeLine)->Ats K M H (ss.map D.str) (ss.map V.str)
 | [],_=>rfl
 | x::r,h=>⟨.str x,r.map V.str,rfl,⟨rfl,h x List.mem_cons_self⟩,Ats.strs fun y hy=>h y (List.mem_cons_of_mem _ hy)⟩
theorem Ats.strs_le{M:Addr->Prop}{H:Hp}:∀{ss:List Str} {vs:List V},Ats K M H (ss.map D.str) vs->∀x∈ss,x.length<=sizeLine
 | [],_,_=>fun x hx=>by cases hx
 | y::r,vs,h=>fun x hx=>by
  obtain⟨v,t,e,h1,h2⟩:=h
  rcases List.mem_cons.mp hx with rfl | hx
  ·exact h1.2
  ·exact Ats.strs_le h2 x hx
noncomputable def MP(ds:List D)(P:D->Prop):Prop:=∃(xs:List D) (ss:List Str),ds=[.lst xs]/\C_ xs=some ss/\ss.length<64/\∀ss':List Str,ss'.Perm ss->sortedS ss'=true->P (.lst (ss'.map .str))
theorem NU:∀{xs:List D} {ss:List Str},C_ xs=some ss->xs=ss.map .str
 | [],ss,h=>by cases h; rfl
 | .str b::r,ss,h=>by
  unfold C_ at h
  obtain⟨t,e,rfl⟩:=Option.map_eq_some_iff.mp h
  rw [List.map_cons,← NU e]
 | .non::r,ss,h=>by unfold C_ at h; cases h
 | .int _::r,ss,h=>by unfold C_ at h; cases h
 | .bl _::r,ss,h=>by unfold C_ at h; cases h
 | .tup _::r,ss,h=>by unfold C_ at h; cases h
 | .lst _::r,ss,h=>by unfold C_ at h; cases h
 | .dic _ _::r,ss,h=>by unfold C_ at h; cases h
 | .fdi _ _::r,ss,h=>by unfold C_ at h; cases h
theorem NW:DP K .fr (PF K) MP:=by
 intro U M H ds vs P Q dom vM hp w q
 obtain⟨xs,ss,rfl,e,h64,w⟩:=w
 obtain⟨v,rfl,hx⟩:=Es hp
 obtain⟨a,us,rfl,_,ha,hs⟩:=hx
 have:=NT e hs
 subst this
 have e2:=NU e
 subst e2
 refine⟨a,ss,rfl,.inl ha,h64,fun ss' l h1 h2 hl=>?_⟩
 exact q _ _ _ (A1 hl) (C6 hl (Ats.strs fun x hx=>hs.strs_le x (h1.mem_iff.mp hx))) (w ss' h1 h2)
noncomputable def EL(d e:D)(P:D->Prop):Prop:=match d,e with
 | .int i,.int j=>CMul i j/\P (.int (i*j))
 | .str z,.int k=>MulOk z k/\(Txt.mul z k).length<=sizeLine/\P (.str (Txt.mul z k))
 | _,_=>False
noncomputable def Rz:R2:=fun x y H Q=>(rI CMul fun i j=>.int (i*j)) x y H Q\/Ry x y H Q
theorem Cq{X:Cx}:OpR X (binaryOp .Mult) Rz:=op_mul.or Q3
theorem Du:Fp K .sh Rz EL:=fun U M H d e x y P Q dom vM hx hy w q=>by
 unfold EL at w
 split at w
 ·exact .inl (EZ (K:=K) (C:=CMul) (g:=fun i j=>i*j) U M H (.int _) (.int _) x y P Q dom vM hx hy w q)
 ·rename_i z k
  exact .inr ⟨z,k,hx.1,hy,w.1,q _ H (.str _) .refl ⟨rfl,w.2.1⟩ w.2.2⟩
 ·exact w.elim
end
section
variable {X:Cx}{tg e e2:Expr}{es:List Expr}{ws:FE}{p pos:Pos}
noncomputable def U9(X:Cx)(ts:List Expr)(b:List D->List Slot->(List Slot->Prop)->Prop):Prop:=∃g,UA X ts g/\∀(C:Fm) (M:Addr->Prop) (H:Hp) (n:Nat) (ρ:List Slot) (σ:L2.St) (ds:List D) (vs:List V) (P:List Slot->Prop) (Q:L2.St->Hp->Prop),Rel X.K C M H n ρ σ->Ats X.K M H ds vs->b ds ρ P ->
 (∀ρ' σ',Rel X.K C M H n ρ' σ'->P ρ'->Q σ' H)->g vs σ H Q
noncomputable def B8:List D->List Slot->(List Slot->Prop)->Prop:=fun ds ρ P=>ds=[]/\P ρ
noncomputable def AY(b:BW)(bs:List D->List Slot->(List Slot->Prop)->Prop):List D->List Slot->(List Slot->Prop)->Prop:=fun ds ρ P=>match ds with
 | d::r=>b d ρ fun ρ1=>bs r ρ1 P
 | []=>False
theorem CM:U9 X [] B8:=⟨_,Mv,fun C M H n ρ σ ds vs P Q R h w q=>by
 obtain⟨rfl,w⟩:=w
 exact⟨h,q ρ σ R w⟩⟩
theorem Ah{b:BW}{bs:List D->List Slot->(List Slot->Prop)->Prop}(h1:DG X e b)(h2:U9 X es bs)(hs:(assignEach (e::es) X.env).map (·.2)=assign e X.env::(assignEach es X.env).map (·.2):=by rfl):U9 X (e::es) (AY b bs):=by
 obtain⟨g,a1,a2⟩:=h1
 obtain⟨g',b1,b2⟩:=h2
 refine⟨_,FO a1 b1 hs,fun C M H n ρ σ ds vs P Q R h w q=>?_⟩
 cases ds with
 | nil=>exact w.elim
 | cons d r =>
  obtain⟨v,vr,e,hv,hr⟩:=h
  exact⟨v,vr,e,a2 C M H n ρ σ d v _ _ R hv w fun ρ' σ' R' w'=>b2 C M H n ρ' σ' r vr _ _ R' hr w' q⟩
noncomputable def Df(k:Nat)(bs:List D->List Slot->(List Slot->Prop)->Prop):BW:=fun d ρ P=>match d with
 | .tup ds=>ds.length=k/\bs ds ρ P
 | _=>False
theorem DU{bs:List D->List Slot->(List Slot->Prop)->Prop}{k:Nat}{j:Nat}(hc:X.calm=true)(h:U9 X es bs)(hn:(assignEach es X.env).length=k:=by rfl)(hst:(assignEach es X.env).findIdx? (·.1)=none:=by rfl):DG X (.Tuple es j pos) (Df k bs):=by
 obtain⟨g,a1,a2⟩:=h
 refine⟨_,Pa hc a1 hn hst,fun C M H n ρ σ d v P Q R h w q=>?_⟩
 cases d with
 | tup ds =>
  obtain⟨a,vs,rfl,hq,hs⟩:=h
  exact⟨a,vs,rfl,hq.sq,by rw [hs.length]; exact w.1,a2 C M H n ρ σ ds vs P Q R hs w.2 q⟩
 | _=>exact w.elim
noncomputable def Sb(wa:DW)(b:BW):Ab:=fun D2 n ρ=>wa n ρ fun d n1=>b d ρ fun ρ1=>D2.nx n1 ρ1
theorem Te{κ κe:Kd}{wa:DW}{b:BW}(he:DE X e κe wa)(hg:DG X tg b)(hk:κe≠.tp:=by intro z; cases z)(hs:swapsWithSole [tg] e pos.line X.env=pure false:=by rfl)(hw:swappedStores [tg] e X.env=pure none:=by rfl)
  (h1:(assignEach [tg] X.env).map (·.2)=[assign tg X.env]:=by rfl):DS X κ (.Assign [tg] e pos) (Sb wa b):=by
 obtain⟨t,a1,a2⟩:=he
 obtain⟨g,g1,g2⟩:=hg
 refine⟨_,Fx a1 g1 hs hw h1,fun C M H n ρ σ D2 E R L w=>?_⟩
 refine a2 C M H n ρ σ _ _ R w fun v H' d n' e1 f1 r1 p=>?_
 exact g2 C M H' n' ρ σ d v _ _ (R.step e1 f1) (r1.shOf R.dom hk) p fun ρ' σ' R' w'=>L.nx M H' n' ρ' σ' R' w'
end
end Dp
namespace L2
open PySem PySem.Spec PyProof.Rows
mutual
noncomputable def RV(H:Hp):PyData->V->Prop
 | .none,v=>v=.non
 | .bool b,v=>v=.bl b
 | .int i,v=>v=.int i
 | .str x,v=>v=.str x
 | .tuple xs,v=>∃a vs,v=.ref a/\H a=some (.tup vs)/\RVs H xs vs
 | .list xs,v=>∃a vs,v=.ref a/\Rd H a (.lst vs)/\RVs H xs vs
 | .dict _,_=>False
noncomputable def RVs(H:Hp):List PyData->List V->Prop
 | [],vs=>vs=[]
 | x::xs,vs=>∃v r,vs=v::r/\RV H x v/\RVs H xs r
end
section
variable {X:Cx}{pins:List (Addr×Obj)}{σ:L2.St}{H:Hp}{s:Shared}
mutual
theorem RV.reads(I:Inv X pins σ H s):∀{d:PyData} {v:V} {u:Value},RV H d v->RelV v u->∃as,Reads s.heap u d as
 | .none,v,u,h,r=>by
  cases (show v=.non from h)
  cases (show u=Value.none from r)
  exact⟨_,.none⟩
 | .bool b,v,u,h,r=>by
  cases (show v=.bl b from h)
  cases (show u=Value.bool b from r)
  exact⟨_,.bool b⟩
 | .int i,v,u,h,r=>by
  cases (show v=.int i from h)
  obtain⟨t,rfl⟩:=r
  exact⟨_,.int i t⟩
 | .str x,v,u,h,r=>by
  cases (show v=.str x from h)
  obtain⟨t,rfl⟩:=r
  exact⟨_,.str x t⟩
 | .tuple xs,v,u,h,r=>by
  obtain⟨a,vs,rfl,hq,hs⟩:=h
  cases r
  obtain⟨its,rv,⟨o,e,c,n,d⟩,_⟩:=I.tuple (X:=X) (xs:=vs) (.inl (.inl hq))
  obtain⟨as,ra⟩:=RVs.reads I hs rv
  exact⟨_,.tuple e c d ra⟩
 | .list xs,v,u,h,r=>by
  obtain⟨a,vs,rfl,hq,hs⟩:=h
  cases r
  obtain⟨its,rv,pl,_⟩:=I.list (X:=X) (xs:=vs) (.inl hq)
  obtain⟨o,e,c,n,d⟩:=pl.isList
  obtain⟨as,ra⟩:=RVs.reads I hs rv
  exact⟨_,.list e c d ra⟩
 | .dict _,v,u,h,r=>h.elim
theorem RVs.reads(I:Inv X pins σ H s):∀{ds:List PyData} {vs:List V} {us:List Value},RVs H ds vs->Vals vs us->∃as,ReadsAll s.heap us ds as
 | [],vs,us,h,r=>by
  cases (show vs=[] from h)
  cases r
  exact⟨_,.nil⟩
 | d::ds,vs,us,h,r=>by
  obtain⟨v,w,rfl,h1,h2⟩:=h
  cases r with
  | cons r1 r2 =>
   obtain⟨as,a1⟩:=RV.reads I h1 r1
   obtain⟨bs,a2⟩:=RVs.reads I h2 r2
   exact⟨_,.cons a1 a2⟩
end
end
theorem RV.noDict{H:Hp}:∀(d:PyData) (v:V),RV H d v->d.hasDict=false
 | d,v,h=>by
  have go:∀(n:Nat),(∀(d:PyData) (v:V),sizeOf d<=n->RV H d v->d.hasDict=false)/\∀(ds:List PyData) (vs:List V),sizeOf ds<=n->RVs H ds vs->PyData.hasDictAll ds=false:=by
   intro n
   induction n with
   | zero =>
    refine⟨fun d v h _=>?_,fun ds vs h _=>?_⟩
    ·cases d <;> simp at h
    ·cases ds <;> simp at h
   | succ n ih =>
    refine⟨fun d v h hr=>?_,fun ds vs h hr=>?_⟩
    ·cases d with
     | tuple xs =>
      obtain⟨a,vs,_,_,hs⟩:=hr
      simp only [PyData.hasDict]
      exact ih.2 xs vs (by simp at h; omega) hs
     | list xs =>
      obtain⟨a,vs,_,_,hs⟩:=hr
      simp only [PyData.hasDict]
      exact ih.2 xs vs (by simp at h; omega) hs
     | dict kvs=>exact(show False from hr).elim
     | none=>simp only [PyData.hasDict]
     | bool b=>simp only [PyData.hasDict]
     | int i=>simp only [PyData.hasDict]
     | str x=>simp only [PyData.hasDict]
    ·cases ds with
     | nil=>simp only [PyData.hasDictAll]
     | cons x xs =>
      obtain⟨v,w,_,h1,h2⟩:=hr
      simp only [PyData.hasDictAll,ih.1 x v (by simp at h; omega) h1,ih.2 xs w (by simp at h; omega) h2,Bool.or_false]
  exact(go (sizeOf d)).1 d v (Nat.le_refl _) h
section
variable {X:Cx}
noncomputable def Rx:List V->Hp->VK->Prop:=fun xs H Q=>∃x d,xs=[x]/\RV H d x/\d.showable=true/\d.depth<=100/\d.shown.length<=sizeLine/\Q (.str d.shown) H
theorem Em{k:Nat}(hr:Room k X.A):Ck X (.builtin "repr") Rx:=by
 intro pins s σ H xs us Q I r h
 obtain⟨x,d,rfl,hx,hs,hd,hz,q⟩:=h
 obtain⟨u,rfl,rx⟩:=vals1 r
 have hu:=hr.un
 cases d with
 | none =>
  cases (show x=.non from hx)
  cases (show u=Value.none from rx)
  exact PySem.P.repr_of_none ⟨.str _,H,I.tok _,⟨_,rfl⟩,q⟩
 | bool b =>
  cases (show x=.bl b from hx)
  cases (show u=Value.bool b from rx)
  refine PySem.P.repr_of_bool ⟨.str _,H,I.tok _,⟨_,rfl⟩,?_⟩
  have e:PyData.shown (.bool b)=if b then ("True" : Str) else "False":=by cases b <;> rfl
  rw [e] at q
  exact q
 | int i =>
  cases (show x=.int i from hx)
  obtain⟨t,rfl⟩:=rx
  refine PySem.P.repr_of_int (by simpa [PyData.showable] using hs) ⟨.str _,H,I.tok _,⟨_,rfl⟩,q⟩
 | str z =>
  cases (show x=.str z from hx)
  obtain⟨t,rfl⟩:=rx
  exact PySem.P.repr_of_str ⟨.str _,H,I.tok _,⟨_,rfl⟩,q⟩ hz
 | tuple ds =>
  obtain⟨as,ra⟩:=RV.reads I hx rx
  obtain⟨a,vs,rfl,_⟩:=id hx
  cases rx
  refine repr_of_reads' ra hs (PyData.noDict_hsm (RV.noDict _ _ hx)) hr.gd (by omega) (fun _ _ e=>e) (fun h' u tk hk=>⟨.str _,H,I.kept (t':=tk) hk,⟨_,rfl⟩,q⟩) hz
 | list ds =>
  obtain⟨as,ra⟩:=RV.reads I hx rx
  obtain⟨a,vs,rfl,_⟩:=id hx
  cases rx
  refine repr_of_reads' ra hs (PyData.noDict_hsm (RV.noDict _ _ hx)) hr.gd (by omega) (fun _ _ e=>e) (fun h' u tk hk=>⟨.str _,H,I.kept (t':=tk) hk,⟨_,rfl⟩,q⟩) hz
 | dict _=>exact(show False from hx).elim
noncomputable def UX(neg:Bool):R2:=fun x y H Q=>∃d es,RV H d x/\(RV H (.list es) y\/RV H (.tuple es) y)/\d.canLay0=true/\PyData.canLayAll0 es=true/\d.depth<=100/\Q (.bl (if neg then !(es.any fun y=>PyData.eqv y d) else es.any fun y=>PyData.eqv y d)) H
theorem I0{k:Nat}(hr:Room k X.A):OpR X (compareOp .NotIn) (UX true):=by
 intro pins s σ H x y v u Q I rx ry h
 obtain⟨d,es,hx,hy,h1,h2,hd,q⟩:=h
 obtain⟨as,ra⟩:=RV.reads I hx rx
 have hu:=hr.un
 have hm:min (PyData.depthAll es) d.depth<=d.depth:=Nat.min_le_right _ _
 rcases hy with hy | hy
 ·obtain⟨bs,rb⟩:=RV.reads I hy ry
  exact PySem.SeqAt.notIn_list_reads rb ra h2 h1 (by omega) ⟨.bl _,H,I,rfl,q⟩
 ·obtain⟨bs,rb⟩:=RV.reads I hy ry
  exact PySem.SeqAt.notIn_tuple_reads rb ra h2 h1 (by omega) ⟨.bl _,H,I,rfl,q⟩
end
end L2
namespace Dp
open PySem PySem.Spec PyProof.Rows L2
mutual
noncomputable def toPy:D->PyData
 | .non=>.none
 | .bl b=>.bool b
 | .int i=>.int i
 | .str x=>.str x
 | .tup ds=>.tuple (B5 ds)
 | .lst ds=>.list (B5 ds)
 | .dic _ _=>.dict []
 | .fdi _ _=>.dict []
noncomputable def B5:List D->List PyData
 | []=>[]
 | d::ds=>toPy d::B5 ds
end
mutual
noncomputable def GY:D->Bool
 | .tup ds=>E7 ds
 | .lst ds=>E7 ds
 | .dic _ _=>false
 | .fdi _ _=>false
 | _=>true
noncomputable def E7:List D->Bool
 | []=>true
 | d::ds=>GY d&&E7 ds
end
theorem Ei(ds:List D):B5 ds=ds.map toPy:=by
 induction ds with
 | nil=>rfl
 | cons d r ih=>rw [B5,ih,List.map_cons]
section
variable {K:Frag}{M:Addr->Prop}{H:Hp}
mutual
theorem At.rv:∀{d:D} {v:V},At K M H d v->GY d=true->RV H (toPy d) v
 | .non,v,h,_=>h
 | .bl b,v,h,_=>h
 | .int i,v,h,_=>h
 | .str x,v,h,_=>h.1
 | .tup ds,v,h,n=>by
  obtain⟨a,vs,e,hn,hs⟩:=h
  exact⟨a,vs,e,hn.2,Ats.rv hs n⟩
 | .lst ds,v,h,n=>by
  obtain⟨a,vs,e,hn,hs⟩:=h
  exact⟨a,vs,e,.inl hn.2,Ats.rv hs n⟩
 | .dic ks ds,v,h,n=>by cases n
 | .fdi ks ds,v,h,n=>by cases n
theorem Ats.rv:∀{ds:List D} {vs:List V},Ats K M H ds vs->E7 ds=true->RVs H (B5 ds) vs
 | [],vs,h,_=>h
 | d::ds,vs,h,n=>by
  obtain⟨v,r,e,h1,h2⟩:=h
  have n':(GY d&&E7 ds)=true:=n
  rw [Bool.and_eq_true] at n'
  exact⟨v,r,e,At.rv h1 n'.1,Ats.rv h2 n'.2⟩
end
theorem AtT.rv{U:Addr->Prop}{d:D}{v:V}(h:AtT K U M H d v)(n:GY d=true):RV H (toPy d) v:=by
 cases d with
 | lst ds =>
  obtain⟨a,vs,e,_,hq,hs⟩:=h
  exact⟨a,vs,e,hq,Ats.rv hs n⟩
 | dic ks ds=>cases n
 | fdi ks ds=>cases n
 | non=>exact h
 | bl b=>exact h
 | int i=>exact h
 | str x=>exact h.1
 | tup ds=>exact At.rv (K:=K) (M:=M) (d:=.tup ds) h n
noncomputable def O5(d:D):Prop:=GY d=true/\(toPy d).showable=true/\(toPy d).depth<=100/\(toPy d).shown.length<=sizeLine
noncomputable def Jd(d:D):Str:=(toPy d).shown
noncomputable def Hw(ds:List D)(P:D->Prop):Prop:=∃d,ds=[d]/\O5 d/\P (.str (Jd d))
theorem Kc:DP K .sh Rx Hw:=by
 intro U M H ds vs P Q dom vM hp w q
 obtain⟨d,rfl,hd,w⟩:=w
 obtain⟨v,rfl,hx⟩:=Es hp
 exact⟨v,toPy d,rfl,hx.rv hd.1,hd.2.1,hd.2.2.1,hd.2.2.2,q _ H (.str (Jd d)) .refl ⟨rfl,hd.2.2.2⟩ w⟩
noncomputable def GD(d:D):Prop:=GY d=true/\(toPy d).canLay0=true/\(toPy d).depth<=100
noncomputable def OR(d e:D):Bool:=PyData.eqv (toPy d) (toPy e)
noncomputable def Gn:D->Option (List D)
 | .lst ds=>some ds
 | .tup ds=>some ds
 | _=>none
noncomputable def RP(neg:Bool)(d e:D)(P:D->Prop):Prop:=GD d/\GD e/\∃es,Gn e=some es/\P (.bl (if neg then !(es.any fun y=>OR y d) else es.any fun y=>OR y d))
theorem SQ{neg:Bool}:Fp K .sh (UX neg) (RP neg):=fun U M H d e x y P Q dom vM hx hy w q=>by
 obtain⟨h1,h2,es,he,w⟩:=w
 have any_eq:∀es:List D,(es.map toPy).any (fun y=>PyData.eqv y (toPy d))=es.any fun y=>OR y d:=fun es=>by rw [List.any_map]; rfl
 cases e with
 | lst ds =>
  cases he
  refine⟨toPy d,B5 es,hx.rv h1.1,.inl (hy.rv h2.1),h1.2.1,by simpa [toPy,PyData.canLay0] using h2.2.1,h1.2.2,?_⟩
  rw [Ei,any_eq]
  exact q _ H (.bl _) .refl rfl w
 | tup ds =>
  cases he
  refine⟨toPy d,B5 es,hx.rv h1.1,.inr (hy.rv h2.1),h1.2.1,by simpa [toPy,PyData.canLay0] using h2.2.1,h1.2.2,?_⟩
  rw [Ei,any_eq]
  exact q _ H (.bl _) .refl rfl w
 | _=>cases he
end
end Dp
namespace L2
open PySem PySem.Spec PyProof.Rows
end L2
namespace Dp
open PySem PySem.Spec PyProof.Rows L2
end Dp
namespace L2
open PySem PySem.Spec PyProof.Rows
noncomputable def kOf:Key->V
 | .inl i=>.int i
 | .inr x=>.str x
noncomputable def VF:Key->Key->Bool
 | .inl i,.inl j=>decide (i<j)
 | .inr x,.inr y=>decide (x.cps.toList<y.cps.toList)
 | _,_=>false
noncomputable def Iy:Key->Key->Bool
 | .inl _,.inl _=>true
 | .inr _,.inr _=>true
 | _,_=>false
noncomputable def E8:List Key->List Key->Bool
 | [],[]=>false
 | [],_::_=>true
 | _::_,[]=>false
 | x::xs,y::ys=>if x=y then E8 xs ys else VF x y
noncomputable def CJ:List Key->List Key->Bool
 | x::xs,y::ys=>Iy x y&&CJ xs ys
 | _,_=>true
theorem QB{A:Around}{s:Shared}{x y:Key}{u v:Value}(rx:RelV (kOf x) u)(ry:RelV (kOf y) v):∃e,SeqAt.EqAt A s u v e/\(e=true↔x=y):=by
 cases x with
 | inl i =>
  cases y with
  | inl j=>exact⟨_,KJ rx ry rfl rfl,by simp [kOf,Uw]⟩
  | inr z=>exact⟨_,KJ rx ry rfl rfl,by simp [kOf,Uw]⟩
 | inr z =>
  cases y with
  | inl j=>exact⟨_,KJ rx ry rfl rfl,by simp [kOf,Uw]⟩
  | inr z'=>exact⟨_,KJ rx ry rfl rfl,by simp [kOf,Uw]⟩
theorem PB(A:Around)(s:Shared){x y:Key}{u v:Value}(rx:RelV (kOf x) u)(ry:RelV (kOf y) v)(hs:Iy x y=true)(prog:Program)(w:World)(E:Value->Shared->Prop)(Q:Value->Shared->Prop)(h:Q (.bool (VF x y)) s) :
  wpAny (model prog w) A (richCompare .Lt u v) Q E s:=by
 cases x with
 | inl i =>
  cases y with
  | inl j =>
   obtain⟨t,rfl⟩:=rx
   obtain⟨t',rfl⟩:=ry
   exact(PyProof.Rows.lt_int h:wpAny (model prog w) A (compareOp .Lt (.int i t) (.int j t')) Q E s)
  | inr z=>cases hs
 | inr z =>
  cases y with
  | inl j=>cases hs
  | inr z' =>
   obtain⟨t,rfl⟩:=rx
   obtain⟨t',rfl⟩:=ry
   exact(PySem.P.lt_str h:wpAny (model prog w) A (compareOp .Lt (.str z t) (.str z' t')) Q E s)
section
open PySem.SeqAt
open PySem.AutoSeq1 (wpAny_loadPart')
open PySem.MeetsSeq PySem.MeetsSeq2 PySem.MeetsSeq3
theorem Ep(l b:Addr)(items items2:Array Value)(n n2:Nat)(dd dd2:Option Addr)(sl sl2:Array (Option Value))(ns ms:List Key)(hi:Vals (ns.map kOf) items.toList)(hj:Vals (ms.map kOf) items2.toList)(hsame:CJ ns ms=true) :
  Meets (Builtin.«tuple.__lt__» ⟨[.ref l,.ref b],[]⟩)
   (fun _ R s=>s.heap.get? l=some { cls:=.type "tuple",dict:=dd,data:=.seq items n,slots:=sl }/\s.heap.get? b=some { cls:=.type "tuple",dict:=dd2,data:=.seq items2 n2,slots:=sl2 } /\
    R (.ok (.ret (.bool (E8 ns ms)))) s) :=
 .of_wp fun prog w A R s h=>by
  obtain⟨hp,g,d,tk,os⟩:=s; obtain⟨hl,hb,h⟩:=h
  have f2:=AutoSeq1.sub_tuple_tuple
  have z1:items.size=ns.length:=by have:=hi.length; rw [List.length_map] at this; rw [this]; simp
  have z2:items2.size=ms.length:=by have:=hj.length; rw [List.length_map] at this; rw [this]; simp
  wp_walk using wpAny_loadPart' hl,wpAny_loadPart' hb,wpAny_forIn_list _ (fun rest b s'=>b.1=none/\s'=⟨hp,g,d,tk,os⟩/\∃(vs ws:List Value) (ns' ms':List Key),rest=vs.zip ws /\
   Vals (ns'.map kOf) vs/\Vals (ms'.map kOf) ws/\CJ ns' ms'=true/\ns'.length+items2.size=ms'.length+items.size/\R (.ok (.ret (.bool (E8 ns' ms')))) ⟨hp,g,d,tk,os⟩) _
  case turn =>
   rintro ⟨y,x⟩ rest b s' ⟨hb',rfl,vs,ws,ns',ms',hz,hvi,hwi,hsm,hlen,hR⟩
   cases ns' with
   | nil=>cases hvi; rw [List.zip_nil_left] at hz; cases hz
   | cons a ns' =>
    cases ms' with
    | nil=>cases hwi; rw [List.zip_nil_right] at hz; cases hz
    | cons c ms' =>
     rw [List.map_cons] at hvi hwi
     cases hvi with
     | cons ra hvi' =>
      cases hwi with
      | cons rc hwi' =>
       rw [List.zip_cons_cons] at hz
       injection hz with hyx hrest
       injection hyx with hy hx
       subst hy hx
       have hR':R (.ok (.ret (.bool (if a=c then E8 ns' ms' else VF a c)))) ⟨hp,g,d,tk,os⟩:=hR
       have hsm':(Iy a c&&CJ ns' ms')=true:=hsm
       rw [Bool.and_eq_true] at hsm'
       simp only [List.length_cons] at hlen
       obtain⟨e,he,hiff⟩:=QB (A:=A.in1) (s:=⟨hp,g,d,tk,os⟩) ra rc
       refine wpAny_bind (he prog w _ _ ?_)
       cases e with
       | true =>
        rw [if_pos (hiff.mp rfl)] at hR'
        wp_walk
        exact⟨rfl,rfl,_,_,_,_,hrest,hvi',hwi',hsm'.2,by omega,hR'⟩
       | false =>
        rw [if_neg (fun q=>absurd (hiff.mpr q) Bool.false_ne_true)] at hR'
        have hri:=PB A.in1 ⟨hp,g,d,tk,os⟩ ra rc hsm'.1 prog w
        wp_walk using hri
        exact⟨_,rfl,by simpa using hR'⟩
  case fin =>
   rintro ⟨b1,b2⟩ s' ⟨hb',rfl,vs,ws,ns',ms',hz,hvi,hwi,hsm,hlen,hR⟩
   simp only at hb'
   subst hb'
   have hv:E8 ns' ms'=decide (items.size<items2.size):=by
    cases ns' with
    | nil =>
     cases ms' with
     | nil =>
      simp only [List.length_nil] at hlen
      exact(decide_eq_false (by omega)).symm
     | cons c u =>
      simp only [List.length_nil,List.length_cons] at hlen
      exact(decide_eq_true (by omega)).symm
    | cons a t =>
     cases ms' with
     | nil =>
      simp only [List.length_nil,List.length_cons] at hlen
      exact(decide_eq_false (by omega)).symm
     | cons c u =>
      rw [List.map_cons] at hvi hwi
      cases hvi
      cases hwi
      rw [List.zip_cons_cons] at hz
      cases hz
   rw [hv] at hR
   wp_walk
   exact⟨_,rfl,by simpa [Builtin.Tuple.tupleCompareSizes] using hR⟩
  case h =>
   exact⟨rfl,rfl,items.toList,items2.toList,ns,ms,rfl,hi,hj,hsame,by omega,h⟩
end
section
variable {X:Cx}
noncomputable def US(K:Frag):R2:=fun x y H Q=>∃a b ns ms,x=.ref a/\y=.ref b/\SqT K H a (ns.map kOf)/\SqT K H b (ms.map kOf)/\CJ ns ms=true/\Q (.bl (E8 ns ms)) H
theorem S8(hu:X.A.units<cLine):OpR X (compareOp .Lt) (US X.K):=by
 intro pins s σ H x y v u Q I rx ry h
 obtain⟨a,b,ns,ms,rfl,rfl,ha,hb,hsm,q⟩:=h
 cases rx
 cases ry
 obtain⟨its,r1,p1,_⟩:=I.tuple ha
 obtain⟨its2,r2,p2,_⟩:=I.tuple hb
 obtain⟨⟨cls,dd,data,sl⟩,ho,hc,n,hd⟩:=id p1
 obtain⟨⟨cls2,dd2,data2,sl2⟩,ho2,hc2,n2,hd2⟩:=id p2
 simp only at hc hd hc2 hd2
 subst hc hd hc2 hd2
 exact richCompare_meets_room (op:=.Lt) ⟨_,ho,rfl⟩ ⟨_,ho2,rfl⟩ PySem.F.slot_tuple_lt PySem.F.entry_tuple_lt (PySem.F.args_tuple_lt_2 _ _) (Ep a b its.toArray its2.toArray n n2 dd dd2 sl sl2 ns ms r1 r2 hsm)
  ⟨ho,ho2,show Value.bool (E8 ns ms)≠Value.notImplemented/\EP X pins σ Q (.bool (E8 ns ms)) s from⟨(fun x=>nomatch x),⟨.bl _,H,I,rfl,q⟩⟩⟩ hu
end
noncomputable def ItAt(κ:Bool)(h:Heap)(it l:Addr)(k:Nat):Prop:=match κ with
 | true=>h.IsListIter it l k
 | false=>h.IsTupleIter it l k
noncomputable def SqAt(κ:Bool)(h:Heap)(l:Addr)(items:Array Value):Prop:=match κ with
 | true=>h.IsList l items
 | false=>h.IsTuple l items
section
variable {κ:Bool}{h h':Heap}{it l b:Addr}{k:Nat}{items:Array Value}
theorem ItAt.mv(x:ItAt κ h it l k)(e:∀o,h.get? it=some o->h'.get? it=some o):ItAt κ h' it l k:=by
 cases κ with
 | true=>obtain⟨o,ho,r⟩:=x; exact⟨o,e o ho,r⟩
 | false=>obtain⟨o,ho,r⟩:=x; exact⟨o,e o ho,r⟩
theorem SqAt.mv(x:SqAt κ h l items)(e:∀o,h.get? l=some o->h'.get? l=some o):SqAt κ h' l items:=by
 cases κ with
 | true=>obtain⟨o,ho,r⟩:=x; exact⟨o,e o ho,r⟩
 | false=>obtain⟨o,ho,r⟩:=x; exact⟨o,e o ho,r⟩
theorem ItAt.eb(x:ItAt κ h it l k)(hs:Heap.ExtBut b h h')(n:it≠b):ItAt κ h' it l k:=x.mv fun o e=>hs it o n e
theorem SqAt.eb(x:SqAt κ h l items)(hs:Heap.ExtBut b h h')(n:l≠b):SqAt κ h' l items:=x.mv fun o e=>hs l o n e
theorem ItAt.lies(x:ItAt κ h it l k):∃o,h.get? it=some o/\∀v,o.data≠.cell v:=by
 cases κ with
 | true=>obtain⟨o,ho,_,d⟩:=x; exact⟨o,ho,fun v z=>by rw [d] at z; cases z⟩
 | false=>obtain⟨o,ho,_,d⟩:=x; exact⟨o,ho,fun v z=>by rw [d] at z; cases z⟩
theorem SqAt.lies(x:SqAt κ h l items):∃o,h.get? l=some o:=by
 cases κ with
 | true=>obtain⟨o,ho,_⟩:=x; exact⟨o,ho⟩
 | false=>obtain⟨o,ho,_⟩:=x; exact⟨o,ho⟩
end
section
variable {prog:Program}{w:World}{A:Around}{E:Value->Shared->Prop}{s:Shared}
theorem GJ{κ:Bool}{it l:Addr}{i:Nat}{items:Array Value}{x:Value}{Q:Value->Shared->Prop}(hit:ItAt κ s.heap it l i)(hl:SqAt κ s.heap l items)(hx:items[i]?=some x)
  (hQ:∀h',ItAt κ h' it l (i+1)->Heap.SameBut it s.heap h'->Q x { s with heap:=h' }):wpAny (model prog w) A (Builtin.SmallTypes.nextOf (.ref it)) Q E s:=by
 cases κ with
 | true=>exact wpAny_nextOf_list_item hit hl hx hQ
 | false =>
  have hit':s.heap.IsTupleIter it l i:=hit
  have hl':s.heap.IsTuple l items:=hl
  obtain⟨o,ho,hc,hd⟩:=id hit'; obtain⟨ol,hol,_,nl,hdl⟩:=hl'
  unfold Builtin.SmallTypes.nextOf
  refine wpAny_bind (wpAny_callSpecial?_slot (name:=Str.ofString "__next__") hit'.typeIs F.slot_tuple_iterator_next (wpAny_call_entry F.slot_tuple_iterator_next hit'.typeIs F.entry_tuple_iterator_next ?_ (F.args_tuple_iterator_next_1 _)))
  show wpAny (model prog w) _ (field (.ref it) 0 >>= _) _ _ s; refine wpAny_bind (wpAny_field ho hd (x:=.ref l) rfl ?_)
  show wpAny (model prog w) _ (if (Value.ref l==Value.none)=true then _ else _) _ _ s; rw [if_neg (show ¬((Value.ref l==Value.none)=true) from Bool.false_ne_true)]
  show wpAny (model prog w) _ (field (.ref it) 1 >>= _) _ _ s; refine wpAny_bind (wpAny_field ho hd (x:=.int i 0) rfl ?_)
  show wpAny (model prog w) _ (seqItems? (.ref l) >>= _) _ _ s; refine wpAny_bind (wpAny_seqItems hol hdl ?_); simp only [Int.toNat_natCast,hx]
  refine wpAny_bind (wpAny_setField ho hd (by simp) (wpAny_pure ⟨x,rfl,wpAny_pure (hQ _ (show Heap.IsTupleIter _ it l (i+1) from ?_) (Heap.SameBut.update ..))⟩))
  exact⟨_,Heap.get?_update_self _ ho (Obj.isFreed_of_fields (Obj.data_mapFields hd _)),(Obj.cls_mapFields ..).trans hc,by(rw [Obj.data_mapFields hd]; simp [rawInt])⟩
theorem LM{κ:Bool}{it l:Addr}{i:Nat}{items:Array Value}{Q:Value->Shared->Prop}(hh:A.handled=none)(hit:ItAt κ s.heap it l i)(hl:SqAt κ s.heap l items)(hx:items[i]?=none)
  (hE:∀h' e,Heap.ExtBut it s.heap h'->(∃o,h'.get? e=some o/\o.cls=.type "StopIteration")->E (.ref e) { s with heap:=h' }):wpAny (model prog w) A (Builtin.SmallTypes.nextOf (.ref it)) Q E s:=by
 cases κ with
 | true=>exact wpAny_nextOf_list_end hh hit hl hx hE
 | false =>
  have hit':s.heap.IsTupleIter it l i:=hit
  have hl':s.heap.IsTuple l items:=hl
  obtain⟨o,ho,hc,hd⟩:=id hit'; obtain⟨ol,hol,_,nl,hdl⟩:=hl'
  unfold Builtin.SmallTypes.nextOf
  refine wpAny_bind (wpAny_callSpecial?_slot (name:=Str.ofString "__next__") hit'.typeIs F.slot_tuple_iterator_next (wpAny_call_entry F.slot_tuple_iterator_next hit'.typeIs F.entry_tuple_iterator_next ?_ (F.args_tuple_iterator_next_1 _)))
  show wpAny (model prog w) _ (field (.ref it) 0 >>= _) _ _ s; refine wpAny_bind (wpAny_field ho hd (x:=.ref l) rfl ?_)
  show wpAny (model prog w) _ (if (Value.ref l==Value.none)=true then _ else _) _ _ s; rw [if_neg (show ¬((Value.ref l==Value.none)=true) from Bool.false_ne_true)]
  show wpAny (model prog w) _ (field (.ref it) 1 >>= _) _ _ s; refine wpAny_bind (wpAny_field ho hd (x:=.int i 0) rfl ?_)
  show wpAny (model prog w) _ (seqItems? (.ref l) >>= _) _ _ s; refine wpAny_bind (wpAny_seqItems hol hdl ?_); simp only [Int.toNat_natCast,hx]
  refine wpAny_bind (wpAny_rule (wpAny_bind (wpAny_setField ho hd (by simp) ?_))); show wpAny (model prog w) _ (newExc (.type "StopIteration") [] >>= _) _ _ _
  refine wpAny_bind ?_; simp only [newExc,newTuple]; refine wpAny_bind (wpAny_newObj_type ?_ (by size_fits))
  refine wpAny_bind (m:=firstArgMember _ _) (wpAny_of_eq (a:=Value.none) (by first | rfl | (simp only [firstArgMember]; rfl)) ?_); refine wpAny_newObj_type ?_ (by size_fits)
  simp only [raiseNew]; refine wpAny_bind (wpAny_handled ?_); first | rw [show A.in1.handled=none from hh] | rw [hh]
  refine wpAny_bind (wpAny_pure (wpAny_throw ?_)); exact hE _ _ (((Heap.SameBut.update ..).extBut.push _).push _) ⟨_,Heap.get?_push_size _ rfl,rfl⟩
structure T_ (z TI TO i1 i2 l1 l2:Addr):Prop where
 TIz:TI≠z
 TOz:TO≠z
 i1z:i1≠z
 i2z:i2≠z
 TOi1:TO≠i1
 TOi2:TO≠i2
 i12:i1≠i2
 l1z:l1≠z
 l1TO:l1≠TO
 l1i1:l1≠i1
 l1i2:l1≠i2
 l2z:l2≠z
 l2TO:l2≠TO
 l2i1:l2≠i1
 l2i2:l2≠i2
theorem Oh{κ1 κ2:Bool}{z TI TO i1 i2 l1 l2:Addr}{k:Nat}{xs ys:Array Value}{x y a b:Value}{Q:Value->Shared->Prop}(D:T_ z TI TO i1 i2 l1 l2)
  (hz:IsZip s.heap z TI TO .none) (hTI:IsPair s.heap TI (.ref i1) (.ref i2)) (hTO:IsPair s.heap TO a b) (h1:ItAt κ1 s.heap i1 l1 k) (h2:ItAt κ2 s.heap i2 l2 k) (hl1:SqAt κ1 s.heap l1 xs) (hl2:SqAt κ2 s.heap l2 ys) (hx:xs[k]?=some x) (hy:ys[k]?=some y)
  (hQ:∀h',IsZip h' z TI TO (rawInt s.heap.objs.size)->IsPair h' TO x y->ItAt κ1 h' i1 l1 (k+1)->ItAt κ2 h' i2 l2 (k+1)->IsPair h' s.heap.objs.size x y->h'.objs.size=s.heap.objs.size+1->(∀c o,c≠z->c≠TO->c≠i1->c≠i2->s.heap.get? c=some o->h'.get? c=some o)->Q (.ref s.heap.objs.size) { s with heap:=h' }) :
  wpAny (model prog w) A (Builtin.«zip.__next__» ⟨[.ref z],[]⟩) (fun fin s'=>∃v,fin=.done (.ret v)/\Q v s') E s:=by
 show wpAny (model prog w) A (field (.ref z) 2 >>= _) _ _ _; refine wpAny_bind (wpAny_field hz rfl (x:=.bool false) rfl ?_)
 show wpAny (model prog w) A (field (.ref z) 3 >>= _) _ _ _; refine wpAny_bind (wpAny_field hz rfl (x:=.ref TI) rfl ?_); refine wpAny_bind (wpAny_seqItems hTI rfl ?_)
 show wpAny (model prog w) A (Builtin.SmallTypes.ownedTupleIsFree (.ref z) >>= _) _ _ _; refine wpAny_bind ?_; unfold Builtin.SmallTypes.ownedTupleIsFree
 refine wpAny_bind (wpAny_field hz rfl (x:=.none) rfl (wpAny_pure ?_)); simp only [if_true]; refine wpAny_bind (wpAny_rule ?_); refine wpAny_bind (wpAny_field hz rfl (x:=.ref TO) rfl ?_)
 refine wpAny_bind (wpAny_setField_rec hz (by simp) fun ha hza hsa=>?_)
 replace hza:IsZip ha z TI TO .ellipsis:=hza
 refine wpAny_bind ?_; simp only [List.zipIdx_cons,List.zipIdx_nil,List.forIn_cons,List.forIn_nil]
 refine wpAny_bind (wpAny_bind (wpAny_onRaise ?_)); show wpAny (model prog w) _ (Builtin.SmallTypes.nextOf (.ref i1) >>= _) _ _ _
 refine wpAny_bind (GJ (h1.eb hsa.extBut D.i1z) (hl1.eb hsa.extBut D.l1z) hx fun hb h1b hsb=>wpAny_pure ?_)
 have hTOb:IsPair hb TO a b:=hsb.extBut _ _ D.TOi1 (hsa.extBut _ _ D.TOz hTO)
 refine wpAny_bind (wpAny_seqItems hTOb rfl ?_); refine wpAny_bind (wpAny_updateSeq_pair hTOb fun hc hTOc hsc=>?_)
 replace hTOc:IsPair hc TO x b:=hTOc
 refine wpAny_bind (wpAny_letGo (wpAny_pure ?_)); refine wpAny_bind (wpAny_bind (wpAny_onRaise ?_)); show wpAny (model prog w) _ (Builtin.SmallTypes.nextOf (.ref i2) >>= _) _ _ _
 refine wpAny_bind (GJ (((h2.eb hsa.extBut D.i2z).eb hsb.extBut D.i12.symm).eb hsc.extBut D.TOi2.symm) (((hl2.eb hsa.extBut D.l2z).eb hsb.extBut D.l2i1).eb hsc.extBut D.l2TO) hy fun hd h2d hsd=>wpAny_pure ?_)
 have hTOd:IsPair hd TO x b:=hsd.extBut _ _ D.TOi2 hTOc
 refine wpAny_bind (wpAny_seqItems hTOd rfl ?_); refine wpAny_bind (wpAny_updateSeq_pair hTOd fun he hTOe hse=>?_)
 replace hTOe:IsPair he TO x y:=hTOe
 refine wpAny_bind (wpAny_letGo (wpAny_pure (wpAny_pure ?_))); refine wpAny_bind (wpAny_seqItems hTOe rfl ?_); refine wpAny_bind (wpAny_newTuple ?_)
 have hsz:he.objs.size=s.heap.objs.size:=by rw [hse.1,hsd.1,hsc.1,hsb.1,hsa.1]
 have hze:IsZip he z TI TO .ellipsis:=hse.extBut _ _ D.TOz.symm (hsd.extBut _ _ D.i2z.symm (hsc.extBut _ _ D.TOz.symm (hsb.extBut _ _ D.i1z.symm hza)))
 have hke:∀c o,c≠z->c≠TO->c≠i1->c≠i2->s.heap.get? c=some o->he.get? c=some o:=fun c o c1 c2 c3 c4 e=>hse.extBut _ _ c2 (hsd.extBut _ _ c4 (hsc.extBut _ _ c2 (hsb.extBut _ _ c3 (hsa.extBut _ _ c1 e))))
 have h1e:ItAt κ1 he i1 l1 (k+1):=((h1b.eb hsc.extBut D.TOi1.symm).eb hsd.extBut D.i12).eb hse.extBut D.TOi1.symm
 have h2e:ItAt κ2 he i2 l2 (k+1):=h2d.eb hse.extBut D.TOi2.symm
 have hzlt:z<he.objs.size:=Heap.lt_size hze
 show wpAny (model prog w) _ (Builtin.SmallTypes.ownedTupleHandOut (.ref z) (.ref he.objs.size) >>= _) _ _ _; refine wpAny_bind ?_; unfold Builtin.SmallTypes.ownedTupleHandOut
 have hzf:IsZip (he.push { cls:=.type "tuple",data:=.seq #[x,y] }) z TI TO .ellipsis:=Heap.get?_push_of_some _ hze
 refine wpAny_bind (wpAny_setField_rec hzf (by simp) fun hg hzg hsg=>?_)
 replace hzg:IsZip hg z TI TO (rawInt he.objs.size):=hzg
 refine wpAny_setField_rec hzg (by simp) fun hi hzi hsi=>?_
 replace hzi:IsZip hi z TI TO (rawInt he.objs.size):=hzi
 have up:∀c o,c≠z->he.get? c=some o->hi.get? c=some o:=fun c o c1 e=>hsi.extBut _ _ c1 (hsg.extBut _ _ c1 (Heap.get?_push_of_some _ e))
 have hTi:IsPair hi he.objs.size x y:=hsi.extBut _ _ (Nat.ne_of_gt hzlt) (hsg.extBut _ _ (Nat.ne_of_gt hzlt) (Heap.get?_push_size _ rfl))
 have hzs:hi.objs.size=he.objs.size+1:=by rw [hsi.1,hsg.1,Heap.size_push]
 rw [hsz] at hzi hTi hzs
 refine wpAny_pure ⟨_,rfl,?_⟩
 show Q (.ref he.objs.size) _; rw [hsz]
 exact hQ hi hzi (up _ _ D.TOz hTOe) (h1e.mv fun o e=>up _ o D.i1z e) (h2e.mv fun o e=>up _ o D.i2z e) hTi hzs fun c o c1 c2 c3 c4 e=>up c o c1 (hke c o c1 c2 c3 c4 e)
theorem Qj{κ1 κ2:Bool}{z TI TO i1 i2 l1 l2:Addr}{k:Nat}{xs ys:Array Value}{a b:Value}{Q:Fin->Shared->Prop}(hh:A.handled=none)(D:T_ z TI TO i1 i2 l1 l2)
  (hz:IsZip s.heap z TI TO .none) (hTI:IsPair s.heap TI (.ref i1) (.ref i2)) (hTO:IsPair s.heap TO a b) (h1:ItAt κ1 s.heap i1 l1 k) (h2:ItAt κ2 s.heap i2 l2 k) (hl1:SqAt κ1 s.heap l1 xs) (hl2:SqAt κ2 s.heap l2 ys) (hend:xs[k]?=none\/ys[k]?=none)
  (hE:∀h' e,(∀c o,c≠z->c≠TO->c≠i1->c≠i2->s.heap.get? c=some o->h'.get? c=some o)->(∃o,h'.get? e=some o/\o.cls=.type "StopIteration")->E (.ref e) { s with heap:=h' }) :
  wpAny (model prog w) A (Builtin.«zip.__next__» ⟨[.ref z],[]⟩) Q E s:=by
 show wpAny (model prog w) A (field (.ref z) 2 >>= _) _ _ _; refine wpAny_bind (wpAny_field hz rfl (x:=.bool false) rfl ?_)
 show wpAny (model prog w) A (field (.ref z) 3 >>= _) _ _ _; refine wpAny_bind (wpAny_field hz rfl (x:=.ref TI) rfl ?_); refine wpAny_bind (wpAny_seqItems hTI rfl ?_)
 show wpAny (model prog w) A (Builtin.SmallTypes.ownedTupleIsFree (.ref z) >>= _) _ _ _; refine wpAny_bind ?_; unfold Builtin.SmallTypes.ownedTupleIsFree
 refine wpAny_bind (wpAny_field hz rfl (x:=.none) rfl (wpAny_pure ?_)); simp only [if_true]; refine wpAny_bind (wpAny_rule ?_); refine wpAny_bind (wpAny_field hz rfl (x:=.ref TO) rfl ?_)
 refine wpAny_bind (wpAny_setField_rec hz (by simp) fun ha hza hsa=>?_)
 replace hza:IsZip ha z TI TO .ellipsis:=hza
 refine wpAny_bind ?_; simp only [List.zipIdx_cons,List.zipIdx_nil,List.forIn_cons,List.forIn_nil]
 refine wpAny_bind (wpAny_bind (wpAny_onRaise ?_)); show wpAny (model prog w) _ (Builtin.SmallTypes.nextOf (.ref i1) >>= _) _ _ _
 cases hx:xs[k]? with
 | none =>
  refine wpAny_bind (LM hh (h1.eb hsa.extBut D.i1z) (hl1.eb hsa.extBut D.l1z) hx fun hb e hsb he=>?_)
  obtain⟨oe,hoe,hce⟩:=he
  have hzb:IsZip hb z TI TO .ellipsis:=hsb _ _ D.i1z.symm hza
  have hez:e≠z:=fun x=>by subst x; rw [hzb] at hoe; cases hoe; simp at hce
  exact wpAny_setField_rec hzb (by simp) fun hc _ hsc=>hE hc e (fun c o c1 _ c3 _ x=>hsc.extBut _ _ c1 (hsb _ _ c3 (hsa.extBut _ _ c1 x))) ⟨oe,hsc.extBut _ _ hez hoe,hce⟩
 | some x =>
  have hy:ys[k]?=none:=by
   rcases hend with h | h
   ·rw [hx] at h; cases h
   ·exact h
  refine wpAny_bind (GJ (h1.eb hsa.extBut D.i1z) (hl1.eb hsa.extBut D.l1z) hx fun hb h1b hsb=>wpAny_pure ?_)
  have hTOb:IsPair hb TO a b:=hsb.extBut _ _ D.TOi1 (hsa.extBut _ _ D.TOz hTO)
  refine wpAny_bind (wpAny_seqItems hTOb rfl ?_); refine wpAny_bind (wpAny_updateSeq_pair hTOb fun hc hTOc hsc=>?_)
  refine wpAny_bind (wpAny_letGo (wpAny_pure ?_)); refine wpAny_bind (wpAny_bind (wpAny_onRaise ?_)); show wpAny (model prog w) _ (Builtin.SmallTypes.nextOf (.ref i2) >>= _) _ _ _
  refine wpAny_bind (LM hh (((h2.eb hsa.extBut D.i2z).eb hsb.extBut D.i12.symm).eb hsc.extBut D.TOi2.symm) (((hl2.eb hsa.extBut D.l2z).eb hsb.extBut D.l2i1).eb hsc.extBut D.l2TO) hy fun hd e hsd he=>?_)
  obtain⟨oe,hoe,hce⟩:=he
  have hzd:IsZip hd z TI TO .ellipsis:=hsd _ _ D.i2z.symm (hsc.extBut _ _ D.TOz.symm (hsb.extBut _ _ D.i1z.symm hza))
  have hez:e≠z:=fun x=>by subst x; rw [hzd] at hoe; cases hoe; simp at hce
  exact wpAny_setField_rec hzd (by simp) fun hf _ hsf=>hE hf e (fun c o c1 c2 c3 c4 x=>hsf.extBut _ _ c1 (hsd _ _ c4 (hsc.extBut _ _ c2 (hsb.extBut _ _ c3 (hsa.extBut _ _ c1 x))))) ⟨oe,hsf.extBut _ _ hez hoe,hce⟩
end
noncomputable def TV(κ:Bool):String:=match κ with
 | true => "list_iterator"
 | false => "tuple_iterator"
noncomputable def Pw(κ:Bool)(l:Addr):Obj:={ cls:=.type (TV κ),data:=.fields #[.ref l,.int 0 0] }
noncomputable abbrev zA(κ1:Bool)(h:Heap)(l1:Addr):Heap:=h.push (Pw κ1 l1)
noncomputable abbrev zB(κ1 κ2:Bool)(h:Heap)(l1 l2:Addr):Heap:=(zA κ1 h l1).push (Pw κ2 l2)
noncomputable abbrev zC(κ1 κ2:Bool)(h:Heap)(l1 l2:Addr):Heap:=(zB κ1 κ2 h l1 l2).push { cls:=.type "tuple",data:=.seq #[.ref h.objs.size,.ref (zA κ1 h l1).objs.size] }
noncomputable abbrev zD(κ1 κ2:Bool)(h:Heap)(l1 l2:Addr):Heap:=(zC κ1 κ2 h l1 l2).push { cls:=.type "tuple",data:=.seq #[.none,.none] }
noncomputable abbrev zE(κ1 κ2:Bool)(h:Heap)(l1 l2:Addr):Heap:=(zD κ1 κ2 h l1 l2).push { cls:=.type "zip",data:=.fields #[.none,.bool false,.bool false,.ref (zB κ1 κ2 h l1 l2).objs.size,.ref (zC κ1 κ2 h l1 l2).objs.size] }
theorem Q8(κ1 κ2:Bool)(l1 l2:Addr)(xs ys:Array Value):Meets (Builtin.«zip.__new__» ⟨[.type "zip",.ref l1,.ref l2],[]⟩)
  (fun _ R s=>SqAt κ1 s.heap l1 xs/\SqAt κ2 s.heap l2 ys/\R (.ok (.ret (.ref (zD κ1 κ2 s.heap l1 l2).objs.size))) { s with heap:=zE κ1 κ2 s.heap l1 l2 }) :=
 .of_wp fun prog w A R s h=>by
  obtain⟨hp,g,d,tk,os⟩:=s; obtain⟨hl1,hl2,h⟩:=h
  have hsub:=sub_zip
  have hL2:SqAt κ2 (zA κ1 hp l1) l2 ys:=hl2.mv fun o e=>Heap.get?_push_of_some _ e
  cases κ1 with
  | true =>
   have g1:Heap.IsList (Shared.heap ⟨hp,g,d,tk,os⟩) l1 xs:=hl1
   cases κ2 with
   | true =>
    have g2:Heap.IsList (Shared.heap ⟨hp.push { cls:=.type "list_iterator",data:=.fields #[.ref l1,.int 0 0] },g,d,tk,os⟩) l2 ys:=hL2
    wp_walk using wpAny_pyIter_list g1,wpAny_pyIter_list g2
    exact⟨_,rfl,h⟩
   | false =>
    have g2:Heap.IsTuple (Shared.heap ⟨hp.push { cls:=.type "list_iterator",data:=.fields #[.ref l1,.int 0 0] },g,d,tk,os⟩) l2 ys:=hL2
    wp_walk using wpAny_pyIter_list g1,wpAny_pyIter_tuple g2
    exact⟨_,rfl,h⟩
  | false =>
   have g1:Heap.IsTuple (Shared.heap ⟨hp,g,d,tk,os⟩) l1 xs:=hl1
   cases κ2 with
   | true =>
    have g2:Heap.IsList (Shared.heap ⟨hp.push { cls:=.type "tuple_iterator",data:=.fields #[.ref l1,.int 0 0] },g,d,tk,os⟩) l2 ys:=hL2
    wp_walk using wpAny_pyIter_tuple g1,wpAny_pyIter_list g2
    exact⟨_,rfl,h⟩
   | false =>
    have g2:Heap.IsTuple (Shared.heap ⟨hp.push { cls:=.type "tuple_iterator",data:=.fields #[.ref l1,.int 0 0] },g,d,tk,os⟩) l2 ys:=hL2
    wp_walk using wpAny_pyIter_tuple g1,wpAny_pyIter_tuple g2
    exact⟨_,rfl,h⟩
theorem LI(κ:Bool)(h:Heap)(l:Addr):ItAt κ (h.push (Pw κ l)) h.objs.size l 0:=by
 cases κ with
 | true=>exact⟨_,Heap.get?_push_size _ rfl,rfl,rfl⟩
 | false=>exact⟨_,Heap.get?_push_size _ rfl,rfl,rfl⟩
section
variable {prog:Program}{w:World}{A:Around}{E:Value->Shared->Prop}{s:Shared}
theorem Ka{κ1 κ2:Bool}{l1 l2:Addr}{xs ys:Array Value}{Q:Value->Shared->Prop}(hl1:SqAt κ1 s.heap l1 xs)(hl2:SqAt κ2 s.heap l2 ys)
  (h:∀h',IsZip h' (s.heap.objs.size+4) (s.heap.objs.size+2) (s.heap.objs.size+3) .none->IsPair h' (s.heap.objs.size+2) (.ref s.heap.objs.size) (.ref (s.heap.objs.size+1))->IsPair h' (s.heap.objs.size+3) .none .none ->
   ItAt κ1 h' s.heap.objs.size l1 0->ItAt κ2 h' (s.heap.objs.size+1) l2 0->(∀c o,s.heap.get? c=some o->h'.get? c=some o)->Q (.ref (s.heap.objs.size+4)) { s with heap:=h' }) :
  wpAny (model prog w) A (call (.type "zip") [.ref l1,.ref l2]) Q E s:=by
 refine callType_new F.called_zip (by decide) (F.typeCall_zip_2 _ _) (F.newCall_zip_2 _ _) (fun obj=>F.args_object_init_3 obj _ _) F.entry_zip_new (Q8 κ1 κ2 l1 l2 xs ys) ⟨hl1,hl2,?_⟩
 have z1:(zA κ1 s.heap l1).objs.size=s.heap.objs.size+1:=Heap.size_push ..
 have z2:(zB κ1 κ2 s.heap l1 l2).objs.size=s.heap.objs.size+2:=by rw [Heap.size_push,z1]
 have z3:(zC κ1 κ2 s.heap l1 l2).objs.size=s.heap.objs.size+3:=by rw [Heap.size_push,z2]
 have z4:(zD κ1 κ2 s.heap l1 l2).objs.size=s.heap.objs.size+4:=by rw [Heap.size_push,z3]
 have g5:(zE κ1 κ2 s.heap l1 l2).get? (zD κ1 κ2 s.heap l1 l2).objs.size=some _:=Heap.get?_push_size _ rfl
 have g4:(zE κ1 κ2 s.heap l1 l2).get? (zC κ1 κ2 s.heap l1 l2).objs.size=some _:=Heap.get?_push_of_some _ (Heap.get?_push_size _ rfl)
 have g3:(zE κ1 κ2 s.heap l1 l2).get? (zB κ1 κ2 s.heap l1 l2).objs.size=some _:=Heap.get?_push_of_some _ (Heap.get?_push_of_some _ (Heap.get?_push_size _ rfl))
 have i2:ItAt κ2 (zE κ1 κ2 s.heap l1 l2) (zA κ1 s.heap l1).objs.size l2 0:=(LI κ2 (zA κ1 s.heap l1) l2).mv fun o e=>Heap.get?_push_of_some _ (Heap.get?_push_of_some _ (Heap.get?_push_of_some _ e))
 have i1:ItAt κ1 (zE κ1 κ2 s.heap l1 l2) s.heap.objs.size l1 0:=(LI κ1 s.heap l1).mv fun o e=>Heap.get?_push_of_some _ (Heap.get?_push_of_some _ (Heap.get?_push_of_some _ (Heap.get?_push_of_some _ e)))
 rw [z4] at g5
 rw [z3] at g4
 rw [z2] at g3
 rw [z1] at i2
 have fin:=h (zE κ1 κ2 s.heap l1 l2) (by rw [IsZip,g5,z2,z3]) (by rw [IsPair,g3,z1]) g4 i1 i2 (fun c o e=>Heap.get?_push_of_some _ (Heap.get?_push_of_some _ (Heap.get?_push_of_some _ (Heap.get?_push_of_some _ (Heap.get?_push_of_some _ e)))))
 refine⟨⟨_,by rw [z4]; exact g5,rfl⟩,?_⟩
 rw [z4]
 exact fin
theorem Ie{κ1 κ2:Bool}{z TI TO i1 i2 l1 l2:Addr}{k:Nat}{xs ys:Array Value}{x y a b:Value}{Q:Option Value->Shared->Prop}(D:T_ z TI TO i1 i2 l1 l2)
  (hz:IsZip s.heap z TI TO .none) (hTI:IsPair s.heap TI (.ref i1) (.ref i2)) (hTO:IsPair s.heap TO a b) (h1:ItAt κ1 s.heap i1 l1 k) (h2:ItAt κ2 s.heap i2 l2 k) (hl1:SqAt κ1 s.heap l1 xs) (hl2:SqAt κ2 s.heap l2 ys) (hx:xs[k]?=some x) (hy:ys[k]?=some y)
  (hQ:∀h',IsZip h' z TI TO (rawInt s.heap.objs.size)->IsPair h' TO x y->ItAt κ1 h' i1 l1 (k+1)->ItAt κ2 h' i2 l2 (k+1)->IsPair h' s.heap.objs.size x y->h'.objs.size=s.heap.objs.size+1->(∀c o,c≠z->c≠TO->c≠i1->c≠i2->s.heap.get? c=some o->h'.get? c=some o)->Q (some (.ref s.heap.objs.size)) { s with heap:=h' }) :
  wpAny (model prog w) A (pyNext (.ref z)) Q E s:=by
 have hT:s.TypeIs (.ref z) "zip":=⟨_,hz,rfl⟩
 unfold pyNext
 exact wpAny_bind (wpAny_attempt (wpAny_callSpecial?_slot (name:=Str.ofString "__next__") hT F.slot_zip_next (wpAny_call_entry F.slot_zip_next hT F.entry_zip_next
  (Oh D hz hTI hTO h1 h2 hl1 hl2 hx hy fun h' a1 a2 a3 a4 a5 a6 a7=>wpAny_pure (hQ h' a1 a2 a3 a4 a5 a6 a7)) (F.args_zip_next_1 _))))
theorem J0{κ1 κ2:Bool}{z TI TO i1 i2 l1 l2:Addr}{k:Nat}{xs ys:Array Value}{a b:Value}{Q:Option Value->Shared->Prop}(hh:A.handled=none)(D:T_ z TI TO i1 i2 l1 l2)
  (hz:IsZip s.heap z TI TO .none) (hTI:IsPair s.heap TI (.ref i1) (.ref i2)) (hTO:IsPair s.heap TO a b) (h1:ItAt κ1 s.heap i1 l1 k) (h2:ItAt κ2 s.heap i2 l2 k) (hl1:SqAt κ1 s.heap l1 xs) (hl2:SqAt κ2 s.heap l2 ys) (hend:xs[k]?=none\/ys[k]?=none)
  (hQ:∀h',(∀c o,c≠z->c≠TO->c≠i1->c≠i2->s.heap.get? c=some o->h'.get? c=some o)->Q none { s with heap:=h' }):wpAny (model prog w) A (pyNext (.ref z)) Q E s:=by
 have hT:s.TypeIs (.ref z) "zip":=⟨_,hz,rfl⟩
 unfold pyNext
 refine wpAny_bind (wpAny_attempt (wpAny_callSpecial?_slot (name:=Str.ofString "__next__") hT F.slot_zip_next (wpAny_call_entry F.slot_zip_next hT F.entry_zip_next (Qj hh D hz hTI hTO h1 h2 hl1 hl2 hend fun h' e hk he=>?_) (F.args_zip_next_1 _))))
 obtain⟨o,ho,hc⟩:=he
 exact wpAny_bind (wpAny_isInstance (T := "StopIteration") (b:=true) ⟨o,ho,hc⟩ isSubtype_stop (wpAny_pure (hQ _ hk)))
end
section
variable {X:Cx}{pins:List (Addr×Obj)}{σ:L2.St}{H:Hp}{s:Shared}{h':Heap}
theorem Inv.turnedL{t':Nat}{ch:List Addr}(I:Inv X pins σ H s)(hf:∀b∈ch,Fo X pins H b)(k:∀b o,b∉ch->s.heap.get? b=some o->h'.get? b=some o):Inv X pins σ H { s with heap:=h',toks:=t' }:=by
 have nit:∀b u,H b=some u->b∉ch:=fun b u e z=>by rw [(hf b z).1] at e; cases e
 refine I.step (g':=s.gens) (d':=s.drawn) (ch:=ch) (fun b hb=>?_) (fun b o _ _ hc e _=>k b o hc e) (fun b o _ _ hc e _=>⟨o.slots,k b o hc e⟩) (fun _ _ _ _ n=>n) (fun b o hc e=>⟨o,k b o hc e⟩) (fun _ _ e=>e) (fun _ _ _ e=>e) (fun b ps e=>⟨#[],by rw [e]; simp⟩) (fun m hm=>?_) (fun b u e=>?_) I.bare
 ·obtain⟨f0,f1,f2,f3,f4,f5⟩:=hf b hb
  exact⟨f3,f1,f4,f5⟩
 ·obtain⟨o,es,ep,ho,r⟩:=hm
  exact⟨o,es,ep,k _ o (fun z=>(hf _ z).2.1 rfl) ho,r⟩
 ·exact(I.hok b u e).stay (fun c v hc q=>k c v (hc.elim (fun z=>by rw [z]; exact nit b u e) fun z=>nit c _ z) q) (fun _ q=>q) fun _ _ q=>q
theorem Inv.turnLaid{t':Nat}{ch:List Addr}{a:Addr}{o:HO}(I:Inv X pins σ H s)(hf:∀b∈ch,Fo X pins H b)(k:∀b o,b∉ch->s.heap.get? b=some o->h'.get? b=some o)(ha:s.heap.objs.size<=a)(new:ObjOk X.prog X.w (A9 H a o) h' a o) :
  Inv X pins σ (A9 H a o) { s with heap:=h',toks:=t' }:=by
 have nit:∀b u,H b=some u->b∉ch:=fun b u e z=>by rw [(hf b z).1] at e; cases e
 have hn:H a=none:=I.hok.fresh ha
 have up:∀b u,H b=some u->A9 H a o b=some u:=fun b u e=>by rw [AQ (Al e hn)]; exact e
 refine I.step (g':=s.gens) (d':=s.drawn) (ch:=ch) (fun b hb=>?_) (fun b o _ _ hc e _=>k b o hc e) (fun b o _ _ hc e _=>⟨o.slots,k b o hc e⟩) (fun b u _ e n=>?_) (fun b o hc e=>⟨o,k b o hc e⟩) (fun b xs e=>up _ _ e) (fun b o u e=>up _ _ e) (fun b ps e=>⟨#[],by rw [up _ _ e]; simp⟩) (fun m hm=>?_) (fun b u e=>?_) I.bare
 ·obtain⟨f0,f1,f2,f3,f4,f5⟩:=hf b hb
  exact⟨f3,f1,f4,f5⟩
 ·rw [AQ (Nat.ne_of_lt (Nat.lt_of_lt_of_le (Heap.lt_size e) ha))]; exact n
 ·obtain⟨o,es,ep,ho,r⟩:=hm
  exact⟨o,es,ep,k _ o (fun z=>(hf _ z).2.1 rfl) ho,r⟩
 ·by_cases hb:b=a
  ·subst hb; rw [AV] at e; cases e; exact new
  ·rw [AQ hb] at e
   exact(I.hok b u e).stay (fun c v hc q=>k c v (hc.elim (fun z=>by rw [z]; exact nit b u e) fun z=>nit c _ z) q) (fun c q=>up _ _ q) fun c xs q=>up _ _ q
end
noncomputable def SqK(κ:Bool)(K:Frag)(H:Hp)(a:Addr)(xs:List V):Prop:=match κ with
 | true=>SqL K H a xs
 | false=>SqT K H a xs
theorem SqK.at{κ:Bool}{X:Cx}{pins:List (Addr×Obj)}{σ:L2.St}{H:Hp}{s:Shared}{a:Addr}{xs:List V}(I:Inv X pins σ H s)(h:SqK κ X.K H a xs):∃its:List Value,Vals xs its/\SqAt κ s.heap a its.toArray:=by
 cases κ with
 | true=>obtain⟨its,r,pl,_⟩:=I.list h; exact⟨its,r,pl.isList⟩
 | false=>obtain⟨its,r,p,_⟩:=I.tuple h; exact⟨its,r,p⟩
noncomputable def UB (K : Frag) (κ1 κ2 : Bool) (a b : Addr) (xs ys : List V) : It :=
  ⟨fun i H => SqK κ1 K H a xs ∧ SqK κ2 K H b ys ∧ i < xs.length ∧ i < ys.length, fun i H x H' => ∃ T p q, x = .ref T ∧ H T = none ∧ H' = A9 H T (.tup [p, q]) ∧ xs[i]? = some p ∧ ys[i]? = some q,
   fun i H => SqK κ1 K H a xs ∧ SqK κ2 K H b ys ∧ (xs.length ≤ i ∨ ys.length ≤ i)⟩
structure U3 (κ1 κ2:Bool) (z TI TO i1 i2 a b:Addr) (k:Nat) (h:Heap):Prop where
 z:IsZip h z TI TO .none
 ti:IsPair h TI (.ref i1) (.ref i2)
 to:∃a b,IsPair h TO a b
 i1:ItAt κ1 h i1 a k
 i2:ItAt κ2 h i2 b k
theorem Ox{P:Program}{w:World}{K:Frag}{es:List Expr}{j:Nat}{pos:Pos}(κ1 κ2:Bool)(z TI TO i1 i2 a b:Addr)(xs ys:List V)(D:T_ z TI TO i1 i2 a b)(hTI:TI∉[z,TO,i1,i2]) :
  Turn P w K (.Tuple es j pos) (UB K κ1 κ2 a b xs ys) [z,TI,TO,i1,i2] z (U3 κ1 κ2 z TI TO i1 i2 a b) where
 mem:=by simp
 obj:=fun i h st c hc=>by
  simp only [List.mem_cons,List.not_mem_nil,or_false] at hc
  rcases hc with rfl | rfl | rfl | rfl | rfl
  ·exact⟨_,st.z,fun v q=>by cases q⟩
  ·exact⟨_,st.ti,fun v q=>by cases q⟩
  ·obtain⟨a,b,e⟩:=st.to
   exact⟨_,e,fun v q=>by cases q⟩
  ·exact st.i1.lies
  ·exact st.i2.lies
 keep:=fun i h h' st k=>by
  obtain⟨p,q,e⟩:=st.to
  exact⟨k z (by simp) _ st.z,k TI (by simp) _ st.ti,⟨p,q,k TO (by simp) _ e⟩,st.i1.mv fun o e=>k i1 (by simp) o e,st.i2.mv fun o e=>k i2 (by simp) o e⟩
 item:=by
  intro X hP hw hK hc i pins s σ H E I hf st hg
  subst hP hw hK
  obtain⟨ha,hb,hi,hj⟩:=hg
  obtain⟨us,r1,q1⟩:=ha.at I
  obtain⟨ws,r2,q2⟩:=hb.at I
  obtain⟨u,hu,ru⟩:=r1.get (List.getElem?_eq_getElem hi)
  obtain⟨v,hv,rv⟩:=r2.get (List.getElem?_eq_getElem hj)
  obtain⟨p,q,e⟩:=st.to
  refine Ie D st.z st.ti e st.i1 st.i2 q1 q2 (x:=u) (y:=v) (by simpa using hu) (by simpa using hv) fun h' a1 a2 a3 a4 a5 a6 a7=>⟨_,rfl,?_⟩
  refine wpAny_letOwnedTupleGo_zip a1 fun h2 b1 b2=>?_
  have hT:H s.heap.objs.size=none:=I.hok.fresh (Nat.le_refl _)
  have kk:∀c o,c∉[z,TO,i1,i2]->s.heap.get? c=some o->h2.get? c=some o:=fun c o hc e=>by
   simp only [List.mem_cons,List.not_mem_nil,or_false,not_or] at hc
   exact b2.extBut _ _ hc.1 (a7 c o hc.1 hc.2.1 hc.2.2.1 hc.2.2.2 e)
  have I2:Inv X pins σ (A9 H s.heap.objs.size (.tup [xs[i],ys[i]])) { s with heap:=h2 }:=by
   refine I.turnLaid (t':=s.toks) (ch:=[z,TO,i1,i2]) (fun c hc=>hf c ?_) kk (Nat.le_refl _) ?_
   ·simp only [List.mem_cons,List.not_mem_nil,or_false] at hc ⊢
    rcases hc with rfl | rfl | rfl | rfl <;> simp
   ·have nT:s.heap.objs.size≠z:=Nat.ne_of_gt (Heap.lt_size st.z)
    exact⟨by show 2<=sizeLine; decide,[u,v],.cons ru (.cons rv .nil),⟨_,b2.extBut _ _ nT a5,rfl,_,rfl,rfl,rfl⟩⟩
  have ti2:IsPair h2 TI (.ref i1) (.ref i2):=kk _ _ hTI st.ti
  refine⟨.ref s.heap.objs.size,_,I2,rfl,⟨_,_,_,rfl,hT,rfl,List.getElem?_eq_getElem hi,List.getElem?_eq_getElem hj⟩,⟨b1,ti2,⟨_,_,b2.extBut _ _ D.TOz a2⟩,a3.eb b2.extBut D.i1z,a4.eb b2.extBut D.i2z⟩,fun c hc=>?_⟩
  have hcn:H c=none:=(hf c hc).1
  have hlt:c≠s.heap.objs.size:=fun z=>by
   obtain⟨o,ho,_⟩:∃o,s.heap.get? c=some o/\True:=by
    simp only [List.mem_cons,List.not_mem_nil,or_false] at hc
    rcases hc with rfl | rfl | rfl | rfl | rfl
    ·exact⟨_,st.z,trivial⟩
    ·exact⟨_,st.ti,trivial⟩
    ·exact⟨_,e,trivial⟩
    ·obtain⟨o,q,_⟩:=st.i1.lies; exact⟨o,q,trivial⟩
    ·obtain⟨o,q,_⟩:=st.i2.lies; exact⟨o,q,trivial⟩
   rw [z] at ho
   exact Nat.lt_irrefl _ (Heap.lt_size ho)
  rw [AQ hlt]; exact hcn
 done:=by
  intro X hP hw hK hc i pins s σ H E I hf st hg
  subst hP hw hK
  obtain⟨ha,hb,hi⟩:=hg
  obtain⟨us,r1,q1⟩:=ha.at I
  obtain⟨ws,r2,q2⟩:=hb.at I
  obtain⟨p,q,e⟩:=st.to
  have l1:=r1.length
  have l2:=r2.length
  refine J0 (I.ok.hd hc) D st.z st.ti e st.i1 st.i2 q1 q2 (hi.imp (fun hi=>by simp; omega) fun hi=>by simp; omega) fun h' kk=>⟨rfl,?_⟩
  refine I.turnedL (t':=s.toks) (ch:=[z,TO,i1,i2]) (fun c hc=>hf c ?_) fun c o hc e=>?_
  ·simp only [List.mem_cons,List.not_mem_nil,or_false] at hc ⊢
   rcases hc with rfl | rfl | rfl | rfl <;> simp
  ·simp only [List.mem_cons,List.not_mem_nil,or_false,not_or] at hc
   exact kk c o hc.1 hc.2.1 hc.2.2.1 hc.2.2.2 e
 self:=fun A i s Q E st h=>wpAny_pyIter_zip st.z h
section
variable {X:Cx}
theorem SV(n a b:Nat)(h1:a<n)(h2:b<n):T_ (n+4) (n+2) (n+3) n (n+1) a b:=by
 constructor <;> (show (_:Nat)≠(_:Nat); omega)
theorem SU(n:Nat):(n+2)∉[n+4,n+3,n,n+1]:=by
 simp only [List.mem_cons,List.not_mem_nil,or_false,not_or]
 omega
theorem SW(n c:Nat)(h:c∈[n+4,n+2,n+3,n,n+1]):n<=c:=by
 simp only [List.mem_cons,List.not_mem_nil,or_false] at h
 omega
noncomputable def Vi(K:Frag)(ta:TA):TI:=fun σ H R=>ta σ H fun vs H1=>∃κ1 κ2 a b xs ys,vs=[.ref a,.ref b]/\SqK κ1 K H1 a xs/\SqK κ2 K H1 b ys/\R (UB K κ1 κ2 a b xs ys) H1
theorem PX{e1 e2:Expr}{es:List Expr}{j:Nat}{tpos:Pos}{ta:TA}{p pos:Pos}(hg:Gl X "zip")(hm:X.mg "zip"=none)(ha:PA X [e1,e2] ta)(hs:starEach [e1,e2] X.env=[(false,eval e1 X.env),(false,eval e2 X.env)]:=by rfl)(hs2:starEach [e2] X.env=[(false,eval e2 X.env)]:=by rfl) :
  PI X (.Tuple es j tpos) (.Call (.Name "zip" p) [e1,e2] [] pos) (Vi X.K ta):=by
 intro pins s σ H R I h
 refine Call_ (EJ I hg hm boot_zip (PyProof.Rows.callWith_type1 (BX (ha pos pins s σ H _ I h) fun us s1 ⟨vs,H1,I1,r1,q1⟩=>?_) (by rw [hs,hs2]) (by rw [hs2]; rfl)))
 obtain⟨κ1,κ2,a,b,xs,ys,e,h1,h2,q⟩:=q1
 subst e
 obtain⟨u,v,rfl,ru,rv⟩:=vals2 r1
 cases ru
 cases rv
 obtain⟨us,r1',q1⟩:=h1.at I1
 obtain⟨ws,r2',q2⟩:=h2.at I1
 have la:a<s1.heap.objs.size:=by obtain⟨o,e⟩:=q1.lies; exact Heap.lt_size e
 have lb:b<s1.heap.objs.size:=by obtain⟨o,e⟩:=q2.lies; exact Heap.lt_size e
 refine Ka q1 q2 fun h' hz hTI hTO hi1 hi2 hk=>?_
 refine wpAny_pyIter_zip hz ?_
 have D:=SV s1.heap.objs.size a b la lb
 refine⟨s1.heap.objs.size+4,[s1.heap.objs.size+4,s1.heap.objs.size+2,s1.heap.objs.size+3,s1.heap.objs.size,s1.heap.objs.size+1],_,UB X.K κ1 κ2 a b xs ys,H1,rfl,I1.kept (t':=s1.toks) hk,Ox κ1 κ2 _ _ _ _ _ a b xs ys D (SU s1.heap.objs.size),⟨hz,hTI,⟨_,_,hTO⟩,hi1,hi2⟩,fun c hc=>?_,q⟩
 have hge:s1.heap.objs.size<=c:=SW s1.heap.objs.size c hc
 exact I1.fpOk hge (I1.hok.fresh hge)
end
end L2
namespace Dp
open PySem PySem.Spec PyProof.Rows L2
noncomputable def FF(ds es:List D):List D:=List.zipWith (fun d e=>.tup [d,e]) ds es
section
variable {K:Frag}
theorem Jf{U V' M:Addr->Prop}{H:Hp}{d:D}{v:V}{ds:List D}(h:AtT K V' M H d v)(e:Gn d=some ds)(uV:∀a,U a->V' a)(vM:∀a,V' a->M a):∃κ a vs,v=.ref a/\Ats K M H ds vs/\∀M' H',Pres M H M' H'->Ext U H H'->SqK κ K H' a vs:=by
 cases d with
 | lst xs =>
  cases e
  obtain⟨a,vs,e1,n1,hq,hs⟩:=h
  refine⟨true,a,vs,e1,hs,fun M' H' _ ex=>?_⟩
  rcases hq with hq | ⟨o,hq⟩
  ·exact .inl (.inl (ex.keep hq fun z=>n1 (uV a z)))
  ·exact .inl (.inr ⟨o,ex.keep hq fun z=>n1 (uV a z)⟩)
 | tup xs =>
  cases e
  obtain⟨a,vs,e1,hq,hs⟩:=h
  exact⟨false,a,vs,e1,hs,fun M' H' pr _=>(hq.pres pr).sq⟩
 | _=>cases e
theorem O7{M:Addr->Prop}{H:Hp}{d:D}{v:V}{ds:List D}(h:At K M H d v)(e:Gn d=some ds):∃κ a vs,v=.ref a/\Ats K M H ds vs/\∀M' H',Pres M H M' H'->SqK κ K H' a vs:=by
 cases d with
 | lst xs =>
  cases e
  obtain⟨a,vs,e1,hq,hs⟩:=h
  exact⟨true,a,vs,e1,hs,fun M' H' pr=>(hq.pres pr).sq⟩
 | tup xs =>
  cases e
  obtain⟨a,vs,e1,hq,hs⟩:=h
  exact⟨false,a,vs,e1,hs,fun M' H' pr=>(hq.pres pr).sq⟩
 | _=>cases e
theorem G6{M:Addr->Prop}{H:Hp}{κ1 κ2:Bool}{a b:Addr}{vs us:List V}{ds es:List D}(hs:Ats K M H ds vs)(ht:Ats K M H es us){i:Nat}{M':Addr->Prop}{H':Hp}(pr:Pres M H M' H')(h1:SqK κ1 K H' a vs)(h2:SqK κ2 K H' b us)(dom:∀a,M' a->∃o,H' a=some o) :
  (∀d,(FF ds es)[i]?=some d->(UB K κ1 κ2 a b vs us).go i H'/\∀x H2,(UB K κ1 κ2 a b vs us).yld i H' x H2->Grow H' H2/\At K M' H2 d x)/\((FF ds es).length<=i->(UB K κ1 κ2 a b vs us).stop i H'):=by
 have l1:=hs.length
 have l2:=ht.length
 refine⟨fun d hd=>?_,fun hl=>⟨h1,h2,?_⟩⟩
 ·unfold FF at hd
  rw [List.getElem?_zipWith] at hd
  cases q1:ds[i]? with
  | none=>rw [q1] at hd; simp at hd
  | some d1 =>
   cases q2:es[i]? with
   | none=>rw [q1,q2] at hd; simp at hd
   | some d2 =>
    rw [q1,q2] at hd
    have hd':D.tup [d1,d2]=d:=Option.some.inj hd
    have i1:i<ds.length:=(List.getElem?_eq_some_iff.mp q1).1
    have i2:i<es.length:=(List.getElem?_eq_some_iff.mp q2).1
    refine⟨⟨h1,h2,by omega,by omega⟩,fun x H2 y=>?_⟩
    obtain⟨T,p,q,rfl,hT,rfl,e1,e2⟩:=y
    obtain⟨v1,f1,a1⟩:=(hs.pres pr).get q1
    obtain⟨v2,f2,a2⟩:=(ht.pres pr).get q2
    rw [e1] at f1
    rw [e2] at f2
    cases f1
    cases f2
    subst hd'
    exact⟨A1 hT,DZ dom hT ⟨p,[q],rfl,a1,q,[],rfl,a2,rfl⟩⟩
 ·unfold FF at hl
  rw [List.length_zipWith] at hl
  omega
end
section
variable {X:Cx}{e1 e2:Expr}{es:List Expr}{j:Nat}{tpos p pos:Pos}{ws:FE}
noncomputable def Qk(ws:FE):FE:=fun n ρ P=>ws n ρ fun ds n1=>∃d e xs ys,ds=[d,e]/\Gn d=some xs/\Gn e=some ys/\P (FF xs ys) n1
theorem RY(hg:Gl X "zip")(hm:X.mg "zip"=none)(ha:T7 X [e1,e2] ws)(hs:starEach [e1,e2] X.env=[(false,eval e1 X.env),(false,eval e2 X.env)]:=by rfl)(hs2:starEach [e2] X.env=[(false,eval e2 X.env)]:=by rfl) :
  VP X (.Tuple es j tpos) (.Call (.Name "zip" p) [e1,e2] [] pos) (Qk ws):=by
 obtain⟨t,a1,a2⟩:=ha
 refine⟨_,PX hg hm a1 hs hs2,fun C M H n ρ σ P Rr R w q=>?_⟩
 refine a2 C M H n ρ σ _ _ R w fun vs H1 ds n1 ee f1 r1 p=>?_
 obtain⟨d,e,xs,ys,rfl,hd,he,p⟩:=p
 cases r1 with
 | cons r rr =>
  cases rr with
  | cons r' rr =>
   cases rr
   have R1:=R.step ee f1
   obtain⟨κ1,a,us,rfl,h1,s1⟩:=Jf (U:=C.U) r hd R.uV R1.vM
   obtain⟨κ2,b,us',rfl,h2,s2⟩:=Jf (U:=C.U) r' he R.uV R1.vM
   refine⟨κ1,κ2,a,b,us,us',rfl,s1 M H1 (Pres.refl _ _) (Ext.refl _ _),s2 M H1 (Pres.refl _ _) (Ext.refl _ _),q _ H1 _ n1 ee f1 (fun i M' H' pr ex dom=>G6 h1 h2 pr (s1 M' H' pr ex) (s2 M' H' pr ex) dom) p⟩
theorem Tf(hg:Gl X "zip")(hm:X.mg "zip"=none)(ha:T6 X [e1,e2] ws)(hs:starEach [e1,e2] X.env=[(false,eval e1 X.env),(false,eval e2 X.env)]:=by rfl)(hs2:starEach [e2] X.env=[(false,eval e2 X.env)]:=by rfl) :
  DI X (.Tuple es j tpos) (.Call (.Name "zip" p) [e1,e2] [] pos) (Qk ws):=by
 obtain⟨t,a1,a2⟩:=ha
 refine⟨_,PX hg hm a1 hs hs2,fun C M H n ρ σ P Rr R w q=>?_⟩
 refine a2 C M H n ρ σ _ _ R w fun vs H1 ds n1 ee f1 r1 p=>?_
 obtain⟨d,e,xs,ys,rfl,hd,he,p⟩:=p
 obtain⟨v,r,rfl,r1,v',r',rfl,r2,rr⟩:=r1
 cases (show r'=[] from rr)
 obtain⟨κ1,a,us,rfl,h1,s1⟩:=O7 r1 hd
 obtain⟨κ2,b,us',rfl,h2,s2⟩:=O7 r2 he
 exact⟨κ1,κ2,a,b,us,us',rfl,s1 M H1 (Pres.refl _ _),s2 M H1 (Pres.refl _ _),q _ H1 _ n1 ee f1 (fun i M' H' pr dom=>G6 h1 h2 pr (s1 M' H' pr) (s2 M' H' pr) dom) p⟩
noncomputable def Vg:D->Option Key
 | .int i=>some (.inl i)
 | .str x=>some (.inr x)
 | _=>none
noncomputable def Hm:List D->Option (List Key)
 | []=>some []
 | d::ds=>match Vg d,Hm ds with
  | some k,some ks=>some (k::ks)
  | _,_=>none
theorem FU{K:Frag}{M:Addr->Prop}{H:Hp}:∀{ds:List D} {vs:List V} {ks:List Key},Hm ds=some ks->Ats K M H ds vs->vs=ks.map kOf
 | [],vs,ks,e,h=>by cases e; exact h
 | d::ds,vs,ks,e,h=>by
  obtain⟨v,r,e1,h1,h2⟩:=h
  unfold Hm at e
  split at e
  ·rename_i k ks' hk hks
   cases e
   rw [e1,FU hks h2,List.map_cons]
   congr 1
   cases d with
   | int i=>cases hk; exact h1
   | str x=>cases hk; exact h1.1
   | _=>cases hk
  ·cases e
noncomputable def KG(d e:D)(P:D->Prop):Prop:=match d,e with
 | .int i,.int j=>P (.bl (decide (i<j)))
 | .str i,.str j=>P (.bl (decide (i.cps.toList<j.cps.toList)))
 | .tup xs,.tup ys=>∃ks ls,Hm xs=some ks/\Hm ys=some ls/\CJ ks ls=true/\P (.bl (E8 ks ls))
 | _,_=>False
noncomputable def UT(K:Frag):R2:=fun x y H Q=>Sx x y H Q\/US K x y H Q
theorem HZ{k:Nat}(hr:Room k X.A):OpR X (compareOp .Lt) (UT X.K):=op_ltU.or (S8 hr.units0)
theorem Ld:Fp X.K .sh (UT X.K) KG:=fun U M H d e x y P Q dom vM hx hy w q=>by
 unfold KG at w
 split at w
 ·exact .inl (SN (X:=X) U M H (.int _) (.int _) x y P Q dom vM hx hy w q)
 ·exact .inl (SN (X:=X) U M H (.str _) (.str _) x y P Q dom vM hx hy w q)
 ·obtain⟨ks,ls,h1,h2,h3,w⟩:=w
  obtain⟨a,vs,rfl,ha,hs⟩:=hx.tup
  obtain⟨b,us,rfl,hb,ht⟩:=hy.tup
  have e1:=FU h1 hs
  have e2:=FU h2 ht
  subst e1 e2
  exact .inr ⟨a,b,ks,ls,rfl,rfl,ha.sq,hb.sq,h3,q _ H (.bl _) .refl rfl w⟩
 ·exact w.elim
end
end Dp
namespace L2
open PySem PySem.Spec PyProof.Rows
section
variable {prog:Program}{w:World}{A:Around}{E:Value->Shared->Prop}{s:Shared}
theorem Km{t sl:Addr}{items:Array Value}{vl vu:Value}{lo hi:Option Int}{Q:Value->Shared->Prop}(ht:IsTup s.heap t items)(hs:s.heap.IsSliceOf sl vl vu .none)(pl:IsPart vl lo)(pu:IsPart vu hi)
  (hw:HT.sIx items.size 0 lo=0/\HT.sIx items.size items.size hi=items.size) (h:Q (.ref t) s):wpAny (model prog w) A (getItem (.ref t) (.ref sl)) Q E s:=by
 obtain⟨os,hos,hcs,hds⟩:=id hs
 have hTs:s.TypeIs (.ref sl) "slice":=⟨os,hos,hcs⟩
 unfold getItem
 (try with_reducible refine wpAny_holding ?_); (first | refine wpAny_bind (wpAny_pure ?_) | skip)
 refine wpAny_bind (wpAny_sequenceKey ht.typeIs (by decide) (wpAny_bind (wpAny_callSpecial?_slot (name:=Str.ofString "__getitem__") ht.typeIs PyProof.Rows.slot_tuple_getitem (wpAny_call_entry PyProof.Rows.slot_tuple_getitem ht.typeIs entry_tuple_getitem ?_ (args_tuple_getitem _ _)))))
 show wpAny (model prog w) _ (Builtin.Tuple.tupleItemsOf (.ref t) >>= _) _ _ s
 refine wpAny_bind (tupleItemsOf_ ht (wpAny_bind (wpAny_typeOf hTs ?_))); rw [if_pos (by decide)]
 refine wpAny_bind (HT.sliceApplied_gen hs pl pu ?_)
 have hyes:(((HT.sIx items.size 0 lo:Nat):Int)==0&&(1:Int)==1&&(HT.sIx items.size items.size hi - HT.sIx items.size 0 lo)==items.size)=true:=by rw [hw.1,hw.2]; simp
 show wpAny (model prog w) _ (if (((HT.sIx items.size 0 lo:Nat):Int)==0&&(1:Int)==1&&(HT.sIx items.size items.size hi - HT.sIx items.size 0 lo)==items.size)=true then _ else _) _ _ s
 rw [if_pos hyes]
 refine wpAny_bind (m:=Builtin.Tuple.tupleIsExact _) ?_
 unfold Builtin.Tuple.tupleIsExact
 refine wpAny_bind (wpAny_typeOf ht.typeIs (wpAny_pure ?_))
 show wpAny (model prog w) _ (if ((Value.type "tuple"==Value.type "tuple")=true) then _ else _) _ _ s
 rw [if_pos (by decide)]
 first
  | exact wpAny_bind (wpAny_rule (wpAny_bind (wpAny_pure (wpAny_pure ⟨_,rfl,wpAny_pure h⟩))))
  | exact wpAny_bind (wpAny_rule (wpAny_pure ⟨_,rfl,wpAny_pure h⟩))
  | exact wpAny_bind (wpAny_bind (wpAny_rule (wpAny_pure (wpAny_pure ⟨_,rfl,wpAny_pure h⟩))))
end
section
variable {X:Cx}{e st:Expr}{te tst:TE}{pos p2:Pos}
noncomputable def Rv(K:Frag):V->Option Int->Option Int->Hp->VK->Prop:=fun x lo hi H Q=>∃a xs,x=.ref a/\SqT K H a xs/\(HT.sIx xs.length 0 lo=0/\HT.sIx xs.length xs.length hi=xs.length)/\Q (.ref a) H
theorem Qr:SlR X (Rv X.K):=by
 intro pins s σ H x v vl vu lo hi sl Q I rx hs pl pu h
 obtain⟨a,xs,rfl,hx,hw,q⟩:=h
 cases rx
 obtain⟨its,r,ht,hz⟩:=I.tuple hx
 have hlen:its.toArray.size=xs.length:=by rw [List.size_toArray]; exact r.length.symm
 exact⟨"tuple",_,PyProof.Rows.slot_tuple_getitem.lookup,ht.typeIs,Km ht hs pl pu (by rw [hlen]; exact hw) ⟨.ref a,H,I,rfl,q⟩⟩
end
section
variable {X:Cx}
noncomputable def PJ(K:Frag):R2:=fun x y H Q=>∃a b ys,x=.ref a/\y=.ref b/\SqT K H a []/\SqT K H b ys/\Q (.ref b) H
theorem Pk:OpR X (binaryOp .Add) (PJ X.K):=by
 intro pins s σ H x y v u Q I rx ry h
 obtain⟨a,b,ys,rfl,rfl,ha,hb,q⟩:=h
 cases rx
 cases ry
 obtain⟨its,r1,p1,_⟩:=I.tuple ha
 obtain⟨its2,r2,p2,_⟩:=I.tuple hb
 cases r1
 obtain⟨⟨cls,dd,data,sl⟩,ho,hc,n,hd⟩:=id p1
 obtain⟨⟨cls2,dd2,data2,sl2⟩,ho2,hc2,n2,hd2⟩:=id p2
 simp only at hc hd hc2 hd2
 subst hc hd hc2 hd2
 exact concat_meets ⟨_,ho,rfl⟩ ⟨_,ho2,rfl⟩ noFill_tuple_add seq_tuple_add PySem.F.slot_tuple_add PySem.F.entry_tuple_add (PySem.F.args_tuple_add_2 _ _) (tuple_addW0 a b _ its2.toArray n n2 dd dd2 sl sl2 (by simp)) ⟨ho,ho2,⟨.ref b,H,I,rfl,q⟩⟩
noncomputable def bI(b:Bool):Int:=if b=true then 1 else 0
noncomputable def VD(g:Int->Int->Int):R2:=fun x y H Q=>∃k j,x=.bl k/\y=.int j/\Q (.int (g (bI k) j)) H
noncomputable def V6(g:Int->Int->Int):R2:=fun x y H Q=>∃i k,x=.int i/\y=.bl k/\Q (.int (g i (bI k))) H
theorem op_add_bi:OpR X (binaryOp .Add) (VD fun i j=>i+j):=by
 intro pins s σ H x y v u Q I rx ry h
 obtain⟨k,j,rfl,rfl,q⟩:=h
 cases rx
 obtain⟨t,rfl⟩:=ry
 exact PySem.IntBool.add_bool_int ⟨.int _,H,I.tok _,⟨_,rfl⟩,q⟩
theorem op_sub_bi:OpR X (binaryOp .Sub) (VD fun i j=>i - j):=by
 intro pins s σ H x y v u Q I rx ry h
 obtain⟨k,j,rfl,rfl,q⟩:=h
 cases rx
 obtain⟨t,rfl⟩:=ry
 exact PySem.IntBool.sub_bool_int ⟨.int _,H,I.tok _,⟨_,rfl⟩,q⟩
theorem Nu:OpR X (binaryOp .Sub) (V6 fun i j=>i - j):=by
 intro pins s σ H x y v u Q I rx ry h
 obtain⟨i,k,rfl,rfl,q⟩:=h
 obtain⟨t,rfl⟩:=rx
 cases ry
 exact PySem.IntBool.sub_int_bool ⟨.int _,H,I.tok _,⟨_,rfl⟩,q⟩
end
end L2
namespace Dp
open PySem PySem.Spec PyProof.Rows L2
section
variable {K:Frag}{X:Cx}
noncomputable def Bm(d e:D)(P:D->Prop):Prop:=match d,e with
 | .int i,.int j=>P (.int (i+j))
 | .bl k,.int j=>P (.int (bI k+j))
 | .str i,.str j=>i.length+j.length<=sizeLine/\P (.str (i++j))
 | .tup i,.tup j=>i.length+j.length<=sizeLine/\P (.tup (i++j))
 | .lst i,.lst j=>i.length+j.length<=sizeLine/\P (.lst (i++j))
 | _,_=>False
noncomputable def SD(K:Frag):R2:=fun x y H Q=>PL K x y H Q\/(VD fun i j=>i+j) x y H Q\/PJ K x y H Q
theorem BL:OpR X (binaryOp .Add) (SD X.K):=op_addU.or (op_add_bi.or Pk)
theorem Bt:Fp X.K .sh (SD X.K) Bm:=fun U M H d e x y P Q dom vM hx hy w q=>by
 unfold Bm at w
 split at w
 ·exact .inl (Ke (X:=X) U M H (.int _) (.int _) x y P Q dom vM hx hy w q)
 ·rename_i k j
  exact .inr (.inl ⟨k,j,hx,hy,q _ H (.int _) .refl rfl w⟩)
 ·exact .inl (Ke (X:=X) U M H (.str _) (.str _) x y P Q dom vM hx hy w q)
 ·rename_i i j
  cases i with
  | nil =>
   obtain⟨a,vs,rfl,ha,hs⟩:=hx.tup
   obtain⟨b,us,rfl,hb,ht⟩:=hy.tup
   cases (show vs=[] from hs)
   exact .inr (.inr ⟨a,b,us,rfl,rfl,ha.sq,hb.sq,q _ H (.tup j) .refl ⟨b,us,rfl,hb,ht⟩ (by have:=w.2; rw [List.nil_append] at this; exact this)⟩)
  | cons i0 i=>exact .inl (Ke (X:=X) U M H (.tup (i0::i)) (.tup j) x y P Q dom vM hx hy ⟨(by intro z; cases z),w⟩ q)
 ·exact .inl (Ke (X:=X) U M H (.lst _) (.lst _) x y P Q dom vM hx hy w q)
 ·exact w.elim
noncomputable def Ew(d e:D)(P:D->Prop):Prop:=match d,e with
 | .int i,.int j=>P (.int (i - j))
 | .bl k,.int j=>P (.int (bI k - j))
 | .int i,.bl k=>P (.int (i - bI k))
 | _,_=>False
noncomputable def Rt:R2:=fun x y H Q=>(Gr fun i j=>.int (i - j)) x y H Q\/(VD fun i j=>i - j) x y H Q\/(V6 fun i j=>i - j) x y H Q
theorem DK:OpR X (binaryOp .Sub) Rt:=op_sub.or (op_sub_bi.or Nu)
theorem EY:Fp K .sh Rt Ew:=fun U M H d e x y P Q dom vM hx hy w q=>by
 unfold Ew at w
 split at w
 ·exact .inl (Qa (K:=K) (g:=fun i j=>i - j) U M H (.int _) (.int _) x y P Q dom vM hx hy w q)
 ·rename_i k j
  exact .inr (.inl ⟨k,j,hx,hy,q _ H (.int _) .refl rfl w⟩)
 ·rename_i i k
  exact .inr (.inr ⟨i,k,hx,hy,q _ H (.int _) .refl rfl w⟩)
 ·exact w.elim
noncomputable def KD(d:D)(lo hi:Option Int)(P:D->Prop):Prop:=match d with
 | .str z=>P (.str (Txt.slice z lo hi))
 | .lst xs=>P (.lst (cutD xs lo hi))
 | .tup xs=>P (.tup (cutD xs lo hi))
 | _=>False
noncomputable def UR(K:Frag):V->Option Int->Option Int->Hp->VK->Prop:=fun x lo hi H Q=>UO x lo hi H Q\/UQ K x lo hi H Q\/UP K x lo hi H Q\/Rv K x lo hi H Q
theorem Qs:SlR X (UR X.K):=sl_U.or (sl_list.or (sl_tup.or Qr))
theorem NQ{M:Addr->Prop}{H:Hp}{ds:List D}{vs:List V}(lo hi:Option Int)(h:Ats K M H ds vs):Ats K M H (cutD ds lo hi) (Ik vs lo hi):=by
 unfold cutD Ik
 rw [h.length]
 exact(h.drop _).take _
theorem NX:V9 K .sh (UR K) KD:=by
 intro U M H d x lo hi P Q dom vM hx w q
 unfold KD at w
 split at w
 ·rename_i z
  exact .inl ⟨z,hx.str.1,hx.str.2,q _ H (.str (Txt.slice z lo hi)) .refl ⟨rfl,Nat.le_trans (Txt.slice_le z lo hi) hx.str.2⟩ w⟩
 ·rename_i xs
  obtain⟨a,vs,rfl,_,ha,hs⟩:=hx
  exact .inr (.inl ⟨a,vs,rfl,.inl ha,fun p hp=>q _ _ (.lst _) (A1 hp) ((C6 (U:=U) hp (NQ lo hi hs)).shOf dom (by intro z; cases z)) w⟩)
 ·rename_i xs
  obtain⟨a,vs,rfl,ha,hs⟩:=hx.tup
  by_cases hw:HT.sIx vs.length 0 lo=0/\HT.sIx vs.length vs.length hi=vs.length
  ·refine .inr (.inr (.inr ⟨a,vs,rfl,ha.sq,hw,?_⟩))
   have e:cutD xs lo hi=xs:=by
    unfold cutD
    rw [← hs.length,hw.1,hw.2,List.drop_zero,Nat.sub_zero,hs.length,List.take_length]
   rw [e] at w
   exact q _ H (.tup xs) .refl ⟨a,vs,rfl,ha,hs⟩ w
  ·exact .inr (.inr (.inl ⟨a,vs,rfl,ha.sq,hw,fun p hp=>q _ _ (.tup _) (A1 hp) (DZ dom hp (NQ lo hi hs)) w⟩))
 ·exact w.elim
noncomputable def Uu:D->D->(D->Prop)->Prop:=VI fun i j P=>i.length+j.length<=sizeLine/\P (.lst (i++j))
end
end Dp
namespace Nt
open PySem PySem.Spec PyProof.Rows L2 Dp
noncomputable def A5:W2:=fun ss n P=>∃m:Int,ss=[.fd,.sh (.int m)]/\1<=m/\m<1073741824/\1<=n/\∀r:Int,0<=r->r<m->P (.int r) (n - 1)
noncomputable def cs(x:Str):List Nat:=x.cps.toList
theorem QR{x y:Str}(h:cs x=cs y):x=y:=by
 obtain⟨a⟩:=x
 obtain⟨b⟩:=y
 unfold cs at h
 exact congrArg Str.mk (Array.ext' h)
noncomputable def Lk(x:Str):Prop:=1<=x.length/\x.length<=8/\∀c∈cs x,97<=c/\c<=122
noncomputable def rising(xs:List Str):Prop:=xs.Pairwise fun x y=>cs x<cs y
theorem Pn(a b:List Nat):ltCps a b=decide (a<b):=ltCps_eq a b
theorem GX:∀(l:List Str) (p:Str),risingS p l=true->(p::l).Pairwise fun a b=>¬cs b<cs a
 | [],p,_=>List.pairwise_singleton _ _
 | x::r,p,h=>by
  have h':(!ltCps x.cps.toList p.cps.toList&&risingS x r)=true:=h
  rw [Bool.and_eq_true,Bool.not_eq_true',Pn,decide_eq_false_iff_not] at h'
  have ih:=GX r x h'.2
  refine List.pairwise_cons.mpr ⟨fun y hy=>?_,ih⟩
  rcases List.mem_cons.mp hy with rfl | hy
  ·exact h'.1
  ·have h2:=(List.pairwise_cons.mp ih).1 y hy
   exact List.le_trans (l₁:=cs p) (l₂:=cs x) (l₃:=cs y) h'.1 h2
theorem Er{l:List Str}(h:sortedS l=true)(nd:l.Nodup):rising l:=by
 have hp:l.Pairwise fun a b=>¬cs b<cs a:=by
  cases l with
  | nil=>exact List.Pairwise.nil
  | cons x r=>exact GX r x h
 refine(hp.and nd).imp fun {a b} ⟨h1,h2⟩=>?_
 exact Classical.byContradiction fun h3=>h2 (QR (List.le_antisymm (as:=cs a) (bs:=cs b) h1 h3))
theorem C2(lo:Int)(n:Nat):(D8 lo n).length=n:=by unfold D8; rw [List.length_map,List.length_range]
theorem Kv{lo:Int}{n:Nat}{d:D}(h:d∈D8 lo n):∃k:Nat,k<n/\d=.int (lo+k):=by
 unfold D8 at h
 obtain⟨k,hk,rfl⟩:=List.mem_map.mp h
 exact⟨k,List.mem_range.mp hk,rfl⟩
end Nt
namespace K40
open PySem PySem.Spec PyProof.Rows L2 Dp Nt
noncomputable def top(i:Nat):Stmt:=PySem.Challenge.pw_thinnet_k40_thinned_for_many.main.body.getD i (.Pass ⟨0,0,0,0⟩)
noncomputable abbrev Cv:Stmt:=top 1
noncomputable abbrev CS:Stmt:=top 2
noncomputable abbrev CQ:Stmt:=top 3
noncomputable abbrev Fv:Stmt:=top 4
noncomputable abbrev Ct:Stmt:=top 5
noncomputable abbrev CD:Stmt:=top 7
noncomputable abbrev CC:Stmt:=top 8
noncomputable abbrev Bu:Stmt:=top 9
noncomputable abbrev Bv:Stmt:=top 10
noncomputable abbrev DX:Stmt:=top 11
noncomputable abbrev CF:Stmt:=top 13
noncomputable abbrev CT:Stmt:=top 14
noncomputable abbrev Cu:Stmt:=top 15
noncomputable abbrev CG:Stmt:=top 17
noncomputable abbrev BE:Stmt:=top 18
noncomputable abbrev CH:Stmt:=top 20
noncomputable abbrev Br:Stmt:=top 21
noncomputable abbrev Bz:Stmt:=top 22
noncomputable abbrev Be:Stmt:=top 23
noncomputable abbrev CU:Stmt:=top 24
noncomputable abbrev By:Stmt:=top 25
noncomputable abbrev BR:Stmt:=top 26
noncomputable abbrev Bw:Stmt:=top 27
noncomputable abbrev Bb:Stmt:=top 28
noncomputable abbrev Bg:Stmt:=top 29
noncomputable abbrev BJ:Stmt:=top 30
noncomputable abbrev Bc:Stmt:=top 31
noncomputable abbrev B0:Stmt:=top 32
noncomputable abbrev BS:Stmt:=top 33
noncomputable abbrev B3:Stmt:=top 34
noncomputable abbrev Bx:Stmt:=top 35
noncomputable abbrev FL:Stmt:=top 36
structure Txt (K:Frag) (mg:Str->Option Value):Prop where
 n_all:mg "all"=none
 n_isinstance:mg "isinstance"=none
 n_len:mg "len"=none
 n_list:mg "list"=none
 n_max:mg "max"=none
 n_min:mg "min"=none
 n_range:mg "range"=none
 n_repr:mg "repr"=none
 n_reversed:mg "reversed"=none
 n_sorted:mg "sorted"=none
 n_str:mg "str"=none
 n_tuple:mg "tuple"=none
 n_zip:mg "zip"=none
section
variable {P:Program}{w:World}{K:Frag}{mg:Str->Option Value}{base:Heap}
theorem sc__law_next:Ae ["_law_feed_here","_law_many","_law_digit","_law_at","_law_cell","_law_first"] ["_law_feed_here","_law_many"] (AH Br):=⟨rfl,rfl,rfl,by decide +kernel,rfl,by decide +kernel,by decide +kernel⟩
theorem Q6{f:Addr}{fd:FuncData}(F:Fun K "_law_next" "_law_next" Br f fd)(ml:mg "len"=none):BG P w K mg base C0 1 f fd ["_law_feed_here","_law_many"] (EB K .sh A5 2):=by
 refine F.ok sc__law_next (fun vs H Q E h=>h.1) (fun cdv A outer s H vs Q E hr h=>?_)
 obtain⟨hl,F0,U,V',M,n,ss,Pd,ra,⟨m,rfl,hm1,hm2,hn,hP⟩,q⟩:=h
 obtain⟨dom,fU,uV,vM,fd0,pa⟩:=ra
 cases pa with
 | cons r1 pa =>
 cases pa with
 | cons r2 pa =>
 cases pa
 obtain⟨⟨f0,c⟩,e0,hF⟩:=r1.1
 cases e0
 obtain⟨v2,e2,h2⟩:=r2.1
 cases e2
 cases (show _=V.int m from h2)
 obtain⟨a,r,cells,hf,hcf,hc,hcl,ha0,han⟩:=fd0 (f0,c) hF
 have fin:∀(a' r' z:Int) (H':Hp),(∀b o,H b=some o->b≠f0->H' b=some o)->H' f0=some (.lst [.ref c,.int a',.int r'])->0<=a'->a'<=a+1->0<=z->z<m->Q (.int z) H':=by
  intro a' r' z H' hk hf' h0 h1 hz0 hz1
  refine q (.int z) H' (.int z) (n - 1) (fun b o e=>?_) (fun g hg=>?_) rfl (hP z hz0 hz1)
  ·by_cases hb:b=f0
   ·subst hb
    exact⟨_,hf',fun nu=>absurd (fU (b,c) hF) nu⟩
   ·exact⟨o,hk b o e hb,fun _=>rfl⟩
  ·have:g=(f0,c):=Option.some.inj (hg.symm.trans hF)
   subst this
   exact⟨a',r',cells,hf',hcf,⟨hc.1,hk c _ hc.2 hcf⟩,hcl,h0,by omega⟩
 have hu:(A.deeper (envOfC "_law_next" (AH Br) s.heap.objs.size f cdv)).units<cLine:=hr.units0
 have hsq:∀{H':Hp} {xs:List V},H' f0=some (.lst xs)->SqL K H' f0 xs:=fun h=>SqL.of h
 have ed:∀z:Int,0<=z % m/\z % m<m:=fun z=>⟨Int.emod_nonneg _ (by omega),Int.emod_lt_of_pos _ (by omega)⟩
 refine⟨_,BF (PR (FN SF (Dv ix_list (pv 0) Au (fun _ _=>rfl)) Au (Av _))
   (BF (EC (i:=2) sc__law_next.nd rfl (Or.inl rfl) (Bs EG (Dv ix_list (pv 0) Au (fun _ _=>rfl)) (pv 1)))
   (BF (Fx (Bs G0 (Dv ix_list (pv 0) Au (fun _ _=>rfl)) (pv 1)) (L_ (pv 0) Au set_list))
   (DJ (E6 (pv 2))))) Jq)
  (BF (EC (i:=3) sc__law_next.nd rfl (Or.inl rfl) (Dv ix_list (pv 0) Au (fun _ _=>rfl)))
  (BF (Fx (Bs op_add (pv 3) Au) (L_ (pv 0) Au set_list))
  (BF (EC (i:=4) sc__law_next.nd rfl (Or.inl rfl) (Pc (FN (Nv hu) (Dv ix_list (pv 0) Au (fun _ _=>rfl)) (MA CV) (Av _))
   (Dv ix_list (Dv ix_list (pv 0) Au (fun _ _=>rfl)) (Bs EG (pv 3) (FP C8 rfl ml PySem.boot_len (BY (Dv ix_list (pv 0) Au (fun _ _=>rfl)) CV))) (fun _ _=>rfl)) Au))
  (BF (PR (PW.pt (PM (FN Ue (pv 4) (Bs Fy Au Au) (Av _)) (Mo (FN op_lt (pv 3) (FP C8 rfl ml PySem.boot_len (BY (Dv ix_list (pv 0) Au (fun _ _=>rfl)) CV)) (Av _)))))
   (BF (Fx (Bs G0 (pv 4) (pv 1)) (L_ (pv 0) Au set_list))
   (DJ (E6 (Bs EG (pv 4) (pv 1))))) Jq)
  (BF (EC (i:=5) sc__law_next.nd rfl (Or.inl rfl) (Bs EG (Bs op_mul (Bs op_add (Bs op_add (Bs op_add (Bs EG (pv 4) Au) (Bs op_mul (Bs op_mul Au (pv 3)) (pv 3))) (Bs op_mul Au (pv 3))) Au) Au) Au))
  (DJ (E6 (Bs EG (Bs G0 (Bs EG (Bs op_mul (Bs op_add (pv 5) (Bs op_mul Au (pv 3))) Au) Au) Au) (pv 1))))))))),?_⟩
 refine⟨_,rfl,f0,_,2,_,rfl,rfl,hsq hf,rfl,_,_,rfl,rfl,_,rfl,?_⟩
 refine EK (fun c1=>?_) (fun c1=>?_)
 ·refine⟨_,rfl,f0,_,2,_,rfl,rfl,hsq hf,rfl,_,rfl,_,_,rfl,rfl,(by show (0:Int)<m; omega),?_⟩
  refine⟨_,rfl,f0,_,2,_,rfl,rfl,hsq hf,rfl,_,rfl,_,_,rfl,rfl,⟨(by show (0:Int)<m; omega),hm2⟩,_,rfl,f0,_,2,2,rfl,rfl,hf,rfl,?_⟩
  refine⟨_,rfl,?_⟩
  exact fin a _ _ _ (fun b o e hb=>by rw [AQ hb]; exact e) AV ha0 (by omega) (ed _).1 (ed _).2
 ·-- at=feed[1]; feed[1]=at+1
  refine⟨_,rfl,f0,_,1,_,rfl,rfl,hsq hf,rfl,?_⟩
  refine⟨_,rfl,_,_,rfl,rfl,_,rfl,f0,_,1,1,rfl,rfl,hf,rfl,?_⟩
  generalize hH1:A9 H f0 (.lst ([V.ref c,V.int a,V.int r].set 1 (V.int (a+1))))=H1
  have f1:H1 f0=some (.lst [.ref c,.int (a+1),.int r]):=by rw [← hH1]; exact AV
  have k1:∀b o,H b=some o->b≠f0->H1 b=some o:=fun b o e hb=>by rw [← hH1,AQ hb]; exact e
  have c1':H1 c=some (.lst (cells.map V.int)):=k1 c _ hc.2 hcf
  have rest:∀(z:Int) (H2:Hp),(∀b o,H1 b=some o->H2 b=some o) ->
    (Nf (UH (UM (Oz (DV (Gr fun i j=>V.bl (decide (j<=i))) (Bo 4) (DV (rI Kf fun i j=>V.int (i ^ j.toNat)) (tC (V.int 10)) (tC (V.int 18))))) (Oz (DV (Gr fun i j=>V.bl (decide (i<j))) (Bo 3) (VC (fun xs H Q=>∃x n,xs=[x]/\T2 K x H n/\Q (V.int n) H) (Kp (DV (Sy K) (Bo 0) (tC (V.int 0))) O0))))) (Nf (Lr (DV (rI Qh fun i j=>V.int (i / j)) (Bo 4) (Bo 1)) (Uk (Bo 0) (tC (V.int 2)) Rw)) (Qo (DV (rI (fun _ j=>0<j) fun i j=>V.int (i % j)) (Bo 4) (Bo 1)))) Rp) (Nf (Lr (DV (rI (fun _ j=>0<j) fun i j=>V.int (i % j)) (DV (rI CMul fun i j=>V.int (i*j)) (DV (Gr fun i j=>V.int (i+j)) (DV (Gr fun i j=>V.int (i+j)) (DV (Gr fun i j=>V.int (i+j)) (DV (rI (fun _ j=>0<j) fun i j=>V.int (i % j)) (Bo 4) (tC (V.int 1000003))) (DV (rI CMul fun i j=>V.int (i*j)) (DV (rI CMul fun i j=>V.int (i*j)) (tC (V.int 41)) (Bo 3)) (Bo 3))) (DV (rI CMul fun i j=>V.int (i*j)) (tC (V.int 17)) (Bo 3))) (tC (V.int 3))) (tC (V.int 51749))) (tC (V.int 999917))) (Gc 5)) (Qo (DV (rI (fun _ j=>0<j) fun i j=>V.int (i % j)) (DV (rI Qh fun i j=>V.int (i / j)) (DV (rI (fun _ j=>0<j) fun i j=>V.int (i % j)) (DV (rI CMul fun i j=>V.int (i*j)) (DV (Gr fun i j=>V.int (i+j)) (Bo 5) (DV (rI CMul fun i j=>V.int (i*j)) (tC (V.int 8111)) (Bo 3))) (tC (V.int 39373))) (tC (V.int 2097143))) (tC (V.int 3))) (Bo 1)))))
     { nx:=fun _ H'=>Q .non H',rt:=Q } [some (.ref f0),some (.int m),none,some (.int a),some (.int z),none] H2:=by
   intro z H2 k2
   have f2:=k2 _ _ f1
   have c2:=k2 _ _ c1'
   have lastWay:∀H3:Hp,H3=H2->(Nf (Lr (DV (rI (fun _ j=>0<j) fun i j=>V.int (i % j)) (DV (rI CMul fun i j=>V.int (i*j)) (DV (Gr fun i j=>V.int (i+j)) (DV (Gr fun i j=>V.int (i+j)) (DV (Gr fun i j=>V.int (i+j)) (DV (rI (fun _ j=>0<j) fun i j=>V.int (i % j)) (Bo 4) (tC (V.int 1000003))) (DV (rI CMul fun i j=>V.int (i*j)) (DV (rI CMul fun i j=>V.int (i*j)) (tC (V.int 41)) (Bo 3)) (Bo 3))) (DV (rI CMul fun i j=>V.int (i*j)) (tC (V.int 17)) (Bo 3))) (tC (V.int 3))) (tC (V.int 51749))) (tC (V.int 999917))) (Gc 5)) (Qo (DV (rI (fun _ j=>0<j) fun i j=>V.int (i % j)) (DV (rI Qh fun i j=>V.int (i / j)) (DV (rI (fun _ j=>0<j) fun i j=>V.int (i % j)) (DV (rI CMul fun i j=>V.int (i*j)) (DV (Gr fun i j=>V.int (i+j)) (Bo 5) (DV (rI CMul fun i j=>V.int (i*j)) (tC (V.int 8111)) (Bo 3))) (tC (V.int 39373))) (tC (V.int 2097143))) (tC (V.int 3))) (Bo 1))))
     { nx:=fun _ H'=>Q .non H',rt:=Q } [some (.ref f0),some (.int m),none,some (.int a),some (.int z),none] H3:=by
    intro H3 e3
    subst e3
    have hb:CMul (41*a) a:=.inr ⟨by omega,by omega⟩
    refine⟨_,rfl,_,_,rfl,rfl,(by show (0:Int)<1000003; decide),_,rfl,_,_,rfl,rfl,.inl ⟨by decide,by decide⟩,_,rfl,_,_,rfl,rfl,hb,_,_,rfl,rfl,_,rfl,_,_,rfl,rfl,.inl ⟨by decide,by decide⟩,_,_,rfl,rfl,_,_,rfl,rfl,_,_,rfl,rfl,.inr ⟨by decide,by decide⟩,_,_,rfl,rfl,(by show (0:Int)<999917; decide),?_⟩
    refine⟨_,rfl,_,rfl,_,_,rfl,rfl,.inl ⟨by decide,by decide⟩,_,_,rfl,rfl,_,_,rfl,rfl,.inr ⟨by decide,by decide⟩,_,_,rfl,rfl,(by show (0:Int)<2097143; decide),_,_,rfl,rfl,⟨by decide,by decide⟩,_,rfl,_,_,rfl,rfl,(by show (0:Int)<m; omega),?_⟩
    exact fin (a+1) r _ _ (fun b o e hb=>k2 b o (k1 b o e hb)) f2 (by omega) (by omega) (ed _).1 (ed _).2
   refine⟨_,rfl,_,_,rfl,rfl,⟨by decide,by decide,by decide⟩,_,_,rfl,rfl,_,rfl,?_⟩
   refine EK (fun c3=>?_) (fun c3=>?_)
   ·refine⟨_,rfl,_,rfl,f0,_,0,_,rfl,rfl,hsq f2,rfl,_,_,rfl,.inl ⟨_,SqL.of c2,rfl⟩,_,_,rfl,rfl,_,rfl,?_⟩
    refine EK (fun c4=>?_) (fun c4=>lastWay H2 rfl)
    refine⟨_,rfl,_,rfl,_,_,rfl,rfl,⟨(by show (0:Int)<m; omega),hm2⟩,_,rfl,f0,_,2,2,rfl,rfl,f2,rfl,?_⟩
    refine⟨_,rfl,_,rfl,_,_,rfl,rfl,(by show (0:Int)<m; omega),?_⟩
    exact fin (a+1) _ _ _ (fun b o e hb=>by rw [AQ hb]; exact k2 b o (k1 b o e hb)) AV (by omega) (by omega) (ed _).1 (ed _).2
   ·refine EK (fun c4=>absurd c4 (by simp)) (fun _=>lastWay H2 rfl)
  refine⟨_,rfl,f0,_,0,_,rfl,rfl,hsq f1,rfl,(by show 0<=sizeLine; decide),fun p hp=>?_⟩
  have kp:∀b o,H1 b=some o->A9 H1 p (.lst []) b=some o:=fun b o e=>by rw [AQ (Al e hp)]; exact e
  refine⟨c,p,_,rfl,rfl,SqL.of (kp _ _ c1'),SqL.of AV,_,rfl,?_⟩
  cases cells with
  | nil=>exact Ih (rest 0 _ kp)
  | cons z0 cs =>
   refine Hq ?_
   have hlen:(((z0::cs).map V.int).length:Int)=(cs.length:Int)+1:=by simp
   have hpos:(0:Int)<(((z0::cs).map V.int).length:Int):=by omega
   obtain⟨z,hz⟩:∃z,atI ((z0::cs).map V.int) (a % (((z0::cs).map V.int).length:Int))=some (.int z):=by
    have h1:=Int.emod_nonneg a (show (((z0::cs).map V.int).length:Int)≠0 by omega)
    have h2:=Int.emod_lt_of_pos a hpos
    generalize a % (((z0::cs).map V.int).length:Int)=j at h1 h2
    obtain⟨k,rfl⟩:∃k:Nat,j=(k:Int):=⟨j.toNat,by omega⟩
    have hk:k<(z0::cs).length:=by rw [List.length_map] at h2; omega
    refine⟨(z0::cs)[k],Aj ?_⟩
    rw [List.getElem?_map,List.getElem?_eq_getElem hk]
    rfl
   refine⟨_,rfl,f0,_,0,_,rfl,rfl,hsq (kp _ _ f1),rfl,_,rfl,_,rfl,f0,_,0,_,rfl,rfl,hsq (kp _ _ f1),rfl,_,_,rfl,.inl ⟨_,SqL.of (kp _ _ c1'),rfl⟩,_,_,rfl,rfl,hpos,c,_,_,_,rfl,rfl,SqL.of (kp _ _ c1'),hz,?_⟩
   exact rest z _ kp
end
end K40
namespace Nt
open PySem PySem.Spec PyProof.Rows L2 Dp
theorem I_{α β:Type}{f:α->β}:∀{l:List α},l.Nodup->(∀a∈l,∀b∈l,f a=f b->a=b)->(l.map f).Nodup
 | [],_,_=>List.nodup_nil
 | a::l,h,hf=>by
  rw [List.nodup_cons] at h
  rw [List.map_cons,List.nodup_cons]
  refine⟨fun hm=>?_,I_ h.2 fun x hx y hy=>hf x (List.mem_cons_of_mem _ hx) y (List.mem_cons_of_mem _ hy)⟩
  obtain⟨b,hb,e⟩:=List.mem_map.mp hm
  exact h.1 (hf a List.mem_cons_self b (List.mem_cons_of_mem _ hb) e.symm▸hb)
theorem Q_{f m j k:Nat}{M:Nat}(hM:m<=M)(hj:j<m)(hk:k<m)(e:(f+j) % M=(f+k) % M):j=k:=by
 have h:∀a b:Nat,a<=b->b<m->(f+a) % M=(f+b) % M->a=b:=fun a b h1 h2 e=>by
  have:(f+b - (f+a)) % M=0:=Nat.sub_mod_eq_zero_of_mod_eq e.symm
  have e2:f+b - (f+a)=b - a:=by omega
  rw [e2,Nat.mod_eq_of_lt (by omega)] at this
  omega
 rcases Nat.le_total j k with h1 | h1
 ·exact h j k h1 hk e
 ·exact(h k j h1 hj e.symm).symm
theorem Lb(ss:List Str):C_ (ss.map .str)=some ss:=by
 induction ss with
 | nil=>rfl
 | cons y r ih =>
  rw [List.map_cons]
  unfold C_
  rw [ih]
  rfl
theorem DY{b:BW}{body:Ab}{D2:E2}{all:List D}(I:List D->Nat->List Slot->Prop)(hend:∀n ρ,I all n ρ->D2.nx n ρ)
  (hstep:∀(pre:List D) (d:D) (post:List D) (n:Nat) (ρ:List Slot) (nx:Nat->List Slot->Prop),all=pre++d::post->I pre n ρ->(∀n' ρ',I (pre++[d]) n' ρ'->nx n' ρ')->b d ρ fun ρ1=>body { D2 with nx:=nx,ct:=nx,bk:=D2.nx } n ρ1) :
  ∀(ds pre:List D) (n:Nat) (ρ:List Slot),all=pre++ds->I pre n ρ->BM b body D2 ds n ρ
 | [],pre,n,ρ,e,h=>by
  rw [List.append_nil] at e
  subst e
  exact hend n ρ h
 | d::ds,pre,n,ρ,e,h=>hstep pre d ds n ρ (BM b body D2 ds) e h fun n' ρ' h'=>DY I hend hstep ds (pre++[d]) n' ρ' (by rw [e,List.append_assoc]; rfl) h'
theorem Mj{lo:Int}{n:Nat}{pre post:List D}{d:D}(h:D8 lo n=pre++d::post):d=.int (lo+(pre.length:Int))/\pre.length<n:=by
 have hl:=congrArg List.length h
 rw [C2,List.length_append,List.length_cons] at hl
 have e:(D8 lo n)[pre.length]?=some d:=by rw [h,List.getElem?_append_right (Nat.le_refl _),Nat.sub_self]; rfl
 unfold D8 at e
 rw [List.getElem?_map,List.getElem?_range (by omega)] at e
 exact⟨(Option.some.inj e).symm,by omega⟩
structure Ap where
 a:Str
 b:Str
 len:Int
structure Net where
 ps:List Str
 ts:List Ap
noncomputable def Aa(t:Ap):D:=.tup [.str t.a,.str t.b,.int t.len]
noncomputable def enc(N:Net):D:=.tup [.tup (N.ps.map .str),.tup (N.ts.map Aa)]
noncomputable def B6(s t:Ap):Prop:=cs s.a<cs t.a\/(s.a=t.a/\cs s.b<cs t.b)
structure Net.Ok (N:Net):Prop where
 names:∀x∈N.ps,Lk x
 rise:rising N.ps
 tin:∀t∈N.ts,t.a∈N.ps/\t.b∈N.ps/\cs t.a<cs t.b/\1<=t.len/\t.len<=1000000
 trise:N.ts.Pairwise B6
structure Ix where
 i:Nat
 j:Nat
 len:Int
noncomputable def Ix.tie(xs:List Str)(t:Ix):Ap:=⟨xs.getD t.i "",xs.getD t.j "",t.len⟩
noncomputable def TU(s t:Ix):Prop:=s.i<t.i\/(s.i=t.i/\s.j<t.j)
theorem getD_at{xs:List Str}{i:Nat}(h:i<xs.length):xs[i]?=some (xs.getD i ""):=by
 rw [List.getD_eq_getElem?_getD,List.getElem?_eq_getElem h]
 rfl
theorem getD_mem{xs:List Str}{i:Nat}(h:i<xs.length):xs.getD i ""∈xs:=List.mem_of_getElem? (getD_at h)
theorem Gy{xs:List Str}(h:rising xs){i j:Nat}(hij:i<j)(hj:j<xs.length):cs (xs.getD i "")<cs (xs.getD j ""):=by
 have h2:=List.pairwise_iff_getElem.mp h i j (by omega) hj hij
 have e1:xs.getD i ""=xs[i]:=by rw [List.getD_eq_getElem?_getD,List.getElem?_eq_getElem (by omega)]; rfl
 have e2:xs.getD j ""=xs[j]:=by rw [List.getD_eq_getElem?_getD,List.getElem?_eq_getElem hj]; rfl
 rw [e1,e2]
 exact h2
theorem TB{xs:List Str}{ts:List Ix}(hn:∀x∈xs,Lk x)(hr:rising xs)(ht:∀t∈ts,t.i<t.j/\t.j<xs.length/\1<=t.len/\t.len<=1000000)(hp:ts.Pairwise TU):Net.Ok ⟨xs,ts.map (Ix.tie xs)⟩:=by
 refine⟨hn,hr,fun t h=>?_,?_⟩
 ·obtain⟨u,hu,rfl⟩:=List.mem_map.mp h
  obtain⟨h1,h2,h3,h4⟩:=ht u hu
  exact⟨getD_mem (show u.i<xs.length by omega),getD_mem h2,Gy hr h1 h2,h3,h4⟩
 ·show (ts.map (Ix.tie xs)).Pairwise B6
  rw [List.pairwise_map]
  refine List.Pairwise.imp_of_mem (fun {s t} hs ht' h=>?_) hp
  obtain⟨h1,h2,_⟩:=ht s hs
  obtain⟨g1,g2,_⟩:=ht t ht'
  rcases h with h | ⟨h,h'⟩
  ·exact .inl (Gy hr h (by omega))
  ·refine .inr ⟨?_,Gy hr h' g2⟩
   show xs.getD s.i ""=xs.getD t.i ""
   rw [h]
noncomputable abbrev EE(Pd:D->Nat->Prop):E2:={ nx:=fun n _=>Kd.sh=.sh/\Pd .non n,rt:=Pd }
theorem B4{b:BW}{te:DW}{P:List D->Nat->Prop}(g:D->D)(I:List Slot->Prop):∀(ds acc:List D) (n:Nat) (ρ:List Slot),
  (∀d∈ds,∀(ρ:List Slot) (n:Nat) (nx:D->Nat->List Slot->Prop),I ρ->(∀ρ',I ρ'->nx (g d) n ρ')->b d ρ fun ρ1=>te n ρ1 fun y n2=>nx y n2 ρ1)->I ρ->P (acc++ds.map g) n->Dw b E4 te P ds acc n ρ
 | [],acc,n,ρ,_,_,h=>by rw [List.map_nil,List.append_nil] at h; exact h
 | d::ds,acc,n,ρ,ht,hρ,h=>ht d List.mem_cons_self ρ n (fun y n2 ρ1=>Dw b E4 te P ds (acc++[y]) n2 ρ1) hρ fun ρ' hρ' =>
  B4 g I ds (acc++[g d]) n ρ' (fun d hd=>ht d (List.mem_cons_of_mem _ hd)) hρ' (by rw [List.append_assoc]; exact h)
section
variable {ss:List Slot}{n:Nat}{Pd:D->Nat->Prop}
theorem Uz{α:Type}(xs:List α):Dp.cutD xs (some 1) none=xs.drop 1:=by
 unfold Dp.cutD
 rw [HT.sIx_none,show (1:Int)=((1:Nat):Int) from rfl,HT.sIx_nat]
 by_cases h:1<=xs.length
 ·rw [Nat.min_eq_left h]
  exact List.take_of_length_le (by rw [List.length_drop]; exact Nat.le_refl _)
 ·have:xs=[]:=List.length_eq_zero_iff.mp (by omega)
  subst this
  rfl
end
noncomputable def strsOf(xs:List D):List Str:=(C_ xs).getD []
theorem Tr{α:Type}(p:α->Bool)(l:List α):(l.map p).all id=l.all p:=by rw [List.all_map]; rfl
theorem Ks{x:Str}(h:∀c∈cs x,c<1114112):PyData.strOk x=true:=by
 unfold PyData.strOk
 rw [← Array.all_toList,List.all_eq_true]
 intro c hc
 exact decide_eq_true (h c hc)
theorem Pt{x:Str}(h:Lk x):GD (.str x):=⟨rfl,Ks fun c hc=>by have:=h.2.2 c hc; omega,Nat.zero_le _⟩
theorem HF(ps:List Str):strsOf (ps.map .str)=ps:=by unfold strsOf; rw [Lb]; rfl
section
variable {ss:List Slot}{n:Nat}{Pd:D->Nat->Prop}
end
mutual
noncomputable def Hv(B:Nat):D->Prop
 | .int i=>i.natAbs<=B
 | .str x=>∀c∈cs x,c<1114112
 | .tup ds=>JI B ds
 | .lst ds=>JI B ds
 | .dic _ _=>False
 | .fdi _ _=>False
 | _=>True
noncomputable def JI(B:Nat):List D->Prop
 | []=>True
 | d::ds=>Hv B d/\JI B ds
end
mutual
noncomputable def O2:D->Nat
 | .int _=>200
 | .str x=>x.length
 | .tup ds=>Lu ds
 | .lst ds=>Lu ds
 | _=>0
noncomputable def Lu:List D->Nat
 | []=>0
 | d::ds=>O2 d+1+Lu ds
end
mutual
noncomputable def QI:D->Nat
 | .tup ds=>JK ds+1
 | .lst ds=>JK ds+1
 | _=>0
noncomputable def JK:List D->Nat
 | []=>0
 | d::ds=>max (QI d) (JK ds)
end
theorem fines_iff{B:Nat}:∀{ds:List D},JI B ds↔∀d∈ds,Hv B d
 | []=>⟨(fun _ d h=>by cases h),fun _=>trivial⟩
 | d::ds=>by
  have ih:=@fines_iff B ds
  constructor
  ·rintro ⟨h1,h2⟩ e he
   rcases List.mem_cons.mp he with rfl | he
   ·exact h1
   ·exact ih.mp h2 e he
  ·exact fun h=>⟨h d List.mem_cons_self,ih.mpr fun e he=>h e (List.mem_cons_of_mem _ he)⟩
theorem dps_le{k:Nat}:∀{ds:List D},JK ds<=k↔∀d∈ds,QI d<=k
 | []=>⟨(fun _ d h=>by cases h),fun _=>Nat.zero_le _⟩
 | d::ds=>by
  have ih:=@dps_le k ds
  show max (QI d) (JK ds)<=k↔_
  rw [Nat.max_le,ih]
  constructor
  ·rintro ⟨h1,h2⟩ e he
   rcases List.mem_cons.mp he with rfl | he
   ·exact h1
   ·exact h2 e he
  ·exact fun h=>⟨h d List.mem_cons_self,fun e he=>h e (List.mem_cons_of_mem _ he)⟩
theorem Mh:∀(xs:List D),xs.length<=Lu xs
 | []=>Nat.zero_le _
 | d::xs=>by
  have:=Mh xs
  show xs.length+1<=O2 d+1+Lu xs
  omega
mutual
theorem KC{B:Nat}(hB:B<10 ^ 45):∀{d:D},Hv B d->GY d=true/\(toPy d).showable=true/\(toPy d).canLay0=true/\(toPy d).depth=QI d/\(toPy d).leavesShort 60=true/\(toPy d).weight<=O2 d
 | .non,_=>⟨rfl,rfl,rfl,rfl,rfl,Nat.le_refl _⟩
 | .bl b,_=>⟨rfl,rfl,rfl,rfl,rfl,Nat.le_refl _⟩
 | .int i,h=>by
  have h':i.natAbs<=B:=h
  have hlt:i.natAbs<10 ^ 45:=Nat.lt_of_le_of_lt h' hB
  have h2:i.natAbs<2 ^ 150:=Nat.lt_trans hlt (by decide)
  have hl:i.natAbs.log2<150:=by
   by_cases h0:i.natAbs=0
   ·rw [h0]; decide
   ·exact(Nat.log2_lt h0).mpr h2
  refine⟨rfl,?_,rfl,rfl,?_,?_⟩
  ·show decide (i.natAbs.log2<1920)=true
   exact decide_eq_true (by omega)
  ·show decide ((PyData.shown (.int i)).length<=60)=true
   refine decide_eq_true ?_
   have:=int_text_length_le10 (a:=i) (k:=45) (by decide) hlt
   show (Str.ofString (toString i)).length<=60
   rw [PySem.ofString_length]
   omega
  ·show (if i==0 then 0 else i.natAbs.log2+1)<=200
   split <;> omega
 | .str x,h=>by
  have h':∀c∈cs x,c<1114112:=h
  refine⟨rfl,rfl,Ks h',rfl,?_,Nat.le_refl _⟩
  show (x.cps.toList.all fun c=>decide (c<16 ^ 8))=true
  rw [List.all_eq_true]
  intro c hc
  exact decide_eq_true (Nat.lt_trans (h' c hc) (by decide))
 | .tup ds,h=>by
  obtain⟨h1,h2,h3,h4,h5,h6⟩:=Hu hB (ds:=ds) h
  refine⟨h1,h2,h3,?_,h5,h6⟩
  show PyData.depthAll (B5 ds)+1=JK ds+1
  rw [h4]
 | .lst ds,h=>by
  obtain⟨h1,h2,h3,h4,h5,h6⟩:=Hu hB (ds:=ds) h
  refine⟨h1,h2,h3,?_,h5,h6⟩
  show PyData.depthAll (B5 ds)+1=JK ds+1
  rw [h4]
 | .dic ks ds,h=>(show False from h).elim
 | .fdi ks ds,h=>(show False from h).elim
theorem Hu{B:Nat}(hB:B<10 ^ 45):∀{ds:List D},JI B ds->E7 ds=true/\PyData.showableAll (B5 ds)=true/\PyData.canLayAll0 (B5 ds)=true/\PyData.depthAll (B5 ds)=JK ds/\PyData.leavesShortAll 60 (B5 ds)=true/\PyData.weightAll (B5 ds)<=Lu ds
 | [],_=>⟨rfl,rfl,rfl,rfl,rfl,Nat.le_refl _⟩
 | d::ds,h=>by
  obtain⟨h1,h2,h3,h4,h5,h6⟩:=KC hB (d:=d) h.1
  obtain⟨g1,g2,g3,g4,g5,g6⟩:=Hu hB (ds:=ds) h.2
  refine⟨?_,?_,?_,?_,?_,?_⟩
  ·show (GY d&&E7 ds)=true
   rw [h1,g1]; rfl
  ·show ((toPy d).showable&&PyData.showableAll (B5 ds))=true
   rw [h2,g2]; rfl
  ·show ((toPy d).canLay0&&PyData.canLayAll0 (B5 ds))=true
   rw [h3,g3]; rfl
  ·show max (toPy d).depth (PyData.depthAll (B5 ds))=max (QI d) (JK ds)
   rw [h4,g4]
  ·show ((toPy d).leavesShort 60&&PyData.leavesShortAll 60 (B5 ds))=true
   rw [h5,g5]; rfl
  ·show (toPy d).weight+1+PyData.weightAll (B5 ds)<=O2 d+1+Lu ds
   omega
end
theorem Qt{B:Nat}{d:D}(hB:B<10 ^ 45)(h:Hv B d)(hd:QI d<=100)(hs:O2 d<=200000):O5 d:=by
 obtain⟨h1,h2,h3,h4,h5,h6⟩:=KC hB h
 refine⟨h1,h2,by rw [h4]; exact hd,?_⟩
 have:=PyData.shown_le 60 (by decide) (toPy d) h5
 rw [PySem.sizeLine_eq]
 have:62*(toPy d).weight<=62*200000:=Nat.mul_le_mul_left _ (by omega)
 omega
theorem J5{B:Nat}{d:D}(hB:B<10 ^ 45)(h:Hv B d)(hd:QI d<=100):GD d:=by
 obtain⟨h1,h2,h3,h4,h5,h6⟩:=KC hB h
 exact⟨h1,h3,by rw [h4]; exact hd⟩
section
variable {ss:List Slot}{n:Nat}{Pd:D->Nat->Prop}
end
theorem Tl(xs:List D)(a:Nat):Dp.cutD xs none (some (a:Int))=xs.take (min a xs.length):=by
 unfold Dp.cutD
 rw [HT.sIx_none,HT.sIx_nat,List.drop_zero,Nat.sub_zero]
section
variable {ss:List Slot}{n:Nat}{Pd:D->Nat->Prop}
end
section
variable {ss:List Slot}{n:Nat}{Pd:D->Nat->Prop}
end
noncomputable def item(d:D):Prop:=Hv 1000001 d/\O2 d<=450/\QI d<=1
theorem Ls{k:Nat}:∀{ds:List D},(∀d∈ds,O2 d+1<=k)->Lu ds<=k*ds.length
 | [],_=>Nat.zero_le _
 | d::ds,h=>by
  have h1:=h d List.mem_cons_self
  have h2:=Ls (ds:=ds) fun e he=>h e (List.mem_cons_of_mem _ he)
  show O2 d+1+Lu ds<=k*(ds.length+1)
  rw [Nat.mul_succ]; omega
theorem FY{B:Nat}{xs:List D}(h:∀d∈xs,Hv B d):Hv B (.tup xs):=fines_iff.mpr h
theorem item_str{x:Str}(h1:x.length<=8)(h2:∀c∈cs x,c<1114112):item (.str x):=⟨h2,by show x.length<=450; omega,Nat.zero_le _⟩
theorem Cw{x:Str}(h:Lk x):item (.str x):=item_str h.2.1 fun c hc=>by have:=h.2.2 c hc; omega
theorem LH{a b:Str}{l:Int}(ha:item (.str a))(hb:item (.str b))(la:a.length<=8)(lb:b.length<=8)(hl:l.natAbs<=1000001):item (.tup [.str a,.str b,.int l]):=by
 refine⟨FY fun d hd=>?_,?_,?_⟩
 ·simp only [List.mem_cons,List.not_mem_nil,or_false] at hd
  rcases hd with rfl | rfl | rfl
  ·exact ha.1
  ·exact hb.1
  ·exact hl
 ·show a.length+1+(b.length+1+(200+1+0))<=450
  omega
 ·show max 0 (max 0 (max 0 0))+1<=1
  decide
theorem Ho{N:Net}(ok:N.Ok):∀d∈N.ts.map Aa,item d:=fun d hd=>by
 obtain⟨t,ht,rfl⟩:=List.mem_map.mp hd
 obtain⟨h1,h2,_,h3,h4⟩:=ok.tin t ht
 have n1:=ok.names _ h1
 have n2:=ok.names _ h2
 exact LH (Cw n1) (Cw n2) n1.2.1 n2.2.1 (by omega)
theorem RF{N:Net}(ok:N.Ok):∀d∈N.ps.map D.str,item d:=fun d hd=>by
 obtain⟨x,hx,rfl⟩:=List.mem_map.mp hd
 exact Cw (ok.names x hx)
theorem Se{xs ys:List D}(hx:∀d∈xs,item d)(hy:∀d∈ys,item d)(lx:xs.length<=26)(ly:ys.length<=80):Hv 1000001 (.tup [.tup xs,.tup ys])/\O2 (.tup [.tup xs,.tup ys])<=48000/\QI (.tup [.tup xs,.tup ys])<=3:=by
 have s1:=Ls (k:=451) fun d hd=>Nat.succ_le_succ (hx d hd).2.1
 have s2:=Ls (k:=451) fun d hd=>Nat.succ_le_succ (hy d hd).2.1
 have d1:JK xs<=1:=dps_le.mpr fun d hd=>(hx d hd).2.2
 have d2:JK ys<=1:=dps_le.mpr fun d hd=>(hy d hd).2.2
 refine⟨FY fun d hd=>?_,?_,?_⟩
 ·simp only [List.mem_cons,List.not_mem_nil,or_false] at hd
  rcases hd with rfl | rfl
  ·exact FY fun d hd=>(hx d hd).1
  ·exact FY fun d hd=>(hy d hd).1
 ·show Lu xs+1+(Lu ys+1+0)<=48000
  omega
 ·show max (JK xs+1) (max (JK ys+1) 0)+1<=3
  omega
theorem EX{p:D->Prop}{xs:List D}(h:∀d∈xs,p d){o:Int}(h0:0<=o)(h1:o<(xs.length:Int)):∃z,atI xs o=some z/\p z:=by
 obtain⟨k,rfl⟩:∃k:Nat,o=(k:Int):=⟨o.toNat,by omega⟩
 have hk:k<xs.length:=by omega
 exact⟨xs[k],Aj (List.getElem?_eq_getElem hk),h _ (List.getElem_mem hk)⟩
theorem BV(x:Str):¬cs x<cs x:=List.lt_irrefl _
theorem z1:1<=sizeLine:=by decide
theorem z2:2<=sizeLine:=by decide
theorem z3:3<=sizeLine:=by decide
theorem z0:0<=sizeLine:=Nat.zero_le _
theorem Vs:Kf 10 6:=⟨by decide,by decide,by decide⟩
section
variable {ss:List Slot}{n:Nat}{Pd:D->Nat->Prop}
end
end Nt
namespace L2
open PySem PySem.Spec PyProof.Rows
section
variable {X:Cx}{tg elt iter:Expr}{ifs:List Expr}{sc:Scope}{pos spos pos':Pos}{N':List Str}{js:List (Option Nat)}{wi:TI}{i:Nat}{x:Str}
end
end L2
namespace Dp
open PySem PySem.Spec PyProof.Rows L2
section
variable {X:Cx}{κe:Kd}{tg elt iter:Expr}{ifs:List Expr}{sc:Scope}{pos:Pos}{src:FE}{b:BW}{tt:G5}{te:DW}
end
end Dp
namespace L2
open PySem PySem.Spec PyProof.Rows
noncomputable def UZ:R2:=fun y x H Q=>∃a o,x=.ref a/\DGet H a y o/\Q (.bl o.isSome) H
noncomputable def R8:R2:=fun y x H Q=>∃a o,x=.ref a/\DGet H a y o/\Q (.bl (!o.isSome)) H
noncomputable def R9:R2:=fun x y H Q=>∃a v,x=.ref a/\DGet H a y (some v)/\Q v H
theorem S9{X:Cx}{k:Nat}(hr:Room k X.A):OpR X (compareOp .In) UZ:=by
 intro pins s σ H y x iv u Q I ry rx ⟨a,ov,ex,g,q⟩
 subst ex
 obtain rfl:u=Value.ref a:=rx
 exact Vr (Hs hr) I g ry fun s3 I3=>⟨.bl ov.isSome,H,I3,rfl,q⟩
theorem Ek{X:Cx}{k:Nat}(hr:Room k X.A):OpR X (compareOp .NotIn) R8:=by
 intro pins s σ H y x iv u Q I ry rx ⟨a,ov,ex,g,q⟩
 subst ex
 obtain rfl:u=Value.ref a:=rx
 exact Rh (Hs hr) I g ry fun s3 I3=>⟨.bl (!ov.isSome),H,I3,rfl,q⟩
end L2
namespace Dp
open PySem PySem.Spec PyProof.Rows L2
noncomputable def BH:List Key->List D->Key->Option D
 | k0::ks,d::ds,k=>if k0=k then some d else BH ks ds k
 | _,_,_=>none
section
variable {K:Frag}{X:Cx}
theorem FI{M:Addr->Prop}{H:Hp}{k:Key}:∀{ks:List Key} {ds:List D} {vs:List V},Ats K M H ds vs ->
  match BH ks ds k with
  | some z=>∃v,Co (ks.zip vs) k=some v/\At K M H z v
  | none=>Co (ks.zip vs) k=none
 | [],ds,vs,h=>by unfold BH; exact rfl
 | k0::ks,[],vs,h=>by cases h; exact rfl
 | k0::ks,d::ds,vs,h=>by
  obtain⟨v,r,rfl,h1,h2⟩:=h
  have ih:=FI (k:=k) (ks:=ks) h2
  unfold BH
  by_cases e:k0=k
  ·rw [if_pos e]
   refine⟨v,?_,h1⟩
   show Co ((k0,v)::ks.zip r) k=some v
   rw [D9 e]
  ·rw [if_neg e]
   have:Co ((k0,v)::ks.zip r) k=Co (ks.zip r) k:=D_ e
   rw [show (k0::ks).zip (v::r)=(k0,v)::ks.zip r from rfl,this]
   exact ih
noncomputable def keyOf:D->Option Key
 | .int i=>some (.inl i)
 | .str x=>some (.inr x)
 | _=>none
theorem C5{U M:Addr->Prop}{H:Hp}{d:D}{v:V}{k:Key}(e:keyOf d=some k)(h:AtT K U M H d v):v=kV k:=by
 cases d with
 | int i=>cases e; exact h
 | str x=>cases e; exact h.str.1
 | _=>cases e
noncomputable def IB:D->Option (List Key×List D)
 | .dic ks ds=>some (ks,ds)
 | .fdi ks ds=>some (ks,ds)
 | _=>none
theorem IA{U M:Addr->Prop}{H:Hp}{d:D}{x:V}{ks:List Key}{ds:List D}(e:IB d=some (ks,ds))(h:AtT K U M H d x):∃a vs,x=.ref a/\Rd H a (.dK (ks.zip vs))/\Ats K M H ds vs:=by
 cases d with
 | dic k2 d2=>cases e; obtain⟨a,vs,rfl,_,ha,_,hs⟩:=h; exact⟨a,vs,rfl,.inl ha,hs⟩
 | fdi k2 d2=>cases e; obtain⟨a,vs,rfl,⟨o,_,ha⟩,_,hs⟩:=h; exact⟨a,vs,rfl,.inr ⟨o,ha⟩,hs⟩
 | _=>cases e
theorem G3{H:Hp}{a:Addr}{kvs:List (Key×V)}{k:Key}(e:Rd H a (.dK kvs)):DGet H a (kV k) (Co kvs k):=.inl ⟨kvs,k,e,rfl,rfl⟩
noncomputable def Ii(neg:Bool)(e d:D)(P:D->Prop):Prop:=∃ks ds k,IB d=some (ks,ds)/\keyOf e=some k/\P (.bl (if neg then !(BH ks ds k).isSome else (BH ks ds k).isSome))
noncomputable def Bl(d e:D)(P:D->Prop):Prop:=∃ks ds k z,IB d=some (ks,ds)/\keyOf e=some k/\BH ks ds k=some z/\P z
theorem U1:Fp K .sh UZ (Ii false):=fun U M H e d y x P Q dom vM hy hx w q=>by
 obtain⟨ks,ds,k,hd,he,w⟩:=w
 obtain⟨a,vs,rfl,ha,hs⟩:=IA hd hx
 refine⟨a,Co (ks.zip vs) k,rfl,by rw [C5 he hy]; exact G3 ha,q _ H (.bl _) .refl rfl ?_⟩
 have h:=FI (k:=k) (ks:=ks) hs
 cases c:BH ks ds k with
 | none=>rw [c] at h w; rw [show Co (ks.zip vs) k=none from h]; exact w
 | some z=>rw [c] at h w; obtain⟨v,h1,_⟩:=h; rw [h1]; exact w
theorem Fk:Fp K .sh R8 (Ii true):=fun U M H e d y x P Q dom vM hy hx w q=>by
 obtain⟨ks,ds,k,hd,he,w⟩:=w
 obtain⟨a,vs,rfl,ha,hs⟩:=IA hd hx
 refine⟨a,Co (ks.zip vs) k,rfl,by rw [C5 he hy]; exact G3 ha,q _ H (.bl _) .refl rfl ?_⟩
 have h:=FI (k:=k) (ks:=ks) hs
 cases c:BH ks ds k with
 | none=>rw [c] at h w; rw [show Co (ks.zip vs) k=none from h]; exact w
 | some z=>rw [c] at h w; obtain⟨v,h1,_⟩:=h; rw [h1]; exact w
theorem Tu:Fp K .sh R9 Bl:=fun U M H d e x y P Q dom vM hx hy w q=>by
 obtain⟨ks,ds,k,z,hd,he,hz,w⟩:=w
 obtain⟨a,vs,rfl,ha,hs⟩:=IA hd hx
 have h:=FI (k:=k) (ks:=ks) hs
 rw [hz] at h
 obtain⟨v,h1,h2⟩:=h
 exact⟨a,v,rfl,by rw [C5 he hy,← h1]; exact G3 ha,q v H z .refl h2 w⟩
variable {a b:Expr}{κa κb:Kd}{wa wb:DW}{pos:Pos}
theorem B9{k:Nat}(hr:Room k X.A)(ha:DE X a κa wa)(hb:DE X b κb wb)(hs:T1 b:=by intro _ _; rfl):DE X (.Subscript a b pos) .sh (Ak Bl wa wb):=by
 obtain⟨ta,ha1,ha2⟩:=ha
 obtain⟨tb,hb1,hb2⟩:=hb
 exact⟨DV R9 ta tb,Ju (Hs hr) ha1 hb1 hs,fun C M H n ρ σ P Q R w q=>EQ Tu ha2 hb2 C M H n ρ σ P Q R w q⟩
end
noncomputable def Os(i:Nat)(w:DW):Ab:=fun D2 n ρ=>∃a:Int,ρ[i]?=some (.sh (.int a))/\w n ρ fun d n1=>∃b:Int,d=.int b/\D2.nx n1 (ρ.set i (.sh (.int (a+b))))
theorem RX{X:Cx}{κ κe:Kd}{e:Expr}{wa:DW}{pos:Pos}{i:Nat}{x:Str}{pos':Pos}(hN:X.N.Nodup)(hi:X.N[i]?=some x)(hx:Loc X.env.scope x)(he:DE X e κe wa)
  (hf:X.fn x=true\/X.env.scope.names.lookup x=some .local:=by first | exact .inl rfl | exact .inr rfl | assumption):DS X κ (.AugAssign (.Name x pos') .Add e pos) (Os i wa):=by
 obtain⟨t,a1,a2⟩:=he
 refine⟨_,S2 hN hi hx a1 TY hf,fun C M H n ρ σ D2 E R L w=>?_⟩
 obtain⟨a,ha,w⟩:=w
 obtain⟨v,e1,h1⟩:=R.sl i _ ha
 cases (show v=.int a from h1)
 refine⟨_,getD_some e1,a2 C M H n ρ σ _ _ R w fun v H' d n' e1 f1 r1 p=>?_⟩
 obtain⟨b,rfl,p⟩:=p
 exact⟨a,b,rfl,J7 r1,L.nx M H' n' _ _ ((R.step e1 f1).set (d:=.int (a+b)) rfl) p⟩
end Dp
namespace So
open PySem PySem.W PyProof.Rows
section
variable {O:KeyOrd}{key:Nat->O.α}{N:Nat}{cmp:Nat->Nat->(Bool->Shared->Prop)->Shared->Prop}{s:Shared}{p p0:Array Nat}
noncomputable def KN(O:KeyOrd)(key:Nat->O.α)(p:Array Nat)(i:Nat):O.α:=key (p.getD i 0)
noncomputable def Srt(O:KeyOrd)(key:Nat->O.α)(p:Array Nat)(k:Nat):Prop:=∀i j,i<=j->j<k->O.kle (KN O key p i) (KN O key p j)
noncomputable def U7(O:KeyOrd)(key:Nat->O.α)(p:Array Nat)(k:Nat):Prop:=∀i j,i<=j->j<k->O.kle (KN O key p j) (KN O key p i)
noncomputable def ST(O:KeyOrd)(key:Nat->O.α)(N:Nat)(cmp:Nat->Nat->(Bool->Shared->Prop)->Shared->Prop)(s:Shared):Prop:=∀(i j:Nat) (C:Bool->Shared->Prop),i<N->j<N->C (O.blt (key i) (key j)) s->cmp i j C s
noncomputable def Bd(N:Nat)(p:Array Nat):Prop:=0<N/\∀x∈p,x<N
theorem KA(p:Array Nat)(i:Nat):p.getD i 0=(p[i]?).getD 0:=by
 simp
theorem Bd.get(h:Bd N p)(i:Nat):p.getD i 0<N:=by
 rw [KA]
 cases e:p[i]? with
 | none=>exact h.1
 | some x=>exact h.2 x (Array.mem_of_getElem? e)
theorem Bd.perm{p':Array Nat}(h:Bd N p)(hp:p'.Perm p):Bd N p':=⟨h.1,fun x hx=>h.2 x (hp.mem_iff.mp hx)⟩
theorem Eh{p q:Array Nat}{i j:Nat}(h:p[i]?=q[j]?):KN O key p i=KN O key q j:=by
 unfold KN
 rw [KA,KA,h]
theorem JW{src d:Nat}(hs:src<p.size)(hd:d<=src)(k:Nat) :
  KN O key (bubble p src d) k=if k=src - d then KN O key p src else if src - d<k/\k<=src then KN O key p (k - 1) else KN O key p k:=by
 have e:=getElem?_bubble hs d hd k
 by_cases h1:k=src - d
 ·rw [if_pos h1] at e ⊢; exact Eh e
 ·rw [if_neg h1] at e ⊢
  by_cases h2:src - d<k/\k<=src
  ·rw [if_pos h2] at e ⊢; exact Eh e
  ·rw [if_neg h2] at e ⊢; exact Eh e
theorem GO{i j:Nat}(hj:j<=p.size)(k:Nat):KN O key (kas_rev p i j) k=if i<=k/\k<j then KN O key p (i+j - 1 - k) else KN O key p k:=by
 have e:=getElem?_mirror_all (i:=i) hj k
 unfold kas_rev
 by_cases h1:i<=k/\k<j
 ·rw [if_pos h1] at e ⊢; exact Eh e
 ·rw [if_neg h1] at e ⊢; exact Eh e
theorem Ba{i j:Nat}(hj:j<=p.size)(heq:∀k,i<=k->k<j->KN O key p k=KN O key p (j - 1))(k:Nat):KN O key (kas_rev p i j) k=KN O key p k:=by
 rw [GO hj]
 split
 ·rw [heq _ (by omega) (by omega),heq k (by omega) (by omega)]
 ·rfl
theorem CK(p:Array Nat)(i j:Nat):(kas_rev p i j).Perm p:=mirror_perm _ _ _ _
theorem yes{α:Type}{T₁ T₂:KasT α}{Q:α->Shared->Prop}(h:T₁.kasWp cmp Q s):(if true=true then T₁ else T₂).kasWp cmp Q s:=by rw [if_pos rfl]; exact h
theorem no{α:Type}{T₁ T₂:KasT α}{Q:α->Shared->Prop}(h:T₂.kasWp cmp Q s):(if false=true then T₁ else T₂).kasWp cmp Q s:=by rw [if_neg (by simp)]; exact h
theorem MV(hC:ST O key N cmp s)(hb:Bd N p){nrem:Nat}{G:Nat->Shared->Prop}:∀(f n:Nat),1<=n->n+f=nrem->Srt O key p n ->
  (∀m,n<=m->m<=nrem->Srt O key p m->(m=nrem\/O.klt (KN O key p m) (KN O key p (m - 1)))->G m s)->(kas_asc p f n).kasWp cmp G s
 | 0,n,_,e,hs,h=>h n (Nat.le_refl _) (by omega) hs (.inl (by omega))
 | f+1,n,h1,e,hs,h=>by
  show cmp (p.getD n 0) (p.getD (n - 1) 0) (fun c s'=>(if c=true then KasT.ret n else kas_asc p f (n+1)).kasWp cmp G s') s
  refine hC _ _ _ (hb.get n) (hb.get _) ?_
  cases hless:O.blt (key (p.getD n 0)) (key (p.getD (n - 1) 0)) with
  | true=>exact yes (h n (Nat.le_refl _) (by omega) hs (.inr hless))
  | false =>
   refine no (MV hC hb f (n+1) (by omega) (by omega) (fun i j hij hj=>?_) fun m m1 m2 m3 m4=>h m (by omega) m2 m3 m4)
   by_cases hjx:j<n
   ·exact hs i j hij hjx
   ·have hj':j=n:=by omega
    subst hj'
    by_cases hi':i=j
    ·subst hi'; exact KeyOrd.kle_refl _
    ·exact KeyOrd.kle_trans (hs i (j - 1) (by omega) (by omega)) hless
theorem G4(hC:ST O key N cmp s){nrem:Nat}{G:Array Nat×Nat×Nat->Shared->Prop}:∀(f:Nat) (p:Array Nat) (n q:Nat),p.Perm p0->Bd N p->nrem<=p.size->1<=n->n+f=nrem->U7 O key p n->q+1<=n ->
  (∀i,n - (q+1)<=i->i<n->KN O key p i=KN O key p (n - 1)) ->
  (∀p' m q',p'.Perm p0->Bd N p'->p'.size=p.size->n<=m->m<=nrem->U7 O key p' m->q'+1<=m->(∀i,m - (q'+1)<=i->i<m->KN O key p' i=KN O key p' (m - 1))->G (p',m,q') s)->(kas_desc f p n q).kasWp cmp G s
 | 0,p,n,q,hp,hb,hz,h1,e,hs,hq,he,h=>h p n q hp hb rfl (Nat.le_refl _) (by omega) hs hq he
 | f+1,p,n,q,hp,hb,hz,h1,e,hs,hq,he,h=>by
  show cmp (p.getD n 0) (p.getD (n - 1) 0) (fun c s'=>(if c=true then (if q > 0 then kas_desc f (kas_rev p (n - (q+1)) n) (n+1) 0 else kas_desc f p (n+1) 0)
   else .ask (p.getD (n - 1) 0) (p.getD n 0) fun d=>if d=true then .ret (p,n,q) else kas_desc f p (n+1) (q+1)).kasWp cmp G s') s
  refine hC _ _ _ (hb.get n) (hb.get _) ?_
  cases hless:O.blt (key (p.getD n 0)) (key (p.getD (n - 1) 0)) with
  | true =>
   have hl:O.klt (KN O key p n) (KN O key p (n - 1)):=hless
   have step1:∀xs:Array Nat,(∀k,KN O key xs k=KN O key p k)->U7 O key xs (n+1):=by
    intro xs hk i j hij hj
    rw [hk,hk]
    by_cases hjx:j<n
    ·exact hs i j hij hjx
    ·have hj':j=n:=by omega
     subst hj'
     by_cases hi':i=j
     ·subst hi'; exact KeyOrd.kle_refl _
     ·exact KeyOrd.kle_trans (KeyOrd.kle_of_klt hl) (hs i (j - 1) (by omega) (by omega))
   refine yes ?_
   have hsz:n<=p.size:=by omega
   by_cases hq0:q > 0
   ·rw [if_pos hq0]
    refine G4 hC f _ (n+1) 0 ((CK _ _ _).trans hp) (hb.perm (CK _ _ _)) (by rw [kas_rev_size]; exact hz) (by omega) (by omega) (step1 _ (Ba hsz he)) (by omega) (fun i a b=>by congr 1; omega) fun p' m q' a1 a2 a3 a4 a5 a6 a7 a8=>h p' m q' a1 a2 (a3.trans (kas_rev_size _ _)) (by omega) a5 a6 a7 a8
   ·rw [if_neg hq0]
    exact G4 hC f _ (n+1) 0 hp hb hz (by omega) (by omega) (step1 _ fun _=>rfl) (by omega) (fun i a b=>by congr 1; omega) fun p' m q' a1 a2 a3 a4 a5 a6 a7 a8=>h p' m q' a1 a2 a3 (by omega) a5 a6 a7 a8
  | false =>
   refine no ?_
   show cmp (p.getD (n - 1) 0) (p.getD n 0) (fun d s'=>(if d=true then KasT.ret (p,n,q) else kas_desc f p (n+1) (q+1)).kasWp cmp G s') s
   refine hC _ _ _ (hb.get _) (hb.get n) ?_
   cases hlarger:O.blt (key (p.getD (n - 1) 0)) (key (p.getD n 0)) with
   | true=>exact yes (h p n q hp hb rfl (Nat.le_refl _) (by omega) hs hq he)
   | false =>
    have heqx:KN O key p n=KN O key p (n - 1):=KeyOrd.kle_antisymm (O:=O) hlarger hless
    refine no (G4 hC f p (n+1) (q+1) hp hb hz (by omega) (by omega) (fun i j hij hj=>?_) (by omega) (fun i a b=>?_) fun p' m q' a1 a2 a3 a4 a5 a6 a7 a8=>h p' m q' a1 a2 a3 (by omega) a5 a6 a7 a8)
    ·by_cases hjx:j<n
     ·exact hs i j hij hjx
     ·have hj':j=n:=by omega
      subst hj'
      by_cases hi':i=j
      ·subst hi'; exact KeyOrd.kle_refl _
      ·rw [heqx]; exact hs i (j - 1) (by omega) (by omega)
    ·rw [show n+1 - 1=n by omega]
     by_cases hix:i=n
     ·subst hix; rfl
     ·rw [heqx]; exact he i (by omega) (by omega)
theorem Ko(hC:ST O key N cmp s){n nrem:Nat}{G:Nat×Array Nat->Shared->Prop}(hp:p.Perm p0)(hb:Bd N p)(hz:nrem<=p.size)(h1:1<=n)(hn:n<=nrem)(hs:U7 O key p n)
  (h:∀m p',p'.Perm p0->Bd N p'->p'.size=p.size->1<=m->m<=nrem->Srt O key p' m->G (m,p') s):(kas_tail3 n nrem p).kasWp cmp G s:=by
 unfold kas_tail3
 rw [KasT.kasWp_bind]
 have hsz:n<=p.size:=by omega
 refine MV hC (hb.perm (CK _ _ _)) (nrem - n) n h1 (by omega) (fun i j hij hj=>?_) fun m m1 m2 m3 _=>h m _ ((CK _ _ _).trans hp) (hb.perm (CK _ _ _)) (kas_rev_size _ _) (by omega) m2 m3
 rw [GO hsz,GO hsz,if_pos (by omega),if_pos (by omega)]
 exact hs _ _ (by omega) (by omega)
theorem Ge(hC:ST O key N cmp s){n nrem:Nat}{G:Nat×Array Nat->Shared->Prop}(hp:p.Perm p0)(hb:Bd N p)(hz:nrem<=p.size)(hn:n+1<=nrem)(hs:U7 O key p (n+1))
  (h:∀m p',p'.Perm p0->Bd N p'->p'.size=p.size->1<=m->m<=nrem->Srt O key p' m->G (m,p') s):(kas_descPart n nrem p).kasWp cmp G s:=by
 unfold kas_descPart
 rw [KasT.kasWp_bind]
 refine G4 (p0:=p0) hC (nrem - (n+1)) p (n+1) 0 hp hb hz (by omega) (by omega) hs (by omega) (fun i a b=>by congr 1; omega) fun p' m q' a1 a2 a3 a4 a5 a6 a7 a8=>?_
 have hsz:m<=p'.size:=by omega
 show (if q' > 0 then kas_tail3 m nrem (kas_rev p' (m - (q'+1)) m) else kas_tail3 m nrem p').kasWp cmp G s
 by_cases hq0:q' > 0
 ·rw [if_pos hq0]
  refine Ko hC ((CK _ _ _).trans a1) (a2.perm (CK _ _ _)) (by rw [kas_rev_size]; omega) (by omega) a5 (fun i j hij hj=>?_) fun m' p'' b1 b2 b3 b4 b5 b6=>h m' p'' b1 b2 (b3.trans ((kas_rev_size _ _).trans a3)) b4 b5 b6
  rw [Ba hsz a8,Ba hsz a8]
  exact a6 i j hij hj
 ·rw [if_neg hq0]
  exact Ko hC a1 a2 (by omega) (by omega) a5 a6 fun m' p'' b1 b2 b3 b4 b5 b6=>h m' p'' b1 b2 (b3.trans a3) b4 b5 b6
theorem QS(hC:ST O key N cmp s){nrem:Nat}{G:Nat×Array Nat->Shared->Prop}(hp:p.Perm p0)(hb:Bd N p)(hz:nrem<=p.size)(h1:1<=nrem)
  (h:∀m p',p'.Perm p0->Bd N p'->p'.size=p.size->1<=m->m<=nrem->Srt O key p' m->G (m,p') s):(kas_count nrem p).kasWp cmp G s:=by
 unfold kas_count
 rw [KasT.kasWp_bind]
 refine MV (nrem:=nrem) hC hb (nrem - 1) 1 (Nat.le_refl _) (by omega) (fun i j hij hj=>by have:i=j:=(by omega); subst this; exact KeyOrd.kle_refl _) fun n hn1 hn2 hsn hor=>?_
 by_cases hnn:n=nrem
 ·rw [if_pos (by simpa using hnn)]
  exact h n p hp hb rfl hn1 hn2 hsn
 ·rw [if_neg (by simpa using hnn)]
  have hlt:O.klt (KN O key p n) (KN O key p (n - 1)):=hor.resolve_left hnn
  by_cases hgt:n > 1
  ·rw [if_pos hgt]
   show cmp (p.getD 0 0) (p.getD (n - 1) 0) (fun c s'=>(if c=true then KasT.ret (n,p) else kas_descPart n nrem (kas_rev p 0 n)).kasWp cmp G s') s
   refine hC _ _ _ (hb.get _) (hb.get _) ?_
   cases hrose:O.blt (key (p.getD 0 0)) (key (p.getD (n - 1) 0)) with
   | true=>exact yes (h n p hp hb rfl hn1 hn2 hsn)
   | false =>
    have hrose':O.kle (KN O key p (n - 1)) (KN O key p 0):=hrose
    have hsz:n<=p.size:=by omega
    have hall:∀k,0<=k->k<n->KN O key p k=KN O key p (n - 1):=by
     intro k _ hk
     have a1:=hsn 0 k (by omega) hk
     have a2:=hsn k (n - 1) (by omega) (by omega)
     exact KeyOrd.kle_antisymm a2 (KeyOrd.kle_trans hrose' a1)
    refine no (Ge hC ((CK _ _ _).trans hp) (hb.perm (CK _ _ _)) (by rw [kas_rev_size]; exact hz) (by omega) (fun i j hij hj=>?_) fun m' p'' b1 b2 b3 b4 b5 b6=>h m' p'' b1 b2 (b3.trans (kas_rev_size _ _)) b4 b5 b6)
    rw [Ba hsz hall,Ba hsz hall]
    by_cases hjn:j<n
    ·rw [hall i (by omega) (by omega),hall j (by omega) hjn]; exact KeyOrd.kle_refl _
    ·have hj':j=n:=by omega
     subst hj'
     by_cases hi':i=j
     ·subst hi'; exact KeyOrd.kle_refl _
     ·rw [hall i (by omega) (by omega)]; exact KeyOrd.kle_of_klt hlt
  ·rw [if_neg hgt]
   have hn1':n=1:=by omega
   subst hn1'
   refine Ge hC hp hb hz (by omega) (fun i j hij hj=>?_) h
   by_cases hi':i=j
   ·subst hi'; exact KeyOrd.kle_refl _
   ·have hi0:i=0:=by omega
    have hj1:j=1:=by omega
    subst hi0; subst hj1
    exact KeyOrd.kle_of_klt hlt
theorem HW(hC:ST O key N cmp s)(hb:Bd N p){k:Nat}(hs:Srt O key p k){G:Nat->Shared->Prop}
  (h:∀l,l<=k->(∀i,i<l->O.kle (KN O key p i) (KN O key p k))->(∀i,l<=i->i<k->O.klt (KN O key p k) (KN O key p i))->G l s):∀(f l r:Nat),l<=r->r<=k->r - l<=f ->
  (∀i,i<l->O.kle (KN O key p i) (KN O key p k))->(∀i,r<=i->i<k->O.klt (KN O key p k) (KN O key p i))->(kas_place p k f l r).kasWp cmp G s
 | 0,l,r,hlr,hrk,hm,hlo,hhi=>by
  have:l=r:=by omega
  subst this
  exact h l hrk hlo hhi
 | f+1,l,r,hlr,hrk,hm,hlo,hhi=>by
  unfold kas_place
  by_cases hge:l≥r
  ·rw [if_pos hge]
   have:l=r:=by omega
   subst this
   exact h l hrk hlo hhi
  ·rw [if_neg hge]
   show cmp (p.getD k 0) (p.getD ((l+r) / 2) 0) (fun c s'=>(if c=true then kas_place p k f l ((l+r) / 2) else kas_place p k f ((l+r) / 2+1) r).kasWp cmp G s') s
   refine hC _ _ _ (hb.get _) (hb.get _) ?_
   cases hless:O.blt (key (p.getD k 0)) (key (p.getD ((l+r) / 2) 0)) with
   | true =>
    have hl:O.klt (KN O key p k) (KN O key p ((l+r) / 2)):=hless
    exact yes (HW hC hb hs h f l ((l+r) / 2) (by omega) (by omega) (by omega) hlo fun i h1 h2=>KeyOrd.klt_of_klt_of_kle hl (hs _ _ h1 h2))
   | false =>
    have hl:O.kle (KN O key p ((l+r) / 2)) (KN O key p k):=hless
    exact no (HW hC hb hs h f ((l+r) / 2+1) r (by omega) (by omega) (by omega) (fun i h1=>KeyOrd.kle_trans (hs i ((l+r) / 2) (by omega) (by omega)) hl) hhi)
theorem EQ(hC:ST O key N cmp s){n:Nat}{G:Array Nat->Shared->Prop}(h:∀p',p'.Perm p0->Srt O key p' n->G p' s):∀(f:Nat) (p:Array Nat) (k:Nat),p.Perm p0->Bd N p->n<=p.size->k+f=n->Srt O key p k->(kas_bin f p k).kasWp cmp G s
 | 0,p,k,hp,hb,hz,e,hs=>h p hp (by rw [← e]; exact hs)
 | f+1,p,k,hp,hb,hz,e,hs=>by
  rw [show kas_bin (f+1) p k=(kas_place p k k 0 k).bind fun l=>kas_bin f (bubble p k (k - l)) (k+1) from rfl,KasT.kasWp_bind]
  refine HW hC hb hs (fun l hlk hlo hhi=>?_) k 0 k (Nat.zero_le _) (Nat.le_refl _) (by omega) (fun i hi=>by omega) fun i a b=>by omega
  have hks:k<p.size:=by omega
  refine EQ hC h f _ (k+1) ((bubble_perm _ _ _).trans hp) (hb.perm (bubble_perm _ _ _)) (by rw [bubble_size]; exact hz) (by omega) fun i j hij hj=>?_
  rw [JW hks (by omega),JW hks (by omega),show k - (k - l)=l by omega]
  by_cases hi1:i=l
  ·rw [if_pos hi1]
   by_cases hj1:j=l
   ·rw [if_pos hj1]; exact KeyOrd.kle_refl _
   ·rw [if_neg hj1,if_pos (by omega)]
    exact KeyOrd.kle_of_klt (hhi (j - 1) (by omega) (by omega))
  ·rw [if_neg hi1]
   by_cases hi2:l<i/\i<=k
   ·rw [if_pos hi2,if_neg (by omega),if_pos (by omega)]
    exact hs (i - 1) (j - 1) (by omega) (by omega)
   ·rw [if_neg hi2]
    by_cases hj1:j=l
    ·rw [if_pos hj1]; exact hlo i (by omega)
    ·rw [if_neg hj1]
     by_cases hj2:l<j/\j<=k
     ·rw [if_pos hj2]
      exact hs i (j - 1) (by omega) (by omega)
     ·rw [if_neg hj2]
      exact hs i j hij (by omega)
theorem sort_ok{n:Nat}(h1:1<=n)(hC:ST O key n cmp s){G:Array Nat->Shared->Prop}(h:∀p,p.Perm (List.toArray (List.range n))->Srt O key p n->G p s):(kas_sort n).kasWp cmp G s:=by
 unfold kas_sort
 rw [KasT.kasWp_bind]
 have hb:Bd n (List.toArray (List.range n)):=⟨h1,fun x hx=>by simpa using hx⟩
 have hsz:(List.toArray (List.range n)).size=n:=by simp
 refine QS hC (Array.Perm.refl _) hb (by omega) h1 fun m p' a1 a2 a3 a4 a5 a6=>?_
 show (if m<n then kas_bin (n - max m 1) p' (max m 1) else KasT.ret p').kasWp cmp G s
 by_cases hlt:m<n
 ·rw [if_pos hlt,show max m 1=m by omega]
  exact EQ (p0:=List.toArray (List.range n)) hC h (n - m) p' m a1 a2 (by omega) (by omega) a6
 ·rw [if_neg hlt]
  exact h p' a1 (by rw [show n=m by omega]; exact a6)
end
end So
namespace L2
open PySem PySem.Spec PyProof.Rows PySem.W
noncomputable def TD:Key->Key->Bool
 | .inl i,.inl j=>decide (i<j)
 | .inr x,.inr y=>decide (x.cps.toList<y.cps.toList)
 | .inl _,.inr _=>true
 | .inr _,.inl _=>false
noncomputable def Bh:List Key->List Key->Bool
 | [],[]=>false
 | [],_::_=>true
 | _::_,[]=>false
 | x::xs,y::ys=>if x=y then Bh xs ys else TD x y
theorem MK:∀x:Key,TD x x=false
 | .inl i=>decide_eq_false (Int.lt_irrefl i)
 | .inr x=>decide_eq_false (List.lt_irrefl _)
theorem OE:∀x y z:Key,TD x y=true->TD y z=true->TD x z=true
 | .inl i,.inl j,.inl k,h1,h2=>decide_eq_true (Int.lt_trans (of_decide_eq_true h1) (of_decide_eq_true h2))
 | .inr i,.inr j,.inr k,h1,h2=>decide_eq_true (List.lt_trans (of_decide_eq_true h1) (of_decide_eq_true h2))
 | .inl i,.inl j,.inr k,_,_=>rfl
 | .inl i,.inr j,.inr k,_,_=>rfl
 | .inl i,.inr j,.inl k,_,h=>by cases h
 | .inr i,.inl j,_,h,_=>by cases h
 | .inr i,.inr j,.inl k,_,h=>by cases h
theorem OF:∀x y:Key,TD x y=false->TD y x=false->x=y
 | .inl i,.inl j,h1,h2=>congrArg Sum.inl (by have a:=of_decide_eq_false h1; have b:=of_decide_eq_false h2; omega)
 | .inr x,.inr y,h1,h2=>by
  have a:=of_decide_eq_false h1
  have b:=of_decide_eq_false h2
  have e:x.cps.toList=y.cps.toList:=List.le_antisymm (as:=x.cps.toList) (bs:=y.cps.toList) b a
  obtain⟨u⟩:=x
  obtain⟨v⟩:=y
  exact congrArg Sum.inr (congrArg Str.mk (Array.ext' e))
 | .inl i,.inr j,h,_=>by cases h
 | .inr i,.inl j,_,h=>by cases h
theorem Cc:∀x:List Key,Bh x x=false
 | []=>rfl
 | x::xs=>by unfold Bh; rw [if_pos rfl]; exact Cc xs
theorem C4:∀x y z:List Key,Bh x y=true->Bh y z=true->Bh x z=true
 | [],[],_,h,_=>by cases h
 | [],_::_,[],_,h=>by cases h
 | [],_::_,_::_,_,_=>rfl
 | _::_,[],_,h,_=>by cases h
 | _::_,_::_,[],_,h=>by cases h
 | x::xs,y::ys,z::zs,h1,h2=>by
  unfold Bh at h1 h2 ⊢
  by_cases e1:x=y
  ·subst e1
   rw [if_pos rfl] at h1
   by_cases e2:x=z
   ·subst e2
    rw [if_pos rfl] at h2 ⊢
    exact C4 xs ys zs h1 h2
   ·rw [if_neg e2] at h2 ⊢
    exact h2
  ·rw [if_neg e1] at h1
   by_cases e2:y=z
   ·subst e2
    rw [if_neg e1]
    exact h1
   ·rw [if_neg e2] at h2
    have h3:=OE x y z h1 h2
    by_cases e3:x=z
    ·subst e3
     rw [MK] at h3
     cases h3
    ·rw [if_neg e3]
     exact h3
theorem CY:∀x y:List Key,Bh x y=false->Bh y x=false->x=y
 | [],[],_,_=>rfl
 | [],_::_,h,_=>by cases h
 | _::_,[],_,h=>by cases h
 | x::xs,y::ys,h1,h2=>by
  unfold Bh at h1 h2
  by_cases e:x=y
  ·subst e
   rw [if_pos rfl] at h1 h2
   rw [CY xs ys h1 h2]
  ·rw [if_neg e] at h1
   rw [if_neg (fun z=>e z.symm)] at h2
   exact absurd (OF x y h1 h2) e
noncomputable def Nq:KeyOrd:=⟨List Key,Bh,Cc,C4,fun a b c h=>by
 cases h1:Bh a b with
 | true=>exact .inl rfl
 | false =>
  cases h2:Bh b a with
  | true=>exact .inr (C4 b a c h2 h)
  | false=>rw [← CY a b h1 h2]; exact .inr h,CY⟩
theorem J4:∀x y:List Key,CJ x y=true->E8 x y=Bh x y
 | [],[],_=>rfl
 | [],_::_,_=>rfl
 | _::_,[],_=>rfl
 | x::xs,y::ys,h=>by
  have h':(Iy x y&&CJ xs ys)=true:=h
  rw [Bool.and_eq_true] at h'
  unfold E8 Bh
  by_cases e:x=y
  ·rw [if_pos e,if_pos e]; exact J4 xs ys h'.2
  ·rw [if_neg e,if_neg e]
   cases x with
   | inl i=>cases y with
    | inl j=>rfl
    | inr z=>cases h'.1
   | inr i=>cases y with
    | inl j=>cases h'.1
    | inr z=>rfl
section
variable {prog:Program}{w:World}{A:Around}{E:Value->Shared->Prop}{s:Shared}
theorem Pq{b:Bool}{Q:Bool->Shared->Prop}{nx ny:Nat}:∀(ns ms:List Key) (us ws:List Value) (i:Nat),Vals (ns.map kOf) us->Vals (ms.map kOf) ws->CJ ns ms=true->ns.length+ny=ms.length+nx->Q (E8 ns ms) s ->
  KatLex prog w A b (decide (nx<ny)) Q (us.zip ws) i s
 | [],[],us,ws,i,h1,h2,_,hl,q=>by
  cases h1
  cases h2
  refine kat_nil ?_
  rw [show decide (nx<ny)=false from decide_eq_false (by simp only [List.length_nil] at hl; omega)]
  exact q
 | [],m::ms,us,ws,i,h1,h2,_,hl,q=>by
  cases h1
  rw [List.zip_nil_left]
  refine kat_nil ?_
  rw [show decide (nx<ny)=true from decide_eq_true (by simp only [List.length_nil,List.length_cons] at hl; omega)]
  exact q
 | n::ns,[],us,ws,i,h1,h2,_,hl,q=>by
  cases h2
  rw [List.zip_nil_right]
  refine kat_nil ?_
  rw [show decide (nx<ny)=false from decide_eq_false (by simp only [List.length_nil,List.length_cons] at hl; omega)]
  exact q
 | n::ns,m::ms,us,ws,i,h1,h2,hs,hl,q=>by
  have hs':(Iy n m&&CJ ns ms)=true:=hs
  rw [Bool.and_eq_true] at hs'
  have q':Q (if n=m then E8 ns ms else VF n m) s:=q
  cases h1 with
  | @cons _ u _ ur r1 t1 =>
   cases h2 with
   | @cons _ v _ vr r2 t2 =>
    rw [List.zip_cons_cons]
    have ih:n=m->KatLex prog w A b (decide (nx<ny)) Q (ur.zip vr) (i+1) s:=fun e=>Pq ns ms ur vr (i+1) t1 t2 hs'.2 (by simp only [List.length_cons] at hl; omega) (by rw [if_pos e] at q'; exact q')
    cases n with
    | inl x =>
     cases m with
     | inr y=>cases hs'.1
     | inl y =>
      obtain⟨tu,rfl⟩:=r1
      obtain⟨tv,rfl⟩:=r2
      refine kat_cons (wpAny_eqBool_int ?_)
      by_cases e:x=y
      ·rw [show (x==y)=true by simpa using e]
       exact kat_yes (ih (by rw [e]))
      ·rw [show (x==y)=false by simpa using e]
       refine kat_no ?_
       rw [if_neg (fun z=>e (Sum.inl.inj z))] at q'
       cases hf:(b&&i==0) with
       | true=>exact oneLt_int q'
       | false=>exact kat_one _ _ (PyProof.Rows.lt_int (show PySem.W.BoolBack Q (.bool (decide (x<y))) s from q'))
    | inr x =>
     cases m with
     | inl y=>cases hs'.1
     | inr y =>
      obtain⟨tu,rfl⟩:=r1
      obtain⟨tv,rfl⟩:=r2
      refine kat_cons (wpAny_eqBool_str ?_)
      by_cases e:x=y
      ·rw [show decide (x=y)=true by simpa using e]
       exact kat_yes (ih (by rw [e]))
      ·rw [show decide (x=y)=false by simpa using e]
       refine kat_no ?_
       rw [if_neg (fun z=>e (Sum.inr.inj z))] at q'
       cases hf:(b&&i==0) with
       | true=>exact oneLt_str q'
       | false=>exact kat_one _ _ (PySem.P.lt_str (show PySem.W.BoolBack Q (.bool (decide (x.cps.toList<y.cps.toList))) s from q'))
structure NZ (h:Heap) (ks:List Value) (keys:List (List Key)):Prop where
 at_:∀(i:Nat) (ns:List Key),keys[i]?=some ns->∃a o its n,ks[i]?=some (.ref a)/\h.get? a=some o/\o.cls=.type "tuple"/\o.data=.seq its n/\Vals (ns.map kOf) its.toList
 len:ks.length=keys.length
 same:∀x∈keys,∀y∈keys,CJ x y=true
 ne:∀x∈keys,x≠[]
noncomputable def VA:Key->String
 | .inl _ => "int"
 | .inr _ => "str"
theorem firsts{h:Heap}:∀(ks:List Value) (keys:List (List Key)) (T:String),ks.length=keys.length->(∀(i:Nat) (ns:List Key),keys[i]?=some ns->∃a o its n,ks[i]?=some (.ref a)/\h.get? a=some o/\o.cls=.type "tuple"/\o.data=.seq its n/\Vals (ns.map kOf) its.toList) ->
  (∀x∈keys,∃k r,x=k::r/\VA k=T)->∃fs:List Value,KatTups h ks fs/\fs.length=keys.length/\∀v∈fs,typeOf v=pure (.type T)
 | [],[],T,_,_,_=>⟨[],trivial,rfl,fun v hv=>by cases hv⟩
 | [],_::_,T,hl,_,_=>by cases hl
 | _::_,[],T,hl,_,_=>by cases hl
 | k::ks,x::keys,T,hl,h1,h2=>by
  obtain⟨fs,g1,g2,g3⟩:=firsts ks keys T (by simpa using hl) (fun i ns e=>by
   obtain⟨a,o,its,n,e1,r⟩:=h1 (i+1) ns (by simpa using e)
   exact⟨a,o,its,n,by simpa using e1,r⟩) fun y hy=>h2 y (List.mem_cons_of_mem _ hy)
  obtain⟨a,o,its,n,e1,e2,e3,e4,e5⟩:=h1 0 x rfl
  have e1:k=.ref a:=by simpa using e1
  subst e1
  obtain⟨k,r,rfl,hk⟩:=h2 x List.mem_cons_self
  rw [List.map_cons] at e5
  cases hits:its.toList with
  | nil=>rw [hits] at e5; cases e5
  | cons f tl =>
   rw [hits] at e5
   cases e5 with
   | cons r1 r2 =>
    refine⟨f::fs,KatTups.cons e2 e3 e4 (by rw [← Array.getElem?_toList,hits]; rfl) g1,by rw [List.length_cons,List.length_cons,g2],fun v hv=>?_⟩
    rcases List.mem_cons.mp hv with rfl | hv
    ·cases k with
     | inl i=>obtain⟨t,rfl⟩:=r1; subst hk; rfl
     | inr i=>obtain⟨t,rfl⟩:=r1; subst hk; rfl
    ·exact g3 v hv
theorem Iu{ks:List Value}{keys:List (List Key)}(K:NZ s.heap ks keys)(h2:2<=ks.length){G:Array Nat->Shared->Prop}(h:∀p,p.Perm (List.toArray (List.range ks.length))->So.Srt Nq (fun i=>keys.getD i []) p ks.length->G p s) :
  wpAny (model prog w) A (keyKind' ks.toArray) (fun κ s'=>(kas_sort ks.length).kasWp (kas_ask prog w A κ ks) G s') (fun _ _=>False) s:=by
 obtain⟨x0,xr,hx⟩:∃x0 xr,keys=x0::xr:=by
  cases e:keys with
  | nil=>have:=K.len; rw [e] at this; simp only [List.length_nil] at this; omega
  | cons x r=>exact⟨x,r,rfl⟩
 have m0:x0∈keys:=by rw [hx]; exact List.mem_cons_self
 obtain⟨k0,r0,e0⟩:∃k r,x0=k::r:=by
  cases e:x0 with
  | nil=>exact absurd e (K.ne x0 m0)
  | cons k r=>exact⟨k,r,rfl⟩
 have hty:∀x∈keys,∃k r,x=k::r/\VA k=VA k0:=fun x hm=>by
  cases e:x with
  | nil=>exact absurd e (K.ne x hm)
  | cons k r =>
   refine⟨k,r,rfl,?_⟩
   have hsm:=K.same x hm x0 m0
   rw [e,e0] at hsm
   have hsm:(Iy k k0&&CJ r r0)=true:=hsm
   rw [Bool.and_eq_true] at hsm
   cases k with
   | inl i=>cases k0 with
    | inl j=>rfl
    | inr j=>cases hsm.1
   | inr i=>cases k0 with
    | inl j=>cases hsm.1
    | inr j=>rfl
 obtain⟨fs,g1,g2,g3⟩:=firsts ks keys (VA k0) K.len K.at_ hty
 refine kat_kind g1 (by rw [g2,← K.len]; omega) (fun v hv=>by rw [g3 v hv]; exact Looks.now) (by simp) ?_
 refine So.sort_ok (O:=Nq) (key:=fun i=>keys.getD i []) (by omega) (fun i j C hi hj hC=>?_) h
 have hi':i<keys.length:=by rw [← K.len]; exact hi
 have hj':j<keys.length:=by rw [← K.len]; exact hj
 obtain⟨a,o,its,n,e1,e2,e3,e4,e5⟩:=K.at_ i keys[i] (List.getElem?_eq_getElem hi')
 obtain⟨a',o',its',n',e1',e2',e3',e4',e5'⟩:=K.at_ j keys[j] (List.getElem?_eq_getElem hj')
 unfold kas_ask
 rw [show ks.getD i Value.none=.ref a by rw [List.getD_eq_getElem?_getD,e1]; rfl,show ks.getD j Value.none=.ref a' by rw [List.getD_eq_getElem?_getD,e1']; rfl]
 have hsm:=K.same _ (List.getElem_mem hi') _ (List.getElem_mem hj')
 refine kat_lt e2 e4 e2' e4' (Pq keys[i] keys[j] _ _ 0 e5 e5' hsm ?_ ?_)
 ·have l1:=e5.length
  have l2:=e5'.length
  have l3:(keys[i].map kOf).length=keys[i].length:=List.length_map ..
  have l4:(keys[j].map kOf).length=keys[j].length:=List.length_map ..
  have l5:its.toList.length=its.size:=Array.length_toList
  have l6:its'.toList.length=its'.size:=Array.length_toList
  omega
 ·rw [J4 _ _ hsm]
  have g1:keys.getD i []=keys[i]:=by rw [List.getD_eq_getElem?_getD,List.getElem?_eq_getElem hi']; rfl
  have g2:keys.getD j []=keys[j]:=by rw [List.getD_eq_getElem?_getD,List.getElem?_eq_getElem hj']; rfl
  have hC':C (Bh (keys.getD i []) (keys.getD j [])) s:=hC
  rw [g1,g2] at hC'
  exact hC'
theorem FJ{v:Value}{kw:List (Str×Value)}{Q:Value->Shared->Prop}(ha1:argsOk "sorted" ⟨[v],kw⟩)(ha2:∀x,argsOk "list.sort" ⟨[.ref x],kw⟩)
  (hc:wpAny (model prog w) A.in1 (collect v) (fun vs s1=>vs.length<=sizeLine/\wpAny (model prog w) A.in1.in1 (Builtin.«list.sort» ⟨[.ref s1.heap.objs.size],kw⟩) (fun fin s'=>fin=.done (.ret .none)/\Q (.ref s1.heap.objs.size) s') E { s1 with heap:=s1.heap.push (seqObj "list" vs.toArray 0) }) E s) :
  wpAny (model prog w) A (call (.builtin "sorted") [v] kw) Q E s:=by
 refine call_function_entry_kw kind_sorted plain_sorted entry_sorted ha1 ?_
 unfold Builtin.«sorted»
 refine wpAny_bind (m:=checkCount "sorted" 1 1 _) (wpAny_pure ?_)
 refine wpAny_bind (wpAny_mono hc (fun vs s1 h=>?_) fun _ _ x=>x)
 refine wpAny_bind (wpAny_newList ?_ h.1)
 have hoL:(s1.heap.push (seqObj "list" vs.toArray 0)).get? s1.heap.objs.size=some (seqObj "list" vs.toArray 0):=Heap.get?_push_size _ rfl
 refine wpAny_bind (wpAny_holding (wpAny_call_entry_kw PyProof.Rows.slot_list_sort ⟨_,hoL,rfl⟩ PyProof.Rows.entry_list_sort (wpAny_mono h.2 (fun fin s' hf=>?_) fun _ _ x=>x) (ha2 _)))
 exact⟨_,hf.1,wpAny_pure ⟨_,rfl,hf.2⟩⟩
noncomputable def DH(h:Heap)(D:Addr)(vs:List Value):Heap:=((h.update D (Obj.mapSeq fun _=>(#[]:Array Value))).push (seqObj "tuple" vs.toArray 0)).push (seqObj "list" #[] 0)
theorem Ft{h:Heap}{D:Addr}{vs:List Value}{b:Addr}{o:Obj}(hb:b≠D)(e:h.get? b=some o):(DH h D vs).get? b=some o :=
 Heap.get?_push_of_some _ (Heap.get?_push_of_some _ ((Heap.get?_update_other _ _ (Ne.symm hb)).trans e))
theorem HJ{h:Heap}{D:Addr}{vs:List Value}{n:Nat}(ho:h.get? D=some (seqObj "list" vs.toArray n)):∃e1,(DH h D vs).get? D=some (seqObj "list" #[] e1)/\(h.update D (Obj.mapSeq fun _=>(#[]:Array Value))).get? D=some (seqObj "list" #[] e1):=by
 obtain⟨e1,ho1⟩:∃e1,(h.update D (Obj.mapSeq fun _=>(#[]:Array Value))).get? D=some (seqObj "list" #[] e1):=⟨_,get?_update_seq ho fun _=>#[]⟩
 exact⟨e1,Heap.get?_push_of_some _ (Heap.get?_push_of_some _ ho1),ho1⟩
theorem LF{D:Addr}{vs:List Value}{n:Nat}{P:PySem.Fin->Shared->Prop}{G:Array Nat->Prop}(ho:s.heap.get? D=some (seqObj "list" vs.toArray n))(h64:vs.length<64)
  (hk:2<=vs.length->wpAny (model prog w) A (keyKind' vs.toArray) (fun κ s'=>(kas_sort vs.length).kasWp (kas_ask prog w A κ vs) (fun p s''=>s''={ s with heap:=DH s.heap D vs }/\G p) s') (fun _ _=>False) { s with heap:=DH s.heap D vs })
  (h1:vs.length<2->G (List.toArray (List.range vs.length))) (hfin:∀(p:Array Nat) (h':Heap) (c:Nat),p.size=vs.length->G p->(∀b o,b≠D->s.heap.get? b=some o->h'.get? b=some o)->h'.get? D=some (seqObj "list" (List.toArray (p.toList.map fun i=>vs.getD i Value.none)) c)->P (.done (.ret .none)) { s with heap:=h' }) :
  wpAny (model prog w) A (Builtin.«list.sort» ⟨[.ref D],[]⟩) P E s:=by
 obtain⟨e1,ho6,ho1⟩:=HJ ho
 have fin:∀(p:Array Nat),p.size=vs.length->G p->P (.done (.ret .none)) { s with heap:=(DH s.heap D vs).update D (Obj.mapSeq fun _=>List.toArray (p.toList.map fun i=>vs.getD i Value.none)) }:=fun p hp hg=>by
  obtain⟨c2,hc2⟩:∃c2,((DH s.heap D vs).update D (Obj.mapSeq fun _=>List.toArray (p.toList.map fun i=>vs.getD i Value.none))).get? D=some (seqObj "list" (List.toArray (p.toList.map fun i=>vs.getD i Value.none)) c2):=⟨_,get?_update_seq ho6 fun _=>List.toArray (p.toList.map fun i=>vs.getD i Value.none)⟩
  exact hfin p _ c2 hp hg (fun b o hb e=>(Heap.get?_update_other _ _ (Ne.symm hb)).trans (Ft hb e)) hc2
 rw [list_sort_plain]
 refine wpAny_bind (listItems_at ho rfl ?_)
 refine wpAny_bind (listUpdate_at ho rfl ?_ (by rw [List.size_toArray,sizeLine_eq]; omega) (Nat.zero_le _))
 refine wpAny_bind (seqEpoch_at ho1 rfl ?_)
 refine wpAny_bind (wpAny_newTuple ?_ (by show vs.length<=_; rw [sizeLine_eq]; omega))
 refine wpAny_bind (wpAny_newList ?_ (Nat.zero_le _))
 refine wpAny_holding ?_
 show wpAny (model prog w) A _ P E { s with heap:=DH s.heap D vs }
 dsimp only
 by_cases h2:vs.length<2
 ·have h2':vs.toArray.size<2:=by rw [List.size_toArray]; exact h2
  rw [if_pos h2',if_pos h2']
  refine wpAny_bind (wpAny_pure ?_)
  rw [StateT.run_pure]
  refine wpAny_bind (wpAny_pure ?_)
  dsimp only
  refine wpAny_bind (seqEpoch_at ho6 rfl ?_)
  have hsz:(List.toArray (List.range vs.length)).size=vs.length:=by simp
  have hout:(arrOf (SortSt.mk' general' (vs.toArray.zip vs.toArray) #[] 7 none)).map (·.2)=List.toArray ((List.toArray (List.range vs.length)).toList.map fun i=>vs.getD i Value.none):=by
   refine kat_snds rfl ?_
   have e:=kas_range (vs.toArray.zip vs.toArray)
   rw [show (vs.toArray.zip vs.toArray).size=vs.length by simp] at e
   exact e.symm
  rw [hout]
  refine wpAny_bind (listUpdate_at ho6 rfl ?_ (Nat.zero_le _) (by rw [List.size_toArray,List.length_map,Array.length_toList,hsz,sizeLine_eq]; omega))
  simp only [bne_self_eq_false,Bool.false_eq_true,if_false]
  exact wpAny_pure (fin _ hsz (h1 h2))
 ·have h2':¬vs.toArray.size<2:=by rw [List.size_toArray]; exact h2
  rw [if_neg h2',if_neg h2']
  refine wpAny_bind (wpAny_mono (hk (by omega)) (fun κ s0 hk=>?_) fun _ _ x=>x.elim)
  refine wpAny_bind (wpAny_mono (kat_run (Q:=fun st' s'=>∃p:Array Nat,p.size=vs.length/\arrOf st'=p.map (kas_item (vs.toArray.zip vs.toArray))/\failedOf st'=none/\s'={ s with heap:=DH s.heap D vs }/\G p)
   rfl (by omega) h64 (fun p' st' s' a1 a2 a3 a4=>⟨p',a1,a2,a3,a4⟩) hk) ?_ fun _ _ e=>e)
  rintro ⟨⟨⟩,st'⟩ s' ⟨p,hp,har,hf,rfl,hg⟩
  dsimp only
  have hout:=kat_snds rfl har
  have hsz:(List.toArray (p.toList.map fun i=>vs.getD i Value.none)).size=vs.length:=by rw [List.size_toArray,List.length_map,Array.length_toList,hp]
  rw [hout]
  refine wpAny_bind (seqEpoch_at ho6 rfl ?_)
  refine wpAny_bind (listUpdate_at ho6 rfl ?_ (Nat.zero_le _) (Nat.le_trans (Nat.le_of_eq hsz) (by rw [sizeLine_eq]; omega)))
  rw [hf]
  simp only [bne_self_eq_false,Bool.false_eq_true,if_false]
  exact wpAny_pure (fin p hp hg)
theorem OG{D:Addr}{f:Value}{vs:List Value}{n:Nat}{P:PySem.Fin->Shared->Prop}(ho:s.heap.get? D=some (seqObj "list" vs.toArray n))(h64:vs.length<64)(J:List Value->Shared->Prop)(kS:Addr)(hkS:kS=s.heap.objs.size+1)
  (h0:∀e1,(DH s.heap D vs).get? D=some (seqObj "list" #[] e1)->J [] { s with heap:=DH s.heap D vs })
  (hstep:∀(ks:List Value) (s':Shared) (e:Nat) (v:Value),J ks s'->s'.heap.get? kS=some (seqObj "list" ks.toArray e)->vs[ks.length]?=some v->wpAny (model prog w) A (call f [v]) (fun k s''=>s''.heap.get? kS=some (seqObj "list" ks.toArray e)/\J (ks++[k]) { s'' with heap:=s''.heap.update kS (Obj.mapSeq (·.push k)) }) (fun _ _=>False) s')
  (hend:∀(e1:Nat),(DH s.heap D vs).get? D=some (seqObj "list" #[] e1)->∀(ks:List Value) (s':Shared),J ks s'->ks.length=vs.length->s'.heap.get? D=some (seqObj "list" #[] e1)/\∃G:Array Nat->Prop,
   (2<=vs.length->wpAny (model prog w) A (keyKind' ks.toArray) (fun κ s2=>(kas_sort vs.length).kasWp (kas_ask prog w A κ ks) (fun p s''=>s''=s'/\G p) s2) (fun _ _=>False) s')/\(vs.length<2->G (List.toArray (List.range vs.length))) /\
   ∀(p:Array Nat) (h':Heap) (c:Nat),p.size=vs.length->G p->(∀b o,b≠D->b≠kS->s'.heap.get? b=some o->h'.get? b=some o)->h'.get? D=some (seqObj "list" (List.toArray (p.toList.map fun i=>vs.getD i Value.none)) c)->(∃o,h'.get? kS=some o)->P (.done (.ret .none)) { s' with heap:=h' }) :
  wpAny (model prog w) A (ksk_tree D f false) P E s:=by
 obtain⟨e1,ho6,ho1⟩:=HJ ho
 have hsz1:((s.heap.update D (Obj.mapSeq fun _=>(#[]:Array Value))).push (seqObj "tuple" vs.toArray 0)).objs.size=kS:=by rw [size_push',Heap.size_update,hkS]
 have hD:D<s.heap.objs.size:=Heap.lt_size ho
 have hDk:D≠kS:=by rw [hkS]; exact Nat.ne_of_lt (Nat.lt_succ_of_lt hD)
 have hk0:(DH s.heap D vs).get? kS=some (seqObj "list" #[] 0):=by rw [← hsz1]; exact Heap.get?_push_size _ rfl
 unfold ksk_tree
 refine wpAny_bind (listItems_at ho rfl ?_)
 refine wpAny_bind (listUpdate_at ho rfl ?_ (by rw [List.size_toArray,sizeLine_eq]; omega) (Nat.zero_le _))
 refine wpAny_bind (seqEpoch_at ho1 rfl ?_)
 refine wpAny_bind (wpAny_newTuple ?_ (by show vs.length<=_; rw [sizeLine_eq]; omega))
 refine wpAny_bind (wpAny_newList ?_ (Nat.zero_le _))
 refine wpAny_holding ?_
 show wpAny (model prog w) A (ksk_rest D f false vs.toArray e1 (.ref ((s.heap.update D (Obj.mapSeq fun _=>(#[]:Array Value))).push (seqObj "tuple" vs.toArray 0)).objs.size)) P E { s with heap:=DH s.heap D vs }
 rw [hsz1]
 unfold ksk_rest
 refine wpAny_bind (wpAny_rule ?_)
 first
  | rw [List.forIn_toArray]
  | (rw [← Array.forIn_toList]; simp only [List.toList_toArray])
  | rw [← Array.forIn_toList]
 refine wpAny_bind (ksk_fold (I:=fun i s'=>∃ks e,List.length ks=i/\J ks s'/\s'.heap.get? kS=some (seqObj "list" ks.toArray e)) vs 0 _ ⟨[],0,rfl,h0 e1 ho6,hk0⟩ (fun j x s' hx hI=>?_) fun s' hI=>?_)
 ·obtain⟨ks,e,hl,hJ,hk⟩:=hI
  have hj:j<vs.length:=(List.getElem?_eq_some_iff.mp hx).1
  have hl:ks.length=j:=by omega
  refine wpAny_bind (wpAny_attempt (wpAny_mono (hstep ks s' e x hJ hk (by rw [hl]; exact hx)) (fun k s'' hk2=>?_) fun _ _ hF=>hF.elim))
  have ea:(List.toArray ks).push k=List.toArray (ks++[k]):=by simp
  obtain⟨c2,hc2⟩:∃c2,(s''.heap.update kS (Obj.mapSeq (·.push k))).get? kS=some (seqObj "list" (List.toArray (ks++[k])) c2):=⟨_,by rw [← ea]; exact get?_update_seq hk2.1 (·.push k)⟩
  try dsimp only
  refine wpAny_bind (listUpdate_at hk2.1 rfl ?_ (by rw [List.size_toArray,sizeLine_eq]; omega) (Nat.le_trans (Nat.le_of_eq (Array.size_push ..)) (by rw [List.size_toArray,sizeLine_eq]; omega)))
  exact wpAny_pure ⟨rfl,ks++[k],c2,by rw [List.length_append,List.length_singleton]; omega,hk2.2,hc2⟩
 ·obtain⟨ks,e,hl,hJ,hk⟩:=hI
  have hl:ks.length=vs.length:=by omega
  obtain⟨hD',G,g2,g1,g3⟩:=hend e1 ho6 ks s' hJ hl
  try dsimp only
  refine wpAny_bind (listItems_at hk rfl ?_)
  have tail:∀(st:SortSt) (p:Array Nat),p.size=vs.length->G p->(arrOf st).map (·.2)=List.toArray (p.toList.map fun i=>vs.getD i Value.none)->failedOf st=none->wpAny (model prog w) A (ksk_tail D false e1 (.ref kS) st) P E s':=fun st p hp hg hout hf=>by
   have hsz:(List.toArray (p.toList.map fun i=>vs.getD i Value.none)).size=vs.length:=by rw [List.size_toArray,List.length_map,Array.length_toList,hp]
   obtain⟨ck,hck⟩:∃ck,(s'.heap.update kS (Obj.mapSeq fun _=>(#[]:Array Value))).get? kS=some (seqObj "list" #[] ck):=⟨_,get?_update_seq hk fun _=>#[]⟩
   have hD2:(s'.heap.update kS (Obj.mapSeq fun _=>(#[]:Array Value))).get? D=some (seqObj "list" #[] e1):=(Heap.get?_update_other _ _ (Ne.symm hDk)).trans hD'
   obtain⟨c2,hc2⟩:∃c2,((s'.heap.update kS (Obj.mapSeq fun _=>(#[]:Array Value))).update D (Obj.mapSeq fun _=>List.toArray (p.toList.map fun i=>vs.getD i Value.none))).get? D=some (seqObj "list" (List.toArray (p.toList.map fun i=>vs.getD i Value.none)) c2):=⟨_,get?_update_seq hD2 fun _=>List.toArray (p.toList.map fun i=>vs.getD i Value.none)⟩
   unfold ksk_tail
   try dsimp only
   rw [hout]
   refine wpAny_bind (listUpdate_at hk rfl ?_ (by rw [List.size_toArray,sizeLine_eq]; omega) (Nat.zero_le _))
   refine wpAny_bind (wpAny_letGo ?_)
   refine wpAny_bind (seqEpoch_at hD2 rfl ?_)
   refine wpAny_bind (listUpdate_at hD2 rfl ?_ (Nat.zero_le _) (Nat.le_trans (Nat.le_of_eq hsz) (by rw [sizeLine_eq]; omega)))
   rw [hf]
   simp only [bne_self_eq_false,Bool.false_eq_true,if_false]
   refine wpAny_pure (g3 p _ c2 hp hg (fun b o hb1 hb2 e=>(Heap.get?_update_other _ _ (Ne.symm hb1)).trans ((Heap.get?_update_other _ _ (Ne.symm hb2)).trans e)) hc2 ⟨_,(Heap.get?_update_other _ _ hDk).trans hck⟩)
  unfold ksk_end
  try dsimp only
  simp only [Bool.false_eq_true,if_false]
  by_cases h2:vs.length<2
  ·have h2':vs.toArray.size<2:=by rw [List.size_toArray]; exact h2
   rw [if_pos h2',if_pos h2']
   refine wpAny_bind (wpAny_pure ?_)
   rw [StateT.run_pure]
   refine wpAny_bind (wpAny_pure ?_)
   try dsimp only
   refine tail _ (List.toArray (List.range vs.length)) (by simp) (g1 h2) (kat_snds hl ?_) rfl
   have er:=kas_range (ks.toArray.zip vs.toArray)
   rw [show (ks.toArray.zip vs.toArray).size=vs.length by simp [hl]] at er
   exact er.symm
  ·have h2':¬vs.toArray.size<2:=by rw [List.size_toArray]; exact h2
   rw [if_neg h2',if_neg h2']
   refine wpAny_bind (wpAny_mono (g2 (by omega)) (fun κ s0 hk=>?_) fun _ _ x=>x.elim)
   refine wpAny_bind (wpAny_mono (kat_run (Q:=fun st' s2=>∃p:Array Nat,p.size=vs.length/\arrOf st'=p.map (kas_item (ks.toArray.zip vs.toArray))/\failedOf st'=none/\s2=s'/\G p)
    hl (by omega) h64 (fun p' st' s2 a1 a2 a3 a4=>⟨p',a1,a2,a3,a4⟩) hk) ?_ fun _ _ e=>e)
   rintro ⟨⟨⟩,st'⟩ s2 ⟨p,hp,har,hf,rfl,hg⟩
   try dsimp only
   exact tail st' p hp hg (kat_snds hl har) hf
end
section
variable {X:Cx}{pins:List (Addr×Obj)}{σ:L2.St}{H:Hp}{s:Shared}{h':Heap}
structure Od (X:Cx) (pins:List (Addr×Obj)) (D:Addr):Prop where
 new:X.s₀.heap.objs.size<=D
 loc:D≠X.env.locals
 cell:∀x c,X.env.cells.lookup x=some c->c≠D
 pin:∀p∈X.pn++pins,p.1≠D
 fs:D∉X.fs
theorem Inv.mine(I:Inv X pins σ H s){D:Addr}(h:s.heap.objs.size<=D):Od X pins D:=by
 refine⟨Nat.le_trans I.sz h,fun z=>?_,fun x c e z=>?_,fun p hp z=>?_,I.nofs h⟩
 ·have:=I.lt
  rw [← z] at this
  exact absurd this (Nat.not_lt.mpr h)
 ·obtain⟨v,o,ho,_⟩:=I.cell x c e
  have:=Heap.lt_size ho
  rw [z] at this
  exact absurd this (Nat.not_lt.mpr h)
 ·obtain⟨e,_⟩:=I.pin p hp
  have:=Heap.lt_size e
  rw [z] at this
  exact absurd this (Nat.not_lt.mpr h)
structure KeysAt (K:Frag) (H:Hp) (vs:List V) (keys:List (List Key)):Prop where
 len:vs.length=keys.length
 at_:∀(i:Nat) (ns:List Key),keys[i]?=some ns->∃a,vs[i]?=some (.ref a)/\SqT K H a (ns.map kOf)
 same:∀x∈keys,∀y∈keys,CJ x y=true
 ne:∀x∈keys,x≠[]
noncomputable def JV(keys:List (List Key))(ix:List Nat):Prop:=ix.Perm (List.range keys.length)/\∀i j,i<=j->j<keys.length->Bh (keys.getD (ix.getD j 0) []) (keys.getD (ix.getD i 0) [])=false
theorem KeysAt.tups{vs:List V}{us:List Value}{keys:List (List Key)}(I:Inv X pins σ H s)(r:Vals vs us)(k:KeysAt X.K H vs keys){h':Heap}(hk:∀b o,s.heap.get? b=some o->h'.get? b=some o):NZ h' us keys:=by
 refine⟨fun i ns e=>?_,r.length.symm.trans k.len,k.same,k.ne⟩
 obtain⟨a,e1,h1⟩:=k.at_ i ns e
 obtain⟨u,e2,r2⟩:=r.get e1
 cases r2
 obtain⟨its,r3,⟨o,ho,hc,n,hd⟩,_⟩:=I.tuple h1
 exact⟨a,o,its.toArray,n,e2,hk a o ho,hc,hd,by rw [List.toList_toArray]; exact r3⟩
theorem Fs:∀{vs:List V} {us:List Value},Vals vs us->∀i:Nat,RelV (vs.getD i .non) (us.getD i Value.none)
 | _,_,.nil,i=>by simp [RelV]
 | _,_,.cons r t,0=>by simpa using r
 | _,_,.cons r t,i+1=>by simpa using Fs t i
theorem G_{f:Nat->V}{g:Nat->Value}(h:∀i,RelV (f i) (g i)):∀ix:List Nat,Vals (ix.map f) (ix.map g)
 | []=>.nil
 | i::ix=>.cons (h i) (G_ h ix)
theorem getD_list(p:Array Nat)(i:Nat):p.getD i 0=p.toList.getD i 0:=by simp
theorem Pi{keys:List (List Key)}{n:Nat}{p:Array Nat}(hn:keys.length=n)(h1:p.Perm (List.toArray (List.range n)))(h2:So.Srt Nq (fun i=>keys.getD i []) p n):JV keys p.toList:=by
 subst hn
 refine⟨Array.perm_iff_toList_perm.mp h1,fun i j hij hj=>?_⟩
 have h:=h2 i j hij hj
 unfold So.KN at h
 rw [getD_list,getD_list] at h
 exact h
theorem Nh{A':Around}{E':Value->Shared->Prop}{vs:List V}{us:List Value}{keys:List (List Key)}{Q:VK}(I:Inv X pins σ H s)(r:Vals vs us)(h64:vs.length<64)(k:KeysAt X.K H vs keys)
  (q:∀(ix:List Nat) (l:Addr),JV keys ix->H l=none->Q (.ref l) (A9 H l (.lst (ix.map fun i=>vs.getD i .non)))) :
  wpAny (model X.prog X.w) A' (Builtin.«list.sort» ⟨[.ref s.heap.objs.size],[]⟩) (fun fin s'=>fin=.done (.ret .none)/\EP X pins σ Q (.ref s.heap.objs.size) s') E' { s with heap:=s.heap.push (seqObj "list" us.toArray 0) }:=by
 have hl:=r.length
 have hkl:keys.length=us.length:=k.len.symm.trans hl
 refine LF (G:=fun p=>p.Perm (List.toArray (List.range us.length))/\So.Srt Nq (fun i=>keys.getD i []) p us.length) (n:=0) (Heap.get?_push_size _ rfl) (by omega) (fun h2=>?_) (fun h1=>⟨Array.Perm.refl _,fun i j hij hj=>?_⟩) (fun p h' c hp hg hold hD=>⟨rfl,?_⟩)
 ·refine Iu (keys:=keys) (k.tups I r fun b o e=>?_) h2 (fun p a b=>⟨rfl,a,b⟩)
  exact Ft (Nat.ne_of_lt (Heap.lt_size e)) (Heap.get?_push_of_some _ e)
 ·have:i=j:=by omega
  subst this
  exact KeyOrd.kle_refl _
 ·have hf:H s.heap.objs.size=none:=I.fresh
  have hix:(p.toList.map fun i=>vs.getD i .non).length=us.length:=by rw [List.length_map,Array.length_toList,hp]
  refine⟨.ref s.heap.objs.size,A9 H s.heap.objs.size (.lst (p.toList.map fun i=>vs.getD i .non)),I.laid (t':=s.toks) (fun b o e=>hold b o (Nat.ne_of_lt (Heap.lt_size e)) (Heap.get?_push_of_some _ e)) (Nat.le_refl _) ⟨by rw [hix,← hl,sizeLine_eq]; omega,_,c,G_ (Fs r) p.toList,hD⟩,rfl,q _ _ (Pi hkl hg.1 hg.2) hf⟩
theorem LR{prog:Program}{w:World}{A:Around}{E:Value->Shared->Prop}{s:Shared}{l:Addr}{vs:List Value}{Q:List Value->Shared->Prop}(hl:IsTup s.heap l vs.toArray)
  (h:Q vs { s with heap:=(s.heap.push (seqObj "list" #[] 0)).update s.heap.objs.size (Obj.mapSeq (·++vs.toArray)) }) (hsz:vs.length<=sizeLine) :
  wpAny (model prog w) A (collect (.ref l)) Q E s:=by
 obtain⟨o,ho,hc,n,hd⟩:=id hl
 unfold collect
 refine wpAny_bind (wpAny_runValue (codeAny_builtin entry_proto_collect' ?_))
 show wpAny _ _ (do again (.builtin "list.__iadd__" ⟨[← newList [],.ref l],[]⟩)) _ _ s
 refine wpAny_bind (wpAny_newList (wpAny_pure ⟨Code.quiet_builtin _ (by decide +kernel),codeAny_builtin entry_list_iadd' ?_⟩))
 show wpAny _ _ (Builtin.List.listExtendWith (.ref s.heap.objs.size) (.ref l) (.ref s.heap.objs.size)) _ _ { s with heap:=s.heap.push (seqObj "list" #[] 0) }
 unfold Builtin.List.listExtendWith
 have ho':(s.heap.push (seqObj "list" #[] 0)).get? l=some o:=Heap.get?_push_of_some _ ho
 refine wpAny_bind (wpAny_typeOf (T := "tuple") ⟨o,ho',hc⟩ ?_)
 have ht:(Value.type "tuple"==Value.type "tuple")=true:=by rfl
 rw [if_pos (by rw [ht]; simp)]
 refine wpAny_bind (listItems_at ho' hd ?_)
 refine wpAny_bind (listItems_at (xs:=#[]) (n:=0) (Heap.get?_push_size _ rfl) rfl ?_)
 rw [if_neg (by simp)]
 refine wpAny_bind (listUpdate_at (xs:=#[]) (n:=0) (Heap.get?_push_size _ rfl) rfl ?_ (Nat.zero_le _) (by show (#[]++vs.toArray).size<=sizeLine+1; simp only [Array.size_append,List.size_toArray,List.length_nil]; omega))
 refine wpAny_pure ?_
 show wpAny (model prog w) A (do
   let o ← load s.heap.objs.size
   match o.data with
   | .seq xs _=>pure xs.toList
   | _=>unsupported "internal:collect") Q E { s with heap:=(s.heap.push (seqObj "list" #[] 0)).update s.heap.objs.size (Obj.mapSeq (·++vs.toArray)) }
 refine wpAny_bind (wpAny_load (get?_update_seq (Heap.get?_push_size _ rfl) _) ?_)
 show wpAny _ _ (pure ((#[]:Array Value)++vs.toArray).toList) Q E _
 rw [show ((#[]:Array Value)++vs.toArray).toList=vs by simp]
 exact wpAny_pure h
theorem LU{h:Heap}{g:Array Value->Array Value}{b:Addr}{o:Obj}(e:h.get? b=some o):((h.push (seqObj "list" #[] 0)).update h.objs.size (Obj.mapSeq g)).get? b=some o :=
 (Heap.get?_update_other _ _ (Ne.symm (Nat.ne_of_lt (Heap.lt_size e)))).trans (Heap.get?_push_of_some _ e)
theorem LT{κ:Bool}{A':Around}{E':Value->Shared->Prop}{p:Addr}{vs:List V}{Q:List Value->Shared->Prop}(I:Inv X pins σ H s)(h:SqK κ X.K H p vs)(q:∀us s1,Vals vs us->vs.length<=sizeLine->Inv X pins σ H s1->Q us s1) :
  wpAny (model X.prog X.w) A' (collect (.ref p)) Q E' s:=by
 cases κ with
 | true =>
  obtain⟨its,r,pl,hz⟩:=I.list h
  exact collect_list pl.isList (q its _ r hz (I.kept (t':=s.toks) fun b o e=>LU e)) (by rw [← r.length]; exact hz)
 | false =>
  obtain⟨its,r,pl,hz⟩:=I.tuple h
  exact LR pl (q its _ r hz (I.kept (t':=s.toks) fun b o e=>LU e)) (by rw [← r.length]; exact hz)
noncomputable def PD(K:Frag):List V->Hp->VK->Prop:=fun xs H Q=>∃(κ:Bool) (p:Addr) (vs:List V) (keys:List (List Key)),xs=[.ref p]/\SqK κ K H p vs/\vs.length<64/\KeysAt K H vs keys /\
 ∀(ix:List Nat) (l:Addr),JV keys ix->H l=none->Q (.ref l) (A9 H l (.lst (ix.map fun i=>vs.getD i .non)))
theorem Cb:Ck X (.builtin "sorted") (PD X.K):=by
 intro pins s σ H xs us Q I r h
 obtain⟨κ,p,vs,keys,rfl,hq,h64,hk,q⟩:=h
 obtain⟨u,rfl,rx⟩:=vals1 r
 cases rx
 refine FJ (kw:=[]) (args_sorted1 _) (fun x=>args_list_sort _) (LT I hq fun us s1 r1 hz I1=>⟨by rw [← r1.length]; exact hz,?_⟩)
 exact Nh I1 r1 h64 hk q
end
end L2
namespace L2
open PySem PySem.Spec PyProof.Rows
noncomputable def GG(H:Hp)(L:List Addr)(f:Addr->Obj):Hp:=fun b=>if b∈L then (H b).map (HO.frz (f b)) else H b
theorem FW{H:Hp}{L:List Addr}{f:Addr->Obj}{b:Addr}(h:b∉L):GG H L f b=H b:=by unfold GG; rw [if_neg h]
theorem NE{H:Hp}{L:List Addr}{f:Addr->Obj}{b:Addr}{o:HO}(h:b∈L)(e:H b=some o):GG H L f b=some (.frz (f b) o):=by unfold GG; rw [if_pos h,e]; rfl
section
variable {X:Cx}{pins:List (Addr×Obj)}{σ:L2.St}{H:Hp}{s:Shared}
theorem Inv.frz{L:List Addr}(I:Inv X pins σ H s)(hL:∀b∈L,∃kvs,H b=some (.dK kvs)):∃f,Inv X pins σ (GG H L f) s:=by
 have keep:∀(f:Addr->Obj) b o,H b=some o->(∀kvs,o≠.dK kvs)->GG H L f b=some o:=fun f b o e n=>by
  rw [FW (fun hm=>by obtain⟨kvs,e2⟩:=hL b hm; rw [e] at e2; cases e2; exact n _ rfl)]
  exact e
 refine⟨fun b=>(s.heap.get? b).getD { cls:=.none,data:=.fields #[] },?_⟩
 refine I.step (g':=s.gens) (d':=s.drawn) (t':=s.toks) (h':=s.heap) (ch:=[]) (fun _ z=>nomatch z) (fun _ _ _ _ _ e _=>e) (fun b o _ _ _ e _=>⟨o.slots,e⟩) (fun b o _ e n=>?_) (fun b o _ e=>⟨o,e⟩) (fun b xs e=>keep _ b _ e fun _ z=>by cases z) (fun b o u e=>keep _ b _ e fun _ z=>by cases z) (fun b ps e=>⟨#[],by rw [keep _ b _ e fun _ z=>by cases z]; simp⟩) (fun _ h=>h) (fun b u e=>?_) I.bare
 ·unfold GG
  split
  ·rw [n]; rfl
  ·exact n
 ·by_cases hb:b∈L
  ·obtain⟨kvs,e2⟩:=hL b hb
   rw [NE hb e2] at e
   cases e
   obtain⟨z,y,vs,r,ob,es,ep,e3,c⟩:=(show ObjOk X.prog X.w H s.heap b (.dK kvs) from I.hok b _ e2)
   exact⟨by rw [e3]; rfl,z,y,vs,r,ob,es,ep,e3,c⟩
  ·rw [FW hb] at e
   exact(I.hok b u e).stay (fun _ _ _ q=>q) (fun c q=>keep _ c _ q fun _ z=>by cases z) fun c xs q=>keep _ c _ q fun _ z=>by cases z
noncomputable def VY(t:TE):TE:=fun σ H Q=>t σ H fun v H1=>∃L:List Addr,(∀b∈L,∃kvs,H1 b=some (.dK kvs))/\∀f:Addr->Obj,Q v (GG H1 L f)
theorem S6{e:Expr}{t:TE}(h:PE X e t):PE X e (VY t):=by
 intro pins s σ H Q I hq
 refine BX (h pins s σ H _ I hq) fun u s1 ⟨v,H1,I1,r,L,hL,q⟩=>?_
 obtain⟨f,I2⟩:=I1.frz hL
 exact⟨v,_,I2,r,q f⟩
end
end L2
namespace Nt
open PySem PySem.Spec PyProof.Rows L2 Dp
noncomputable def DB(ts:List Ap)(p:Str):List (Str×Int):=ts.flatMap fun t=>(if t.a=p then [(t.b,t.len)] else [])++(if t.b=p then [(t.a,t.len)] else [])
noncomputable def N9(ts:List Ap)(p:Str):D:=.fdi ((DB ts p).map fun x=>.inr x.1) ((DB ts p).map fun x=>.int x.2)
noncomputable def Dn(N:Net):D:=.dic (N.ps.map .inr) (N.ps.map (N9 N.ts))
noncomputable def Ec:W2:=fun ss n P=>∃N:Net,ss=[.sh (enc N)]/\N.Ok/\N.ps.length<=1000/\N.ts.length<=1000/\P (Dn N) n
noncomputable def kv(x:Str×Int):Key×V:=(.inr x.1,.int x.2)
structure Stp (H:Hp) (d:Addr) (as:List (Str×Addr)) (tb:Str->List (Key×V)) (H':Hp):Prop where
 old:∀b o,H b=some o->H' b=some o
 new:H d=none
 top:H' d=some (.dK (as.map fun x=>(.inr x.1,.ref x.2)))
 inn:∀x∈as,H x.2=none/\x.2≠d/\H' x.2=some (.dK (tb x.1))
 ads:(as.map (·.2)).Nodup
 nms:(as.map (·.1)).Nodup
theorem Gw{as:List (Str×Addr)}(hn:(as.map (·.1)).Nodup){p:Str}{a:Addr}(h:(p,a)∈as):Co (as.map fun x=>((.inr x.1:Key),V.ref x.2)) (.inr p)=some (.ref a):=by
 induction as with
 | nil=>cases h
 | cons x r ih =>
  rw [List.map_cons,List.nodup_cons] at hn
  rcases List.mem_cons.mp h with e | h
  ·rw [← e]
   exact D9 rfl
  ·have hne:(Sum.inr x.1:Key)≠.inr p:=fun e=>hn.1 (by rw [Sum.inr.inj e]; exact List.mem_map.mpr ⟨_,h,rfl⟩)
   rw [List.map_cons]
   exact(D_ hne).trans (ih hn.2 h)
theorem L7{as:List (Str×Addr)}{p:Str}{v:V}(h:p∉as.map (·.1)):putK (as.map fun x=>((.inr x.1:Key),V.ref x.2)) (.inr p) v=(as.map fun x=>((.inr x.1:Key),V.ref x.2))++[(.inr p,v)]:=by
 unfold putK
 rw [if_neg]
 rw [List.any_eq_true]
 rintro ⟨y,hy,e⟩
 obtain⟨x,hx,rfl⟩:=List.mem_map.mp hy
 exact h (List.mem_map.mpr ⟨x,hx,Sum.inr.inj (of_decide_eq_true e)⟩)
theorem Mr{xs:List (Str×Int)}{p:Str}{l:Int}(h:p∉xs.map (·.1)):putK (xs.map kv) (.inr p) (.int l)=(xs++[(p,l)]).map kv:=by
 unfold putK
 rw [if_neg,List.map_append]
 ·rfl
 ·rw [List.any_eq_true]
  rintro ⟨y,hy,e⟩
  obtain⟨x,hx,rfl⟩:=List.mem_map.mp hy
  exact h (List.mem_map.mpr ⟨x,hx,Sum.inr.inj (of_decide_eq_true e)⟩)
theorem Stp.more{H H':Hp}{d q:Addr}{as:List (Str×Addr)}{tb:Str->List (Key×V)}{p:Str}(s:Stp H d as tb H')(hq:H' q=none)(hp:p∉as.map (·.1))(ht:tb p=[]) :
  Stp H d (as++[(p,q)]) tb (A9 (A9 H' q (.dK [])) d (.dK (putK (as.map fun x=>((.inr x.1:Key),V.ref x.2)) (.inr p) (.ref q)))):=by
 have nq:q≠d:=fun e=>by rw [e,s.top] at hq; cases hq
 have hHq:H q=none:=by
  cases c:H q with
  | none=>rfl
  | some o=>rw [s.old q o c] at hq; cases hq
 refine⟨fun b o e=>?_,s.new,?_,fun x hx=>?_,?_,?_⟩
 ·have n1:b≠d:=fun z=>by rw [z,s.new] at e; cases e
  have n2:b≠q:=fun z=>by rw [z,hHq] at e; cases e
  rw [AQ n1,AQ n2]
  exact s.old b o e
 ·rw [AV,L7 hp,List.map_append]; rfl
 ·rcases List.mem_append.mp hx with hx | hx
  ·obtain⟨h1,h2,h3⟩:=s.inn x hx
   have n2:x.2≠q:=fun z=>by rw [z,hq] at h3; cases h3
   exact⟨h1,h2,by rw [AQ h2,AQ n2]; exact h3⟩
  ·rw [List.mem_singleton.mp hx]
   exact⟨hHq,nq,by rw [AQ nq,AV,ht]⟩
 ·rw [List.map_append,List.nodup_append]
  refine⟨s.ads,List.nodup_cons.mpr ⟨(fun h=>by cases h),List.nodup_nil⟩,fun a ha b hb e=>?_⟩
  obtain⟨x,hx,rfl⟩:=List.mem_map.mp ha
  have hb:b=q:=List.mem_singleton.mp hb
  obtain⟨h1,h2,h3⟩:=s.inn x hx
  rw [e,hb,hq] at h3
  cases h3
 ·rw [List.map_append,List.nodup_append]
  refine⟨s.nms,List.nodup_cons.mpr ⟨(fun h=>by cases h),List.nodup_nil⟩,fun a ha b hb e=>?_⟩
  have hb:b=p:=List.mem_singleton.mp hb
  exact hp (by rw [← hb,← e]; exact ha)
theorem N7{as:List (Str×Addr)}(hn:(as.map (·.1)).Nodup){p:Str}{a b:Addr}(h1:(p,a)∈as)(h2:(p,b)∈as):a=b:=by
 have:=(Gw hn h1).symm.trans (Gw hn h2)
 exact V.ref.inj (Option.some.inj this)
theorem N6{as:List (Str×Addr)}(hn:(as.map (·.2)).Nodup){p q:Str}{a:Addr}(h1:(p,a)∈as)(h2:(q,a)∈as):p=q:=by
 induction as with
 | nil=>cases h1
 | cons x r ih =>
  rw [List.map_cons,List.nodup_cons] at hn
  rcases List.mem_cons.mp h1 with e1 | g1
  ·rcases List.mem_cons.mp h2 with e2 | g2
   ·rw [← e1] at e2; exact(Prod.mk.inj e2).1.symm
   ·exact absurd (List.mem_map.mpr ⟨_,g2,by rw [← e1]⟩) hn.1
  ·rcases List.mem_cons.mp h2 with e2 | g2
   ·exact absurd (List.mem_map.mpr ⟨_,g1,by rw [← e2]⟩) hn.1
   ·exact ih hn.2 g1 g2
theorem Stp.put{H H':Hp}{d a:Addr}{as:List (Str×Addr)}{tb tb2:Str->List (Key×V)}{p:Str}{kvs:List (Key×V)}(s:Stp H d as tb H')(ha:(p,a)∈as)(h1:tb2 p=kvs)(h2:∀q,q≠p->tb2 q=tb q) :
  Stp H d as tb2 (A9 H' a (.dK kvs)):=by
 obtain⟨i1,i2,i3⟩:=s.inn _ ha
 refine⟨fun b o e=>?_,s.new,?_,fun x hx=>?_,s.ads,s.nms⟩
 ·have n1:b≠a:=fun z=>by rw [z] at e; rw [show H a=none from i1] at e; cases e
  rw [AQ n1]
  exact s.old b o e
 ·rw [AQ (Ne.symm i2)]
  exact s.top
 ·obtain⟨g1,g2,g3⟩:=s.inn x hx
  refine⟨g1,g2,?_⟩
  by_cases e:x.2=a
  ·have:x.1=p:=N6 s.ads (show (x.1,a)∈as by rw [← e]; exact hx) ha
   rw [e,AV,this,h1]
  ·have:x.1≠p:=fun z=>e (N7 s.nms (show (p,x.2)∈as by rw [← z]; exact hx) ha)
   rw [AQ e,h2 _ this]
   exact g3
theorem LB(ts:List Ap)(t:Ap)(p:Str):DB (ts++[t]) p=DB ts p++((if t.a=p then [(t.b,t.len)] else [])++(if t.b=p then [(t.a,t.len)] else [])):=by
 unfold DB
 rw [List.flatMap_append,List.flatMap_cons,List.flatMap_nil,List.append_nil]
theorem J1{ts:List Ap}{p q:Str}(h:q∈(DB ts p).map (·.1)):∃t∈ts,(t.a=p/\t.b=q)\/(t.b=p/\t.a=q):=by
 obtain⟨x,hx,rfl⟩:=List.mem_map.mp h
 obtain⟨t,ht,hx⟩:=List.mem_flatMap.mp hx
 refine⟨t,ht,?_⟩
 rcases List.mem_append.mp hx with hx | hx
 ·split at hx
  ·rename_i e; rw [List.mem_singleton.mp hx]; exact .inl ⟨e,rfl⟩
  ·cases hx
 ·split at hx
  ·rename_i e; rw [List.mem_singleton.mp hx]; exact .inr ⟨e,rfl⟩
  ·cases hx
theorem M7(ts:List Ap)(p:Str):(DB ts p).length<=2*ts.length:=by
 induction ts with
 | nil=>exact Nat.zero_le _
 | cons t r ih =>
  unfold DB at ih ⊢
  rw [List.flatMap_cons,List.length_append,List.length_append,List.length_cons]
  have h1:(if t.a=p then [(t.b,t.len)] else []).length<=1:=by split; exact Nat.le_refl 1; exact Nat.zero_le _
  have h2:(if t.b=p then [(t.a,t.len)] else []).length<=1:=by split; exact Nat.le_refl 1; exact Nat.zero_le _
  omega
theorem QC{ts:List Ap}{t:Ap}(hp:(ts++[t]).Pairwise B6)(hlt:∀s∈ts++[t],cs s.a<cs s.b):t.b∉(DB ts t.a).map (·.1)/\t.a∉(DB ts t.b).map (·.1):=by
 rw [List.pairwise_append] at hp
 have key:∀s∈ts,¬((s.a=t.a/\s.b=t.b)\/(s.b=t.a/\s.a=t.b)):=fun s hs e=>by
  have h1:=hp.2.2 s hs t (List.mem_singleton.mpr rfl)
  have h2:=hlt s (List.mem_append_left _ hs)
  have h3:=hlt t (List.mem_append_right _ (List.mem_singleton.mpr rfl))
  rcases e with ⟨e1,e2⟩ | ⟨e1,e2⟩
  ·unfold B6 at h1
   rw [e1,e2] at h1
   rcases h1 with h | ⟨_,h⟩
   ·exact List.lt_irrefl _ h
   ·exact List.lt_irrefl _ h
  ·rw [e1,e2] at h2
   exact List.lt_irrefl _ (List.lt_trans h2 h3)
 refine⟨fun h=>?_,fun h=>?_⟩
 ·obtain⟨s,hs,e⟩:=J1 h
  exact key s hs e
 ·obtain⟨s,hs,e⟩:=J1 h
  exact key s hs (e.elim (fun z=>.inr ⟨z.2,z.1⟩) fun z=>.inl ⟨z.2,z.1⟩)
theorem Ji{xs:List Str}(h:rising xs):xs.Nodup:=h.imp fun {a b} hlt e=>by rw [e] at hlt; exact List.lt_irrefl _ hlt
theorem MH{xs:List Str}(h:xs.Nodup){i:Nat}(hi:i<xs.length):xs[i]∉xs.take i:=by
 have e:xs=xs.take i++xs[i]::xs.drop (i+1):=by
  rw [← List.drop_eq_getElem_cons hi,List.take_append_drop]
 intro hm
 rw [e,List.nodup_append] at h
 exact h.2.2 _ hm _ List.mem_cons_self rfl
theorem Stp.at_{K:Frag}{M:Addr->Prop}{H H':Hp}{d:Addr}{as:List (Str×Addr)}{N:Net}(dom:∀a,M a->∃o,H a=some o)(s:Stp H d as (fun p=>(DB N.ts p).map kv) H')(hp:as.map (·.1)=N.ps)(f:Addr->Obj):At K M (GG H' (as.map (·.2)) f) (Dn N) (.ref d):=by
 have nd:∀b,H b=none->¬M b:=fun b e m=>by obtain⟨o,h⟩:=dom b m; rw [h] at e; cases e
 have zip1:∀as:List (Str×Addr),(as.map fun x=>((.inr x.1:Key),V.ref x.2))=((as.map (·.1)).map (.inr:Str->Key)).zip (as.map fun x=>V.ref x.2):=fun as=>by
  induction as with
  | nil=>rfl
  | cons x r ih=>rw [List.map_cons,ih]; rfl
 refine⟨d,as.map fun x=>.ref x.2,rfl,⟨nd d s.new,by rw [FW (fun hm=>by obtain⟨x,hx,e⟩:=List.mem_map.mp hm; exact(s.inn x hx).2.1 e),s.top,zip1,hp]⟩,by rw [List.length_map,List.length_map],?_⟩
 rw [← hp]
 have go:∀bs:List (Str×Addr),(∀x∈bs,x∈as)->Ats K M (GG H' (as.map (·.2)) f) ((bs.map (·.1)).map (N9 N.ts)) (bs.map fun x=>V.ref x.2):=fun bs=>by
  induction bs with
  | nil=>intro _; rfl
  | cons x r ih =>
   intro hx
   refine⟨.ref x.2,r.map fun x=>V.ref x.2,rfl,?_,ih fun y hy=>hx y (List.mem_cons_of_mem _ hy)⟩
   obtain⟨g1,g2,g3⟩:=s.inn x (hx x List.mem_cons_self)
   have zip2:∀xs:List (Str×Int),xs.map kv=(xs.map fun x=>(.inr x.1:Key)).zip (xs.map fun x=>V.int x.2):=fun xs=>by
    induction xs with
    | nil=>rfl
    | cons x r ih=>rw [List.map_cons,ih]; rfl
   refine⟨x.2,(DB N.ts x.1).map fun x=>V.int x.2,rfl,⟨f x.2,nd _ g1,by rw [NE (List.mem_map.mpr ⟨x,hx x List.mem_cons_self,rfl⟩) g3,zip2]⟩,by rw [List.length_map,List.length_map],?_⟩
   generalize DB N.ts x.1=xs
   induction xs with
   | nil=>rfl
   | cons x r ih=>exact⟨.int x.2,_,rfl,rfl,ih⟩
 exact go as fun _ h=>h
end Nt
namespace L2
open PySem PySem.Spec PyProof.Rows PySem.W
section
variable {X:Cx}{pins:List (Addr×Obj)}{σ:L2.St}{H:Hp}{s:Shared}{h':Heap}
theorem Inv.adopt2{D e:Addr}{o:HO}(I:Inv X pins σ H s)(m:Od X pins D)(hn:H D=none)(m2:Od X pins e)(hn2:H e=none)(hne:D≠e)(k:∀b u,b≠D->b≠e->s.heap.get? b=some u->h'.get? b=some u)(new:ObjOk X.prog X.w (A9 H D o) h' D o):Inv X pins σ (A9 H D o) { s with heap:=h' }:=by
 have nin:∀b,b∉[D,e]->b≠D/\b≠e:=fun b hc=>⟨fun z=>hc (by rw [z]; exact List.mem_cons_self),fun z=>hc (by rw [z]; exact List.mem_cons_of_mem _ (List.mem_singleton.mpr rfl))⟩
 refine I.step (g':=s.gens) (d':=s.drawn) (t':=s.toks) (ch:=[D,e]) (fun b hb=>?_) (fun b u _ _ hc q _=>k b u (nin b hc).1 (nin b hc).2 q) (fun b u _ _ hc q _=>⟨u.slots,k b u (nin b hc).1 (nin b hc).2 q⟩) (fun b u hc q n=>?_)
  (fun b u hc q=>⟨u,k b u (nin b hc).1 (nin b hc).2 q⟩) (fun b xs q=>?_) (fun b u v q=>?_) (fun b ps q=>⟨#[],?_⟩) (fun mm hm=>?_) (fun b u q=>?_) I.bare
 ·rcases List.mem_cons.mp hb with rfl | hb
  ·exact⟨.inr m.new,m.loc,m.cell,m.pin⟩
  ·rw [List.mem_singleton.mp hb]
   exact⟨.inr m2.new,m2.loc,m2.cell,m2.pin⟩
 ·rw [AQ (nin b hc).1]; exact n
 ·rw [AQ (Al q hn)]; exact q
 ·rw [AQ (Al q hn)]; exact q
 ·rw [AQ (Al q hn),q]; simp
 ·obtain⟨u,es,ep,ho,r⟩:=hm
  exact⟨u,es,ep,k _ u (Ne.symm m.loc) (Ne.symm m2.loc) ho,r⟩
 ·by_cases hb:b=D
  ·subst hb; rw [AV] at q; cases q; exact new
  ·rw [AQ hb] at q
   refine(I.hok b u q).stay (fun c v hc q2=>k c v ?_ ?_ q2) (fun c q2=>by rw [AQ (Al q2 hn)]; exact q2) fun c xs q2=>by rw [AQ (Al q2 hn)]; exact q2
   ·rcases hc with z | z
    ·rw [z]; exact hb
    ·exact Al z hn
   ·rcases hc with z | z
    ·rw [z]; exact Al q hn2
    ·exact Al z hn2
noncomputable def Sj(K:Frag)(sp:Sp)(te:TE):TE:=fun σ H Q=>te σ H fun x H1=>∃(κ:Bool) (l:Addr) (vs:List V) (keys:List (List Key)) (J:List V->Hp->Prop),x=.ref l/\SqK κ K H1 l vs/\vs.length<64/\J [] H1 /\
 (∀ks H2 v,J ks H2->vs[ks.length]?=some v->sp [v] H2 (fun k H3=>J (ks++[k]) H3) E0) /\
 ∀ks H2,J ks H2->ks.length=vs.length->KeysAt K H2 ks keys/\∀(ix:List Nat) (l:Addr),JV keys ix->H2 l=none->Q (.ref l) (A9 H2 l (.lst (ix.map fun i=>vs.getD i .non)))
theorem Pb{k:Nat}{f:Addr}{fd:FuncData}{pn fn:Str}{sp:Sp}{te:TE}{e:Expr}{p fp kp pos:Pos}(F:BG X.prog X.w X.K X.mg X.base C0 k f fd [pn] sp)(hr:Room (k+2) X.A)(hg:Gl X "sorted")(hm:X.mg "sorted"=none)
  (hgf:Gl X fn) (hmf:X.mg fn=some (.ref f)) (hb:Binds X.K fd [pn] []) (he:PE X e te) (hs:starEach [e] X.env=[(false,eval e X.env)]:=by rfl) (hdf:(fn==("__debug__" : Str))=false:=by decide) :
  PE X (.Call (.Name "sorted" p) [e] [⟨some "key",.Name fn fp,kp⟩] pos) (Sj X.K sp te):=by
 intro pins s σ H Q I h
 refine wpAny_Call_Name_kw (EJ I hg hm boot_sorted ?_)
 refine callWith_kw (BX (BY he CV hs pos pins s σ H (fun vs H1=>∃x,vs=[x]/\∃(κ:Bool) (l:Addr) (vs:List V) (keys:List (List Key)) (J:List V->Hp->Prop),x=.ref l/\SqK κ X.K H1 l vs/\vs.length<64/\J [] H1 /\
   (∀ks H2 v,J ks H2->vs[ks.length]?=some v->sp [v] H2 (fun k H3=>J (ks++[k]) H3) E0) /\
   ∀ks H2,J ks H2->ks.length=vs.length->KeysAt X.K H2 ks keys/\∀(ix:List Nat) (l:Addr),JV keys ix->H2 l=none->Q (.ref l) (A9 H2 l (.lst (ix.map fun i=>vs.getD i .non)))) I ?first) fun us s1 ⟨xs,H1,I1,r1,q1⟩=>kws_cons (M_ I1 hgf hmf (kws_nil ?_) hdf)) (by rw [hs]; rfl) (by rw [hs]; rfl)
 case first =>
  show te σ H _
  refine cast (congrArg (te σ H) ?_) h
  funext x H1
  refine propext ⟨fun z=>⟨x,rfl,z⟩,fun⟨y,e,z⟩=>?_⟩
  cases e
  exact z
 obtain⟨x,rfl,κ,l,vs,keys,J,rfl,hq,h64,j0,jstep,jend⟩:=q1
 obtain⟨u,rfl,ru⟩:=vals1 r1
 cases ru
 show wpAny (model X.prog X.w) X.A (call (.builtin "sorted") [.ref l] [(Str.ofString "key",.ref f)]) _ _ s1
 refine FJ (ksk_s1 _ _) (fun x=>ksk_l1 _ _) (LT I1 hq fun us s2 r2 hz I2=>⟨by rw [← r2.length]; exact hz,?_⟩)
 rw [ksk_t1]
 have hl:=r2.length
 generalize hD:s2.heap.objs.size=D
 have hsz3:(s2.heap.push (seqObj "list" us.toArray 0)).objs.size=D+1:=by rw [size_push',hD]
 have hoD:(s2.heap.push (seqObj "list" us.toArray 0)).get? D=some (seqObj "list" us.toArray 0):=by rw [← hD]; exact Heap.get?_push_size _ rfl
 have mD:Od X pins D:=I2.mine (by rw [hD]; exact Nat.le_refl _)
 have mK:Od X pins (D+2):=I2.mine (by rw [hD]; exact Nat.le_add_right _ _)
 have nD:H1 D=none:=I2.hok.fresh (by rw [hD]; exact Nat.le_refl _)
 have nK:H1 (D+2)=none:=I2.hok.fresh (by rw [hD]; exact Nat.le_add_right _ _)
 have hne:D≠D+2:=Nat.ne_of_lt (Nat.lt_succ_of_lt (Nat.lt_succ_self D))
 have nstk:∀b,Od X pins b->b∉Og X.stack:=fun b m z=>(List.mem_cons.mp (I2.stkSub b z)).elim m.loc m.fs
 refine OG (s:={ s2 with heap:=s2.heap.push (seqObj "list" us.toArray 0) }) (n:=0) hoD (by rw [← hl]; exact h64)
  (fun ks s'=>∃kV H',Vals kV ks/\J kV H'/\Inv X pins σ H' s'/\H' D=none/\H' (D+2)=none/\s'.heap.get? D=(DH (s2.heap.push (seqObj "list" us.toArray 0)) D us).get? D) (D+2) (by show D+2=(s2.heap.push _).objs.size+1; rw [hsz3]) (fun e1 he1=>?_) (fun ks s' e v hJ hk hv=>?_) fun e1 he1 ks s' hJ hkl=>?_
 ·refine⟨[],H1,.nil,j0,?_,nD,nK,rfl⟩
  exact I2.kept (t':=s2.toks) fun b o q=>Ft (by rw [← hD]; exact Nat.ne_of_lt (Heap.lt_size q)) (Heap.get?_push_of_some _ q)
 ·obtain⟨kV,H',rk,hJ,I',n1,n2,hD'⟩:=hJ
  have hi:ks.length<us.length:=(List.getElem?_eq_some_iff.mp hv).1
  have hvi:vs[kV.length]?=some (vs[kV.length]'(by rw [rk.length]; omega)):=List.getElem?_eq_getElem _
  obtain⟨u',e2,ru⟩:=r2.get hvi
  rw [rk.length,hv] at e2
  cases e2
  have hsp:=jstep kV H' _ hJ hvi
  have E1:Env0 X.prog X.w X.K X.mg X.base X.A.in1.in1 X.stack s' H':=I'.env0.in1.in1
  refine wpAny_call (codeAny_mono (F.run X.A.in1.in1 X.stack s' H' ⟨[v],[]⟩ [v] _ _ E0 (hr.in1).in1 E1 (by simpa using hb s' [v] I'.kIn rfl) (.cons ru .nil) hsp) fun r s'' hq'=>?_)
  cases r with
  | error e=>exact False.elim hq'
  | ok fl =>
   cases fl with
   | next=>exact False.elim hq'
   | brk=>exact False.elim hq'
   | cont=>exact False.elim hq'
   | ret u =>
    obtain⟨w',H3,os,bare,un,hok,rw',q3⟩:=id hq'
    obtain⟨oD,eD⟩:∃o,s'.heap.get? D=some o:=by
     obtain⟨c,hc,_⟩:=HJ hoD
     exact⟨_,hD'.trans hc⟩
    have kD:s''.heap.get? D=some oD:=un.keep D oD eD n1 (nstk D mD) (by simp)
    have kK:s''.heap.get? (D+2)=some (seqObj "list" ks.toArray e):=un.keep _ _ hk n2 (nstk _ mK) (by simp)
    have f1:H3 D=none:=un.free D oD eD n1 (by simp)
    have f2:H3 (D+2)=none:=un.free _ _ hk n2 (by simp)
    have I3:Inv X pins σ H3 s'':=I'.call' os un hok bare (fun b z=>absurd z (by simp))
    refine⟨kK,kV++[w'],H3,rk.append (.cons rw' .nil),q3,?_,f1,f2,?_⟩
    ·exact I3.turned (t':=s''.toks) (fun b o hb q=>(Heap.get?_update_other _ _ (Ne.symm hb)).trans q) f2 mK.loc (.inr mK.new) mK.cell mK.pin
    ·show (s''.heap.update (D+2) _).get? D=_
     rw [Heap.get?_update_other _ _ (Ne.symm hne),kD,← eD,hD']
 ·obtain⟨kV,H',rk,hJ,I',n1,n2,hD'⟩:=hJ
  obtain⟨hka,q⟩:=jend kV H' hJ (by rw [rk.length,hkl,hl])
  have hkk:keys.length=us.length:=by rw [← hka.len,rk.length,hkl]
  refine⟨hD'.trans he1,fun p=>p.Perm (List.toArray (List.range us.length))/\So.Srt Nq (fun i=>keys.getD i []) p us.length,fun h2=>?_,fun h1=>⟨Array.Perm.refl _,fun i j hij hj=>?_⟩,fun p h' c hp hg hold hDn _=>⟨rfl,?_⟩⟩
  ·have ts:=Iu (prog:=X.prog) (w:=X.w) (A:=X.A.in1.in1) (keys:=keys) (hka.tups I' rk fun b o e=>e) (by omega) (G:=fun p s''=>s''=s'/\p.Perm (List.toArray (List.range us.length))/\So.Srt Nq (fun i=>keys.getD i []) p us.length) (fun p a b=>⟨rfl,by rw [← hkl]; exact a,by rw [← hkl]; exact b⟩)
   rw [hkl] at ts
   exact ts
  ·have:i=j:=by omega
   subst this
   exact KeyOrd.kle_refl _
  ·have hix:(p.toList.map fun i=>vs.getD i .non).length=us.length:=by rw [List.length_map,Array.length_toList,hp]
   refine⟨.ref D,A9 H' D (.lst (p.toList.map fun i=>vs.getD i .non)),I'.adopt2 mD n1 mK n2 hne hold ⟨by rw [hix,← hl,sizeLine_eq]; omega,_,c,G_ (Fs r2) p.toList,hDn⟩,rfl,q _ _ (Pi hkk hg.1 hg.2) n1⟩
theorem K6{α β:Type}{F:α->β->Prop}:∀{l₁:List α} {l₂:List β} {j:Nat} {a:α} {b:β},Paired F l₁ l₂->l₁[j]?=some a->l₂[j]?=some b->F a b
 | _,_,_,_,_,.nil,h,_=>by simp at h
 | _,_,0,_,_,.cons r t,h1,h2=>by
  have h1:=Option.some.inj (by simpa using h1)
  have h2:=Option.some.inj (by simpa using h2)
  subst h1 h2
  exact r
 | _,_,j+1,_,_,.cons r t,h1,h2=>K6 (j:=j) t (by simpa using h1) (by simpa using h2)
end
end L2
namespace Dp
open PySem PySem.Spec PyProof.Rows L2
section
variable {X:Cx}{K:Frag}
noncomputable def NI(ds:List D)(P:D->Prop):Prop:=match ds with
 | [.int i,.int j]=>P (.int (if j<i then j else i))
 | _=>False
theorem Tt:DP K .sh (fun xs H Q=>∃i j,xs=[.int i,.int j]/\Q (.int (if j<i then j else i)) H) NI:=by
 intro U M H ds vs P Q dom vM hp w q
 unfold NI at w
 split at w
 ·rename_i i j
  cases hp with
  | cons r1 r2=>cases r2 with
   | cons r3 r4 =>
    cases r4
    cases r1.int
    cases r3.int
    exact⟨i,j,rfl,q _ H (.int _) .refl rfl w⟩
 ·exact w.elim
end
noncomputable def CZ:D->Option (List Key)
 | .tup xs=>Hm xs
 | _=>none
noncomputable def Fn(kf:D->Option (List Key))(xs:List D):Prop:=xs.Pairwise fun a b=>∀ka kb,kf a=some ka->kf b=some kb->Bh kb ka=false
noncomputable def Keyed(kf:D->Option (List Key))(xs:List D):Prop:=(∀x∈xs,∃k,kf x=some k/\k≠[])/\∀x∈xs,∀y∈xs,∀ka kb,kf x=some ka->kf y=some kb->CJ ka kb=true
theorem range_getD(xs:List D):(List.range xs.length).map (fun i=>xs.getD i .non)=xs:=by
 apply List.ext_getElem
 ·simp
 ·intro i h1 h2
  simp [h2]
theorem M5{kf:D->Option (List Key)}{xs:List D}{keys:List (List Key)}{ix:List Nat}(hl:keys.length=xs.length)(hk:∀(i:Nat) (x:D),xs[i]?=some x->∃k,keys[i]?=some k/\kf x=some k)(h:JV keys ix) :
  (ix.map fun i=>xs.getD i .non).Perm xs/\Fn kf (ix.map fun i=>xs.getD i .non):=by
 obtain⟨hp,hs⟩:=h
 constructor
 ·have:=hp.map fun i=>xs.getD i D.non
  rw [hl,range_getD] at this
  exact this
 ·unfold Fn
  rw [List.pairwise_iff_getElem]
  intro i j hi hj hij ka kb ea eb
  rw [List.getElem_map] at ea eb
  rw [List.length_map] at hi hj
  have il:ix.length=keys.length:=by rw [hp.length_eq,List.length_range]
  have g:∀i (h:i<ix.length) k,kf (xs.getD ix[i] .non)=some k->keys.getD (ix.getD i 0) []=k:=fun i h k e=>by
   have hm:ix[i]<keys.length:=List.mem_range.mp (hp.mem_iff.mp (List.getElem_mem h))
   have hx:ix[i]<xs.length:=by rw [← hl]; exact hm
   obtain⟨k',e1,e2⟩:=hk ix[i] xs[ix[i]] (List.getElem?_eq_getElem hx)
   have e3:xs.getD ix[i] .non=xs[ix[i]]:=by rw [List.getD_eq_getElem?_getD,List.getElem?_eq_getElem hx]; rfl
   rw [e3,e2] at e
   have e4:ix.getD i 0=ix[i]:=by rw [List.getD_eq_getElem?_getD,List.getElem?_eq_getElem h]; rfl
   rw [e4,List.getD_eq_getElem?_getD,e1]
   exact Option.some.inj e
  have:=hs i j (Nat.le_of_lt hij) (by rw [← il]; exact hj)
  rw [g i hi ka ea,g j hj kb eb] at this
  exact this
theorem El{kf:D->Option (List Key)}:∀{xs:List D},(∀x∈xs,∃k,kf x=some k/\k≠[])->∃keys:List (List Key),keys.length=xs.length/\(∀(i:Nat) (x:D),xs[i]?=some x->∃k,keys[i]?=some k/\kf x=some k/\k≠[])
 | [],_=>⟨[],rfl,fun i x e=>by simp at e⟩
 | x::xs,h=>by
  obtain⟨k,e1,e2⟩:=h x List.mem_cons_self
  obtain⟨keys,l,g⟩:=El (xs:=xs) fun y hy=>h y (List.mem_cons_of_mem _ hy)
  refine⟨k::keys,by rw [List.length_cons,List.length_cons,l],fun i y e=>?_⟩
  cases i with
  | zero =>
   have e:x=y:=by simpa using e
   subst e
   exact⟨k,rfl,e1,e2⟩
  | succ i =>
   obtain⟨k',a,b⟩:=g i y (by simpa using e)
   exact⟨k',by simpa using a,b⟩
section
variable {K:Frag}{M:Addr->Prop}{H:Hp}
theorem Ats.getD:∀{ds:List D} {vs:List V},Ats K M H ds vs->∀i:Nat,At K M H (ds.getD i .non) (vs.getD i .non)
 | [],vs,h,i=>by cases (show vs=[] from h); simp [At]
 | d::ds,vs,h,0=>by
  obtain⟨v,r,e,h1,h2⟩:=h
  subst e
  simpa using h1
 | d::ds,vs,h,i+1=>by
  obtain⟨v,r,e,h1,h2⟩:=h
  subst e
  simpa using Ats.getD h2 i
theorem Ats.pick{ds:List D}{vs:List V}(h:Ats K M H ds vs):∀ix:List Nat,Ats K M H (ix.map fun i=>ds.getD i .non) (ix.map fun i=>vs.getD i .non)
 | []=>rfl
 | i::ix=>⟨_,_,rfl,h.getD i,Ats.pick h ix⟩
theorem GE{kf:D->Option (List Key)}{ds:List D}{vs:List V}{keys:List (List Key)}(hkf:∀d k v,d∈ds->kf d=some k->At K M H d v->∃a,v=.ref a/\SqT K H a (k.map kOf))(hs:Ats K M H ds vs)(hK:Keyed kf ds)(hl:keys.length=ds.length)(hk:∀(i:Nat) (x:D),ds[i]?=some x->∃k,keys[i]?=some k/\kf x=some k/\k≠[]):KeysAt K H vs keys:=by
 have from_:∀(i:Nat) (ns:List Key),keys[i]?=some ns->∃x,ds[i]?=some x/\kf x=some ns/\ns≠[]:=fun i ns e=>by
  have hi:i<ds.length:=by rw [← hl]; exact(List.getElem?_eq_some_iff.mp e).1
  obtain⟨k,e1,e2,e3⟩:=hk i ds[i] (List.getElem?_eq_getElem hi)
  rw [e] at e1
  cases e1
  exact⟨ds[i],List.getElem?_eq_getElem hi,e2,e3⟩
 refine⟨hs.length.trans hl.symm,fun i ns e=>?_,fun x hx y hy=>?_,fun x hx=>?_⟩
 ·obtain⟨d,e1,e2,_⟩:=from_ i ns e
  obtain⟨v,e3,h3⟩:=hs.get e1
  obtain⟨a,rfl,h4⟩:=hkf d ns v (List.mem_of_getElem? e1) e2 h3
  exact⟨a,e3,h4⟩
 ·obtain⟨i,hi⟩:=List.mem_iff_getElem?.mp hx
  obtain⟨j,hj⟩:=List.mem_iff_getElem?.mp hy
  obtain⟨d,e1,e2,_⟩:=from_ i x hi
  obtain⟨d',e1',e2',_⟩:=from_ j y hj
  exact hK.2 d (List.mem_of_getElem? e1) d' (List.mem_of_getElem? e1') x y e2 e2'
 ·obtain⟨i,hi⟩:=List.mem_iff_getElem?.mp hx
  obtain⟨d,e1,e2,e3⟩:=from_ i x hi
  exact e3
theorem GF{d:D}{k:List Key}{v:V}(e:CZ d=some k)(h:At K M H d v):∃a,v=.ref a/\SqT K H a (k.map kOf):=by
 cases d with
 | tup xs =>
  obtain⟨a,vs,e1,hn,hs⟩:=h
  have:=FU (show Hm xs=some k from e) hs
  subst this
  exact⟨a,e1,hn.sq⟩
 | _=>cases e
noncomputable def CL(ds:List D)(P:D->Prop):Prop:=∃d xs,ds=[d]/\Gn d=some xs/\xs.length<64/\Keyed CZ xs/\∀xs':List D,xs'.Perm xs->Fn CZ xs'->P (.lst xs')
theorem En:DP K .fr (PD K) CL:=by
 intro U M H ds vs P Q dom vM hp w q
 obtain⟨d,xs,rfl,e,h64,hK,w⟩:=w
 obtain⟨v,rfl,hx⟩:=Es hp
 obtain⟨κ,a,us,rfl,hs,sq⟩:=Jf (U:=U) hx e (fun _ z=>z) vM
 obtain⟨keys,hl,hk⟩:=El hK.1
 refine⟨κ,a,us,keys,rfl,sq M H (Pres.refl _ _) (Ext.refl _ _),by rw [hs.length]; exact h64,GE (fun d k v _=>GF) hs hK hl hk,fun ix l ho hn=>?_⟩
 obtain⟨o1,o2⟩:=M5 (kf:=CZ) hl (fun i x e=>by obtain⟨k,a,b,_⟩:=hk i x e; exact⟨k,a,b⟩) ho
 exact q _ _ (.lst (ix.map fun i=>xs.getD i .non)) (A1 hn) (C6 hn (hs.pick ix)) (w _ o1 o2)
end
section
variable {X:Cx}{a e:Expr}{κa:Kd}{wa:DW}{pos p fp kp apos cpos:Pos}
noncomputable def Ol(W:W2)(wa:DW):DW:=fun n ρ P=>wa n ρ fun d n1=>∃(xs:List D) (rk:D->D),Gn d=some xs/\xs.length<64/\(∀x∈xs,∀Pd:D->Nat->Prop,Pd (rk x) n1->W [.sh x] n1 Pd)/\Keyed (fun x=>CZ (rk x)) xs /\
 ∀xs':List D,xs'.Perm xs->Fn (fun x=>CZ (rk x)) xs'->P (.lst xs') n1
theorem QM{k:Nat}{fn pn:Str}{W:W2}(G:Got X.prog X.w X.K X.mg X.base fn k [pn] .sh W)(hr:Room (k+2) X.A)(hg:Gl X "sorted")(hm:X.mg "sorted"=none)(hgf:Gl X fn)(he:DE X e κa wa)
  (hs:starEach [e] X.env=[(false,eval e X.env)]:=by rfl) (hdf:(fn==("__debug__" : Str))=false:=by decide):DE X (.Call (.Name "sorted" p) [e] [⟨some "key",.Name fn fp,kp⟩] pos) .fr (Ol W wa):=by
 obtain⟨f,fd,F,hmf,hkf,hb,hW⟩:=G
 obtain⟨t,h1,h2⟩:=he
 refine⟨_,Pb F hr hg hm hgf hmf hb h1 hs hdf,fun C M H n ρ σ P Q R w q=>?_⟩
 refine h2 C M H n ρ σ _ _ R w fun v H1 d n1 e1 f1 r1 p=>?_
 obtain⟨xs,rk,hd,h64,hw,hK,w⟩:=p
 have R1:=R.step e1 f1
 obtain⟨κ,l,us,rfl,hs,sq⟩:=Jf (U:=C.U) (r1.tpOf R.dom R.vM) hd R.uV R1.vM
 obtain⟨keys,hl,hk⟩:=El hK.1
 have hlen:=hs.length
 refine⟨κ,l,us,keys,fun ks H2=>Ext C.U H1 H2/\FeedC X.K C.F M H2 n1/\ks.length<=xs.length/\∀(i:Nat) (k:V),ks[i]?=some k->∃x,xs[i]?=some x/\At X.K M H2 (rk x) k,rfl,sq M H1 (Pres.refl _ _) (Ext.refl _ _),by rw [hlen]; exact h64,⟨Ext.refl _ _,f1,Nat.zero_le _,fun i k z=>absurd (show (none:Option V)=some k from z) (fun h=>nomatch h)⟩,fun ks H2 v hJ hv=>?_,fun ks H2 hJ hkl=>?_⟩
 ·obtain⟨ex,fd2,hle,hat⟩:=hJ
  have R2':=R1.step ex fd2
  have hi:ks.length<xs.length:=by rw [← hlen]; exact(List.getElem?_eq_some_iff.mp hv).1
  have hxi:xs[ks.length]?=some xs[ks.length]:=List.getElem?_eq_getElem hi
  obtain⟨v',e2,hA⟩:=(hs.pres (R1.pres ex)).get hxi
  rw [hv] at e2
  cases e2
  refine⟨rfl,C.F,C.U,C.V,M,n1,[.sh xs[ks.length]],fun d n=>d=rk xs[ks.length]/\n=n1,⟨R2'.dom,R2'.fU,R2'.uV,R2'.vM,fd2,.cons ⟨⟨v,rfl,hA⟩,rfl⟩ .nil⟩,hw _ (List.getElem_mem hi) _ ⟨rfl,rfl⟩,fun r H3 d n' ex3 f3 vr hd=>?_⟩
  obtain⟨rfl,rfl⟩:=hd
  refine⟨ex.trans ex3,f3,by rw [List.length_append,List.length_singleton]; omega,fun i k hik=>?_⟩
  by_cases hlt:i<ks.length
  ·rw [List.getElem?_append_left hlt] at hik
   obtain⟨x,h3,h4⟩:=hat i k hik
   exact⟨x,h3,h4.pres (R2'.pres ex3)⟩
  ·rw [List.getElem?_append_right (by omega)] at hik
   have hi0:i=ks.length:=by
    have:=(List.getElem?_eq_some_iff.mp hik).1
    rw [List.length_singleton] at this
    omega
   subst hi0
   rw [Nat.sub_self] at hik
   cases (show some r=some k from hik)
   exact⟨_,hxi,vr⟩
 ·obtain⟨ex,fd2,hle,hat⟩:=hJ
  have R2':=R1.step ex fd2
  have hkx:ks.length=xs.length:=by rw [hkl,hlen]
  have hs2:Ats X.K M H2 (xs.map rk) ks:=by
   have go:∀(xs:List D) (ks:List V),ks.length=xs.length->(∀(i:Nat) (k:V),ks[i]?=some k->∃x,xs[i]?=some x/\At X.K M H2 (rk x) k)->Ats X.K M H2 (xs.map rk) ks:=by
    intro xs
    induction xs with
    | nil=>intro ks h _; exact List.length_eq_zero_iff.mp h
    | cons x xs ih =>
     intro ks h hh
     cases ks with
     | nil=>cases h
     | cons k ks =>
      obtain⟨x',e3,h3⟩:=hh 0 k rfl
      cases (show some x=some x' from e3)
      exact⟨k,ks,rfl,h3,ih ks (by simpa using h) fun i k' e4=>by
       obtain⟨y,e5,h5⟩:=hh (i+1) k' (by simpa using e4)
       exact⟨y,by simpa using e5,h5⟩⟩
   exact go xs ks hkx hat
  have hK2:Keyed CZ (xs.map rk):=by
   refine⟨fun y hy=>?_,fun y hy z hz ka kb ea eb=>?_⟩
   ·obtain⟨x,hx,rfl⟩:=List.mem_map.mp hy
    exact hK.1 x hx
   ·obtain⟨x,hx,rfl⟩:=List.mem_map.mp hy
    obtain⟨x',hx',rfl⟩:=List.mem_map.mp hz
    exact hK.2 x hx x' hx' ka kb ea eb
  refine⟨GE (fun d k v _=>GF) hs2 hK2 (by rw [hl,List.length_map]) fun i x e=>?_,fun ix l ho hn=>?_⟩
  ·rw [List.getElem?_map] at e
   obtain⟨x',hx',rfl⟩:=Option.map_eq_some_iff.mp e
   exact hk i x' hx'
  ·obtain⟨o1,o2⟩:=M5 (kf:=fun x=>CZ (rk x)) hl (fun i x e=>by obtain⟨k,a,b,_⟩:=hk i x e; exact⟨k,a,b⟩) ho
   have g:Grow H2 (A9 H2 l (.lst (ix.map fun i=>us.getD i .non))):=A1 hn
   refine q _ _ (.lst (ix.map fun i=>xs.getD i .non)) n1 ((e1.trans ex).trans g.ext) (fd2.grow g) (VR.back (e1.trans ex) ?_) (w _ o1 o2)
   exact C6 hn ((hs.pres (R1.pres ex)).pick ix)
noncomputable def T8:Key->D
 | .inl i=>.int i
 | .inr x=>.str x
noncomputable def NB:Key->Prop
 | .inl _=>True
 | .inr x=>x.length<=sizeLine
theorem Tj{K:Frag}{M:Addr->Prop}{H:Hp}{k:Key}(h:NB k):At K M H (T8 k) (kOf k):=by
 cases k with
 | inl i=>exact rfl
 | inr x=>exact⟨rfl,h⟩
end
end Dp
namespace L2
open PySem PySem.Spec PyProof.Rows
section
open PySem.MeetsSeq
open PySem.AutoSeq1 (wpAny_loadPart')
theorem O9(l:Addr)(items:Array Value)(n:Nat)(x:Value)(e:Value->Bool)(j:Nat)(hj:j<items.size)(hit:e items[j]=true)(hs1:items.size<=sizeLine)(prog:Program)(w:World)(A:Around)(R:Result->Shared->Prop)(hp:Heap)(g:Array GenState)(d:Drawn)(tk:Nat)(os:_)
  (hl:hp.get? l=some { cls:=.type "list",dict:=none,data:=.seq items n,slots:=#[] }) (he:∀y,y∈items->PySem.SeqAt.EqAt A.in1 ⟨hp,g,d,tk,os⟩ y x (e y)) (h:R (.ok (.ret .none)) ⟨hp.update l (Obj.mapSeq fun xs=>xs.eraseIdxIfInBounds j),g,d,tk,os⟩) :
  ∀k i:Nat,j - i=k->i<=j->(∀m (hm:m<items.size),i<=m->m<j->e items[m]=false) ->
   wpAny (model prog w) A.in1 (Builtin.«list.remove.loop» ⟨[.ref l,x,rawInt i],[]⟩) (fun fin s'=>match fin with | .done f=>R (.ok f) s' | .again c'=>c'.quiet=true/\codeAny (model prog w) A c' R s') (fun e s'=>R (.error e) s') ⟨hp,g,d,tk,os⟩:=by
 intro k
 induction k with
 | zero =>
  intro i hk hij hno
  have hij':i=j:=by omega
  subst hij'
  wp_walk using wpAny_loadPart' hl
  have hi:items[((i:Nat):Int).toNat]?=some items[i]:=by simp [hj]
  rw [hi]
  refine wpAny_bind (he _ (Array.getElem_mem hj) prog w _ _ ?_)
  rw [hit]
  have hz':(items.eraseIdxIfInBounds i).size<=sizeLine+1:=Nat.le_trans (size_erased items _) (Nat.le_succ_of_le hs1)
  wp_walk using (wpAny_updateSeq hl rfl (hz:=hs1) (_hz':=hz')),wpAny_loadPart' hl
  simpa using h
 | succ k ih =>
  intro i hk hij hno
  have hlt:i<items.size:=by omega
  wp_walk using wpAny_loadPart' hl
  have hi:items[((i:Nat):Int).toNat]?=some items[i]:=by simp [hlt]
  have hc:((i:Int)+1)=((i+1:Nat):Int):=by push_cast; rfl
  rw [hi]
  refine wpAny_bind (he _ (Array.getElem_mem hlt) prog w _ _ ?_)
  rw [hno i hlt (Nat.le_refl _) (by omega)]
  wp_walk
  rw [hc]
  exact⟨plainId_quiet plain_remove_loop _,codeAny_builtin entry_remove_loop (by
   rw [Around.under_plainId plain_remove_loop _]
   exact ih (i+1) (by omega) (by omega) (fun m hm h1 h2=>hno m hm (by omega) h2))⟩
theorem O_{prog:Program}{w:World}{A:Around}{E:Value->Shared->Prop}{s:Shared}{Q:Value->Shared->Prop}(l:Addr)(items:Array Value)(n:Nat)(x:Value)(e:Value->Bool)(j:Nat)(hj:j<items.size)(hit:e items[j]=true)(hno:∀m (hm:m<items.size),m<j->e items[m]=false)
  (hs1:items.size<=sizeLine) (hl:s.heap.get? l=some { cls:=.type "list",dict:=none,data:=.seq items n,slots:=#[] }) (he:∀y,y∈items->PySem.SeqAt.EqAt A.in1 s y x (e y))
  (h:Q .none { s with heap:=s.heap.update l (Obj.mapSeq fun xs=>xs.eraseIdxIfInBounds j) }):wpAny (model prog w) A (call (.builtin "list.remove") [.ref l,x]) Q E s:=by
 have key:wpAny (model prog w) A.in1 (Builtin.«list.remove» ⟨[.ref l,x],[]⟩) (fun fin s'=>match fin with | .done f=>wants Q E (.ok f) s' | .again c'=>c'.quiet=true/\codeAny (model prog w) A c' (wants Q E) s') (fun e s'=>wants Q E (.error e) s') s:=by
  obtain⟨hp,g,d,tk,os⟩:=s
  wp_walk using wpAny_loadPart' hl
  exact⟨plainId_quiet plain_remove_loop _,codeAny_builtin entry_remove_loop (by
   rw [Around.under_plainId plain_remove_loop _]
   exact O9 l items n x e j hj hit hs1 prog w A (wants Q E) hp g d tk os hl he h _ 0 rfl (Nat.zero_le _) (fun m hm _ h2=>hno m hm h2))⟩
 exact wpAny_call (codeAny_call_builtin PySem.F.slot_list_remove.plain PySem.F.entry_list_remove (PySem.F.slot_list_remove.check _ _ _ _ _ _ _ _ ⟨_,hl,rfl⟩ (PySem.F.args_list_remove_2 _ _) key))
end
section
variable {X:Cx}
noncomputable def Ml:V->List V->Hp->VK->Prop:=fun x vs H Q=>∃(l:Addr) (xs:List V) (y:V) (ds:List PyData) (d:PyData) (j:Nat),x=.ref l/\vs=[y]/\H l=some (.lst xs)/\RVs H ds xs/\RV H d y/\PyData.canLayAll0 ds=true/\d.canLay0=true/\d.depth<=100 /\
 (∃dj,ds[j]?=some dj/\PyData.eqv dj d=true)/\(∀m dm,m<j->ds[m]?=some dm->PyData.eqv dm d=false)/\Q .non (A9 H l (.lst (xs.eraseIdx j)))
theorem OA{k:Nat}(hr:Room k X.A):Vw X "list.remove" Ml:=by
 intro pins s σ H x vs v us Q I rx rv h
 obtain⟨l,xs,y,ds,d,j,rfl,rfl,hH,hds,hd,c1,c2,dd,⟨dj,hj,hit⟩,hno,q⟩:=h
 cases rx
 obtain⟨u,rfl,ru⟩:=rv.one
 obtain⟨z,its,n,r,hl,e⟩:=I.lstM hH
 obtain⟨as,ra⟩:=RVs.reads I hds r
 obtain⟨bs,rb⟩:=RV.reads I hd ru
 have hm:=PySem.SeqAt.readsAll_map ds its as c1 ra
 have hlen:ds.length=its.length:=by rw [← hm,List.length_map]
 have hu:=hr.un
 have hmin:min (PyData.depthAll ds) d.depth<=d.depth:=Nat.min_le_right _ _
 have at_:∀m dm,ds[m]?=some dm->∀(h:m<its.toArray.size),PySem.SeqAt.readOf s.heap its.toArray[m]=dm:=fun m dm e h=>by
  rw [← hm,List.getElem?_map] at e
  have h':m<its.length:=by simpa using h
  rw [List.getElem?_eq_getElem h'] at e
  have e:=Option.some.inj e
  simpa using e
 have hjl:j<its.length:=by rw [← hlen]; exact(List.getElem?_eq_some_iff.mp hj).1
 refine O_ l its.toArray n u (fun y=>PyData.eqv (PySem.SeqAt.readOf s.heap y) d) j (by rw [List.size_toArray]; exact hjl) (by rw [at_ j dj hj]; exact hit) (fun m hm' hlt=>?_) (by rw [List.size_toArray]; omega) e (PySem.SeqAt.items_eqAt (vs:=its.toArray) (by rw [List.toList_toArray]; exact ra) rb c1 c2 (by omega)) ?_
 ·have hml:m<ds.length:=by rw [hlen]; simpa using hm'
  rw [at_ m ds[m] (List.getElem?_eq_getElem hml) hm']
  exact hno m ds[m] hlt (List.getElem?_eq_getElem hml)
 ·refine⟨.non,_,I.lset (t':=s.toks) (its':=its.eraseIdx j) hH e ?_ (r.eraseIdx j) ?_,rfl,q⟩
  ·show its.toArray.eraseIdxIfInBounds j=(its.eraseIdx j).toArray
   rw [List.eraseIdxIfInBounds_toArray]
  ·have:=GB xs j
   omega
end
end L2
namespace Dp
open PySem PySem.Spec PyProof.Rows L2
noncomputable def Ur(d:D)(ds:List D)(P:D->D->Prop):Prop:=∃(xs:List D) (y:D) (j:Nat),d=.lst xs/\ds=[y]/\GD (.lst xs)/\GD y/\(∃x,xs[j]?=some x/\OR x y=true)/\(∀m x,m<j->xs[m]?=some x->OR x y=false)/\P (.lst (xs.eraseIdx j)) .non
theorem U0{K:Frag}:Rl K Ml Ur:=by
 intro M H a d ds vs P Q m t hv w q
 obtain⟨xs,y,j,rfl,rfl,⟨n1,l1,_⟩,⟨n2,l2,d2⟩,⟨x,hx,hit⟩,hno,w⟩:=w
 obtain⟨us,h1,h2⟩:=t
 obtain⟨u,r,rfl,hu,hr⟩:=hv
 cases (show r=[] from hr)
 have get:∀(m:Nat) (p:PyData),(B5 xs)[m]?=some p->∃x,xs[m]?=some x/\p=toPy x:=fun m p e=>by
  rw [Ei,List.getElem?_map] at e
  obtain⟨x,e1,rfl⟩:=Option.map_eq_some_iff.mp e
  exact⟨x,e1,rfl⟩
 refine⟨a,us,u,B5 xs,toPy y,j,rfl,rfl,h1,h2.rv n1,hu.rv n2,l1,l2,d2,⟨toPy x,by rw [Ei,List.getElem?_map,hx]; rfl,hit⟩,fun m p hm e=>?_,q _ (.lst (xs.eraseIdx j)) .non _ ⟨us.eraseIdx j,AV,?_⟩ rfl w⟩
 ·obtain⟨x',e1,rfl⟩:=get m p e
  exact hno m x' hm e1
 ·exact(h2.eraseIdx j).pres (Dr m)
noncomputable def G8(c:G5)(wb:Ab):Ab:=fun D2 n ρ=>∃W:Nat->Nat->List Slot->Prop,(∃m,W m n ρ)/\∀m n ρ,W m n ρ ->
 c n ρ fun b n1=>if b=true then ∃N:Nat->List Slot->Prop,(∀n' ρ',N n' ρ'->∃m',m'<m/\W m' n' ρ')/\wb { D2 with nx:=N,ct:=N,bk:=D2.nx } n1 ρ else D2.nx n1 ρ
section
variable {X:Cx}{κ:Kd}{c:Expr}{body:List Stmt}{wc:G5}{wb:Ab}{pos:Pos}
theorem H_(hp:PassesOwn (model X.prog X.w) X.A X.env X.xe)(hc:DT X c wc)(hb:Qf X κ body wb):DS X κ (.While c body [] pos) (G8 wc wb):=by
 obtain⟨tc,c1,c2⟩:=hc
 obtain⟨tb,b1,b2⟩:=hb
 refine⟨_,PQ hp c1 b1,fun C M H n ρ σ D2 E R L w=>?_⟩
 obtain⟨W,⟨m0,w0⟩,turn⟩:=w
 refine⟨fun m σ' H'=>∃M' n' ρ',Rel X.K C M' H' n' ρ' σ'/\W m n' ρ',⟨m0,M,n,ρ,R,w0⟩,?_⟩
 rintro m σ' H' ⟨M',n',ρ',R',w'⟩
 refine c2 C M' H' n' ρ' σ' _ _ R' (turn m n' ρ' w') fun b H2 n2 e f p=>?_
 have R2:=R'.step e f
 cases b with
 | true =>
  rw [if_pos rfl] at p ⊢
  obtain⟨N,hN,p⟩:=p
  refine⟨fun σ3 H3=>∃M3 n3 ρ3,Rel X.K C M3 H3 n3 ρ3 σ3/\N n3 ρ3,fun σ3 H3 ⟨M3,n3,ρ3,R3,w3⟩=>?_,?_⟩
  ·obtain⟨m',hm,w4⟩:=hN n3 ρ3 w3
   exact⟨m',hm,M3,n3,ρ3,R3,w4⟩
  ·exact b2 C M' H2 n2 ρ' σ' { D2 with nx:=N,ct:=N,bk:=D2.nx } _ R2 ⟨fun M4 H4 n4 ρ4 σ4 R4 w4=>⟨M4,n4,ρ4,R4,w4⟩,L.rt,fun M4 H4 n4 ρ4 σ4 R4 w4=>L.nx M4 H4 n4 ρ4 σ4 R4 w4,fun M4 H4 n4 ρ4 σ4 R4 w4=>⟨M4,n4,ρ4,R4,w4⟩⟩ p
 | false =>
  rw [if_neg (by decide)] at p ⊢
  exact L.nx M' H2 n2 ρ' σ' R2 p
theorem Fq{D2:E2}{n:Nat}{ρ:List Slot}(I:Nat->Nat->List Slot->Prop)(m0:Nat)(h0:I m0 n ρ)
  (hs:∀m n ρ (N:Nat->List Slot->Prop),I m n ρ->(∀m' n' ρ',m'<m->I m' n' ρ'->N n' ρ')->wc n ρ fun b n1=>if b=true then wb { D2 with nx:=N,ct:=N,bk:=D2.nx } n1 ρ else D2.nx n1 ρ)
  (mono:∀n ρ (P Q:Bool->Nat->Prop),(∀b n1,P b n1->Q b n1)->wc n ρ P->wc n ρ Q):G8 wc wb D2 n ρ:=by
 refine⟨I,⟨m0,h0⟩,fun m n ρ h=>?_⟩
 refine mono n ρ _ _ (fun b n1 p=>?_) (hs m n ρ (fun n' ρ'=>∃m',m'<m/\I m' n' ρ') h fun m' n' ρ' hm hi=>⟨m',hm,hi⟩)
 cases b with
 | true=>rw [if_pos rfl] at p ⊢; exact⟨_,fun _ _ z=>z,p⟩
 | false=>exact p
end
section
variable {X:Cx}{κ:Kd}{tg:Expr}{body:List Stmt}{b:BW}{wb:Ab}{pos p:Pos}{x:Str}{i:Nat}
end
end Dp
namespace Nt
open PySem PySem.Spec PyProof.Rows L2 Dp
noncomputable def UE(s t:Ap):Decidable (s=t) :=
 if h:s.a=t.a/\s.b=t.b/\s.len=t.len then .isTrue (by obtain⟨a,b,l⟩:=s; obtain⟨a',b',l'⟩:=t; obtain⟨h1,h2,h3⟩:=h; simp only at h1 h2 h3; subst h1 h2 h3; rfl) else .isFalse fun e=>h (by rw [e]; exact⟨rfl,rfl,rfl⟩)
noncomputable instance:DecidableEq Ap:=UE
noncomputable abbrev EF(Pd:D->Nat->Prop):E2:={ nx:=fun n _=>Kd.fr=.sh/\Pd .non n,rt:=Pd }
noncomputable def HP(t:Ap):List Key:=[.inl t.len,.inr t.a,.inr t.b]
noncomputable def EO(ts:List Ap):Prop:=ts.Pairwise fun s t=>Bh (HP t) (HP s)=false
noncomputable def Kz:D->D
 | .tup [x,y,z]=>.tup [z,x,y]
 | d=>d
noncomputable def VG(x:Str×Int):D:=.tup [.str x.1,.int x.2]
noncomputable abbrev Lh:W2:=fun ss n P=>∃x y z:D,ss=[.sh (.tup [x,y,z])]/\P (.tup [z,x,y]) n
noncomputable def Cd:W2:=fun ss n P=>∃(d:D) (ts:List Ap),ss=[.sh d]/\Gn d=some (ts.map Aa)/\ts.length<64/\∀ts':List Ap,ts'.Perm ts->EO ts'->P (.lst (ts'.map Aa)) n
noncomputable def JR:Ab:=(BA (Az (AB (Ak Cj (AE 0) (wC (D.int 2))) (AB (Ak Cj (AE 0) (wC (D.int 0))) (AB (Ak Cj (AE 0) (wC (D.int 1))) AN)))))
noncomputable def IH:Ab:=(BA (Ol Lh (AE 0)))
theorem O8{s t:Ap}(h:HP s=HP t):s=t:=by
 obtain⟨a,b,l⟩:=s
 obtain⟨a',b',l'⟩:=t
 unfold HP at h
 simp only [List.cons.injEq,Sum.inl.injEq,Sum.inr.injEq,and_true] at h
 obtain⟨rfl,rfl,rfl⟩:=h
 rfl
theorem Js{α:Type}{R:α->α->Prop}(anti:∀a b,R a b->R b a->a=b):∀{l1 l2:List α},l1.Perm l2->l1.Pairwise R->l2.Pairwise R->l1=l2
 | [],l2,p,_,_=>(List.nil_perm.mp p).symm
 | a::l1,[],p,_,_=>absurd (List.perm_nil.mp p) (List.cons_ne_nil _ _)
 | a::l1,b::l2,p,h1,h2=>by
  have e:a=b:=by
   rcases List.mem_cons.mp (p.mem_iff.mp List.mem_cons_self) with e | h
   ·exact e
   ·rcases List.mem_cons.mp (p.mem_iff.mpr (List.mem_cons_self (a:=b) (l:=l2))) with e | h'
    ·exact e.symm
    ·exact anti a b ((List.pairwise_cons.mp h1).1 b h') ((List.pairwise_cons.mp h2).1 a h)
  subst e
  rw [Js anti ((List.perm_cons a).mp p) (List.pairwise_cons.mp h1).2 (List.pairwise_cons.mp h2).2]
theorem GU{l1 l2:List Ap}(p:l1.Perm l2)(h1:EO l1)(h2:EO l2):l1=l2:=Js (fun a b x y=>O8 (CY _ _ y x)) p h1 h2
theorem Md{α:Type}{f:α->D}{g:D->α}(hg:∀x,g (f x)=x){xs:List D}{ts:List α}(h:xs.Perm (ts.map f)):∃ts':List α,ts'.Perm ts/\xs=ts'.map f:=by
 refine⟨xs.map g,?_,?_⟩
 ·have:=h.map g
  rw [List.map_map,show g∘f=id from funext hg,List.map_id] at this
  exact this
 ·rw [List.map_map]
  have:∀x∈xs,(f∘g) x=x:=fun x hx=>by
   obtain⟨t,_,rfl⟩:=List.mem_map.mp (h.mem_iff.mp hx)
   show f (g (f t))=f t
   rw [hg]
  rw [List.map_congr_left this,List.map_id']
noncomputable def Tg:D->Ap
 | .tup [.str a,.str b,.int l]=>⟨a,b,l⟩
 | _=>⟨"","",0⟩
section
variable {ss:List Slot}{n:Nat}{Pd:D->Nat->Prop}
theorem L3(h:Lh ss n Pd):JR (EE Pd) n (ss++List.replicate 0 .no):=by
 obtain⟨x,y,z,rfl,p⟩:=h
 unfold JR
 exact⟨_,Aj (j:=2) rfl,_,Aj (j:=0) rfl,_,Aj (j:=1) rfl,z3,p⟩
theorem Ph{ts:List Ap}(h:Fn (fun x=>CZ (Kz x)) (ts.map Aa)):EO ts:=by
 unfold Fn at h
 rw [List.pairwise_map] at h
 exact h.imp fun {s t} z=>z _ _ rfl rfl
theorem Kx(h:Cd ss n Pd):IH (EF Pd) n (ss++List.replicate 0 .no):=by
 obtain⟨d,ts,rfl,hd,h64,p⟩:=h
 unfold IH
 refine⟨ts.map Aa,Kz,hd,by rw [List.length_map]; exact h64,fun x hx Q hq=>?_,⟨fun x hx=>?_,fun x hx y hy ka kb ea eb=>?_⟩,fun xs' hp ho=>?_⟩
 ·obtain⟨t,_,rfl⟩:=List.mem_map.mp hx
  exact⟨_,_,_,rfl,hq⟩
 ·obtain⟨t,_,rfl⟩:=List.mem_map.mp hx
  exact⟨HP t,rfl,List.cons_ne_nil _ _⟩
 ·obtain⟨t,_,rfl⟩:=List.mem_map.mp hx
  obtain⟨u,_,rfl⟩:=List.mem_map.mp hy
  cases (show some (HP t)=some ka from ea)
  cases (show some (HP u)=some kb from eb)
  rfl
 ·obtain⟨ts',h1,rfl⟩:=Md (g:=Tg) (fun _=>rfl) hp
  exact p ts' h1 (Ph ho)
theorem J3{N:Net}(ok:N.Ok){x:Str}{p:Str×Int}(h:p∈DB N.ts x):p.1∈N.ps/\1<=p.2/\p.2<=1000000/\∃t∈N.ts,t.len=p.2/\((t.a=x/\t.b=p.1)\/(t.b=x/\t.a=p.1)):=by
 unfold DB at h
 obtain⟨t,ht,h⟩:=List.mem_flatMap.mp h
 obtain⟨m1,m2,m3,m4,m5⟩:=ok.tin t ht
 rcases List.mem_append.mp h with h | h
 ·split at h
  ·rename_i e
   rw [List.mem_singleton.mp h]
   exact⟨m2,m4,m5,t,ht,rfl,.inl ⟨e,rfl⟩⟩
  ·cases h
 ·split at h
  ·rename_i e
   rw [List.mem_singleton.mp h]
   exact⟨m1,m4,m5,t,ht,rfl,.inr ⟨e,rfl⟩⟩
  ·cases h
theorem NK(s t:Ap):OR (Aa s) (Aa t)=true↔s=t:=by
 obtain⟨a,b,l⟩:=s
 obtain⟨a',b',l'⟩:=t
 show (a==a'&&(b==b'&&(l==l'&&true)))=true↔_
 rw [Bool.and_true,Bool.and_eq_true,Bool.and_eq_true,beq_iff_eq,beq_iff_eq,beq_iff_eq]
 constructor
 ·rintro ⟨rfl,rfl,rfl⟩; rfl
 ·rintro h; cases h; exact⟨rfl,rfl,rfl⟩
theorem GC{xs:List D}(h:∀d∈xs,item d):GD (.lst xs):=by
 have d1:JK xs<=1:=dps_le.mpr fun d hd=>(h d hd).2.2
 exact J5 (B:=1000001) (by decide) (fines_iff.mpr fun d hd=>(h d hd).1) (by show JK xs+1<=100; omega)
theorem GH{α β:Type}(f:α->β):∀(l:List α) (i:Nat),(l.map f).eraseIdx i=(l.eraseIdx i).map f
 | [],i=>rfl
 | x::l,0=>rfl
 | x::l,i+1=>by
  show f x::(l.map f).eraseIdx i=f x::(l.eraseIdx i).map f
  rw [GH f l i]
theorem RS{N:Net}(ok:N.Ok){x o:Str}{s t:Ap}(hs:s∈N.ts)(ht:t∈N.ts)(e:B6 s t)(h1:(s.a=x/\s.b=o)\/(s.b=x/\s.a=o))(h2:(t.a=x/\t.b=o)\/(t.b=x/\t.a=o)):False:=by
 have ls:=(ok.tin s hs).2.2.1
 have lt:=(ok.tin t ht).2.2.1
 have irr:∀a:Str,¬cs a<cs a:=fun a=>List.lt_irrefl _
 rcases h1 with ⟨a1,b1⟩ | ⟨a1,b1⟩ <;> rcases h2 with ⟨a2,b2⟩ | ⟨a2,b2⟩ <;> rw [a1,b1] at ls <;> rw [a2,b2] at lt
 ·rcases e with e | ⟨_,e⟩
  ·rw [a1,a2] at e; exact irr _ e
  ·rw [b1,b2] at e; exact irr _ e
 ·exact irr _ (List.lt_trans ls lt)
 ·exact irr _ (List.lt_trans ls lt)
 ·rcases e with e | ⟨_,e⟩
  ·rw [b1,b2] at e; exact irr _ e
  ·rw [a1,a2] at e; exact irr _ e
theorem N8{N:Net}(ok:N.Ok)(x:Str):((DB N.ts x).map (·.1)).Nodup:=by
 have go:∀ts:List Ap,(∀t∈ts,t∈N.ts)->ts.Pairwise B6->((DB ts x).map (·.1)).Nodup:=by
  intro ts
  induction ts with
  | nil=>intro _ _; exact List.nodup_nil
  | cons t ts ih =>
   intro hin hp
   have i1:=ih (fun s hs=>hin s (List.mem_cons_of_mem _ hs)) (List.pairwise_cons.mp hp).2
   have lt:=(ok.tin t (hin t List.mem_cons_self)).2.2.1
   have new:∀y,((t.a=x/\t.b=y)\/(t.b=x/\t.a=y))->y∉(DB ts x).map (·.1):=fun y hy hm=>by
    obtain⟨s,hs,h⟩:=J1 hm
    exact RS ok (hin t List.mem_cons_self) (hin s (List.mem_cons_of_mem _ hs)) ((List.pairwise_cons.mp hp).1 s hs) hy h
   have e:DB (t::ts) x=((if t.a=x then [(t.b,t.len)] else [])++(if t.b=x then [(t.a,t.len)] else []))++DB ts x:=by
    unfold DB
    rw [List.flatMap_cons]
   rw [e]
   by_cases h1:t.a=x
   ·have h2:¬t.b=x:=fun z=>by rw [h1,z] at lt; exact List.lt_irrefl _ lt
    rw [if_pos h1,if_neg h2,List.append_nil,List.singleton_append,List.map_cons,List.nodup_cons]
    exact⟨new _ (.inl ⟨h1,rfl⟩),i1⟩
   ·rw [if_neg h1,List.nil_append]
    by_cases h2:t.b=x
    ·rw [if_pos h2,List.singleton_append,List.map_cons,List.nodup_cons]
     exact⟨new _ (.inr ⟨h2,rfl⟩),i1⟩
    ·rw [if_neg h2,List.nil_append]
     exact i1
 exact go N.ts (fun _ h=>h) ok.trise
end
noncomputable def E5(t:Ap):List Key:=[.inr t.a,.inr t.b,.inl t.len]
noncomputable def QE(t:Ap):List Key:=[.inr t.a,.inr t.b]
noncomputable def Ey(ts:List Ap):Prop:=ts.Pairwise fun s t=>Bh (E5 t) (E5 s)=false
theorem ekey_iff{s t:Ap}:Bh (QE s) (QE t)=true↔B6 s t:=by
 show (if (Sum.inr s.a:Key)=.inr t.a then (if (Sum.inr s.b:Key)=.inr t.b then false else decide (cs s.b<cs t.b)) else decide (cs s.a<cs t.a))=true↔(cs s.a<cs t.a\/(s.a=t.a/\cs s.b<cs t.b))
 by_cases h1:s.a=t.a
 ·rw [if_pos (by rw [h1])]
  by_cases h2:s.b=t.b
  ·rw [if_pos (by rw [h2]),h1,h2]
   constructor
   ·intro h; cases h
   ·rintro (h | ⟨_,h⟩)
    ·exact absurd h (BV _)
    ·exact absurd h (BV _)
  ·rw [if_neg (fun e=>h2 (Sum.inr.inj e)),decide_eq_true_eq,h1]
   constructor
   ·intro h; exact .inr ⟨rfl,h⟩
   ·rintro (h | ⟨_,h⟩)
    ·exact absurd h (BV _)
    ·exact h
 ·rw [if_neg (fun e=>h1 (Sum.inr.inj e)),decide_eq_true_eq]
  constructor
  ·intro h; exact .inl h
  ·rintro (h | ⟨h,_⟩)
   ·exact h
   ·exact absurd h h1
theorem Ij(s:Ap):¬B6 s s:=by
 rintro (h | ⟨_,h⟩) <;> exact BV _ h
theorem Mf{s t:Ap}(h:B6 s t):Bh (E5 s) (E5 t)=true:=by
 show (if (Sum.inr s.a:Key)=.inr t.a then (if (Sum.inr s.b:Key)=.inr t.b then (if (Sum.inl s.len:Key)=.inl t.len then false else decide (s.len<t.len)) else decide (cs s.b<cs t.b)) else decide (cs s.a<cs t.a))=true
 rcases h with h | ⟨h,h'⟩
 ·rw [if_neg (fun e=>BV s.a (by rw [Sum.inr.inj e] at h ⊢; exact h)),decide_eq_true h]
 ·rw [if_pos (by rw [h]),if_neg (fun e=>BV s.b (by rw [Sum.inr.inj e] at h' ⊢; exact h')),decide_eq_true h']
theorem BN{ts:List Ap}(h:ts.Pairwise B6):ts.Nodup:=h.imp fun {s t} h e=>by rw [e] at h; exact Ij _ h
theorem sub_len{l m:List Ap}(hl:l.Nodup)(hm:m.Nodup)(h:∀t∈l,t∈m):l.length<=m.length:=by
 have:l.Perm (m.filter fun t=>decide (t∈l)):=(List.perm_ext_iff_of_nodup hl (hm.filter _)).mpr fun t=>by
  rw [List.mem_filter,decide_eq_true_eq]
  exact⟨fun z=>⟨h t z,z⟩,fun z=>z.2⟩
 rw [this.length_eq]
 exact List.length_filter_le _ _
theorem Lv{N:Net}(ok:N.Ok){ts:List Ap}(h:∀t∈ts,t∈N.ts)(hp:ts.Pairwise B6):Net.Ok ⟨N.ps,ts⟩:=⟨ok.names,ok.rise,fun t ht=>ok.tin t (h t ht),hp⟩
end Nt
namespace L2
open PySem PySem.Spec PyProof.Rows PySem.W
section
variable {X:Cx}
end
end L2
namespace Dp
open PySem PySem.Spec PyProof.Rows L2
section
variable {X:Cx}{K:Frag}
end
end Dp
namespace Nt
open PySem PySem.Spec PyProof.Rows L2 Dp
noncomputable def look(ts:List Ap)(x y:Str):Option Int:=((DB ts x).find? fun z=>decide (z.1=y)).map (·.2)
noncomputable def Ig(ts:List Ap):Str->List Str->Int->Option Int
 | _,[],s=>some s
 | x,y::r,s=>match look ts x y with
  | some l=>Ig ts y r (s+l)
  | none=>none
noncomputable def Sw:Option Int->D
 | some i=>.int i
 | none=>.non
noncomputable def Dt:D->Bool
 | .str _=>true
 | _=>false
noncomputable def TF(N:Net):List Str->D
 | x::r=>if x∈N.ps then Sw (Ig N.ts x r 0) else .non
 | []=>.non
noncomputable def Ui(N:Net):D->D
 | .tup xs=>if xs.all Dt then TF N (strsOf xs) else .non
 | _=>.non
noncomputable def Uq(d:D):Prop:=Hv (10 ^ 30) d/\O2 d<=60000/\QI d<=50
noncomputable abbrev Qd:W2:=fun ss n P=>∃(N:Net) (d:D),ss=[.sh (enc N),.sh d]/\N.Ok/\N.ps.length<=26/\N.ts.length<=60/\Uq d/\P (Ui N d) n
noncomputable def La:Ab:=(Ag (Bq (Om (GQ (Am (Sa "tuple" (AE 1)))) (Am (Ak (QA false) (C1 KH (AB (AE 1) AN)) (wC (D.int 0))))) (BA (wC D.non)) BB)
 (Ag (Bq (GQ (Am (C1 Uv (AB (DF [none] (A_ (AE 1)) (AW 0) E4 (Sa "str" (AE 0))) AN)))) (BA (wC D.non)) BB)
 (Ag (BZ 2 (AR Ec (AD (AK (AE 0)) AT)))
 (Ag (Bq (Am (Ak (Ii true) (Ak Cj (AE 1) (wC (D.int 0))) (AE 2))) (BA (wC D.non)) BB)
 (Ag (BZ 3 (wC (D.int 0)))
 (Ag (D7 (Qk (AB (AE 1) (AB (SY KD (AE 1) (GP (wC (D.int 1))) DD) AN))) (Df 2 (AY (AW 4) (AY (AW 5) B8))) (Ag (Bq (Am (Ak (Ii true) (AE 5) (Ak Bl (AE 2) (AE 4)))) (BA (wC D.non)) BB)
 (Os 3 (Ak Bl (Ak Bl (AE 2) (AE 4)) (AE 5)))))
 (BA (AE 3))))))))
theorem Kq:∀{xs:List D},xs.all Dt=true->∃ys:List Str,xs=ys.map .str
 | [],_=>⟨[],rfl⟩
 | d::r,h=>by
  rw [List.all_cons,Bool.and_eq_true] at h
  obtain⟨ys,e⟩:=Kq h.2
  cases d with
  | str x=>exact⟨x::ys,by rw [List.map_cons,e]⟩
  | _=>cases h.1
theorem all_strs(ys:List Str):(ys.map D.str).all Dt=true:=by rw [List.all_map]; exact List.all_eq_true.mpr fun _ _=>rfl
theorem JZ{g:Str->D}{x:Str}:∀{ps:List Str},BH (ps.map .inr) (ps.map g) (.inr x)=if x∈ps then some (g x) else none
 | []=>rfl
 | p::ps=>by
  show (if (Sum.inr p:Key)=.inr x then some (g p) else BH (ps.map .inr) (ps.map g) (.inr x))=_
  rw [JZ (ps:=ps)]
  by_cases e:p=x
  ·subst e; rw [if_pos rfl,if_pos List.mem_cons_self]
  ·rw [if_neg (fun z=>e (Sum.inr.inj z))]
   by_cases h:x∈ps
   ·rw [if_pos h,if_pos (List.mem_cons_of_mem _ h)]
   ·rw [if_neg h,if_neg (fun z=>(List.mem_cons.mp z).elim (fun z=>e z.symm) h)]
theorem Gx{y:Str}:∀{xs:List (Str×Int)},BH (xs.map fun x=>.inr x.1) (xs.map fun x=>.int x.2) (.inr y)=((xs.find? fun z=>decide (z.1=y)).map (·.2)).map .int
 | []=>rfl
 | p::ps=>by
  show (if (Sum.inr p.1:Key)=.inr y then some (D.int p.2) else BH (ps.map fun x=>.inr x.1) (ps.map fun x=>.int x.2) (.inr y))=_
  rw [Gx (xs:=ps)]
  by_cases e:p.1=y
  ·rw [if_pos (by rw [e]),List.find?_cons_of_pos (by exact decide_eq_true e)]; rfl
  ·rw [if_neg (fun z=>e (Sum.inr.inj z)),List.find?_cons_of_neg (by rw [decide_eq_true_eq]; exact e)]
theorem Po{N:Net}(ok:N.Ok){x y:Str}{l:Int}(h:look N.ts x y=some l):y∈N.ps/\1<=l/\l<=1000000:=by
 unfold look at h
 cases c:(DB N.ts x).find? fun z=>decide (z.1=y) with
 | none=>rw [c] at h; cases h
 | some z =>
  rw [c] at h
  cases h
  have h1:=List.find?_some c
  have h2:=List.mem_of_find?_eq_some c
  obtain⟨t,ht,hz⟩:=List.mem_flatMap.mp h2
  obtain⟨m1,m2,_,m3,m4⟩:=ok.tin t ht
  have ey:z.1=y:=of_decide_eq_true h1
  rcases List.mem_append.mp hz with hz | hz
  ·split at hz
   ·cases List.mem_singleton.mp hz
    exact⟨by rw [← ey]; exact m2,m3,m4⟩
   ·cases hz
  ·split at hz
   ·cases List.mem_singleton.mp hz
    exact⟨by rw [← ey]; exact m1,m3,m4⟩
   ·cases hz
section
variable {ss:List Slot}{n:Nat}{Pd:D->Nat->Prop}
theorem LG{N:Net}(ok:N.Ok){D2:E2}{b0 b1:Slot}:∀(r:List Str) (x:Str) (s:Int) (s4 s5:Slot),x∈N.ps->(match Ig N.ts x r s with | some l=>∀s4 s5,D2.nx n [b0,b1,.sh (Dn N),.sh (.int l),s4,s5] | none=>D2.rt .non n) ->
  BM (Df 2 (AY (AW 4) (AY (AW 5) B8))) (Ag (Bq (Am (Ak (Ii true) (AE 5) (Ak Bl (AE 2) (AE 4)))) (BA (wC D.non)) BB) (Os 3 (Ak Bl (Ak Bl (AE 2) (AE 4)) (AE 5)))) D2 (FF ((x::r).map .str) (r.map .str)) n [b0,b1,.sh (Dn N),.sh (.int s),s4,s5]
 | [],x,s,s4,s5,hx,h=>h s4 s5
 | y::r,x,s,s4,s5,hx,h=>by
  have v1:BH (N.ps.map .inr) (N.ps.map (N9 N.ts)) (.inr x)=some (N9 N.ts x):=by rw [JZ,if_pos hx]
  refine⟨rfl,rfl,?_⟩
  refine⟨_,_,.inr x,_,rfl,rfl,v1,_,_,.inr y,rfl,rfl,?_⟩
  show if (!(BH ((DB N.ts x).map fun z=>.inr z.1) ((DB N.ts x).map fun z=>.int z.2) (.inr y)).isSome)=true then _ else _
  rw [Gx]
  unfold Ig at h
  have hl:((DB N.ts x).find? fun z=>decide (z.1=y)).map (·.2)=look N.ts x y:=rfl
  rw [hl]
  cases c:look N.ts x y with
  | none=>rw [c] at h; exact Hq h
  | some l =>
   rw [c] at h
   have v2:BH ((DB N.ts x).map fun z=>.inr z.1) ((DB N.ts x).map fun z=>.int z.2) (.inr y)=some (.int l):=by rw [Gx,hl,c]; rfl
   refine Ih ⟨s,rfl,_,_,.inr x,_,rfl,rfl,v1,_,_,.inr y,_,rfl,rfl,v2,l,rfl,?_⟩
   exact LG ok r y (s+l) _ _ (Po ok c).1 h
theorem Jm(h0:Qd ss n Pd):La (EE Pd) n (ss++List.replicate 4 .no):=by
 obtain⟨N,d,rfl,ok,lp,lt,fd,p⟩:=h0
 cases d with
 | tup xs =>
  have hl:=Mh xs
  have hz:Lu xs<=60000:=fd.2.1
  have p':Pd (if xs.all Dt then TF N (strsOf xs) else .non) n:=p
  refine⟨_,_,rfl,rfl,?_⟩
  show if ((xs.length:Int)==0)=true then _ else _
  cases xs with
  | nil=>exact Hq p'
  | cons x0 r0 =>
   rw [show (((x0::r0).length:Int)==0)=false from beq_eq_false_iff_ne.mpr (by rw [List.length_cons]; omega)]
   refine Ih ⟨by omega,?_⟩
   refine B4 (fun d=>.bl (Dt d)) (fun ρ=>∃s,ρ=[s]) _ _ _ _ ?_ ⟨_,rfl⟩ ?_
   ·rintro d hd ρ m nx ⟨s,rfl⟩ hnx
    have:=hnx [.sh d] ⟨_,rfl⟩
    cases d <;> exact this
   rw [List.nil_append]
   refine⟨_,_,rfl,Lc Dt (x0::r0),?_⟩
   rw [Tr]
   show if (!(x0::r0).all Dt)=true then _ else _
   cases ha:(x0::r0).all Dt with
   | false=>rw [ha] at p'; exact Hq p'
   | true =>
    rw [ha] at p'
    obtain⟨ys,e⟩:=Kq ha
    rw [e,HF] at p'
    cases ys with
    | nil=>cases e
    | cons y r =>
     rw [List.map_cons] at e
     cases e
     refine Ih ⟨N,rfl,ok,by omega,by omega,?_⟩
     refine⟨.str y,Aj (j:=0) rfl,_,_,.inr y,rfl,rfl,?_⟩
     show if (!(BH (N.ps.map .inr) (N.ps.map (N9 N.ts)) (.inr y)).isSome)=true then _ else _
     rw [JZ]
     have p2:Pd (if y∈N.ps then Sw (Ig N.ts y r 0) else .non) n:=p'
     by_cases hy:y∈N.ps
     ·rw [if_pos hy] at p2 ⊢
      refine Ih ⟨_,_,(y::r).map .str,r.map .str,rfl,rfl,by show some (Dp.cutD (D.str y::r.map .str) (some 1) none)=_; rw [Uz]; rfl,?_⟩
      refine LG ok r y 0 _ _ hy ?_
      cases c:Ig N.ts y r 0 with
      | none=>rw [c] at p2; exact p2
      | some l=>rw [c] at p2; exact fun _ _=>p2
     ·rw [if_neg hy] at p2 ⊢
      exact Hq p2
 | _=>exact p
theorem EH{b:BW}{tt:G5}{te:DW}{P:List D->Nat->Prop}(c:D->Bool)(g:D->D)(I:List Slot->Prop):∀(ds acc:List D) (n:Nat) (ρ:List Slot),
  (∀d∈ds,∀(ρ:List Slot) (n:Nat) (nx:D->Nat->List Slot->Prop) (sk:Nat->List Slot->Prop),I ρ->(∀ρ',I ρ'->c d=true->nx (g d) n ρ')->(∀ρ',I ρ'->c d=false->sk n ρ')->b d ρ fun ρ1=>tt n ρ1 fun c n1=>if c=true then te n1 ρ1 fun y n2=>nx y n2 ρ1 else sk n1 ρ1)->I ρ->P (acc++(ds.filter c).map g) n->Dw b tt te P ds acc n ρ
 | [],acc,n,ρ,_,_,h=>by rw [List.filter_nil,List.map_nil,List.append_nil] at h; exact h
 | d::ds,acc,n,ρ,ht,hρ,h=>ht d List.mem_cons_self ρ n (fun y n2 ρ1=>Dw b tt te P ds (acc++[y]) n2 ρ1) (fun n2 ρ1=>Dw b tt te P ds acc n2 ρ1) hρ
  (fun ρ' hρ' hc=>EH c g I ds (acc++[g d]) n ρ' (fun d hd=>ht d (List.mem_cons_of_mem _ hd)) hρ' (by rw [List.filter_cons_of_pos hc] at h; rw [List.append_assoc]; exact h))
  (fun ρ' hρ' hc=>EH c g I ds acc n ρ' (fun d hd=>ht d (List.mem_cons_of_mem _ hd)) hρ' (by rw [List.filter_cons_of_neg (by rw [hc]; decide)] at h; exact h))
end
theorem Mz{ts:List Ap}(h:Fn CZ (ts.map Aa)):Ey ts:=by
 unfold Fn at h
 rw [List.pairwise_map] at h
 exact h.imp fun {s t} z=>z _ _ rfl rfl
theorem Pr{N:Net}(ok:N.Ok){ts:List Ap}(h:∀t∈ts,t∈N.ts):GD (.tup (ts.map Aa))/\GD (.lst (ts.map Aa)):=by
 have it:∀d∈ts.map Aa,item d:=fun d hd=>by
  obtain⟨t,ht,rfl⟩:=List.mem_map.mp hd
  exact Ho ok _ (List.mem_map.mpr ⟨t,h t ht,rfl⟩)
 have d1:JK (ts.map Aa)<=1:=dps_le.mpr fun d hd=>(it d hd).2.2
 exact⟨J5 (B:=1000001) (by decide) (fines_iff.mpr fun d hd=>(it d hd).1) (by show JK (ts.map Aa)+1<=100; omega),GC it⟩
theorem NA{N:Net}(ok:N.Ok){t:Ap}(h:t∈N.ts):GD (Aa t):=by
 have it:=Ho ok _ (List.mem_map.mpr ⟨t,h,rfl⟩)
 exact J5 (B:=1000001) (by decide) it.1 (by have:=it.2.2; omega)
theorem NS{ts:List Ap}{t:Ap}:((ts.map Aa).any fun y=>OR y (Aa t))=decide (t∈ts):=by
 rw [Bool.eq_iff_iff,List.any_eq_true,decide_eq_true_eq]
 constructor
 ·rintro ⟨d,hd,e⟩
  obtain⟨s,hs,rfl⟩:=List.mem_map.mp hd
  rw [← (NK s t).mp e]
  exact hs
 ·intro h
  exact⟨Aa t,List.mem_map.mpr ⟨t,h,rfl⟩,(NK t t).mpr rfl⟩
section
variable {ss:List Slot}{n:Nat}{Pd:D->Nat->Prop}
end
theorem QP(xs:List D)(lo hi:Option Int):(∀d∈Dp.cutD xs lo hi,d∈xs)/\(Dp.cutD xs lo hi).length<=xs.length:=by
 unfold Dp.cutD
 exact⟨fun d hd=>List.mem_of_mem_drop (List.mem_of_mem_take hd),by rw [List.length_take,List.length_drop]; omega⟩
section
variable {ss:List Slot}{n:Nat}{Pd:D->Nat->Prop}
end
theorem Oy{s t:Ap}(h:E5 s=E5 t):s=t:=by
 obtain⟨a,b,l⟩:=s
 obtain⟨a',b',l'⟩:=t
 unfold E5 at h
 simp only [List.cons.injEq,Sum.inl.injEq,Sum.inr.injEq,and_true] at h
 obtain⟨rfl,rfl,rfl⟩:=h
 rfl
theorem HD{l1 l2:List Ap}(p:l1.Perm l2)(h1:Ey l1)(h2:Ey l2):l1=l2:=Js (fun a b x y=>Oy (CY _ _ y x)) p h1 h2
theorem IG{ts:List Ap}(h:ts.Pairwise B6):Ey ts:=h.imp fun {s t} z=>by
 cases e:Bh (E5 t) (E5 s) with
 | false=>rfl
 | true =>
  have:=C4 _ _ _ (Mf z) e
  rw [Cc] at this
  cases this
noncomputable def CO:W2:=fun ss n P=>∃l t b x:Int,ss=[.sh (.int l),.sh (.tup [.int t,.int b]),.sh (.int x)]/\1<=b/\b<=1000000/\1<=t/\t<=1000000/\P (.bl (decide (l*b<=x*t))) n
noncomputable def Gj:Ab:=(BA (Ak RM (Ak EL (AE 0) (Ak Cj (AE 1) (wC (D.int 1)))) (Ak EL (AE 2) (Ak Cj (AE 1) (wC (D.int 0))))))
section
variable {ss:List Slot}{n:Nat}{Pd:D->Nat->Prop}
theorem T9{i j:Int}(h0:0<=j)(h1:j<=1000000):CMul i j:=.inr ⟨by omega,by omega⟩
theorem Jo(h:CO ss n Pd):Gj (EE Pd) n (ss++List.replicate 0 .no):=by
 obtain⟨l,t,b,x,rfl,b0,b1,t0,t1,p⟩:=h
 unfold Gj
 exact⟨_,Aj (j:=1) rfl,T9 (by omega) b1,_,Aj (j:=0) rfl,T9 (by omega) t1,p⟩
end
end Nt
namespace L2
open PySem PySem.Spec PyProof.Rows PySem.W
section
variable {prog:Program}{w:World}{A:Around}{E:Value->Shared->Prop}{R:Result->Shared->Prop}{I:Addr}{fp wr:List Addr}{n:Nat}{P:Nat->Value->Prop}{St:Nat->Heap->Prop}
noncomputable def SS(prog:Program)(w:World)(A:Around)(op:CmpOp)(P:Nat->Value->Prop)(Cm:Heap->Prop)(bt:Nat->Nat->Bool):Prop :=
 ∀i j vi vj (s:Shared) (Q:Value->Shared->Prop) (E:Value->Shared->Prop),Cm s.heap->P i vi->P j vj->Q (.bool (bt i j)) s->wpAny (model prog w) A (richCompare op vi vj) Q E s
theorem OC(W:Walks prog w A.in1 I fp wr n P St)(bt:Nat->Nat->Bool)(Cm:Heap->Prop)(hcmp:SS prog w A.in1 .Lt P Cm bt)(S:Addr)(hSf:S∉fp)(hmono:∀h h':Heap,Cm h->(∀b o,b∉wr->b≠S->h.get? b=some o->h'.get? b=some o)->Cm h') :
  ∀(k j:Nat) (s:Shared) (vb:Value) (c:Nat),n - (j+1)=k->j+1<=n->St (j+1) s.heap->Cm s.heap->P (argBest bt j) vb ->
  s.heap.get? S=some { cls:=.type "list",dict:=none,data:=.seq #[vb,vb] c,slots:=#[] } ->
  (∀v h' tk,P (argBest bt (n - 1)) v->(∀b o,b∉wr->b≠S->s.heap.get? b=some o->h'.get? b=some o)->R (.ok (.ret v)) { s with heap:=h',toks:=tk }) ->
  codeAny (model prog w) A (.builtin "min.loop" ⟨[.ref I,.none,.ref S],[]⟩) R s:=by
 have hSw:S∉wr:=fun h=>hSf (W.sub _ h)
 have hname:(toString "min"++toString ".loop" : String) = "min.loop":=by decide
 intro k
 induction k with
 | zero =>
  intro j s vb c hk hj hst hcm hPb hS hR
  have hin:j+1=n:=by omega
  refine codeAny_builtin PySem.F.entry_min_loop ?_
  rw [Around.under_plainId PySem.F.plain_min_loop _]
  show wpAny _ A.in1 (seqItems? (.ref S) >>= _) _ _ s
  refine wpAny_bind (wpAny_seqItems hS rfl ?_)
  show wpAny _ A.in1 (tryCatch (pyNext (.ref I)) _ >>= _) _ _ s
  refine wpAny_bind (wpAny_tryCatch (W.done s _ _ (hin▸hst) fun h' tk hk'=>?_))
  have hS':=hk' S _ hSw hS
  show wpAny _ A.in1 (updateSeq S (fun _=>#[]) >>= _) _ _ _
  refine wpAny_bind ?_
  refine wpAny_updateSeq hS' rfl (wpAny_bind (wpAny_letGo (wpAny_pure ?_)))
  refine hR vb _ tk (by rw [← hin]; exact hPb) fun b o hbw hbS e=>(Heap.get?_update_other _ _ (Ne.symm hbS)).trans (hk' b o hbw e)
 | succ k ih =>
  intro j s vb c hk hj hst hcm hPb hS hR
  have hlt:j+1<n:=by omega
  refine codeAny_builtin PySem.F.entry_min_loop ?_
  rw [Around.under_plainId PySem.F.plain_min_loop _]
  show wpAny _ A.in1 (seqItems? (.ref S) >>= _) _ _ s
  refine wpAny_bind (wpAny_seqItems hS rfl ?_)
  show wpAny _ A.in1 (tryCatch (pyNext (.ref I)) _ >>= _) _ _ s
  refine wpAny_bind (wpAny_tryCatch (W.item (j+1) s _ _ hlt hst fun v h' tk hP hst' hk'=>?_))
  have hS':=hk' S _ hSw hS
  have hcm':Cm h':=hmono _ _ hcm fun b o h1 _ e=>hk' b o h1 e
  show wpAny _ A.in1 (tryCatch (holding [v,v] (richCompare .Lt v vb >>= _)) _ >>= _) _ _ _
  refine wpAny_bind (wpAny_tryCatch (wpAny_holding (wpAny_bind (hcmp (j+1) (argBest bt j) v vb _ _ _ hcm' hP hPb ?_))))
  refine wpAny_bind (wpAny_holding (wpAny_truthy_bool ?_))
  refine wpAny_bind (wpAny_letGo (wpAny_pure ?_))
  cases hb:bt (j+1) (argBest bt j) with
  | true =>
   simp only [if_true]
   refine wpAny_bind ?_
   refine wpAny_updateSeq hS' rfl (wpAny_bind (wpAny_letGo ?_))
   rw [hname]
   refine wpAny_pure ⟨plainId_quiet PySem.F.plain_min_loop _,ih (j+1) _ v _ (by omega) hlt (W.frame _ _ _ hst' fun b hbf o e=>?_) (hmono _ _ hcm' fun b o _ h2 e=>(Heap.get?_update_other _ _ (Ne.symm h2)).trans e) (by simp only [argBest,hb,if_true]; exact hP) (Heap.get?_update_self _ hS' rfl)
    fun v' h'' tk'' hP' hk''=>?_⟩
   ·exact(Heap.get?_update_other _ _ (fun h:S=b=>hSf (by rw [h]; exact hbf))).trans e
   ·exact hR v' h'' tk'' hP' fun b o hbw hbS e=>hk'' b o hbw hbS ((Heap.get?_update_other _ _ (Ne.symm hbS)).trans (hk' b o hbw e))
  | false =>
   simp only [Bool.false_eq_true,if_false]
   refine wpAny_bind (wpAny_letGo ?_)
   rw [hname]
   refine wpAny_pure ⟨plainId_quiet PySem.F.plain_min_loop _,ih (j+1) _ vb c (by omega) hlt hst' hcm' (by simp only [argBest,hb,Bool.false_eq_true,if_false]; exact hPb) hS' fun v' h'' tk'' hP' hk''=>?_⟩
   exact hR v' h'' tk'' hP' fun b o hbw hbS e=>hk'' b o hbw hbS (hk' b o hbw e)
theorem MI(W:Walks prog w A.in1 I fp wr n P St)(bt:Nat->Nat->Bool)(Cm:Heap->Prop)(hcmp:SS prog w A.in1 .Lt P Cm bt)(S:Addr)(hSf:S∉fp)(hmono:∀h h':Heap,Cm h->(∀b o,b∉wr->b≠S->h.get? b=some o->h'.get? b=some o)->Cm h')(hn:0<n){s:Shared}{c:Nat}(hst:St 0 s.heap)(hcm:Cm s.heap)
  (hS:s.heap.get? S=some { cls:=.type "list",dict:=none,data:=.seq #[] c,slots:=#[] })
  (hR:∀v h' tk,P (argBest bt (n - 1)) v->(∀b o,b∉wr->b≠S->s.heap.get? b=some o->h'.get? b=some o)->R (.ok (.ret v)) { s with heap:=h',toks:=tk }) :
  codeAny (model prog w) A (.builtin "min.loop" ⟨[.ref I,.none,.ref S],[]⟩) R s:=by
 have hSw:S∉wr:=fun h=>hSf (W.sub _ h)
 have hname:(toString "min"++toString ".loop" : String) = "min.loop":=by decide
 refine codeAny_builtin PySem.F.entry_min_loop ?_
 rw [Around.under_plainId PySem.F.plain_min_loop _]
 show wpAny _ A.in1 (seqItems? (.ref S) >>= _) _ _ s
 refine wpAny_bind (wpAny_seqItems hS rfl ?_)
 show wpAny _ A.in1 (tryCatch (pyNext (.ref I)) _ >>= _) _ _ s
 refine wpAny_bind (wpAny_tryCatch (W.item 0 s _ _ hn hst fun v h' tk hP hst' hk'=>?_))
 have hS':=hk' S _ hSw hS
 have hcm':Cm h':=hmono _ _ hcm fun b o h1 _ e=>hk' b o h1 e
 show wpAny _ A.in1 (updateSeq S (fun _=>#[v,v]) >>= _) _ _ _
 refine wpAny_bind ?_
 refine wpAny_updateSeq hS' rfl ?_
 rw [hname]
 refine wpAny_pure ⟨plainId_quiet PySem.F.plain_min_loop _,OC W bt Cm hcmp S hSf hmono _ 0 _ v _ rfl hn (W.frame _ _ _ hst' fun b hbf o e=>?_) (hmono _ _ hcm' fun b o _ h2 e=>(Heap.get?_update_other _ _ (Ne.symm h2)).trans e) hP (Heap.get?_update_self _ hS' rfl) fun v' h'' tk'' hP' hk''=>?_⟩
 ·exact(Heap.get?_update_other _ _ (fun h:S=b=>hSf (by rw [h]; exact hbf))).trans e
 ·exact hR v' h'' tk'' hP' fun b o hbw hbS e=>hk'' b o hbw hbS ((Heap.get?_update_other _ _ (Ne.symm hbS)).trans (hk' b o hbw e))
theorem min_list{s:Shared}{l:Addr}{items:Array Value}{Q:Value->Shared->Prop}(bt:Nat->Nat->Bool)(hh:A.handled=none)(hl:s.heap.IsList l items)(hn:0<items.size)
  (hcmp:∀i j vi vj (s':Shared) (Q:Value->Shared->Prop) (E:Value->Shared->Prop),(∀b o,s.heap.get? b=some o->s'.heap.get? b=some o)->items[i]?=some vi->items[j]?=some vj->Q (.bool (bt i j)) s'->wpAny (model prog w) A.in1 (richCompare .Lt vi vj) Q E s')
  (h:∀v h' tk,items[argBest bt (items.size - 1)]?=some v->(∀b o,s.heap.get? b=some o->h'.get? b=some o)->Q v { s with heap:=h',toks:=tk }):wpAny (model prog w) A (call (.builtin "min") [.ref l]) Q E s:=by
 have hname:(toString "min"++toString ".loop" : String) = "min.loop":=by decide
 have hlt:l<s.heap.objs.size:=by obtain⟨_,e,_⟩:=hl; exact Heap.lt_size e
 refine call_function_tree PySem.F.kind_min PySem.F.plain_min PySem.F.entry_min (PySem.F.args_min1 _) ?_
 show wpAny _ A.in1 (Builtin.Builtins.bindParams "min" ["key","default"] 0 ⟨[],[]⟩ >>= _) _ _ s
 refine wpAny_bind (wpAny_of_eq (show Builtin.Builtins.bindParams "min" ["key","default"] 0 ⟨[],[]⟩=pure [none,none] from rfl) ?_)
 refine wpAny_bind (wpAny_pure ?_)
 refine wpAny_bind (wpAny_pyIter_list hl ?_)
 refine wpAny_bind (wpAny_newObj_type ?_)
 rw [hname]
 have W:=Walks.list (prog:=prog) (w:=w) (A:=A.in1) hh s.heap.objs.size l (Nat.ne_of_lt hlt) items
 have hs1:(s.heap.push { cls:=.type "list_iterator",data:=.fields #[.ref l,.int 0 0] }).objs.size=s.heap.objs.size+1:=Heap.size_push _ _
 refine wpAny_pure ⟨plainId_quiet PySem.F.plain_min_loop _,MI W bt (fun h'=>∀b o,s.heap.get? b=some o->h'.get? b=some o) (fun i j vi vj s' Q E hc h1 h2 q=>hcmp i j vi vj s' Q E hc h1 h2 q) (s.heap.push { cls:=.type "list_iterator",data:=.fields #[.ref l,.int 0 0] }).objs.size (fun hm=>?_) (fun h1 h2 hc hk b o e=>hk b o (fun hm=>?_) ?_ (hc b o e)) hn ⟨⟨_,Heap.get?_push_of_some _ (Heap.get?_push_size _ rfl),rfl,rfl⟩,(hl.push _).push _⟩ (fun b o e=>Heap.get?_push_of_some _ (Heap.get?_push_of_some _ e)) (Heap.get?_push_size _ rfl) fun v h' tk hP hk=>?_⟩
 ·rw [hs1] at hm
  rcases List.mem_cons.mp hm with e | hm
  ·exact absurd e (Nat.succ_ne_self _)
  ·rw [← List.mem_singleton.mp hm] at hlt
   exact absurd hlt (Nat.not_lt.mpr (Nat.le_succ _))
 ·rw [List.mem_singleton.mp hm] at e
  exact absurd (Heap.lt_size e) (Nat.lt_irrefl _)
 ·rw [hs1]
  exact Nat.ne_of_lt (Nat.lt_succ_of_lt (Heap.lt_size e))
 ·refine h v h' tk hP fun b o e=>hk b o (fun hm=>?_) ?_ (Heap.get?_push_of_some _ (Heap.get?_push_of_some _ e))
  ·rw [List.mem_singleton.mp hm] at e
   exact absurd (Heap.lt_size e) (Nat.lt_irrefl _)
  ·rw [hs1]
   exact Nat.ne_of_lt (Nat.lt_succ_of_lt (Heap.lt_size e))
end
theorem II(keys:List (List Key)):∀m:Nat,argBest (fun i j=>Bh (keys.getD i []) (keys.getD j [])) m<=m/\∀i,i<=m->Bh (keys.getD i []) (keys.getD (argBest (fun i j=>Bh (keys.getD i []) (keys.getD j [])) m) [])=false
 | 0=>⟨Nat.le_refl _,fun i hi=>by
  have:i=0:=by omega
  subst this
  exact Cc _⟩
 | m+1=>by
  obtain⟨h1,h2⟩:=II keys m
  unfold argBest
  by_cases c:Bh (keys.getD (m+1) []) (keys.getD (argBest (fun i j=>Bh (keys.getD i []) (keys.getD j [])) m) [])=true
  ·rw [if_pos c]
   refine⟨Nat.le_refl _,fun i hi=>?_⟩
   by_cases e:i=m+1
   ·subst e; exact Cc _
   ·cases z:Bh (keys.getD i []) (keys.getD (m+1) []) with
    | false=>rfl
    | true =>
     have:=C4 _ _ _ z c
     rw [h2 i (by omega)] at this
     cases this
  ·rw [if_neg c]
   refine⟨by omega,fun i hi=>?_⟩
   by_cases e:i=m+1
   ·subst e
    cases z:Bh (keys.getD (m+1) []) (keys.getD (argBest (fun i j=>Bh (keys.getD i []) (keys.getD j [])) m) []) with
    | false=>rfl
    | true=>exact absurd z c
   ·exact h2 i (by omega)
section
variable {X:Cx}
noncomputable def R6(K:Frag):List V->Hp->VK->Prop:=fun xs H Q=>∃(p:Addr) (vs:List V) (keys:List (List Key)),xs=[.ref p]/\SqL K H p vs/\0<vs.length/\KeysAt K H vs keys /\
 ∀j v,vs[j]?=some v->(∀i,i<vs.length->Bh (keys.getD i []) (keys.getD j [])=false)->Q v H
theorem OZ{k:Nat}(hr:Room k X.A):Ck X (.builtin "min") (R6 X.K):=by
 intro pins s σ H xs us Q I r h
 obtain⟨p,vs,keys,rfl,hq,hn,hk,q⟩:=h
 obtain⟨u,rfl,rx⟩:=vals1 r
 cases rx
 obtain⟨its,r',pl,hz⟩:=I.list hq
 have hl:=r'.length
 have tk:=hk.tups I r' fun b o e=>e
 have hu:=hr.un
 refine min_list (fun i j=>Bh (keys.getD i []) (keys.getD j [])) hr.hd pl.isList (by rw [List.size_toArray]; omega) (fun i j vi vj s' Q' E' hold h1 h2 q'=>?_) fun v h' tk' hv hold=>?_
 ·have hi:i<keys.length:=by rw [← hk.len,hl]; have:=(Array.getElem?_eq_some_iff.mp h1).1; simpa using this
  have hj:j<keys.length:=by rw [← hk.len,hl]; have:=(Array.getElem?_eq_some_iff.mp h2).1; simpa using this
  obtain⟨a,⟨cls,dd,data,sl⟩,xs,n,e1,e2,e3,e4,e5⟩:=tk.at_ i keys[i] (List.getElem?_eq_getElem hi)
  obtain⟨a',⟨cls',dd',data',sl'⟩,xs',n',e1',e2',e3',e4',e5'⟩:=tk.at_ j keys[j] (List.getElem?_eq_getElem hj)
  simp only at e3 e4 e3' e4'
  subst e3 e4 e3' e4'
  have e1:its.toArray[i]?=some (.ref a):=by rw [← e1]; simp
  have e1':its.toArray[j]?=some (.ref a'):=by rw [← e1']; simp
  rw [e1] at h1
  rw [e1'] at h2
  cases h1
  cases h2
  have hsm:=hk.same _ (List.getElem_mem hi) _ (List.getElem_mem hj)
  have g1:keys.getD i []=keys[i]:=by rw [List.getD_eq_getElem?_getD,List.getElem?_eq_getElem hi]; rfl
  have g2:keys.getD j []=keys[j]:=by rw [List.getD_eq_getElem?_getD,List.getElem?_eq_getElem hj]; rfl
  simp only [g1,g2] at q'
  rw [← J4 _ _ hsm] at q'
  exact richCompare_meets_room (op:=.Lt) ⟨_,hold _ _ e2,rfl⟩ ⟨_,hold _ _ e2',rfl⟩ PySem.F.slot_tuple_lt PySem.F.entry_tuple_lt (PySem.F.args_tuple_lt_2 _ _) (Ep a a' xs xs' n n' dd dd' sl sl' keys[i] keys[j] e5 e5' hsm)
   ⟨hold _ _ e2,hold _ _ e2',show Value.bool (E8 keys[i] keys[j])≠Value.notImplemented/\Q' (.bool (E8 keys[i] keys[j])) s' from⟨(fun x=>nomatch x),q'⟩⟩ (by show X.A.units+1<cLine; omega)
 ·obtain⟨b1,b2⟩:=II keys (its.toArray.size - 1)
  rw [List.size_toArray] at hv b1 b2
  have hj:argBest (fun i j=>Bh (keys.getD i []) (keys.getD j [])) (its.length - 1)<vs.length:=by omega
  obtain⟨u,e1,ru⟩:=r'.get (List.getElem?_eq_getElem hj)
  have e2:its.toArray[argBest (fun i j=>Bh (keys.getD i []) (keys.getD j [])) (its.length - 1)]?=some u:=by rw [← e1]; simp
  rw [e2] at hv
  cases hv
  exact⟨_,H,I.kept (t':=tk') hold,ru,q _ _ (List.getElem?_eq_getElem hj) fun i hi=>b2 i (by omega)⟩
end
end L2
namespace Dp
open PySem PySem.Spec PyProof.Rows L2
noncomputable def SI(ds:List D)(P:D->Prop):Prop:=∃xs,ds=[.lst xs]/\0<xs.length/\Keyed CZ xs/\∀x∈xs,(∀y∈xs,∀kx ky,CZ x=some kx->CZ y=some ky->Bh ky kx=false)->P x
theorem Ts{K:Frag}:DP K .sh (R6 K) SI:=by
 intro U M H ds vs P Q dom vM hp w q
 obtain⟨xs,rfl,hn,hK,w⟩:=w
 obtain⟨v,rfl,hx⟩:=Es hp
 obtain⟨a,us,rfl,_,hq,hs⟩:=hx
 obtain⟨keys,hl,hk⟩:=El hK.1
 have hlen:=hs.length
 refine⟨a,us,keys,rfl,.inl hq,by omega,GE (fun d k v _=>GF) hs hK hl hk,fun j v hv hle=>?_⟩
 have hj:j<xs.length:=by rw [← hlen]; exact(List.getElem?_eq_some_iff.mp hv).1
 obtain⟨v',e1,h1⟩:=hs.get (List.getElem?_eq_getElem hj)
 rw [hv] at e1
 cases e1
 refine q v H xs[j] .refl h1 (w _ (List.getElem_mem hj) fun y hy kx ky ex ey=>?_)
 obtain⟨i,hi⟩:=List.mem_iff_getElem?.mp hy
 have hil:i<xs.length:=(List.getElem?_eq_some_iff.mp hi).1
 obtain⟨k1,a1,b1,_⟩:=hk i y hi
 obtain⟨k2,a2,b2,_⟩:=hk j xs[j] (List.getElem?_eq_getElem hj)
 have:=hle i (by omega)
 rw [List.getD_eq_getElem?_getD,List.getD_eq_getElem?_getD,a1,a2] at this
 rw [ey] at b1
 rw [ex] at b2
 cases b1
 cases b2
 exact this
end Dp
namespace L2
open PySem PySem.Spec PyProof.Rows
noncomputable def V1(d:Addr)(o:Obj)(kvs:List (Key×V)):It :=
 ⟨fun i H=>H d=some (.frz o (.dK kvs))/\i<kvs.length,fun i H x H'=>∃T p,x=.ref T/\H T=none/\kvs[i]?=some p/\H'=A9 H T (.tup [kV p.1,p.2]),fun i H=>H d=some (.frz o (.dK kvs))/\kvs.length<=i⟩
theorem TN{P:Program}{w:World}{k:Key}{u:Value}(h:(A3 P w).is k u=true):RelV (kV k) u:=by
 rcases BD h with ⟨i,t,rfl,rfl⟩ | ⟨x,t,rfl,rfl⟩
 ·exact⟨t,rfl⟩
 ·exact⟨t,rfl⟩
theorem KR{X:Cx}{pins:List (Addr×Obj)}{σ:L2.St}{H:Hp}{s:Shared}{d:Addr}{o:Obj}{kvs:List (Key×V)}{es:Array DictEntry}{ep:Nat}(I:Inv X pins σ H s)(h:H d=some (.frz o (.dK kvs)))(hd:o.data=.dict es ep) :
  ∃ws,KV kvs ws/\s.heap.DictAt (A3 X.prog X.w) d ws ep:=by
 obtain⟨e0,_,_,ws,kv,o',es',ep',e1,e2,e3,e4⟩:=(show ObjOk X.prog X.w H s.heap d (.frz o (.dK kvs)) from I.hok d _ h)
 rw [e0] at e1
 cases e1
 rw [hd] at e3
 cases e3
 exact⟨ws,kv,o,es,e0,e2,hd,e4⟩
theorem Lp{P:Program}{w:World}{K:Frag}{els:List Expr}{j:Nat}{pos:Pos}(d it:Addr)(o:Obj)(kvs:List (Key×V))(es:Array DictEntry)(ep:Nat)(hdat:o.data=.dict es ep) :
  Turn P w K (.Tuple els j pos) (V1 d o kvs) [it] it (fun i h=>∃ok ov,IsItemIter h it d i kvs.length ep ok ov) where
 mem:=by simp
 obj:=fun i h ⟨ok,ov,st⟩ c hc=>by
  rw [List.mem_singleton.mp hc]
  exact⟨_,st,fun v q=>by cases q⟩
 keep:=fun i h h' ⟨ok,ov,st⟩ k=>⟨ok,ov,k it (by simp) _ st⟩
 item:=by
  intro X hP hw hK hc i pins s σ H E I hf st hg
  subst hP hw hK
  obtain⟨hH,hi⟩:=hg
  obtain⟨ok,ov,st⟩:=st
  obtain⟨ws,kv,D⟩:=KR I hH hdat
  have hl:=kv.length
  have hiw:i<ws.length:=by omega
  rw [hl] at st
  obtain⟨k,v,hkv⟩:∃k v,ws[i]=(k,v):=⟨_,_,rfl⟩
  have hx:ws[i]?=some (k,v):=by rw [List.getElem?_eq_getElem hiw,hkv]
  have hp:kvs[i]?=some kvs[i]:=List.getElem?_eq_getElem hi
  obtain⟨ek,rv⟩:=K6 kv hp hx
  have ek:kvs[i].1=k:=ek
  refine wpAny_pyNext_items_item st D hx fun key h' hkey hout htup hsz hold=>⟨_,rfl,?_⟩
  refine wpAny_letOwnedTupleGo_items hout fun h2 hit2 hsame=>?_
  have hT:H s.heap.objs.size=none:=I.hok.fresh (Nat.le_refl _)
  have nit:s.heap.objs.size≠it:=Nat.ne_of_gt (Heap.lt_size st)
  have kk:∀c o,c∉[it]->s.heap.get? c=some o->h2.get? c=some o:=fun c o hc e=>by
   have hc:c≠it:=fun z=>hc (by rw [z]; exact List.mem_singleton.mpr rfl)
   exact(hsame.2 c hc).trans (hold c o hc e)
  have I2:Inv X pins σ (A9 H s.heap.objs.size (.tup [kV kvs[i].1,kvs[i].2])) { s with heap:=h2 }:=by
   refine I.turnLaid (t':=s.toks) (ch:=[it]) (fun c hc=>hf c hc) kk (Nat.le_refl _) ?_
   exact⟨by show 2<=sizeLine; decide,[key,v],.cons (TN (by rw [ek]; exact hkey)) (.cons rv .nil),⟨_,(hsame.2 _ nit).trans htup,rfl,_,rfl,rfl,rfl⟩⟩
  refine⟨.ref s.heap.objs.size,_,I2,rfl,⟨_,_,rfl,hT,hp,rfl⟩,⟨key,v,by rw [hl]; exact hit2⟩,fun c hc=>?_⟩
  rw [List.mem_singleton.mp hc,AQ (Ne.symm nit)]
  exact(hf it (by simp)).1
 done:=by
  intro X hP hw hK hc i pins s σ H E I hf st hg
  subst hP hw hK
  obtain⟨hH,hi⟩:=hg
  obtain⟨ok,ov,st⟩:=st
  obtain⟨ws,kv,D⟩:=KR I hH hdat
  have hl:=kv.length
  rw [hl] at st
  refine wpAny_pyNext_items_end (I.ok.hd hc) st D (List.getElem?_eq_none (by omega)) fun h' ext=>⟨rfl,?_⟩
  exact I.turnedL (t':=s.toks) (ch:=[it]) (fun c hc=>hf c hc) fun c o hc e=>ext c o (fun z=>hc (by rw [z]; exact List.mem_singleton.mpr rfl)) e
 self:=fun A i s Q E ⟨ok,ov,st⟩ h=>PySem.W.kcp_self st h
noncomputable def TZ(to:TE):TI:=fun σ H R=>to σ H fun x H1=>∃d o kvs,x=.ref d/\H1 d=some (.frz o (.dK kvs))/\∀r,H1 r=none->R (V1 d o kvs) (A9 H1 r (.ext fun h=>h.IsItemsView r d))
theorem PZ{X:Cx}{e:Expr}{els:List Expr}{j:Nat}{tpos apos cpos:Pos}{to:TE}(ho:PE X e to)(hbase:attributeBase e "items" X.env (eval e X.env)=eval e X.env:=by rfl)(hline:(apos.endLine==cpos.line)=true:=by rfl) :
  PI X (.Tuple els j tpos) (.Call (.Attribute e "items" apos) [] [] cpos) (TZ to):=by
 intro pins s σ H R I h
 refine wpAny_Call_method0_late hbase hline (BX (ho pins s σ H _ I h) fun v s1 ⟨x,H1,I1,r1,d,o,kvs,ex,hd,q⟩=>?_)
 subst ex
 cases r1
 obtain⟨h1,h2,lo⟩:=MN I1 (.inl ⟨kvs,.inr ⟨o,hd⟩⟩)
 obtain⟨_,_,ws,kv,D⟩:=FZ I1.hok (.inr ⟨o,hd⟩)
 refine⟨"dict","dict.items",PySem.F.plainAttrs_dict,PySem.F.slot_dict_items,PySem.F.type_dict_items,h1,h2,Calls.callWith_builtin rfl (PySem.evalArgs_none ?_)⟩
 refine call_meetsIn PySem.F.slot_dict_items D.typeIs PySem.F.entry_dict_items (PySem.F.args_dict_items_1 _) (meets_dict_items (A3 X.prog X.w) d lo) ⟨⟨ws,D⟩,?_⟩
 have hf:H1 s1.heap.objs.size=none:=I1.fresh
 have hv:(s1.heap.push { cls:=.type "dict_items",data:=.fields #[.ref d] }).IsItemsView s1.heap.objs.size d:=⟨_,Heap.get?_push_size _ rfl,rfl,rfl⟩
 have I2:Inv X pins σ (A9 H1 s1.heap.objs.size (.ext fun h=>h.IsItemsView s1.heap.objs.size d)) { s1 with heap:=s1.heap.push { cls:=.type "dict_items",data:=.fields #[.ref d] } } :=
  I1.laid (t':=s1.toks) (fun b o e=>Heap.get?_push_of_some _ e) (Nat.le_refl _) ⟨hv,⟨_,Heap.get?_push_size _ rfl⟩,fun h1 h2 ⟨o,e,c⟩ k=>⟨o,k o e,c⟩⟩
 have hd2:(A9 H1 s1.heap.objs.size (.ext fun h=>h.IsItemsView s1.heap.objs.size d)) d=some (.frz o (.dK kvs)):=by rw [AQ (Al hd hf)]; exact hd
 obtain⟨es,ep,hdat⟩:∃es ep,o.data=.dict es ep:=by
  obtain⟨e0,_,_,ws,kv,o',es',ep',e1,e2,e3,e4⟩:=(show ObjOk X.prog X.w H1 s1.heap d (.frz o (.dK kvs)) from I1.hok d _ hd)
  rw [e0] at e1
  cases e1
  exact⟨es',ep',e3⟩
 obtain⟨ws2,kv2,D2⟩:=KR I2 hd2 hdat
 have hl:=kv2.length
 refine wpAny_pyIter_items (s:={ s1 with heap:=s1.heap.push { cls:=.type "dict_items",data:=.fields #[.ref d] } }) hv D2 ?_
 refine⟨_,[(s1.heap.push { cls:=.type "dict_items",data:=.fields #[.ref d] }).objs.size],_,V1 d o kvs,_,rfl,I2.kept (t':=s1.toks) (fun b o e=>Heap.get?_push_of_some _ e),Lp d _ o kvs es ep hdat,⟨.none,.none,by rw [hl]; exact Heap.get?_push_size _ rfl⟩,fun c hc=>?_,q _ hf⟩
 rw [List.mem_singleton.mp hc]
 exact I2.fpOk (Nat.le_refl _) I2.fresh
end L2
namespace Dp
open PySem PySem.Spec PyProof.Rows L2
noncomputable def wItems(wa:DW):FE:=fun n ρ P=>wa n ρ fun d n1=>∃ks ds,d=.fdi ks ds/\(∀k∈ks,NB k)/\P (FF (ks.map T8) ds) n1
theorem TQ(k:Key):kV k=kOf k:=by cases k <;> rfl
section
variable {X:Cx}{a:Expr}{κa:Kd}{wa:DW}{els:List Expr}{j:Nat}{tpos apos cpos:Pos}
theorem QK(ha:DE X a κa wa)(hbase:attributeBase a "items" X.env (eval a X.env)=eval a X.env:=by rfl)(hline:(apos.endLine==cpos.line)=true:=by rfl):DI X (.Tuple els j tpos) (.Call (.Attribute a "items" apos) [] [] cpos) (wItems wa):=by
 obtain⟨t,a1,a2⟩:=ha
 refine⟨_,PZ a1 hbase hline,fun C M H n ρ σ P Rr R w q=>?_⟩
 refine a2 C M H n ρ σ _ _ R w fun v H1 d n1 ee f1 r1 p=>?_
 obtain⟨ks,ds,rfl,hfit,p⟩:=p
 have R1:=R.step ee f1
 obtain⟨ad,vs,rfl,⟨o,nM,hd⟩,hlen,hs⟩:∃a vs,v=.ref a/\NdF M H1 a ks vs/\ks.length=ds.length/\Ats X.K M H1 ds vs:=r1.tpOf R.dom R.vM
 have hl:=hs.length
 refine⟨ad,o,_,rfl,hd,fun r hr=>?_⟩
 have g:Grow H1 (A9 H1 r (.ext fun h=>h.IsItemsView r ad)):=A1 hr
 refine q _ _ _ n1 (ee.trans g.ext) (f1.grow g) (fun i M' H' pr dom=>?_) p
 have pr2:Pres M H1 M' H':=g.pres.trans pr
 have hd':H' ad=some (.frz o (.dK (ks.zip vs))):=(pr2.nd nM hd).2
 have zl:(ks.zip vs).length=ks.length:=by rw [List.length_zip]; omega
 have zd:(FF (ks.map T8) ds).length=ks.length:=by unfold FF; rw [List.length_zipWith,List.length_map]; omega
 refine⟨fun e he=>?_,fun hle=>⟨hd',by omega⟩⟩
 have hi:i<ks.length:=by rw [← zd]; exact(List.getElem?_eq_some_iff.mp he).1
 have hid:i<ds.length:=by omega
 refine⟨⟨hd',by omega⟩,fun x H2 y=>?_⟩
 obtain⟨T,pp,rfl,hT,hp,rfl⟩:=y
 obtain⟨v',e1,h1⟩:=(hs.pres pr2).get (List.getElem?_eq_getElem hid)
 have e2:(ks.zip vs)[i]?=some (ks[i],v'):=by
  rw [List.getElem?_zip_eq_some]
  exact⟨List.getElem?_eq_getElem hi,e1⟩
 rw [e2] at hp
 cases hp
 have e3:e=.tup [T8 ks[i],ds[i]]:=by
  unfold FF at he
  rw [List.getElem?_zipWith,List.getElem?_map,List.getElem?_eq_getElem hi,List.getElem?_eq_getElem hid] at he
  exact(Option.some.inj he).symm
 subst e3
 refine⟨A1 hT,DZ dom hT ⟨_,_,rfl,?_,_,_,rfl,h1,rfl⟩⟩
 show At X.K M' H' (T8 ks[i]) (kV ks[i])
 rw [TQ]
 exact Tj (hfit _ (List.getElem_mem hi))
end
section
variable {K:Frag}{C:Fm}{M:Addr->Prop}{H H':Hp}{n n':Nat}{ρ:List Slot}{σ:L2.St}
theorem Rel.hold(R:Rel K C M H n ρ σ){p:Addr}{o:HO}(hp:H p=none):Rel K C (fun b=>M b\/b=p) (A9 H p o) n ρ σ:=by
 have g:Grow H (A9 H p o):=A1 hp
 have pr:Pres M H (fun b=>M b\/b=p) (A9 H p o):=FA hp
 refine⟨R.len,fun a z=>.inl (R.sub a z),fun a z=>?_,R.ext.trans g.ext,R.fU,R.uV,fun a z=>.inl (R.vM a z),(R.feed.grow g).more p fun f hf q=>?_,fun i s q=>(R.sl i s q).pres pr (fun _ z=>.inl z) g.ext R.uV,fun q hq=>(R.pin q hq).trans pr,R.br0,R.new,R.two,fun q hq=>?_⟩
 ·rcases z with z | z
  ·obtain⟨u,h1⟩:=R.dom a z
   exact⟨u,g.all a u h1⟩
  ·rw [z]; exact⟨o,AV⟩
 ·obtain⟨_,_,_,_,_,h3,_⟩:=R.feed f hf
  have:=h3.2
  rw [q,hp] at this; cases this
 ·obtain⟨h1,h2,h3,h4⟩:=R.kept q hq
  exact⟨g.all _ _ h1,.inl h2,h3,h4⟩
end
noncomputable def Ht(ks:List Key)(k:Key):Bool:=ks.any fun k0=>decide (k0=k)
theorem hasK_iff{ks:List Key}{k:Key}:Ht ks k=true↔k∈ks:=by
 unfold Ht
 rw [List.any_eq_true]
 exact⟨fun⟨x,hx,e⟩=>by rw [← of_decide_eq_true e]; exact hx,fun h=>⟨k,h,decide_eq_true rfl⟩⟩
noncomputable def Cf(ks:List Key)(k:Key):List Key:=if Ht ks k=true then ks else ks++[k]
noncomputable def C3{α:Type}(ks:List Key)(ds:List α)(k:Key)(d:α):List α:=if Ht ks k=true then List.zipWith (fun k0 d0=>if k0=k then d else d0) ks ds else ds++[d]
theorem Ri{ks:List Key}{vs:List V}(hl:ks.length=vs.length)(k:Key):((ks.zip vs).any fun kv=>decide (kv.1=k))=Ht ks k:=by
 rw [Bool.eq_iff_iff,List.any_eq_true,hasK_iff]
 constructor
 ·rintro ⟨⟨a,b⟩,hm,e⟩
  have e:a=k:=of_decide_eq_true e
  rw [← e]
  exact(List.of_mem_zip hm).1
 ·intro h
  obtain⟨i,hi,e⟩:=List.mem_iff_getElem.mp h
  refine⟨(ks[i],vs[i]'(by omega)),?_,by rw [e]; exact decide_eq_true rfl⟩
  exact List.mem_iff_getElem.mpr ⟨i,by rw [List.length_zip]; omega,by rw [List.getElem_zip]⟩
theorem PN{ks:List Key}{vs:List V}(hl:ks.length=vs.length)(k:Key)(v:V):putK (ks.zip vs) k v=(Cf ks k).zip (C3 ks vs k v):=by
 unfold putK Cf C3
 rw [Ri hl]
 by_cases h:Ht ks k=true
 ·rw [if_pos h,if_pos h,if_pos h]
  have go:∀(ks:List Key) (vs:List V),((ks.zip vs).map fun kv=>if kv.1=k then (kv.1,v) else kv)=ks.zip (List.zipWith (fun k0 d0=>if k0=k then v else d0) ks vs):=by
   intro ks
   induction ks with
   | nil=>intro vs; rfl
   | cons a ks ih =>
    intro vs
    cases vs with
    | nil=>rfl
    | cons b vs =>
     show (if a=k then (a,v) else (a,b))::_=(a,if a=k then v else b)::_
     exact List.cons_eq_cons.mpr ⟨by split <;> rfl,ih vs⟩
  exact go ks vs
 ·rw [if_neg h,if_neg h,if_neg h,List.zip_append hl]
  rfl
theorem Ats.put{K:Frag}{M:Addr->Prop}{H:Hp}{k:Key}{d:D}{v:V}(hd:At K M H d v):∀{ks:List Key} {ds:List D} {vs:List V},Ats K M H ds vs->Ats K M H (List.zipWith (fun k0 d0=>if k0=k then d else d0) ks ds) (List.zipWith (fun k0 d0=>if k0=k then v else d0) ks vs)
 | [],ds,vs,h=>rfl
 | a::ks,[],vs,h=>by cases (show vs=[] from h); rfl
 | a::ks,e::ds,vs,h=>by
  obtain⟨u,r,rfl,h1,h2⟩:=h
  refine⟨_,_,rfl,?_,Ats.put hd h2⟩
  show At K M H (if a=k then d else e) (if a=k then v else u)
  by_cases e1:a=k
  ·rw [if_pos e1,if_pos e1]; exact hd
  ·rw [if_neg e1,if_neg e1]; exact h1
theorem Ats.putX{K:Frag}{M:Addr->Prop}{H:Hp}{k:Key}{d:D}{v:V}{ks:List Key}{ds:List D}{vs:List V}(hd:At K M H d v)(h:Ats K M H ds vs):Ats K M H (C3 ks ds k d) (C3 ks vs k v):=by
 unfold C3
 split
 ·exact Ats.put hd h
 ·exact h.append (Ats.one hd)
theorem Mq{α:Type}{ks:List Key}{ds:List α}{k:Key}{d:α}(hl:ks.length=ds.length):(Cf ks k).length=(C3 ks ds k d).length:=by
 unfold Cf C3
 split
 ·rw [List.length_zipWith]; omega
 ·rw [List.length_append,List.length_append]; show ks.length+1=ds.length+1; omega
theorem Ir:∀{ks:List Key} {ds:List D} {k:Key},k∉ks->BH ks ds k=none
 | [],ds,k,_=>by unfold BH; rfl
 | a::ks,[],k,_=>rfl
 | a::ks,d::ds,k,h=>by
  unfold BH
  rw [if_neg (fun e=>h (by rw [e]; exact List.mem_cons_self))]
  exact Ir fun z=>h (List.mem_cons_of_mem _ z)
theorem Iq:∀{ks:List Key} {ds:List D} {k:Key},ks.length=ds.length->k∈ks->∃z,BH ks ds k=some z
 | [],ds,k,_,h=>by cases h
 | a::ks,[],k,h,_=>by cases h
 | a::ks,d::ds,k,hl,h=>by
  unfold BH
  by_cases e:a=k
  ·exact⟨d,if_pos e⟩
  ·rw [if_neg e]
   exact Iq (by simpa using hl) ((List.mem_cons.mp h).resolve_left fun z=>e z.symm)
theorem Ou{ks:List Key}{ds:List D}{k:Key}{d:D}(hl:ks.length=ds.length)(j:Key):BH (Cf ks k) (C3 ks ds k d) j=if j=k then some d else BH ks ds j:=by
 unfold Cf C3
 by_cases h':Ht ks k=true
 ·have h:=hasK_iff.mp h'
  rw [if_pos h',if_pos h']
  have go:∀(ks:List Key) (ds:List D),ks.length=ds.length->(j=k->k∈ks)->BH ks (List.zipWith (fun k0 d0=>if k0=k then d else d0) ks ds) j=if j=k then some d else BH ks ds j:=by
   intro ks
   induction ks with
   | nil =>
    intro ds _ hm
    by_cases e:j=k
    ·exact absurd (hm e) List.not_mem_nil
    ·rw [if_neg e]; cases ds <;> rfl
   | cons a ks ih =>
    intro ds hl hm
    cases ds with
    | nil=>cases hl
    | cons e ds =>
     show (if a=j then some (if a=k then d else e) else BH ks _ j)=if j=k then some d else if a=j then some e else BH ks ds j
     by_cases e1:a=j
     ·rw [if_pos e1,if_pos e1]
      by_cases e2:j=k
      ·rw [if_pos e2,if_pos (e1.trans e2)]
      ·rw [if_neg e2,if_neg (fun z=>e2 (e1.symm.trans z))]
     ·rw [if_neg e1,if_neg e1]
      refine ih ds (by simpa using hl) fun z=>(List.mem_cons.mp (hm z)).resolve_left fun w=>e1 (w.symm.trans z.symm)
  exact go ks ds hl fun _=>h
 ·have h:k∉ks:=fun z=>h' (hasK_iff.mpr z)
  rw [if_neg h',if_neg h']
  have go:∀(ks:List Key) (ds:List D),ks.length=ds.length->k∉ks->BH (ks++[k]) (ds++[d]) j=if j=k then some d else BH ks ds j:=by
   intro ks
   induction ks with
   | nil =>
    intro ds hl _
    cases ds with
    | nil =>
     show (if k=j then some d else none)=if j=k then some d else none
     by_cases e:j=k
     ·rw [if_pos e,if_pos e.symm]
     ·rw [if_neg e,if_neg (fun z=>e z.symm)]
    | cons e ds=>cases hl
   | cons a ks ih =>
    intro ds hl hm
    cases ds with
    | nil=>cases hl
    | cons e ds =>
     show (if a=j then some e else BH (ks++[k]) (ds++[d]) j)=if j=k then some d else if a=j then some e else BH ks ds j
     rw [ih ds (by simpa using hl) fun z=>hm (List.mem_cons_of_mem _ z)]
     by_cases e1:a=j
     ·rw [if_pos e1,if_pos e1,if_neg (fun z=>hm (by rw [← z,← e1]; exact List.mem_cons_self))]
     ·rw [if_neg e1,if_neg e1]
  exact go ks ds hl h
section
variable {X:Cx}{a b e:Expr}{κ κa κb:Kd}{wa wb:DW}{pos pos':Pos}
noncomputable def Ln(wk wv:DW):DW:=fun n ρ P=>wk n ρ fun k n1=>wv n1 ρ fun d n2=>∃key,keyOf k=some key/\P (.dic [key] [d]) n2
theorem LP(ha:DE X a κa wa)(hb:DE X b κb wb)(hk:κb≠.tp:=by intro z; cases z):DE X (.Dict [some a] [b] pos) .fr (Ln wa wb):=by
 obtain⟨t,h1,h2⟩:=ha
 obtain⟨u,g1,g2⟩:=hb
 refine⟨_,Q0 (PU h1 g1 Qx) rfl rfl (List.cons_ne_nil _ _) (by show 1<=15; decide),fun C M H n ρ σ P Q R w q=>fun p hp=>?_⟩
 have R1:=R.hold (o:=.dK []) hp
 have np:¬C.U p:=fun z=>by
  obtain⟨o,w⟩:=R.dom p (R.vM p (R.uV p z))
  rw [hp] at w; cases w
 refine h2 C _ _ n ρ σ _ _ R1 w fun x H2 k n1 e1 f1 r1 p1=>?_
 have R2:=R1.step e1 f1
 refine g2 C _ _ n1 ρ σ _ _ R2 p1 fun y H3 d n2 e2 f2 r2 p2=>?_
 obtain⟨key,hkey,p2⟩:=p2
 have R3:=R2.step e2 f2
 have hat:At X.K (fun b=>M b\/b=p) H3 d y:=r2.shOf R2.dom hk
 have hp3:H3 p=some (.dK []):=e2.keep (e1.keep AV np) np
 have hx:x=kV key:=C5 hkey (r1.tpOf R1.dom R1.vM)
 refine⟨hp3,[(key,y)],by rw [hx]; rfl,by show 1<=15; decide,?_⟩
 show Q (.ref p) (A9 H3 p (.dK [(key,y)]))
 refine q _ _ (.dic [key] [d]) n2 (fun b o eb=>?_) ?_ ⟨p,rfl,hp,[y],AV,rfl,?_⟩ p2
 ·have nb:b≠p:=Al eb hp
  obtain⟨o1,z1,k1⟩:=e1 b o (by rw [AQ nb]; exact eb)
  obtain⟨o2,z2,k2⟩:=e2 b o1 z1
  exact⟨o2,by rw [AQ nb]; exact z2,fun nu=>(k2 nu).trans (k1 nu)⟩
 ·refine f2.pres ⟨fun b o eb nb=>by rw [AQ (fun z=>nb (.inr z))]; exact eb,fun b z=>.inl (.inl z)⟩ fun f o hf eb=>?_
  rw [AQ (fun z=>np (by rw [← z]; exact R.fU f hf))]
  exact eb
 ·exact⟨y,[],rfl,hat.pres (Dr (.inr rfl)),rfl⟩
noncomputable def GR(i:Nat)(wk wv:DW):Ab:=fun D2 n ρ=>∃ks ds,ρ[i]?=some (.ow (.dic ks ds))/\wv n ρ fun d n1=>wk n1 ρ fun k n2=>∃key,keyOf k=some key/\ks.length<sizeLine/\D2.nx n2 (ρ.set i (.ow (.dic (Cf ks key) (C3 ks ds key d))))
theorem KP{i k:Nat}{x:Expr}(hr:Room k X.A)(hx:PE X x (Bo i))(ha:DE X a κa wa)(hb:DE X b κb wb)(hk:κb≠.tp:=by intro z; cases z)
  (hs:swapsWith b (some (.Subscript x a pos')) pos.line X.env=pure false:=by rfl):DS X κ (.Assign [.Subscript x a pos'] b pos) (GR i wa wb):=by
 obtain⟨t,h1,h2⟩:=ha
 obtain⟨u,g1,g2⟩:=hb
 refine⟨_,Gz (Hs hr) hx h1 g1 hs,fun C M H n ρ σ D2 E R L w=>?_⟩
 obtain⟨ks,ds,hd,w⟩:=w
 refine g2 C M H n ρ σ _ _ R w fun v H1 d n1 e1 f1 r1 p=>?_
 have R1:=R.step e1 f1
 obtain⟨ad,ea,m,nv,tt⟩:=R1.sl i _ hd
 refine⟨.ref ad,getD_some ea,?_⟩
 refine h2 C M H1 n1 ρ σ _ _ R1 p fun y H2 kk n2 e2 f2 r2 p=>?_
 obtain⟨key,hkey,hlt,p⟩:=p
 have R2:=R1.step e2 f2
 obtain⟨ad',ea',m',nv',tt'⟩:=R2.sl i _ hd
 rw [ea] at ea'
 cases ea'
 obtain⟨vs,hH,hl,hs'⟩:=tt'
 have hat:At X.K M H2 d v:=(r1.shOf R.dom hk).pres (R1.pres e2)
 have hvl:ks.length=vs.length:=by rw [hl,hs'.length]
 refine⟨ad,_,rfl,by rw [C5 hkey (r2.tpOf R1.dom R1.vM)]; exact DPut.k hH (by rw [List.length_zip]; omega),L.nx M _ n2 _ σ (R2.mut (e:=.dic (Cf ks key) (C3 ks ds key d)) hd ea ⟨C3 ks vs key v,by rw [AV,PN hvl],Mq hl,(hs'.putX hat).pres (Dr m')⟩) p⟩
noncomputable def UD:D->Option Bool
 | .lst xs=>some (!xs.isEmpty)
 | .tup xs=>some (!xs.isEmpty)
 | .bl b=>some b
 | .non=>some false
 | _=>none
noncomputable def SX(wa:DW):G5:=fun n ρ P=>wa n ρ fun d n1=>∃c,UD d=some c/\P c n1
theorem JT{K:Frag}{M:Addr->Prop}{H:Hp}{ds:List D}{vs:List V}(h:Ats K M H ds vs):vs.isEmpty=ds.isEmpty:=by
 have:=h.length
 cases vs <;> cases ds <;> first | rfl | cases this
theorem Sg{U M:Addr->Prop}{H:Hp}{K:Frag}{d:D}{x:V}{c:Bool}(h:AtT K U M H d x)(e:UD d=some c):Tw K x H c:=by
 cases d with
 | lst ds=>cases e; obtain⟨a,vs,rfl,_,hq,hs⟩:=h; exact .inl ⟨vs,.inl hq,by rw [JT hs]⟩
 | tup ds=>cases e; obtain⟨a,vs,rfl,hq,hs⟩:=h; exact .inr (.inl ⟨vs,.inl (.inl hq.2),by rw [JT hs]⟩)
 | bl b=>cases e; rw [h.bl]; exact rfl
 | non=>cases e; rw [show x=.non from h]; exact rfl
 | _=>cases e
theorem Td(h:DE X e κ wa)(he:∀whole,isTrue e X.env whole=(do let v ← whole; standAt e.pos; holding [v] (truthy v)):=by intro _; rfl):DT X e (SX wa):=by
 obtain⟨t,h1,h2⟩:=h
 refine⟨_,PP h1 he,fun C M H n ρ σ P Q R w q=>?_⟩
 refine h2 C M H n ρ σ _ _ R w fun v H' d n' e1 f1 r1 p=>?_
 obtain⟨c,hc,p⟩:=p
 exact⟨c,Sg (r1.tpOf R.dom R.vM) hc,q c H' n' e1 f1 p⟩
noncomputable def Eo(neg:Bool)(d e:D)(P:D->Prop):Prop:=e=.non/\P (.bl (if neg then !LK d else LK d))
theorem Lf{K:Frag}:Fp K .sh (fun x y H Q=>y=.non/\Q (.bl (decide (x=.non))) H) (Eo false):=fun U M H d e x y P Q dom vM hx hy w q=>by
 obtain⟨rfl,w⟩:=w
 exact⟨hy,q _ H (.bl (LK d)) .refl (by rw [LJ hx]; rfl) w⟩
theorem IJ{K:Frag}:Fp K .sh (fun x y H Q=>y=.non/\Q (.bl (!decide (x=.non))) H) (Eo true):=fun U M H d e x y P Q dom vM hx hy w q=>by
 obtain⟨rfl,w⟩:=w
 exact⟨hy,q _ H (.bl (!LK d)) .refl (by rw [LJ hx]; rfl) w⟩
variable {apos cpos:Pos}{f:Expr}{κf:Kd}{wf:DW}
noncomputable def Oq(wa wk:DW):DW:=fun n ρ P=>wa n ρ fun d n1=>∃ks ds,IB d=some (ks,ds)/\wk n1 ρ fun k n2=>∃key,keyOf k=some key/\P ((BH ks ds key).getD .non) n2
noncomputable def Oo(wa wk wx:DW):DW:=fun n ρ P=>wa n ρ fun d n1=>∃ks ds,IB d=some (ks,ds)/\wk n1 ρ fun k n2=>wx n2 ρ fun z n3=>∃key,keyOf k=some key/\P ((BH ks ds key).getD z) n3
theorem Ot{U M:Addr->Prop}{H:Hp}{K:Frag}{d z:D}{x v:V}{ks:List Key}{ds:List D}{key:Key}(e:IB d=some (ks,ds))(h:AtT K U M H d x)(hz:At K M H z v):∃a o,x=.ref a/\DGet H a (kV key) o/\At K M H ((BH ks ds key).getD z) (o.getD v):=by
 obtain⟨a,vs,rfl,ha,hs⟩:=IA e h
 refine⟨a,Co (ks.zip vs) key,rfl,G3 ha,?_⟩
 have h:=FI (k:=key) (ks:=ks) hs
 cases c:BH ks ds key with
 | none=>rw [c] at h; rw [show Co (ks.zip vs) key=none from h]; exact hz
 | some y=>rw [c] at h; obtain⟨u,h1,h2⟩:=h; rw [h1]; exact h2
theorem P2{U M:Addr->Prop}{H:Hp}{K:Frag}{d:D}{x:V}{ks:List Key}{ds:List D}(e:IB d=some (ks,ds))(h:AtT K U M H d x):∃a,x=.ref a/\VO H a:=by
 obtain⟨a,vs,rfl,ha,hs⟩:=IA e h
 exact⟨a,rfl,.inl ⟨_,ha⟩⟩
theorem Rf{k:Nat}(hr:Room k X.A)(ha:DE X a κa wa)(hb:DE X b κb wb)(m:M1 X a "get" apos b cpos:=by exact⟨rfl,rfl,rfl,rfl⟩):DE X (.Call (.Attribute a "get" apos) [b] [] cpos) .sh (Oq wa wb):=by
 obtain⟨t,h1,h2⟩:=ha
 obtain⟨u,g1,g2⟩:=hb
 refine⟨_,Pf (Hs hr) h1 g1 m,fun C M H n ρ σ P Q R w q=>?_⟩
 refine h2 C M H n ρ σ _ _ R w fun v H1 d n1 e1 f1 r1 p=>?_
 obtain⟨ks,ds,hd,p⟩:=p
 have R1:=R.step e1 f1
 obtain⟨ad,rfl,hI⟩:=P2 hd (r1.tpOf R.dom R.vM)
 refine⟨ad,rfl,hI,?_⟩
 refine g2 C M H1 n1 ρ σ _ _ R1 p fun y H2 kk n2 e2 f2 r2 p=>?_
 obtain⟨key,hkey,p⟩:=p
 have R2:=R1.step e2 f2
 have hat:=(r1.tpOf R.dom R.vM).pres (R1.pres e2) e2 R.uV
 obtain⟨ad',o,ex,g,hz⟩:=Ot (key:=key) hd hat (z:=.non) (v:=.non) rfl
 cases ex
 exact⟨o,by rw [C5 hkey (r2.tpOf R1.dom R1.vM)]; exact g,q _ H2 _ n2 (e1.trans e2) f2 hz p⟩
theorem Rc{k:Nat}(hr:Room k X.A)(ha:DE X a κa wa)(hb:DE X b κb wb)(hf:DE X f κf wf)(hk:κf≠.tp:=by intro z; cases z)(m:M2 X a "get" apos b f cpos:=by exact⟨rfl,rfl,rfl,rfl⟩):DE X (.Call (.Attribute a "get" apos) [b,f] [] cpos) .sh (Oo wa wb wf):=by
 obtain⟨t,h1,h2⟩:=ha
 obtain⟨u,g1,g2⟩:=hb
 obtain⟨u2,k1,k2⟩:=hf
 refine⟨_,Pe (Hs hr) h1 g1 k1 m,fun C M H n ρ σ P Q R w q=>?_⟩
 refine h2 C M H n ρ σ _ _ R w fun v H1 d n1 e1 f1 r1 p=>?_
 obtain⟨ks,ds,hd,p⟩:=p
 have R1:=R.step e1 f1
 obtain⟨ad,rfl,hI⟩:=P2 hd (r1.tpOf R.dom R.vM)
 refine⟨ad,rfl,hI,?_⟩
 refine g2 C M H1 n1 ρ σ _ _ R1 p fun y H2 kk n2 e2 f2 r2 p=>?_
 have R2:=R1.step e2 f2
 refine k2 C M H2 n2 ρ σ _ _ R2 p fun z H3 dz n3 e3 f3 r3 p=>?_
 obtain⟨key,hkey,p⟩:=p
 have R3:=R2.step e3 f3
 have hat:=((r1.tpOf R.dom R.vM).pres (R1.pres e2) e2 R.uV).pres (R2.pres e3) e3 R.uV
 have hy:=(r2.tpOf R1.dom R1.vM).pres (R2.pres e3) e3 R.uV
 obtain⟨ad',o,ex,g,hz⟩:=Ot (key:=key) hd hat (r3.shOf R2.dom hk)
 cases ex
 exact⟨o,by rw [C5 hkey hy]; exact g,q _ H3 _ n3 ((e1.trans e2).trans e3) f3 hz p⟩
end
end Dp
namespace L2
open PySem PySem.Spec PyProof.Rows
open AutoSeq1 (wpAny_loadPart')
theorem N0:typeLookup (.type "list_reverseiterator") "__len__"=pure none:=by rw [typeLookup_type,builtinLookup_eq_fast]; kernel_rfl
theorem P9:typeLookup (.type "list_reverseiterator") "__length_hint__"=pure (some (.builtin "list_reverseiterator.__length_hint__")):=by rw [typeLookup_type,builtinLookup_eq_fast]; kernel_rfl
theorem boot_reversed:bootBuiltins "reversed"=some (.type "reversed"):=by decide +kernel
section
variable {prog:Program}{w:World}{A:Around}{E:Value->Shared->Prop}{s:Shared}{I:Addr}{fp wr:List Addr}{G:Array GenState->Array GenState->Prop}{n:Nat}{P:Nat->Value->Prop}{St:Nat->Shared->Prop}
theorem LS{Q:List Value->Shared->Prop}
  (W:WalksS prog w A.in1 I fp wr G n P St) (hT:∀i s,St i s->s.TypeIs (.ref I) "list_reverseiterator") (hst:St 0 s) (hfp:∀b∈fp,b<s.heap.objs.size) (hI:I∈fp)
  (hQ:∀s' acc,Moved wr G s s'->ItemsOf P acc n->Q acc.toList s') (hn:n<=sizeLine):wpAny (model prog w) A (collect (.ref I)) Q E s:=by
 have hSf:s.heap.objs.size∉fp:=fun hm=>Nat.lt_irrefl _ (hfp _ hm)
 have hSI:s.heap.objs.size≠I:=fun e=>hSf (e▸hI)
 unfold collect
 refine wpAny_bind (wpAny_runValue (codeAny_builtin F.entry_proto_collect ?_))
 rw [Around.under_plainId F.plain_proto_collect _]
 show wpAny _ A.in1 (newList [] >>= fun l=>again (.builtin "list.__iadd__" ⟨[l,.ref I],[]⟩)) _ _ s
 refine wpAny_bind (wpAny_newObj_type ?_)
 refine wpAny_pure ⟨plainId_quiet F.plain_list_iadd _,codeAny_builtin F.entry_list_iadd ?_⟩
 rw [Around.under_plainId F.plain_list_iadd _]
 have hst₁:=W.frame 0 s (s.heap.push { cls:=.type "list",data:=.seq ([]:List Value).toArray }) s.toks hst (Nat.le_refl _) fun b _ o e=>Heap.get?_push_of_some _ e
 have hS₁:(s.heap.push { cls:=.type "list",data:=.seq ([]:List Value).toArray }).get? s.heap.objs.size=some { cls:=.type "list",data:=.seq ([]:List Value).toArray }:=Heap.get?_push_size _ rfl
 have h1:Builtin.List.listSameRef (.ref s.heap.objs.size) (.ref I)=false:=by simp [Builtin.List.listSameRef,hSI]
 show wpAny _ A.in1 (Builtin.List.listExtendWith (.ref s.heap.objs.size) (.ref I) (.ref s.heap.objs.size)) _ _ _
 unfold Builtin.List.listExtendWith
 refine wpAny_bind (wpAny_typeOf (hT 0 _ hst₁) ?_)
 rw [if_neg (by rw [h1]; decide)]
 refine wpAny_bind (W.self 0 _ _ _ hst₁ ?_)
 refine wpAny_bind (wpAny_holding ?_)
 unfold Builtin.List.listLengthHint
 refine wpAny_bind (wpAny_specialOf (hT 0 _ hst₁) N0 ?_)
 show wpAny _ A.in1 (specialOf (Value.ref I) (Str.ofString "__length_hint__") >>= _) _ _ _
 refine wpAny_bind (wpAny_specialOf (hT 0 _ hst₁) P9 ?_)
 (generalize hid:("list_reverseiterator.__length_hint__" : String)=id0; wp_delta; rw [show splitId id0=some ("list_reverseiterator","__length_hint__") from by subst hid; decide +kernel]; subst hid)
 refine wpAny_bind (wpAny_isInstance (b:=true) (hT 0 _ hst₁) (by rw [isSubtype_type]; kernel_rfl) ?_)
 refine wpAny_pure ?_
 rw [if_neg (by decide)]
 refine wpAny_pure ⟨plainId_quiet F.plain_extend_loop _,codeAny_extend_loopS W hn _ hSf _ n 0 _ _ _ rfl (Nat.zero_le _) hst₁ hS₁ (ItemsOf.nil P) fun s' acc' c' hm hS' hacc=>?_⟩
 show wpAny _ A (load s.heap.objs.size >>= _) _ _ s'
 refine wpAny_bind (wpAny_load hS' ?_)
 exact wpAny_pure (hQ s' acc' (Moved.drop_new (o:={ cls:=.type "list",data:=.seq ([]:List Value).toArray }) (tk:=s.toks) hm (Nat.le_refl _)) hacc)
theorem IC{Q₁:Value->Shared->Prop}(W:WalksS prog w A.in1.in1 I fp wr G n P St)(hT:∀i s,St i s->s.TypeIs (.ref I) "list_reverseiterator")(hst:St 0 s)(hfp:∀b∈fp,b<s.heap.objs.size)(hI:I∈fp)
  (h:∀s' acc,Moved wr G s s'->ItemsOf P acc n->Q₁ (.ref s'.heap.objs.size) { s' with heap:=s'.heap.push { cls:=.type "tuple",data:=.seq acc } }) (hsz:n<=sizeLine) :
  codeAny (model prog w) A (.call (.builtin "tuple.__new__") ⟨[.type "tuple",.ref I],[]⟩) (wants Q₁ E) s:=by
 refine codeAny_of_tree ?_
 show wpAny _ A.in1 (do checkBuiltinCall "tuple.__new__" ⟨[.type "tuple",.ref I],[]⟩; again (.builtin "tuple.__new__" ⟨[.type "tuple",.ref I],[]⟩)) _ _ s
 refine wpAny_bind (wpAny_of_eq (F.newCall_tuple_1 _) (wpAny_pure ⟨plainId_quiet F.plain_tuple_new _,codeAny_builtin F.entry_tuple_new ?_⟩))
 rw [Around.under_plainId F.plain_tuple_new _]
 have hsub:=sub_tuple_self
 have hinit:=init_tuple_lookup
 have hmh:=madeHere_tuple
 have hTI:=hT 0 s hst
 wp_walk using wpAny_typeOf hTI,LS (hn:=hsz) W hT hst hfp hI
 intro s' acc hm hacc
 show wpAny _ _ (Builtin.Tuple.tupleExact acc.toList.toArray >>= fun v=>ret v) _ _ _
 unfold Builtin.Tuple.tupleExact
 refine wpAny_bind (wpAny_newObj_type ?_ (by show acc.toList.toArray.size<=sizeLine; simp only [Array.toArray_toList]; rw [hacc.1]; exact hsz))
 refine wpAny_pure ?_
 have e:acc.toList.toArray=acc:=by simp
 rw [e]
 exact h s' acc hm hacc
theorem IE{Q:Value->Shared->Prop}(W:WalksS prog w A.in1.in1.in1 I fp wr G n P St)(hT:∀i s,St i s->s.TypeIs (.ref I) "list_reverseiterator")(hst:St 0 s)(hfp:∀b∈fp,b<s.heap.objs.size)(hI:I∈fp)
  (hQ:∀s' acc,Moved wr G s s'->ItemsOf P acc n->Q (.ref s'.heap.objs.size) { s' with heap:=s'.heap.push { cls:=.type "tuple",data:=.seq acc } }) (hsz:n<=sizeLine) :
  wpAny (model prog w) A (call (.type "tuple") [.ref I]) Q E s:=by
 refine callType_codes (Q₁:=fun obj s₁=>s₁.TypeIs obj "tuple"/\Q obj s₁) F.called_tuple (F.typeCall_tuple_1 _) F.entry_object_init
  (IC (hsz:=hsz) W hT hst hfp hI fun s' acc hm hacc=>⟨⟨_,Heap.get?_push_size _ rfl,rfl⟩,hQ s' acc hm hacc⟩) fun obj s₁ h₁=>?_
 exact⟨h₁.1,F.args_object_init_2 obj _,object_init_meets F.called_tuple.init.lookup F.called_tuple.made (by decide) prog w A.in1 _ s₁ ⟨h₁.1,rfl,h₁.2⟩⟩
end
section
variable {X:Cx}{e:Expr}{te:TE}{p1 p2 q1 q2:Pos}
noncomputable def Qn(K:Frag)(te:TE):TE:=fun σ H Q=>te σ H fun x H1=>∃l xs,x=.ref l/\SqL K H1 l xs/\∀r,H1 r=none->Q (.ref r) (A9 H1 r (.tup xs.reverse))
theorem Np(hc:X.calm=true)(he:PE X e te)(hg1:Gl X "tuple")(hm1:X.mg "tuple"=none)(hg2:Gl X "reversed")(hm2:X.mg "reversed"=none)(h1:starEach [Expr.Call (.Name "reversed" p2) [e] [] q2] X.env=[(false,eval (Expr.Call (.Name "reversed" p2) [e] [] q2) X.env)]:=by rfl)
  (h2:starEach [e] X.env=[(false,eval e X.env)]:=by rfl):PE X (.Call (.Name "tuple" p1) [.Call (.Name "reversed" p2) [e] [] q2] [] q1) (Qn X.K te):=by
 intro pins s σ H Q I h
 refine wpAny_Call_Name_kw (EJ I hg1 hm1 boot_tuple ?_)
 refine PyProof.Rows.callWith_type1 ?_ h1 rfl
 rw [h1]
 refine Calls.spliced_cons ?_
 refine wpAny_Call_Name_kw (EJ I hg2 hm2 boot_reversed ?_)
 refine PyProof.Rows.callWith_type1 ?_ h2 rfl
 rw [h2]
 refine Calls.spliced_cons (BX (he pins s σ H _ I h) fun u s1 ⟨x,H1,I1,r1,l,xs,ex,hq,q⟩=>Calls.spliced_nil ?_)
 subst ex
 cases r1
 obtain⟨its,r',pl,hz⟩:=I1.list hq
 have hlen:=r'.length
 have hl:s1.heap.IsList l its.toArray:=pl.isList
 have hlt:l<s1.heap.objs.size:=by obtain⟨_,e,_⟩:=id hl; exact Heap.lt_size e
 refine call_reversed_list hl (Calls.spliced_nil ?_)
 have hn1:H1 s1.heap.objs.size=none:=I1.fresh
 have I2:Inv X pins σ H1 { s1 with heap:=s1.heap.push (revObj l ((its.toArray.size:Int) - 1)) }:=I1.kept (t':=s1.toks) fun b o e=>Heap.get?_push_of_some _ e
 have fpk:Fo X pins H1 s1.heap.objs.size:=I1.fpOk (Nat.le_refl _) hn1
 refine IE (s:={ s1 with heap:=s1.heap.push (revObj l ((its.toArray.size:Int) - 1)) }) (Walks.listRev (A:=X.A.in1.in1.in1) (I1.ok.hd hc) s1.heap.objs.size l (Nat.ne_of_lt hlt) its.toArray).toS (fun i s' hs=>hs.2.1.typeIs) ⟨Nat.zero_le _,⟨_,Heap.get?_push_size _ rfl,rfl,by show Data.fields _=_; simp [revObj]⟩,hl.push _⟩ (fun b hb=>?_) List.mem_cons_self (fun s' acc hm hacc=>?_) (by rw [List.size_toArray,← hlen]; exact hz)
 ·rcases List.mem_cons.mp hb with rfl | hb
  ·exact Heap.lt_size (Heap.get?_push_size _ rfl)
  ·obtain rfl:=List.mem_singleton.mp hb
   exact Nat.lt_of_lt_of_le hlt (by show s1.heap.objs.size<=(s1.heap.push _).objs.size; rw [size_push']; exact Nat.le_succ _)
 ·obtain⟨h',g',d',tk',os'⟩:=s'
  have e1:g'=s1.gens:=hm.gens
  have e2:d'=s1.drawn:=hm.drawn
  have e3:os'=s1.os:=hm.os
  subst e1 e2 e3
  have I3':=I2.turnedL (h':=h') (t':=tk') (ch:=[s1.heap.objs.size]) (fun c hc=>by rw [List.mem_singleton.mp hc]; exact fpk) fun b o hb e=>hm.heap b o hb e
  have I3:Inv X pins σ H1 { s1 with heap:=h',toks:=tk' }:=I3'
  have hv:acc.toList=its.reverse:=by
   refine List.ext_getElem? fun i=>?_
   obtain⟨a1,a2⟩:=hacc
   have e0:acc.toList[i]?=acc[i]?:=by simp
   rw [e0]
   by_cases hi:i<its.length
   ·have hi2:i<acc.size:=by rw [a1,List.size_toArray]; exact hi
    have a3:=a2 i acc[i] (Array.getElem?_eq_getElem hi2)
    rw [List.getElem?_reverse hi,Array.getElem?_eq_getElem hi2,← a3,List.size_toArray]
    simp
   ·rw [List.getElem?_eq_none (by rw [List.length_reverse]; omega)]
    exact Array.getElem?_eq_none (by rw [a1,List.size_toArray]; omega)
  have hv2:acc=its.reverse.toArray:=by rw [← hv]
  have rr:Vals xs.reverse its.reverse:=r'.reverse
  refine⟨.ref h'.objs.size,A9 H1 h'.objs.size (.tup xs.reverse),I3.laid (t':=tk') (fun b o e=>Heap.get?_push_of_some _ e) (Nat.le_refl _) (show ObjOk X.prog X.w _ _ _ (.tup xs.reverse) from⟨by rw [List.length_reverse]; exact hz,its.reverse,rr,by rw [hv2]; exact IsTupN.new _ _⟩),rfl,q _ (I3.hok.fresh (Nat.le_refl _))⟩
end
end L2
namespace Dp
open PySem PySem.Spec PyProof.Rows L2
noncomputable def Mb(wa:DW):DW:=fun n ρ P=>wa n ρ fun d n1=>∃xs,d=.lst xs/\P (.tup xs.reverse) n1
section
variable {X:Cx}{a:Expr}{κa:Kd}{wa:DW}{p1 p2 q1 q2:Pos}
theorem OS(hc:X.calm=true)(ha:DE X a κa wa)(hg1:Gl X "tuple")(hm1:X.mg "tuple"=none)(hg2:Gl X "reversed")(hm2:X.mg "reversed"=none)(h1:starEach [Expr.Call (.Name "reversed" p2) [a] [] q2] X.env=[(false,eval (Expr.Call (.Name "reversed" p2) [a] [] q2) X.env)]:=by rfl)
  (h2:starEach [a] X.env=[(false,eval a X.env)]:=by rfl):DE X (.Call (.Name "tuple" p1) [.Call (.Name "reversed" p2) [a] [] q2] [] q1) .sh (Mb wa):=by
 obtain⟨t,a1,a2⟩:=ha
 refine⟨_,Np hc a1 hg1 hm1 hg2 hm2 h1 h2,fun C M H n ρ σ P Q R w q=>?_⟩
 refine a2 C M H n ρ σ _ _ R w fun v H1 d n1 e1 f1 r1 p=>?_
 obtain⟨xs,rfl,p⟩:=p
 have R1:=R.step e1 f1
 obtain⟨ad,vs,rfl,nV,hq,hs⟩:=r1.tpOf R.dom R.vM
 refine⟨ad,vs,rfl,.inl hq,fun r hr=>?_⟩
 have g:Grow H1 (A9 H1 r (.tup vs.reverse)):=A1 hr
 exact q _ _ (.tup xs.reverse) n1 (e1.trans g.ext) (f1.grow g) (DZ R1.dom hr (hs.reverse)) p
end
end Dp
namespace Nt
open PySem PySem.Spec PyProof.Rows L2 Dp
noncomputable def Ed(N:Net)(x y:Str)(l:Int):Prop:=(y,l)∈DB N.ts x
inductive Wk (N:Net) (s:Str):Str->Int->Prop
 | nil:Wk N s s 0
 | snoc {x y:Str} {d l:Int}:Wk N s x d->Ed N x y l->Wk N s y (d+l)
noncomputable def Least(N:Net)(s x:Str)(d:Int):Prop:=Wk N s x d/\∀d',Wk N s x d'->d<=d'
theorem Ed.pos{N:Net}(ok:N.Ok){x y:Str}{l:Int}(h:Ed N x y l):1<=l/\l<=1000000:=by
 obtain⟨_,h1,h2,_⟩:=J3 ok h
 exact⟨h1,h2⟩
theorem Ed.ins{N:Net}(ok:N.Ok){x y:Str}{l:Int}(h:Ed N x y l):y∈N.ps:=(J3 ok h).1
theorem Wk.pos{N:Net}(ok:N.Ok){s x:Str}{d:Int}(h:Wk N s x d):0<=d:=by
 induction h with
 | nil=>exact Int.le_refl _
 | snoc _ he ih=>have:=he.pos ok; omega
theorem Least.unique{N:Net}{s x:Str}{d d':Int}(h:Least N s x d)(h':Least N s x d'):d=d':=by
 have:=h.2 d' h'.1
 have:=h'.2 d h.1
 omega
theorem Fb{N:Net}{s:Str}{F:Str->Option Int}(h0:∃d,F s=some d/\d<=0)(hw:∀x d,F x=some d->Wk N s x d)(hc:∀x d y l,F x=some d->Ed N x y l->∃d',F y=some d'/\d'<=d+l) :
  (∀x d,F x=some d->Least N s x d)/\∀x d,Wk N s x d->F x≠none:=by
 have main:∀x d,Wk N s x d->∃d',F x=some d'/\d'<=d:=by
  intro x d h
  induction h with
  | nil=>exact h0
  | snoc _ he ih =>
   obtain⟨d1,e1,h1⟩:=ih
   obtain⟨d2,e2,h2⟩:=hc _ _ _ _ e1 he
   exact⟨d2,e2,by omega⟩
 refine⟨fun x d e=>⟨hw x d e,fun d' h=>?_⟩,fun x d h e=>?_⟩
 ·obtain⟨d1,e1,h1⟩:=main x d' h
  rw [e] at e1
  cases e1
  exact h1
 ·obtain⟨d1,e1,_⟩:=main x d h
  rw [e] at e1
  cases e1
theorem KL{N:Net}{t:Ap}(ht:t∈N.ts):Ed N t.a t.b t.len/\Ed N t.b t.a t.len:=by
 constructor
 ·exact List.mem_flatMap.mpr ⟨t,ht,List.mem_append_left _ (by rw [if_pos rfl]; exact List.mem_singleton.mpr rfl)⟩
 ·exact List.mem_flatMap.mpr ⟨t,ht,List.mem_append_right _ (by rw [if_pos rfl]; exact List.mem_singleton.mpr rfl)⟩
theorem Ed.tie{N:Net}(ok:N.Ok){x y:Str}{l:Int}(h:Ed N x y l):∃t∈N.ts,t.len=l/\((t.a=x/\t.b=y)\/(t.b=x/\t.a=y)):=by
 obtain⟨_,_,_,t,ht,e,h⟩:=J3 ok h
 exact⟨t,ht,e,h⟩
structure Dmap (ks:List Key) (ds:List D) (enc:α->D) (F:Str->Option α):Prop where
 len:ks.length=ds.length
 at_:∀x:Str,BH ks ds (.inr x)=(F x).map enc
 dom:∀k∈ks,∃x:Str,k=.inr x
 nd:ks.Nodup
theorem Dmap.mem{α:Type}{ks:List Key}{ds:List D}{enc:α->D}{F:Str->Option α}(h:Dmap ks ds enc F)(x:Str):(.inr x∈ks)↔F x≠none:=by
 constructor
 ·intro hm e
  obtain⟨z,hz⟩:=Iq h.len hm
  rw [h.at_,e] at hz
  cases hz
 ·intro hn
  by_cases hm:(Sum.inr x:Key)∈ks
  ·exact hm
  ·have:=Ir (ds:=ds) hm
   rw [h.at_] at this
   cases e:F x with
   | none=>exact absurd e hn
   | some a=>rw [e] at this; cases this
theorem Dmap.one{α:Type}{enc:α->D}{s:Str}{a:α}:Dmap [.inr s] [enc a] enc (fun x=>if x=s then some a else none):=by
 refine⟨rfl,fun x=>?_,fun k hk=>⟨s,List.mem_singleton.mp hk⟩,List.nodup_cons.mpr ⟨List.not_mem_nil,List.nodup_nil⟩⟩
 show (if (Sum.inr s:Key)=.inr x then some (enc a) else none)=(if x=s then some a else none).map enc
 by_cases e:x=s
 ·rw [if_pos e,if_pos (by rw [e])]; rfl
 ·rw [if_neg e,if_neg (fun z=>e (Sum.inr.inj z).symm)]; rfl
noncomputable def Fu{α:Type}(F:Str->Option α)(x:Str)(a:α):Str->Option α:=fun y=>if y=x then some a else F y
theorem BQ{α:Type}{F:Str->Option α}{x:Str}{a:α}:Fu F x a x=some a:=if_pos rfl
theorem BP{α:Type}{F:Str->Option α}{x y:Str}{a:α}(h:y≠x):Fu F x a y=F y:=if_neg h
theorem Dmap.put{α:Type}{ks:List Key}{ds:List D}{enc:α->D}{F:Str->Option α}(h:Dmap ks ds enc F)(x:Str)(a:α):Dmap (Cf ks (.inr x)) (C3 ks ds (.inr x) (enc a)) enc (Fu F x a):=by
 refine⟨Mq h.len,fun y=>?_,fun k hk=>?_,?_⟩
 ·rw [Ou h.len]
  unfold Fu
  by_cases e:y=x
  ·rw [if_pos e,if_pos (by rw [e])]; rfl
  ·rw [if_neg e,if_neg (fun z=>e (Sum.inr.inj z)),h.at_]
 ·unfold Cf at hk
  split at hk
  ·exact h.dom k hk
  ·rcases List.mem_append.mp hk with hk | hk
   ·exact h.dom k hk
   ·exact⟨x,List.mem_singleton.mp hk⟩
 ·unfold Cf
  split
  ·exact h.nd
  ·rename_i hn
   rw [List.nodup_append]
   refine⟨h.nd,List.nodup_cons.mpr ⟨List.not_mem_nil,List.nodup_nil⟩,fun a ha b hb e=>hn (hasK_iff.mpr ?_)⟩
   rw [← List.mem_singleton.mp hb,← e]
   exact ha
theorem Dmap.le{α:Type}{ks:List Key}{ds:List D}{enc:α->D}{F:Str->Option α}(h:Dmap ks ds enc F){ps:List Str}(hp:∀x,F x≠none->x∈ps):ks.length<=ps.length:=by
 have:∀(ks:List Key) (ps:List Str),ks.Nodup->(∀k∈ks,∃x:Str,k=.inr x/\x∈ps)->ks.length<=ps.length:=by
  intro ks
  induction ks with
  | nil=>intro ps _ _; exact Nat.zero_le _
  | cons k ks ih =>
   intro ps hn hm
   obtain⟨x,rfl,hx⟩:=hm k List.mem_cons_self
   have hn:=List.nodup_cons.mp hn
   have h1:=ih (ps.erase x) hn.2 fun j hj=>by
    obtain⟨y,rfl,hy⟩:=hm j (List.mem_cons_of_mem _ hj)
    refine⟨y,rfl,(List.mem_erase_of_ne fun e=>?_).mpr hy⟩
    rw [e] at hj
    exact hn.1 hj
   rw [List.length_erase_of_mem hx] at h1
   have:=List.length_pos_of_mem hx
   rw [List.length_cons]
   omega
 refine this ks ps h.nd fun k hk=>?_
 obtain⟨x,rfl⟩:=h.dom k hk
 exact⟨x,rfl,hp x ((h.mem x).mp hk)⟩
noncomputable abbrev Lj:=Str->Option (Int×Option Str)
structure Dj (N:Net) (s:Str) (F:Lj) (Wt:List Str):Prop where
 start:F s=some (0,none)
 ins:∀x,F x≠none->x∈N.ps
 wk:∀x d p,F x=some (d,p)->Wk N s x d
 prev:∀x d p,F x=some (d,p)->(p=none/\x=s)\/∃y dy q l,p=some y/\F y=some (dy,q)/\y∉Wt/\Ed N y x l/\d=dy+l
 wfound:∀x∈Wt,F x≠none
 nd:Wt.Nodup
 done:∀x d p y l,F x=some (d,p)->x∉Wt->Ed N x y l->∃dy q,F y=some (dy,q)/\dy<=d+l
 near:∀x d p y dy q,F x=some (d,p)->x∉Wt->F y=some (dy,q)->y∈Wt->d<=dy
theorem Dj.init{N:Net}{s:Str}(hs:s∈N.ps):Dj N s (fun x=>if x=s then some (0,none) else none) [s]:=by
 have iff:∀x d p,(if x=s then some ((0:Int),(none:Option Str)) else none)=some (d,p)->x=s/\d=0/\p=none:=fun x d p e=>by
  by_cases h:x=s
  ·rw [if_pos h] at e; cases e; exact⟨h,rfl,rfl⟩
  ·rw [if_neg h] at e; cases e
 refine⟨if_pos rfl,fun x e=>?_,fun x d p e=>?_,fun x d p e=>?_,fun x hx=>?_,List.nodup_cons.mpr ⟨List.not_mem_nil,List.nodup_nil⟩,fun x d p y l e hx=>?_,fun x d p y dy q e hx=>?_⟩
 ·by_cases h:x=s
  ·rw [h]; exact hs
  ·exact absurd (if_neg h) e
 ·obtain⟨rfl,rfl,rfl⟩:=iff x d p e
  exact .nil
 ·obtain⟨rfl,rfl,rfl⟩:=iff x d p e
  exact .inl ⟨rfl,rfl⟩
 ·rw [List.mem_singleton.mp hx,if_pos rfl]
  intro z; cases z
 ·exact absurd (List.mem_singleton.mpr (iff x d p e).1) hx
 ·exact absurd (List.mem_singleton.mpr (iff x d p e).1) hx
structure Dm (N:Net) (s:Str) (F:Lj) (Wt:List Str) (v:Str) (dv:Int) (seen:List (Str×Int)):Prop where
 start:F s=some (0,none)
 ins:∀x,F x≠none->x∈N.ps
 wk:∀x d p,F x=some (d,p)->Wk N s x d
 prev:∀x d p,F x=some (d,p)->(p=none/\x=s)\/∃y dy q l,p=some y/\F y=some (dy,q)/\y∉Wt/\Ed N y x l/\d=dy+l
 wfound:∀x∈Wt,F x≠none
 nd:Wt.Nodup
 done:∀x d p y l,F x=some (d,p)->x∉Wt->x≠v->Ed N x y l->∃dy q,F y=some (dy,q)/\dy<=d+l
 near:∀x d p y dy q,F x=some (d,p)->x∉Wt->F y=some (dy,q)->y∈Wt->d<=dy
 here:∃p,F v=some (dv,p)
 out:v∉Wt
 least:∀x d p,F x=some (d,p)->x∉Wt->d<=dv
 gone:∀y l,(y,l)∈seen->∃dy q,F y=some (dy,q)/\dy<=dv+l
theorem Dj.take{N:Net}{s:Str}{F:Lj}{Wt:List Str}(h:Dj N s F Wt){v:Str}{dv:Int}{p:Option Str}(hv:v∈Wt)(e:F v=some (dv,p))(hmin:∀y∈Wt,∀dy q,F y=some (dy,q)->dv<=dy):Dm N s F (Wt.erase v) v dv []:=by
 have sub:∀x,x∈Wt.erase v->x∈Wt:=fun x hx=>List.mem_of_mem_erase hx
 have out:v∉Wt.erase v:=fun z=>(h.nd.mem_erase_iff.mp z).1 rfl
 have back:∀x,x∉Wt.erase v->x=v\/x∉Wt:=fun x hx=>by
  by_cases e:x=v
  ·exact .inl e
  ·exact .inr fun z=>hx (h.nd.mem_erase_iff.mpr ⟨e,z⟩)
 refine⟨h.start,h.ins,h.wk,fun x d q ex=>?_,fun x hx=>h.wfound x (sub x hx),h.nd.erase v,fun x d q y l ex hx nx he=>?_,fun x d q y dy q2 ex hx ey hy=>?_,⟨p,e⟩,out,fun x d q ex hx=>?_,fun y l hy=>by cases hy⟩
 ·rcases h.prev x d q ex with z | ⟨y,dy,q2,l,e1,e2,e3,e4,e5⟩
  ·exact .inl z
  ·exact .inr ⟨y,dy,q2,l,e1,e2,fun z=>e3 (sub y z),e4,e5⟩
 ·rcases back x hx with z | z
  ·exact absurd z nx
  ·exact h.done x d q y l ex z he
 ·rcases back x hx with z | z
  ·subst z
   rw [e] at ex
   cases ex
   exact hmin y (sub y hy) dy q2 ey
  ·exact h.near x d q y dy q2 ex z ey (sub y hy)
 ·rcases back x hx with z | z
  ·subst z
   rw [e] at ex
   cases ex
   exact Int.le_refl _
  ·exact h.near x d q v dv p ex z e hv
theorem Dm.finish{N:Net}{s:Str}{F:Lj}{Wt:List Str}{v:Str}{dv:Int}{seen:List (Str×Int)}(h:Dm N s F Wt v dv seen)(hs:∀y l,Ed N v y l->(y,l)∈seen):Dj N s F Wt:=by
 refine⟨h.start,h.ins,h.wk,h.prev,h.wfound,h.nd,fun x d p y l e hx he=>?_,h.near⟩
 by_cases z:x=v
 ·subst z
  obtain⟨p',e'⟩:=h.here
  rw [e'] at e
  cases e
  exact h.gone y l (hs y l he)
 ·exact h.done x d p y l e hx z he
theorem Dm.find{N:Net}(ok:N.Ok){s:Str}{F:Lj}{Wt:List Str}{v:Str}{dv:Int}{seen:List (Str×Int)}(h:Dm N s F Wt v dv seen){y:Str}{l:Int}(he:Ed N v y l)(hy:F y=none):Dm N s (Fu F y (dv+l,some v)) (Wt++[y]) v dv (seen++[(y,l)]):=by
 have hpos:=(he.pos ok).1
 obtain⟨pv,ev⟩:=h.here
 have ne:∀x d p,F x=some (d,p)->x≠y:=fun x d p e z=>by rw [z,hy] at e; cases e
 have keep:∀x d p,F x=some (d,p)->Fu F y (dv+l,some v) x=some (d,p):=fun x d p e=>by rw [BP (ne x d p e)]; exact e
 have yW:y∉Wt:=fun z=>h.wfound y z hy
 have cases_:∀x d p,Fu F y (dv+l,some v) x=some (d,p)->(x=y/\d=dv+l/\p=some v)\/(x≠y/\F x=some (d,p)):=fun x d p e=>by
  by_cases z:x=y
  ·rw [z,BQ] at e; cases e; exact .inl ⟨z,rfl,rfl⟩
  ·rw [BP z] at e; exact .inr ⟨z,e⟩
 have inW:∀x,x∉Wt++[y]->x∉Wt/\x≠y:=fun x hx=>⟨fun z=>hx (List.mem_append_left _ z),fun z=>hx (List.mem_append_right _ (by rw [z]; exact List.mem_singleton.mpr rfl))⟩
 have vW:v∉Wt++[y]:=fun z=>by
  rcases List.mem_append.mp z with z | z
  ·exact h.out z
  ·exact ne v dv pv ev (List.mem_singleton.mp z)
 refine⟨keep _ _ _ h.start,fun x hx=>?_,fun x d p e=>?_,fun x d p e=>?_,fun x hx=>?_,?_,fun x d p z l2 e hx nx he2=>?_,fun x d p z dz q e hx ez hz=>?_,⟨pv,keep _ _ _ ev⟩,vW,fun x d p e hx=>?_,fun z l2 hz=>?_⟩
 ·by_cases z:x=y
  ·rw [z]; exact he.ins ok
  ·rw [BP z] at hx; exact h.ins x hx
 ·rcases cases_ x d p e with ⟨rfl,rfl,_⟩ | ⟨_,e⟩
  ·exact .snoc (h.wk v dv pv ev) he
  ·exact h.wk x d p e
 ·rcases cases_ x d p e with ⟨rfl,rfl,rfl⟩ | ⟨_,e⟩
  ·exact .inr ⟨v,dv,pv,l,rfl,keep _ _ _ ev,vW,he,rfl⟩
  ·rcases h.prev x d p e with z | ⟨u,du,q,l2,e1,e2,e3,e4,e5⟩
   ·exact .inl z
   ·refine .inr ⟨u,du,q,l2,e1,keep _ _ _ e2,fun z=>?_,e4,e5⟩
    rcases List.mem_append.mp z with z | z
    ·exact e3 z
    ·exact ne u du q e2 (List.mem_singleton.mp z)
 ·rcases List.mem_append.mp hx with hx | hx
  ·have:=h.wfound x hx
   cases e:F x with
   | none=>exact absurd e this
   | some a=>rw [keep x a.1 a.2 e]; intro z; cases z
  ·rw [List.mem_singleton.mp hx,BQ]; intro z; cases z
 ·rw [List.nodup_append]
  exact⟨h.nd,List.nodup_cons.mpr ⟨List.not_mem_nil,List.nodup_nil⟩,fun a ha b hb e=>yW (by rw [← List.mem_singleton.mp hb,← e]; exact ha)⟩
 ·obtain⟨w1,w2⟩:=inW x hx
  rcases cases_ x d p e with ⟨z,_⟩ | ⟨_,e⟩
  ·exact absurd z w2
  ·obtain⟨d3,q3,e3,h3⟩:=h.done x d p z l2 e w1 nx he2
   exact⟨d3,q3,keep _ _ _ e3,h3⟩
 ·obtain⟨w1,w2⟩:=inW x hx
  rcases cases_ x d p e with ⟨z,_⟩ | ⟨_,ex⟩
  ·exact absurd z w2
  ·rcases cases_ z dz q ez with ⟨_,e2,_⟩ | ⟨nz,ez⟩
   ·have:=h.least x d p ex w1
    omega
   ·rcases List.mem_append.mp hz with hz | hz
    ·exact h.near x d p z dz q ex w1 ez hz
    ·exact absurd (List.mem_singleton.mp hz) nz
 ·obtain⟨w1,w2⟩:=inW x hx
  rcases cases_ x d p e with ⟨z,_⟩ | ⟨_,e⟩
  ·exact absurd z w2
  ·exact h.least x d p e w1
 ·rcases List.mem_append.mp hz with hz | hz
  ·obtain⟨d3,q3,e3,h3⟩:=h.gone z l2 hz
   exact⟨d3,q3,keep _ _ _ e3,h3⟩
  ·cases List.mem_singleton.mp hz
   exact⟨_,_,BQ,Int.le_refl _⟩
theorem Dm.nearer{N:Net}(ok:N.Ok){s:Str}{F:Lj}{Wt:List Str}{v:Str}{dv:Int}{seen:List (Str×Int)}(h:Dm N s F Wt v dv seen){y:Str}{l dy:Int}{qy:Option Str}(he:Ed N v y l)(hy:F y=some (dy,qy))(hlt:dv+l<dy):Dm N s (Fu F y (dv+l,some v)) Wt v dv (seen++[(y,l)]):=by
 have hpos:=(he.pos ok).1
 obtain⟨pv,ev⟩:=h.here
 have yW:y∈Wt:=by
  by_cases z:y∈Wt
  ·exact z
  ·have:=h.least y dy qy hy z
   omega
 have vy:v≠y:=fun z=>h.out (by rw [z]; exact yW)
 have keep:∀x,x∉Wt->Fu F y (dv+l,some v) x=F x:=fun x hx=>BP fun z=>hx (by rw [z]; exact yW)
 have cases_:∀x d p,Fu F y (dv+l,some v) x=some (d,p)->(x=y/\d=dv+l/\p=some v)\/(x≠y/\F x=some (d,p)):=fun x d p e=>by
  by_cases z:x=y
  ·rw [z,BQ] at e; cases e; exact .inl ⟨z,rfl,rfl⟩
  ·rw [BP z] at e; exact .inr ⟨z,e⟩
 have less:∀x d p,F x=some (d,p)->∃d' q,Fu F y (dv+l,some v) x=some (d',q)/\d'<=d:=fun x d p e=>by
  by_cases z:x=y
  ·subst z
   rw [hy] at e
   cases e
   exact⟨_,_,BQ,by omega⟩
  ·exact⟨d,p,by rw [BP z]; exact e,Int.le_refl _⟩
 have sy:s≠y:=fun z=>by
  have:=h.start
  rw [z,hy] at this
  cases this
  have:=(h.wk v dv pv ev).pos ok
  omega
 refine⟨by rw [BP sy]; exact h.start,fun x hx=>?_,fun x d p e=>?_,fun x d p e=>?_,fun x hx=>?_,h.nd,fun x d p z l2 e hx nx he2=>?_,fun x d p z dz q e hx ez hz=>?_,⟨pv,by rw [BP vy]; exact ev⟩,h.out,fun x d p e hx=>?_,fun z l2 hz=>?_⟩
 ·by_cases z:x=y
  ·rw [z]; exact he.ins ok
  ·rw [BP z] at hx; exact h.ins x hx
 ·rcases cases_ x d p e with ⟨rfl,rfl,_⟩ | ⟨_,e⟩
  ·exact .snoc (h.wk v dv pv ev) he
  ·exact h.wk x d p e
 ·rcases cases_ x d p e with ⟨rfl,rfl,rfl⟩ | ⟨_,e⟩
  ·exact .inr ⟨v,dv,pv,l,rfl,by rw [BP vy]; exact ev,h.out,he,rfl⟩
  ·rcases h.prev x d p e with z | ⟨u,du,q,l2,e1,e2,e3,e4,e5⟩
   ·exact .inl z
   ·exact .inr ⟨u,du,q,l2,e1,by rw [keep u e3]; exact e2,e3,e4,e5⟩
 ·by_cases z:x=y
  ·rw [z,BQ]; intro w; cases w
  ·rw [BP z]; exact h.wfound x hx
 ·rw [keep x hx] at e
  obtain⟨d3,q3,e3,h3⟩:=h.done x d p z l2 e hx nx he2
  obtain⟨d4,q4,e4,h4⟩:=less z d3 q3 e3
  exact⟨d4,q4,e4,by omega⟩
 ·rw [keep x hx] at e
  rcases cases_ z dz q ez with ⟨rfl,rfl,_⟩ | ⟨nz,ez⟩
  ·have:=h.least x d p e hx
   omega
  ·exact h.near x d p z dz q e hx ez hz
 ·rw [keep x hx] at e
  exact h.least x d p e hx
 ·rcases List.mem_append.mp hz with hz | hz
  ·obtain⟨d3,q3,e3,h3⟩:=h.gone z l2 hz
   obtain⟨d4,q4,e4,h4⟩:=less z d3 q3 e3
   exact⟨d4,q4,e4,by omega⟩
  ·cases List.mem_singleton.mp hz
   exact⟨_,_,BQ,Int.le_refl _⟩
theorem Dm.skip{N:Net}{s:Str}{F:Lj}{Wt:List Str}{v:Str}{dv:Int}{seen:List (Str×Int)}(h:Dm N s F Wt v dv seen){y:Str}{l dy:Int}{qy:Option Str}(hy:F y=some (dy,qy))(hle:dy<=dv+l):Dm N s F Wt v dv (seen++[(y,l)]):=by
 refine⟨h.start,h.ins,h.wk,h.prev,h.wfound,h.nd,h.done,h.near,h.here,h.out,h.least,fun z l2 hz=>?_⟩
 rcases List.mem_append.mp hz with hz | hz
 ·exact h.gone z l2 hz
 ·cases List.mem_singleton.mp hz
  exact⟨_,_,hy,hle⟩
structure Told (N:Net) (s:Str) (F:Lj):Prop where
 start:F s=some (0,none)
 ins:∀x,F x≠none->x∈N.ps
 least:∀x d p,F x=some (d,p)->Least N s x d
 all:∀x d,Wk N s x d->F x≠none
 prev:∀x d p,F x=some (d,p)->(p=none/\x=s)\/∃y dy q l,p=some y/\F y=some (dy,q)/\Ed N y x l/\d=dy+l
theorem Dj.told{N:Net}{s:Str}{F:Lj}(h:Dj N s F []):Told N s F:=by
 have cl:=Fb (N:=N) (s:=s) (F:=fun x=>(F x).map (·.1)) ⟨0,by rw [h.start]; rfl,Int.le_refl _⟩ (fun x d e=>by
  obtain⟨⟨d',p⟩,e1,e2⟩:=Option.map_eq_some_iff.mp e
  cases e2
  exact h.wk x _ p e1) (fun x d y l e he=>by
  obtain⟨⟨d',p⟩,e1,e2⟩:=Option.map_eq_some_iff.mp e
  cases e2
  obtain⟨dy,q,e3,h3⟩:=h.done x _ p y l e1 List.not_mem_nil he
  exact⟨dy,by rw [e3]; rfl,h3⟩)
 refine⟨h.start,h.ins,fun x d p e=>cl.1 x d (by rw [e]; rfl),fun x d hw e=>cl.2 x d hw (by rw [e]; rfl),fun x d p e=>?_⟩
 rcases h.prev x d p e with z | ⟨y,dy,q,l,e1,e2,_,e4,e5⟩
 ·exact .inl z
 ·exact .inr ⟨y,dy,q,l,e1,e2,e4,e5⟩
noncomputable abbrev Kn:=Str->Option Int
structure Bf (N:Net) (s:Str) (c:Nat) (K:Kn):Prop where
 start:∃d,K s=some d/\d<=0
 ins:∀x,K x≠none->x∈N.ps
 wk:∀x d,K x=some d->Wk N s x d
 top:∀x d,K x=some d->d<=1000000*(c:Int)
noncomputable def big:Nat:=27000001
noncomputable def wt(K:Kn)(x:Str):Nat:=match K x with
 | some d=>d.toNat
 | none=>big
noncomputable def Of(ps:List Str)(K:Kn):Nat:=(ps.map (wt K)).sum
theorem O4{f g:Str->Nat}:∀{ps:List Str},(∀x∈ps,f x<=g x)->(ps.map f).sum<=(ps.map g).sum
 | [],_=>Nat.le_refl _
 | x::ps,h=>by
  have h1:=h x List.mem_cons_self
  have h2:=O4 fun y hy=>h y (List.mem_cons_of_mem _ hy)
  rw [List.map_cons,List.map_cons,List.sum_cons,List.sum_cons]
  omega
theorem O3{f g:Str->Nat}:∀{ps:List Str},(∀x∈ps,f x<=g x)->(∃x∈ps,f x<g x)->(ps.map f).sum<(ps.map g).sum
 | [],_,⟨x,hx,_⟩=>by cases hx
 | x::ps,h,⟨y,hy,hl⟩=>by
  have h1:=h x List.mem_cons_self
  rw [List.map_cons,List.map_cons,List.sum_cons,List.sum_cons]
  rcases List.mem_cons.mp hy with rfl | hy
  ·have h2:=O4 fun y hy=>h y (List.mem_cons_of_mem _ hy)
   omega
  ·have h2:=O3 (fun y hy=>h y (List.mem_cons_of_mem _ hy)) ⟨y,hy,hl⟩
   omega
theorem Bf.put {N : Net} (ok : N.Ok) {s : Str} {c c' : Nat} {K : Kn} (h : Bf N s c K) (hc : c' ≤ 26) (hcc : c ≤ c') {x y : Str} {d l : Int} (hx : K x = some d) (he : Ed N x y l) (hn : K y = none → c' = c + 1) (hl : ∀ d', K y = some d' → d + l < d') : Bf N s c' (Fu K y (d + l)) ∧ Of N.ps (Fu K y (d + l)) < Of N.ps K := by
  have hp := he.pos ok
  have hd := (h.wk x d hx).pos ok
  have hw : Wk N s y (d + l) := .snoc (h.wk x d hx) he
  have td := h.top x d hx
  have ht : d + l ≤ 1000000 * (c' : Int) := by
    cases e : K y with
    | none => rw [hn e]; have : ((c + 1 : Nat) : Int) = (c : Int) + 1 := by omega
              rw [this, Int.mul_add]; omega
    | some d' =>
      have h1 := hl d' e
      have h2 := h.top y d' e
      have : (1000000 : Int) * (c : Int) ≤ 1000000 * (c' : Int) := Int.mul_le_mul_of_nonneg_left (by omega) (by omega)
      omega
  refine ⟨⟨?_, fun z hz => ?_, fun z dz e => ?_, fun z dz e => ?_⟩, O3 (fun z _ => ?_) ⟨y, he.ins ok, ?_⟩⟩
  · obtain ⟨d0, e0, h0⟩ := h.start
    by_cases z : s = y
    · have := hl d0 (by rw [← z]; exact e0)
      omega
    · exact ⟨d0, by rw [BP z]; exact e0, h0⟩
  · by_cases e : z = y
    · rw [e]; exact he.ins ok
    · rw [BP e] at hz; exact h.ins z hz
  · by_cases w : z = y
    · rw [w, BQ] at e; cases e; rw [w]; exact hw
    · rw [BP w] at e; exact h.wk z dz e
  · by_cases w : z = y
    · rw [w, BQ] at e; cases e; exact ht
    · rw [BP w] at e
      have h2 := h.top z dz e
      have : (1000000 : Int) * (c : Int) ≤ 1000000 * (c' : Int) := Int.mul_le_mul_of_nonneg_left (by omega) (by omega)
      omega
  · unfold wt
    by_cases w : z = y
    · rw [w, BQ]
      cases e : K y with
      | none => show (d + l).toNat ≤ big; unfold big; omega
      | some d' => show (d + l).toNat ≤ d'.toNat; have := hl d' e; omega
    · rw [BP w]
      exact Nat.le_refl _
  · unfold wt
    rw [BQ]
    cases e : K y with
    | none => show (d + l).toNat < big; unfold big; omega
    | some d' => show (d + l).toNat < d'.toNat; have := hl d' e; omega
theorem Bf.init{N:Net}{s:Str}(hs:s∈N.ps):Bf N s 1 (fun x=>if x=s then some 0 else none):=by
 have iff:∀x d,(if x=s then some (0:Int) else none)=some d->x=s/\d=0:=fun x d e=>by
  by_cases h:x=s
  ·rw [if_pos h] at e; cases e; exact⟨h,rfl⟩
  ·rw [if_neg h] at e; cases e
 refine⟨⟨0,if_pos rfl,Int.le_refl _⟩,fun x e=>?_,fun x d e=>?_,fun x d e=>?_⟩
 ·by_cases h:x=s
  ·rw [h]; exact hs
  ·exact absurd (if_neg h) e
 ·obtain⟨rfl,rfl⟩:=iff x d e
  exact .nil
 ·obtain⟨rfl,rfl⟩:=iff x d e
  decide
noncomputable def HB(K:Kn)(e:Str×Str×Int):Prop:=∀d,K e.1=some d->∃d',K e.2.1=some d'/\d'<=d+e.2.2
structure LTold (N:Net) (s:Str) (K:Kn):Prop where
 ins:∀x,K x≠none->x∈N.ps
 least:∀x d,K x=some d->Least N s x d
 all:∀x d,Wk N s x d->K x≠none
 top:∀x d,K x=some d->d<=30000000
theorem Bf.told{N:Net}(ok:N.Ok){s:Str}{c:Nat}{K:Kn}(h:Bf N s c K)(hc:c<=26)(ht:∀t∈N.ts,HB K (t.a,t.b,t.len)/\HB K (t.b,t.a,t.len)):LTold N s K:=by
 have cl:=Fb h.start h.wk (fun x d y l e he=>by
  obtain⟨t,hm,e1,h2⟩:=he.tie ok
  subst e1
  rcases h2 with ⟨rfl,rfl⟩ | ⟨rfl,rfl⟩
  ·exact(ht t hm).1 d e
  ·exact(ht t hm).2 d e)
 exact⟨h.ins,cl.1,cl.2,fun x d e=>by have:=h.top x d e; omega⟩
noncomputable def walk(N:Net):List Str->Int->Prop
 | [],_=>False
 | [_],d=>d=0
 | x::y::r,d=>∃l e,Ed N x y l/\walk N (y::r) e/\d=l+e
theorem Nc{N:Net}{x y:Str}{r:List Str}{d l:Int}(he:Ed N x y l)(h:walk N (y::r) d):walk N (x::y::r) (l+d):=⟨l,d,he,h,rfl⟩
noncomputable def WB(N:Net)(a b:Str):Option Int->Prop
 | some d=>Least N a b d
 | none=>∀d,¬Wk N a b d
theorem Told.far{N:Net}{s:Str}{F:Lj}(h:Told N s F)(x:Str):WB N s x ((F x).map (·.1)):=by
 cases e:F x with
 | none=>exact fun d hw=>h.all x d hw e
 | some a=>exact h.least x a.1 a.2 e
theorem LTold.far{N:Net}{s:Str}{K:Kn}(h:LTold N s K)(x:Str):WB N s x (K x):=by
 cases e:K x with
 | none=>exact fun d hw=>h.all x d hw e
 | some d=>exact h.least x d e
noncomputable def Way(N:Net)(a b:Str)(o:Option (List Str)):Prop:=match o with
 | some w=>∃d r,w=a::r/\w.getLast?=some b/\walk N w d/\Least N a b d/\w.length<=30/\∀x∈w,x∈N.ps
 | none=>∀d,¬Wk N a b d
noncomputable def Uc:Option Str->D
 | some y=>.str y
 | none=>.non
noncomputable def Vc:Option Int->D
 | some y=>.int y
 | none=>.non
noncomputable def S7:Option (List Str)->D
 | some w=>.tup (w.map .str)
 | none=>.non
noncomputable def Hy(p:Int×Option Str):D:=.tup [.int p.1,Uc p.2]
noncomputable def okN(N:Net):Prop:=N.Ok/\N.ps.length<=25/\N.ts.length<=60
noncomputable def Li:W2:=fun ss n P=>∃(Wt:List Str) (ks:List Key) (ds:List D) (F:Lj),ss=[.br (.lst (Wt.map .str)),.br (.dic ks ds)]/\Dmap ks ds Hy F/\(∀x∈Wt,F x≠none)/\Wt≠[]/\Wt.length<=100 /\
 ∀v∈Wt,(∀y∈Wt,∀dv pv dy py,F v=some (dv,pv)->F y=some (dy,py)->dv<=dy)->P (.str v) n
noncomputable def IL:W2:=fun ss n P=>∃(N:Net) (s:Str),ss=[.sh (enc N),.sh (.str s)]/\okN N/\s∈N.ps/\∀(ks:List Key) (ds:List D) (F:Lj),Dmap ks ds Hy F->Told N s F->P (.dic ks ds) n
noncomputable def Qc:W2:=fun ss n P=>∃(N:Net) (a b:Str),ss=[.sh (enc N),.sh (.str a),.sh (.str b)]/\okN N/\a∈N.ps/\b∈N.ps/\∀o,Way N a b o->P (S7 o) n
noncomputable def Ff:Ab:=(BA (Ak Cj (C1 SI (AB (DF [some 1,none] (A_ (Af 0)) (AW 1) E4 (Az (AB (Ak Cj (Ak Bl (Af 0) (AE 1)) (wC (D.int 0))) (AB (AE 1) AN)))) AN)) (wC (D.int 1))))
noncomputable def Fh:Ab:=(Ag (BZ 2 (AR Ec (AD (AK (AE 0)) AT)))
 (Ag (Ce 3 (Ln (AE 1) (Az (AB (wC (D.int 0)) (AB (wC D.non) AN)))))
 (Ag (Ce 4 (B7 (AB (AE 1) AN)))
 (Ag (G8 (SX (Af 4)) (Ag (BZ 5 (AR Li (AD (Bp (Af 4)) (AD (Bp (Af 3)) AT))))
 (Ag (Io 4 "list" Ur (AB (AE 5) AN))
 (D7 (wItems (Ak Bl (AE 2) (AE 5))) (Df 2 (AY (AW 6) (AY (AW 7) B8))) (Ag (BZ 8 (Ak Bm (Ak Cj (Ak Bl (Af 3) (AE 5)) (wC (D.int 0))) (AE 7)))
 (Bq (Am (Ak (Ii true) (AE 6) (Af 3))) (Ag (Io 4 "list" EM (AB (AE 6) AN))
 (GR 3 (AE 6) (Az (AB (AE 8) (AB (AE 5) AN))))) (Bq (Am (Ak KG (AE 8) (Ak Cj (Ak Bl (Af 3) (AE 6)) (wC (D.int 0))))) (GR 3 (AE 6) (Az (AB (AE 8) (AB (AE 5) AN)))) BB)))))))
 (Im 3)))))
noncomputable def LY:Ab:=(Ag (BZ 3 (AR IL (AD (AK (AE 0)) (AD (AK (AE 1)) AT))))
 (Ag (Bq (Am (Ak (Ii true) (AE 2) (AE 3))) (BA (wC D.non)) BB)
 (Ag (Ce 4 (B7 AN))
 (Ag (BZ 5 (AE 2))
 (Ag (G8 (Am (Ak (Eo true) (AE 5) (wC D.non))) (Ag (Io 4 "list" EM (AB (AE 5) AN))
 (BZ 5 (Ak Cj (Ak Bl (AE 3) (AE 5)) (wC (D.int 1))))))
 (BA (Mb (Af 4))))))))
theorem Vt{i j:Int}{x y:Str}(h:Bh [.inl j,.inr y] [.inl i,.inr x]=false):i<=j:=by
 have h:(if (Sum.inl j:Key)=.inl i then (if (Sum.inr y:Key)=.inr x then false else decide (y.cps.toList<x.cps.toList)) else decide (j<i))=false:=h
 by_cases e:j=i
 ·omega
 ·rw [if_neg (fun z=>e (Sum.inl.inj z)),decide_eq_false_iff_not] at h
  omega
section
variable {ss:List Slot}{n:Nat}{Pd:D->Nat->Prop}
theorem IQ(h:Li ss n Pd):Ff (EE Pd) n (ss++List.replicate 0 .no):=by
 obtain⟨Wt,ks,ds,F,rfl,M,hF,hne,hl,p⟩:=h
 unfold Ff
 refine⟨by show (Wt.map D.str).length<=10000000; rw [List.length_map]; omega,?_⟩
 have dist:∀x∈Wt,∃d q,F x=some (d,q):=fun x hx=>by
  cases e:F x with
  | none=>exact absurd e (hF x hx)
  | some a=>exact⟨a.1,a.2,rfl⟩
 refine B4 (fun d=>match d with | .str x=>.tup [.int ((F x).getD (0,none)).1,.str x] | d=>d) (fun ρ=>∃s,ρ=[.br (.dic ks ds),s]) _ _ _ _ ?_ ⟨_,rfl⟩ ?_
 ·rintro d hd ρ m nx ⟨s,rfl⟩ hnx
  obtain⟨x,hx,rfl⟩:=List.mem_map.mp hd
  obtain⟨dx,q,ex⟩:=dist x hx
  refine⟨ks,ds,_,Hy (dx,q),rfl,rfl,by rw [M.at_,ex]; rfl,_,Aj (j:=0) rfl,(by decide:2<=sizeLine),?_⟩
  have this:nx (.tup [.int ((F x).getD (0,none)).1,.str x]) m [.br (.dic ks ds),.sh (.str x)]:=hnx [.br (.dic ks ds),.sh (.str x)] ⟨_,rfl⟩
  rw [show ((F x).getD (0,none)).1=dx by rw [ex]; rfl] at this
  exact this
 rw [List.nil_append,List.map_map]
 refine⟨_,rfl,?_,⟨fun x hx=>?_,fun x hx y hy ka kb ea eb=>?_⟩,fun x hx hmin=>?_⟩
 ·rw [List.length_map]
  cases Wt with
  | nil=>exact absurd rfl hne
  | cons a r=>exact Nat.succ_pos _
 ·obtain⟨z,_,rfl⟩:=List.mem_map.mp hx
  exact⟨_,rfl,List.cons_ne_nil _ _⟩
 ·obtain⟨z,_,rfl⟩:=List.mem_map.mp hx
  obtain⟨u,_,rfl⟩:=List.mem_map.mp hy
  cases (show some [Sum.inl _,Sum.inr _]=some ka from ea)
  cases (show some [Sum.inl _,Sum.inr _]=some kb from eb)
  rfl
 ·obtain⟨v,hv,rfl⟩:=List.mem_map.mp hx
  refine⟨_,Aj (j:=1) rfl,p v hv fun y hy dv pv dy py ev ey=>?_⟩
  have:=Vt (hmin _ (List.mem_map.mpr ⟨y,hy,rfl⟩) _ _ rfl rfl)
  rw [ev,ey] at this
  exact this
theorem A7(x:Str):keyOf (.str x)=some (.inr x):=rfl
theorem N_{N:Net}(ok:N.Ok){xs:List Str}(h:∀x∈xs,x∈N.ps):GD (.lst (xs.map .str)):=by
 have it:∀d∈xs.map D.str,item d:=fun d hd=>by
  obtain⟨x,hx,rfl⟩:=List.mem_map.mp hd
  exact Cw (ok.names x (h x hx))
 exact GC it
theorem Ll{N:Net}{Wt:List Str}(hn:Wt.Nodup)(h:∀x∈Wt,x∈N.ps):Wt.length<=N.ps.length:=by
 have:∀(xs ps:List Str),xs.Nodup->(∀x∈xs,x∈ps)->xs.length<=ps.length:=by
  intro xs
  induction xs with
  | nil=>intro ps _ _; exact Nat.zero_le _
  | cons x xs ih =>
   intro ps hn hm
   have hx:=hm x List.mem_cons_self
   have hn:=List.nodup_cons.mp hn
   have h1:=ih (ps.erase x) hn.2 fun j hj=>(List.mem_erase_of_ne fun e=>hn.1 (by rw [← e]; exact hj)).mpr (hm j (List.mem_cons_of_mem _ hj))
   rw [List.length_erase_of_mem hx] at h1
   have:=List.length_pos_of_mem hx
   rw [List.length_cons]
   omega
 exact this Wt N.ps hn h
theorem HV(ks:List Key)(k:Key):(Cf ks k).length=if Ht ks k=true then ks.length else ks.length+1:=by
 unfold Cf
 split
 ·rfl
 ·rw [List.length_append]; rfl
theorem Dmap.has{α:Type}{ks:List Key}{ds:List D}{enc:α->D}{F:Str->Option α}(h:Dmap ks ds enc F){x:Str}:(F x=none->Ht ks (.inr x)=false)/\(F x≠none->Ht ks (.inr x)=true):=by
 constructor
 ·intro e
  cases c:Ht ks (.inr x) with
  | false=>rfl
  | true=>exact absurd e ((h.mem x).mp (hasK_iff.mp c))
 ·intro e
  exact hasK_iff.mpr ((h.mem x).mpr e)
theorem Iv{N:Net}{x:Str}(hx:x∈N.ps):BH (N.ps.map .inr) (N.ps.map (N9 N.ts)) (.inr x)=some (N9 N.ts x):=by
 have go:∀ps:List Str,x∈ps->BH (ps.map .inr) (ps.map (N9 N.ts)) (.inr x)=some (N9 N.ts x):=by
  intro ps
  induction ps with
  | nil=>intro h; cases h
  | cons q ps ih =>
   intro h
   show (if (Sum.inr q:Key)=.inr x then some (N9 N.ts q) else BH (ps.map .inr) (ps.map (N9 N.ts)) (.inr x))=_
   by_cases e:q=x
   ·rw [if_pos (by rw [e]),e]
   ·rw [if_neg (fun z=>e (Sum.inr.inj z))]
    exact ih ((List.mem_cons.mp h).resolve_left fun z=>e z.symm)
 exact go N.ps hx
theorem Qi(l:List (Str×Int)):FF ((l.map fun x=>(.inr x.1:Key)).map T8) (l.map fun x=>.int x.2)=l.map VG:=by
 induction l with
 | nil=>rfl
 | cons p l ih =>
  show D.tup [.str p.1,.int p.2]::FF _ _=VG p::l.map VG
  rw [← ih]
  rfl
theorem IS(h:IL ss n Pd):Fh (EF Pd) n (ss++List.replicate 7 .no):=by
 obtain⟨N,s,rfl,⟨ok,lp,lt⟩,hs,p⟩:=h
 have szl:=PySem.sizeLine_eq
 unfold Fh
 refine⟨N,rfl,ok,by omega,by omega,?_⟩
 refine⟨(by decide:2<=sizeLine),_,A7 s,(by decide:1<=sizeLine),?_⟩
 refine Fq (fun m n' ρ=>n'=n/\∃(Wt:List Str) (ks:List Key) (ds:List D) (F:Lj) (s5 s6 s7 s8:Slot),ρ=[.sh (enc N),.sh (.str s),.sh (Dn N),.ow (.dic ks ds),.ow (.lst (Wt.map .str)),s5,s6,s7,s8]/\Dmap ks ds Hy F/\Dj N s F Wt/\m+ks.length=N.ps.length+Wt.length) (N.ps.length) ⟨rfl,[s],[.inr s],[Hy (0,none)],_,_,_,_,_,rfl,Dmap.one,Dj.init hs,rfl⟩ ?_ ?_
 ·rintro m n' ρ N' ⟨rfl,Wt,ks,ds,F,s5,s6,s7,s8,rfl,M,J,hm⟩ hN
  cases Wt with
  | nil =>
   exact⟨false,rfl,_,rfl,p ks ds F M J.told⟩
  | cons w0 Wr =>
   refine⟨true,rfl,?_⟩
   have insW:∀x∈w0::Wr,x∈N.ps:=fun x hx=>J.ins x (J.wfound x hx)
   have wl:=Ll J.nd insW
   refine⟨w0::Wr,ks,ds,F,rfl,M,J.wfound,List.cons_ne_nil _ _,by omega,fun v hv hmin=>?_⟩
   obtain⟨dv,pv,ev⟩:∃d q,F v=some (d,q):=by
    cases e:F v with
    | none=>exact absurd e (J.wfound v hv)
    | some a=>exact⟨a.1,a.2,rfl⟩
   have D0:=J.take hv ev fun y hy dy q ey=>hmin y hy dv pv dy q ev ey
   have hvp:=insW v hv
   have hidx:(w0::Wr).idxOf v<(w0::Wr).length:=List.idxOf_lt_length_of_mem hv
   have hget:(w0::Wr)[(w0::Wr).idxOf v]?=some v:=by rw [List.getElem?_eq_getElem hidx,List.getElem_idxOf]
   have ee:((w0::Wr).map D.str).eraseIdx ((w0::Wr).idxOf v)=((w0::Wr).erase v).map D.str:=by
    rw [List.erase_eq_eraseIdx_of_idxOf (rfl:(w0::Wr).idxOf v=_),GH]
   refine⟨_,rfl,rfl,_,_,(w0::Wr).idxOf v,rfl,rfl,N_ ok insW,Pt (ok.names v hvp),⟨.str v,by rw [List.getElem?_map,hget]; rfl,by show (v==v)=true; exact beq_self_eq_true v⟩,fun k x hk hx=>?_,?_⟩
   ·rw [List.getElem?_map] at hx
    obtain⟨t,ht,rfl⟩:=Option.map_eq_some_iff.mp hx
    have hkl:k<(w0::Wr).length:=(List.getElem?_eq_some_iff.mp ht).1
    have hh:=List.not_of_lt_findIdx (p:=fun y=>y==v) (xs:=w0::Wr) hk
    have e2:(w0::Wr)[k]=t:=(List.getElem?_eq_some_iff.mp ht).2
    have h3:((w0::Wr)[k]==v)=false:=hh
    rw [e2] at h3
    exact h3
   rw [ee]
   refine⟨_,_,_,N9 N.ts v,rfl,A7 v,Iv hvp,_,_,rfl,fun k hk=>?_,?_⟩
   ·obtain⟨q,hq,rfl⟩:=List.mem_map.mp hk
    have:=(ok.names _ (J3 ok hq).1).2.1
    show q.1.length<=sizeLine
    omega
   rw [Qi]
   have el:=List.length_erase_of_mem hv
   have inner:∀(rest seen:List (Str×Int)) (Wt:List Str) (ks:List Key) (ds:List D) (F:Lj) (s6 s7 s8:Slot),seen++rest=DB N.ts v->Dmap ks ds Hy F->Dm N s F Wt v dv seen->m+ks.length=N.ps.length+Wt.length+1 ->
     BM (Df 2 (AY (AW 6) (AY (AW 7) B8))) (Ag (BZ 8 (Ak Bm (Ak Cj (Ak Bl (Af 3) (AE 5)) (wC (D.int 0))) (AE 7)))
 (Bq (Am (Ak (Ii true) (AE 6) (Af 3))) (Ag (Io 4 "list" EM (AB (AE 6) AN))
 (GR 3 (AE 6) (Az (AB (AE 8) (AB (AE 5) AN))))) (Bq (Am (Ak KG (AE 8) (Ak Cj (Ak Bl (Af 3) (AE 6)) (wC (D.int 0))))) (GR 3 (AE 6) (Az (AB (AE 8) (AB (AE 5) AN)))) BB))) { EF Pd with nx:=N',ct:=N',bk:=Im 3 (EF Pd) } (rest.map VG) n' [.sh (enc N),.sh (.str s),.sh (Dn N),.ow (.dic ks ds),.ow (.lst (Wt.map .str)),.sh (.str v),s6,s7,s8]:=by
    intro rest
    induction rest with
    | nil =>
     intro seen Wt ks ds F s6 s7 s8 e M D0 hm
     rw [List.append_nil] at e
     exact hN (m - 1) n' _ (by have:=M.le D0.ins; omega) ⟨rfl,Wt,ks,ds,F,_,_,_,_,rfl,M,D0.finish fun y l hy=>by rw [e]; exact hy,by have:=M.le D0.ins; omega⟩
    | cons q rest ih =>
     intro seen Wt ks ds F s6 s7 s8 e M D0 hm
     obtain⟨y,l⟩:=q
     have he:Ed N v y l:=by show (y,l)∈DB N.ts v; rw [← e]; exact List.mem_append_right _ List.mem_cons_self
     have e':(seen++[(y,l)])++rest=DB N.ts v:=by rw [List.append_assoc]; exact e
     obtain⟨pv,ev⟩:=D0.here
     have kl:=M.le D0.ins
     have hyp:=he.ins ok
     have insW:∀x∈Wt,x∈N.ps:=fun x hx=>D0.ins x (D0.wfound x hx)
     have wl:=Ll D0.nd insW
     refine⟨rfl,rfl,?_⟩
     refine⟨ks,ds,_,Hy (dv,pv),rfl,A7 v,by rw [M.at_,ev]; rfl,_,Aj (j:=0) rfl,?_⟩
     refine⟨ks,ds,_,rfl,A7 y,?_⟩
     show if (!(BH ks ds (.inr y)).isSome)=true then _ else _
     cases ey:F y with
     | none =>
      have hno:=(M.has (x:=y)).1 ey
      rw [M.at_,ey]
      refine Hq ⟨_,rfl,rfl,_,_,rfl,rfl,by rw [List.length_map]; omega,?_⟩
      refine⟨ks,ds,rfl,(by decide:2<=sizeLine),_,A7 y,by omega,?_⟩
      have:=ih (seen++[(y,l)]) (Wt++[y]) (Cf ks (.inr y)) (C3 ks ds (.inr y) (Hy (dv+l,some v))) _ (.sh (.str y)) (.sh (.int l)) (.sh (.int (dv+l))) e' (M.put y (dv+l,some v)) (D0.find ok he ey) (by rw [HV,if_neg (by rw [hno]; decide),List.length_append,List.length_singleton]; omega)
      rw [List.map_append] at this
      exact this
     | some a =>
      obtain⟨dy,qy⟩:=a
      have hyes:=(M.has (x:=y)).2 (by rw [ey]; intro z; cases z)
      rw [M.at_,ey]
      refine Ih ⟨ks,ds,_,Hy (dy,qy),rfl,A7 y,by rw [M.at_,ey]; rfl,_,Aj (j:=0) rfl,?_⟩
      show if decide (dv+l<dy)=true then _ else _
      by_cases c:dv+l<dy
      ·rw [decide_eq_true c]
       refine Hq ⟨ks,ds,rfl,(by decide:2<=sizeLine),_,A7 y,by omega,?_⟩
       exact ih (seen++[(y,l)]) Wt (Cf ks (.inr y)) (C3 ks ds (.inr y) (Hy (dv+l,some v))) _ (.sh (.str y)) (.sh (.int l)) (.sh (.int (dv+l))) e' (M.put y (dv+l,some v)) (D0.nearer ok he ey c) (by rw [HV,if_pos hyes]; omega)
      ·rw [decide_eq_false c]
       exact Ih (ih (seen++[(y,l)]) Wt ks ds F (.sh (.str y)) (.sh (.int l)) (.sh (.int (dv+l))) e' M (D0.skip ey (by omega)) hm)
   exact inner (DB N.ts v) [] ((w0::Wr).erase v) ks ds F _ _ _ rfl M D0 (by have:=List.length_pos_of_mem hv; omega)
 ·rintro n' ρ P Q hPQ h
  unfold SX Af at h ⊢
  split at h
  all_goals first
   | exact h.elim
   | (obtain⟨c,hc,h⟩:=h; exact⟨c,hc,hPQ _ _ h⟩)
end
structure WInv (N:Net) (F:Lj) (b:Str) (db:Int) (acc:List Str) (pl:Option Str):Prop where
 st:(acc=[]/\pl=some b)\/∃z r dz,acc.reverse=z::r/\F z=some (dz,pl)/\walk N acc.reverse (db - dz)/\acc.reverse.getLast?=some b
 nd:acc.Nodup
 ins:∀x∈acc,x∈N.ps
 less:∀y dy q,pl=some y->F y=some (dy,q)->∀x∈acc,∃dx qx,F x=some (dx,qx)/\dy<dx
 fnd:∀y,pl=some y->F y≠none
noncomputable def wm(F:Lj):Option Str->Nat
 | none=>0
 | some y=>((F y).getD (0,none)).1.toNat+1
theorem WInv.step{N:Net}(ok:N.Ok){a:Str}{F:Lj}(T:Told N a F){b:Str}{db:Int}{qb:Option Str}(eb:F b=some (db,qb)){acc:List Str}{y:Str}{dy:Int}{qy:Option Str}(h:WInv N F b db acc (some y))(ey:F y=some (dy,qy)):WInv N F b db (acc++[y]) qy/\wm F qy<wm F (some y):=by
 have hy0:=(T.least y dy qy ey).1.pos ok
 have nx:∀w dw q,qy=some w->F w=some (dw,q)->dw<dy:=fun w dw q e ew=>by
  rcases T.prev y dy qy ey with ⟨z,_⟩ | ⟨w',dw',q',l,e1,e2,e3,e4⟩
  ·rw [e] at z; cases z
  ·rw [e] at e1
   cases e1
   rw [ew] at e2
   cases e2
   have:=(e3.pos ok).1
   omega
 have hf:∀w,qy=some w->F w≠none:=fun w e=>by
  rcases T.prev y dy qy ey with ⟨z,_⟩ | ⟨w',dw',q',l,e1,e2,_⟩
  ·rw [e] at z; cases z
  ·rw [e] at e1
   cases e1
   rw [e2]
   intro z; cases z
 refine⟨⟨.inr ?_,?_,fun x hx=>?_,fun w dw q e ew x hx=>?_,hf⟩,?_⟩
 ·rw [List.reverse_append,List.reverse_singleton,List.singleton_append]
  rcases h.st with ⟨rfl,e⟩ | ⟨z,r,dz,e1,e2,e3,e4⟩
  ·cases e
   rw [eb] at ey
   cases ey
   exact⟨_,_,_,rfl,eb,(by show db - db=0; omega),rfl⟩
  ·refine⟨y,acc.reverse,dy,rfl,ey,?_,?_⟩
   ·rw [e1] at e3 ⊢
    rcases T.prev z dz (some y) e2 with ⟨w,_⟩ | ⟨w',dw',q',l,k1,k2,k3,k4⟩
    ·cases w
    ·cases k1
     rw [ey] at k2
     cases k2
     have:=Nc k3 e3
     rw [show l+(db - dz)=db - dy by omega] at this
     exact this
   ·rw [e1] at e4 ⊢
    exact e4
 ·rw [List.nodup_append]
  refine⟨h.nd,List.nodup_cons.mpr ⟨List.not_mem_nil,List.nodup_nil⟩,fun x hx z hz e=>?_⟩
  rw [List.mem_singleton.mp hz] at e
  obtain⟨dx,qx,ex,hlt⟩:=h.less y dy qy rfl ey x hx
  rw [e,ey] at ex
  cases ex
  omega
 ·rcases List.mem_append.mp hx with hx | hx
  ·exact h.ins x hx
  ·rw [List.mem_singleton.mp hx]
   exact T.ins y (by rw [ey]; intro z; cases z)
 ·have h1:=nx w dw q e ew
  rcases List.mem_append.mp hx with hx | hx
  ·obtain⟨dx,qx,ex,hlt⟩:=h.less y dy qy rfl ey x hx
   exact⟨dx,qx,ex,by omega⟩
  ·rw [List.mem_singleton.mp hx]
   exact⟨dy,qy,ey,h1⟩
 ·cases qy with
  | none=>exact Nat.succ_pos _
  | some w =>
   cases ew:F w with
   | none=>exact absurd ew (hf w rfl)
   | some p =>
    have h1:=nx w p.1 p.2 rfl ew
    have h2:=(T.least w p.1 p.2 ew).1.pos ok
    show ((F w).getD (0,none)).1.toNat+1<((F y).getD (0,none)).1.toNat+1
    rw [ew,ey]
    show p.1.toNat+1<dy.toNat+1
    omega
section
variable {ss:List Slot}{n:Nat}{Pd:D->Nat->Prop}
theorem Nk(h:Qc ss n Pd):LY (EE Pd) n (ss++List.replicate 3 .no):=by
 obtain⟨N,a,b,rfl,okn,ha,hb,p⟩:=h
 have szl:=PySem.sizeLine_eq
 have ok:=okn.1
 unfold LY
 refine⟨N,a,rfl,okn,ha,fun ks ds F M T=>?_⟩
 refine⟨ks,ds,_,rfl,A7 b,?_⟩
 show if (!(BH ks ds (.inr b)).isSome)=true then _ else _
 have hfar:=T.far b
 cases eb:F b with
 | none =>
  rw [M.at_,eb]
  rw [eb] at hfar
  exact Hq (p none hfar)
 | some x =>
  obtain⟨db,qb⟩:=x
  rw [M.at_,eb]
  refine Ih ⟨z0,?_⟩
  refine Fq (fun m n' ρ=>n'=n/\∃(acc:List Str) (pl:Option Str),ρ=[.sh (enc N),.sh (.str a),.sh (.str b),.sh (.dic ks ds),.ow (.lst (acc.map .str)),.sh (Uc pl)]/\WInv N F b db acc pl/\m=wm F pl) (wm F (some b)) ⟨rfl,[],some b,rfl,⟨.inl ⟨rfl,rfl⟩,List.nodup_nil,(fun x hx=>by cases hx),(fun _ _ _ _ _ x hx=>by cases hx),fun y e=>by cases e; rw [eb]; intro z; cases z⟩,rfl⟩ ?_ ?_
  ·rintro m n' ρ N' ⟨rfl,acc,pl,rfl,J,rfl⟩ hN
   have wl:=Ll J.nd J.ins
   have l25:=okn.2.1
   cases pl with
   | none =>
    refine⟨rfl,_,rfl,?_⟩
    rcases J.st with ⟨_,e⟩ | ⟨z,r,dz,e1,e2,e3,e4⟩
    ·cases e
    ·have hz:z=a:=by
      rcases T.prev z dz none e2 with ⟨_,w⟩ | ⟨w',dw',q',l,k1,_⟩
      ·exact w
      ·cases k1
     subst hz
     rw [T.start] at e2
     cases e2
     rw [← List.map_reverse]
     refine p (some acc.reverse) ⟨db - 0,r,e1,e4,e3,?_,by rw [List.length_reverse]; omega,fun x hx=>J.ins x (List.mem_reverse.mp hx)⟩
     rw [show db - 0=db by omega]
     exact T.least b db qb eb
   | some y =>
    cases ey:F y with
    | none=>exact absurd ey (J.fnd y rfl)
    | some q =>
     obtain⟨dy,qy⟩:=q
     obtain⟨J2,lt2⟩:=J.step ok T eb ey
     refine⟨rfl,?_⟩
     refine⟨_,rfl,rfl,_,_,rfl,rfl,by rw [List.length_map]; omega,?_⟩
     refine⟨ks,ds,_,Hy (dy,qy),rfl,A7 y,by rw [M.at_,ey]; rfl,_,Aj (j:=1) rfl,?_⟩
     refine hN (wm F qy) _ _ lt2 ⟨rfl,acc++[y],qy,?_,J2,rfl⟩
     rw [List.map_append]
     rfl
  ·rintro n' ρ P Q hPQ h
   unfold Am Ak AE wC Eo at h ⊢
   split at h
   ·exact⟨h.1,hPQ _ _ h.2⟩
   ·exact h.elim
end
section
variable {ss:List Slot}{n:Nat}{Pd:D->Nat->Prop}
end
noncomputable def ends(t:Ap):Str×Str:=(t.a,t.b)
noncomputable def eL(p q:Str×Str):Prop:=cs p.1<cs q.1\/(p.1=q.1/\cs p.2<cs q.2)
section
variable {ss:List Slot}{n:Nat}{Pd:D->Nat->Prop}
end
theorem RK{ks:List Key}{ds:List D}{K:Kn}(M:Dmap ks ds D.int K)(x:Str):(BH ks ds (.inr x)).getD .non=Vc (K x):=by
 rw [M.at_]
 cases K x <;> rfl
theorem Sn{N:Net}(okn:okN N):Hv 1000001 (enc N)/\O2 (enc N)<=48000/\QI (enc N)<=3:=Se (RF okn.1) (Ho okn.1) (by rw [List.length_map]; have:=okn.2.1; omega) (by rw [List.length_map]; have:=okn.2.2; omega)
end Nt
namespace Dp
open PySem PySem.Spec PyProof.Rows L2
noncomputable def Rn(i:Nat)(b:BW)(body:Ab):Ab:=fun D2 n ρ=>∃d ds,ρ[i]?=some (.br d)/\Gn d=some ds/\BM b body D2 ds n ρ
section
variable {X:Cx}{κ:Kd}{tg:Expr}{body:List Stmt}{b:BW}{wb:Ab}{pos p:Pos}{x:Str}{i:Nat}
theorem Rel.lessKp{K:Frag}{C:Fm}{q:Addr×HO}{M:Addr->Prop}{H:Hp}{n:Nat}{ρ:List Slot}{σ:L2.St}(R:Rel K { C with kp:=q::C.kp } M H n ρ σ):Rel K C M H n ρ σ :=
 ⟨R.len,R.sub,R.dom,R.ext,R.fU,R.uV,R.vM,R.feed,R.sl,R.pin,R.br0,R.new,R.two,fun p hp=>R.kept p (List.mem_cons_of_mem _ hp)⟩
theorem RW(hp:PassesOwn (model X.prog X.w) X.A X.env X.xe)(hc:X.calm=true)(h:PE X (.Name x p) (Bo i))(hg:DG X tg b)(hb:Qf X κ body wb)
  (hs:∀y,foldedSetIterable (.Name x p) X.env y=pure y:=by intro _; rfl):DS X κ (.For tg (.Name x p) body [] pos) (Rn i b wb):=by
 obtain⟨g,g1,g2⟩:=hg
 obtain⟨tb,b1,b2⟩:=hb
 refine⟨_,Jr hp hc (L9 h) g1 b1 hs,fun C M H n ρ σ D2 E R L w=>?_⟩
 obtain⟨d,ds,hi,hd,w⟩:=w
 obtain⟨v,e1,hAt⟩:=R.sl i _ hi
 cases d with
 | tup ds' =>
  cases hd
  obtain⟨a,vs,rfl,hn,hat⟩:=hAt
  refine⟨.ref a,getD_some e1,.inr (.inl ⟨a,rfl,⟨vs,hn.sq⟩,?_⟩)⟩
  obtain⟨kp',ek⟩:∃kp',kp'=C.kp:=⟨_,rfl⟩
  have R1:Rel X.K { C with kp:=kp' } M H n ρ σ:=by rw [ek]; exact R
  have less:∀{M H n ρ σ},Rel X.K { C with kp:=kp' } M H n ρ σ->Rel X.K C M H n ρ σ:=fun R=>by rw [ek] at R; exact R
  have st:∀M' H' n' ρ' σ',Rel X.K { C with kp:=kp',pins:=(M,H)::C.pins } M' H' n' ρ' σ'->SqT X.K H' a vs:=fun M' H' n' ρ' σ' R'=>(hn.pres (R'.pin (M,H) List.mem_cons_self)).sq
  refine⟨fun i m σ' H'=>m=ds.length - i/\i<=ds.length/\∃M' n' ρ',Rel X.K { C with kp:=kp',pins:=(M,H)::C.pins } M' H' n' ρ' σ'/\BM b wb D2 (ds.drop i) n' ρ',⟨ds.length,by simp,Nat.zero_le _,M,n,ρ,R1.pinned,w⟩,?_⟩
  rintro i m σ' H' ⟨rfl,hil,M',n',ρ',R',w'⟩
  have pr:Pres M H M' H':=R'.pin (M,H) List.mem_cons_self
  have hq:=st M' H' n' ρ' σ' R'
  by_cases hlt:i<ds.length
  ·have ed:ds.drop i=ds[i]::ds.drop (i+1):=List.drop_eq_getElem_cons hlt
   rw [ed] at w'
   obtain⟨v,ev,hv⟩:=(hat.pres pr).get (List.getElem?_eq_getElem hlt)
   refine .inr ⟨⟨vs,v,hq,ev⟩,fun σ2 H2=>∃M2 n2 ρ2,Rel X.K { C with kp:=kp',pins:=(M,H)::C.pins } M2 H2 n2 ρ2 σ2/\BM b wb D2 (ds.drop (i+1)) n2 ρ2,fun σ2 H2 ⟨M2,n2,ρ2,R2',w2⟩=>⟨ds.length - (i+1),by omega,rfl,hlt,M2,n2,ρ2,R2',w2⟩,fun y H2 hy=>?_⟩
   obtain⟨e2,hy⟩:=hy
   subst e2
   have:some v=some y:=ev.symm.trans (hy vs hq)
   cases this
   refine g2 _ M' H2 n' ρ' σ' ds[i] v _ _ R' hv w' fun ρ3 σ3 R3 w3=>?_
   refine b2 _ M' H2 n' ρ3 σ3 { D2 with nx:=BM b wb D2 (ds.drop (i+1)),ct:=BM b wb D2 (ds.drop (i+1)),bk:=D2.nx } _ R3 ⟨fun M4 H4 n4 ρ4 σ4 R4 w4=>⟨M4,n4,ρ4,R4,w4⟩,L.rt,fun M4 H4 n4 ρ4 σ4 R4 w4=>L.nx M4 H4 n4 ρ4 σ4 (less R4.unpin) w4,fun M4 H4 n4 ρ4 σ4 R4 w4=>⟨M4,n4,ρ4,R4,w4⟩⟩ w3
  ·have e:i=ds.length:=by omega
   subst e
   rw [List.drop_length] at w'
   exact .inl ⟨⟨vs,hq,by rw [hat.length]; exact Nat.le_refl _⟩,L.nx M' H' n' ρ' σ' (less R'.unpin) w'⟩
 | lst ds' =>
  cases hd
  obtain⟨a,vs,rfl,nV,hH,hat⟩:=hAt
  obtain⟨o,ho,hro⟩:∃o,H a=some o/\∀H':Hp,H' a=some o->SqL X.K H' a vs:=by
   rcases hH with z | ⟨u,z⟩
   ·exact⟨_,z,fun H' e=>.inl (.inl e)⟩
   ·exact⟨_,z,fun H' e=>.inl (.inr ⟨u,e⟩)⟩
  refine⟨.ref a,getD_some e1,.inl ⟨a,rfl,⟨vs,hro H ho⟩,?_⟩⟩
  obtain⟨kp',R1,less,st⟩:∃kp',Rel X.K { C with kp:=kp' } M H n ρ σ/\(∀{M H n ρ σ},Rel X.K { C with kp:=kp' } M H n ρ σ->Rel X.K C M H n ρ σ)/\(∀M' H' n' ρ' σ',Rel X.K { C with kp:=kp',pins:=(M,H)::C.pins } M' H' n' ρ' σ'->SqL X.K H' a vs):=by
   by_cases hM:M a
   ·refine⟨(a,o)::C.kp,⟨R.len,R.sub,R.dom,R.ext,R.fU,R.uV,R.vM,R.feed,R.sl,R.pin,R.br0,R.new,R.two,fun q hq=>?_⟩,fun R=>R.lessKp,fun M' H' n' ρ' σ' R'=>hro H' (R'.kept (a,o) List.mem_cons_self).1⟩
    rcases List.mem_cons.mp hq with rfl | hq
    ·refine⟨ho,hM,nV,fun j e q z=>?_⟩
     obtain⟨u,hu⟩:=R.br0 i _ a hi e1
     have:=(R.new j _ a q rfl z).2
     rw [hu] at this
     cases this
    ·exact R.kept q hq
   ·exact⟨C.kp,R,fun R=>R,fun M' H' n' ρ' σ' R'=>hro H' ((R'.pin (M,H) List.mem_cons_self).1 a o ho hM)⟩
  refine⟨fun i m σ' H'=>m=ds.length - i/\i<=ds.length/\∃M' n' ρ',Rel X.K { C with kp:=kp',pins:=(M,H)::C.pins } M' H' n' ρ' σ'/\BM b wb D2 (ds.drop i) n' ρ',⟨ds.length,by simp,Nat.zero_le _,M,n,ρ,R1.pinned,w⟩,?_⟩
  rintro i m σ' H' ⟨rfl,hil,M',n',ρ',R',w'⟩
  have pr:Pres M H M' H':=R'.pin (M,H) List.mem_cons_self
  have hq:=st M' H' n' ρ' σ' R'
  by_cases hlt:i<ds.length
  ·have ed:ds.drop i=ds[i]::ds.drop (i+1):=List.drop_eq_getElem_cons hlt
   rw [ed] at w'
   obtain⟨v,ev,hv⟩:=(hat.pres pr).get (List.getElem?_eq_getElem hlt)
   refine .inr ⟨⟨vs,v,hq,ev⟩,fun σ2 H2=>∃M2 n2 ρ2,Rel X.K { C with kp:=kp',pins:=(M,H)::C.pins } M2 H2 n2 ρ2 σ2/\BM b wb D2 (ds.drop (i+1)) n2 ρ2,fun σ2 H2 ⟨M2,n2,ρ2,R2',w2⟩=>⟨ds.length - (i+1),by omega,rfl,hlt,M2,n2,ρ2,R2',w2⟩,fun y H2 hy=>?_⟩
   obtain⟨e2,hy⟩:=hy
   subst e2
   have:some v=some y:=ev.symm.trans (hy vs hq)
   cases this
   refine g2 _ M' H2 n' ρ' σ' ds[i] v _ _ R' hv w' fun ρ3 σ3 R3 w3=>?_
   refine b2 _ M' H2 n' ρ3 σ3 { D2 with nx:=BM b wb D2 (ds.drop (i+1)),ct:=BM b wb D2 (ds.drop (i+1)),bk:=D2.nx } _ R3 ⟨fun M4 H4 n4 ρ4 σ4 R4 w4=>⟨M4,n4,ρ4,R4,w4⟩,L.rt,fun M4 H4 n4 ρ4 σ4 R4 w4=>L.nx M4 H4 n4 ρ4 σ4 (less R4.unpin) w4,fun M4 H4 n4 ρ4 σ4 R4 w4=>⟨M4,n4,ρ4,R4,w4⟩⟩ w3
  ·have e:i=ds.length:=by omega
   subst e
   rw [List.drop_length] at w'
   exact .inl ⟨⟨vs,hq,by rw [hat.length]; exact Nat.le_refl _⟩,L.nx M' H' n' ρ' σ' (less R'.unpin) w'⟩
 | _=>cases hd
end
end Dp
namespace Nt
open PySem PySem.Spec PyProof.Rows L2 Dp
noncomputable def sub(N:Net)(kept:List Ap):Net:=⟨N.ps,N.ts.filter fun u=>decide (u∈kept)⟩
noncomputable def Et(N:Net)(t b:Int)(u:Ap):Prop:=∃d,Least N u.a u.b d/\d*b<=u.len*t
noncomputable def GZ(N:Net)(t b:Int)(u:Ap):Bool:=@decide (Et N t b u) (Classical.propDecidable _)
theorem nearB_iff{N:Net}{t b:Int}{u:Ap}:GZ N t b u=true↔Et N t b u:=by
 unfold GZ
 exact @decide_eq_true_iff _ (Classical.propDecidable _)
noncomputable def Dy(N:Net)(t b:Int):List Ap->List Ap->List Ap
 | kept,[]=>kept
 | kept,u::r=>if GZ (sub N kept) t b u=true then Dy N t b kept r else Dy N t b (kept++[u]) r
noncomputable def CB:W2:=fun ss n P=>∃(N:Net) (z:D) (ts:List Ap),ss=[.sh (enc N),.br z]/\Gn z=some (ts.map Aa)/\ts.length<64/\∀ts':List Ap,ts'.Perm ts->Ey ts'->P (enc ⟨N.ps,ts'⟩) n
noncomputable def Ee:W2:=fun ss n P=>∃(N:Net) (u:Ap) (t b:Int),ss=[.sh (enc N),.sh (.tup [.int t,.int b]),.sh (Aa u)]/\okN N/\u.a∈N.ps/\u.b∈N.ps/\1<=b/\b<=1000000/\1<=t/\t<=1000000/\∀o:Option (List Str),(∀w,o=some w->Way N u.a u.b (some w)/\GZ N t b u=true)->(o=none->GZ N t b u=false)->P (S7 o) n
noncomputable def Dh:W2:=fun ss n P=>∃(N:Net) (t b:Int),ss=[.sh (enc N),.sh (.tup [.int t,.int b])]/\okN N/\1<=b/\b<=1000000/\1<=t/\t<=1000000/\∀ord:List Ap,ord.Perm N.ts->EO ord->P (enc (sub N (Dy N t b [] ord))) n
noncomputable def Dk:W2:=fun ss n P=>∃(N:Net) (s:Str) (z:D) (us:List Ap),ss=[.br z,.sh (.str s)]/\Gn z=some (us.map Aa)/\(∀u,u∈us↔u∈N.ts)/\okN N/\s∈N.ps/\∀(ks:List Key) (ds:List D) (K:Kn),Dmap ks ds D.int K->LTold N s K->P (.dic ks ds) n
noncomputable def LZ:Ab:=(BA (Az (AB (Ak Cj (AE 0) (wC (D.int 0))) (AB (C1 Bk (AB (C1 CL (AB (Af 1) AN)) AN)) AN))))
noncomputable def Fg:Ab:=(Ag (BZ 3 (AR Qc (AD (AK (AE 0)) (AD (AK (Ak Cj (AE 2) (wC (D.int 0)))) (AD (AK (Ak Cj (AE 2) (wC (D.int 1)))) AT)))))
 (Ag (Bq (Om (Am (Ak (Eo false) (AE 3) (wC D.non))) (GQ (Am (AR CO (AD (AK (AR Qd (AD (AK (AE 0)) (AD (AK (AE 3)) AT)))) (AD (AK (AE 1)) (AD (AK (Ak Cj (AE 2) (wC (D.int 2)))) AT))))))) (BA (wC D.non)) BB)
 (BA (AE 3))))
noncomputable def Gi:Ab:=(Ag (Ce 2 (B7 AN))
 (Ag (D7 (A_ (AR Cd (AD (AK (Ak Cj (AE 0) (wC (D.int 1)))) AT))) (AW 3) (Bq (Am (Ak (Eo false) (AR Ee (AD (AK (AR CB (AD (AK (AE 0)) (AD (Bp (Af 2)) AT)))) (AD (AK (AE 1)) (AD (AK (AE 3)) AT)))) (wC D.non))) (Io 2 "list" EM (AB (AE 3) AN)) BB))
 (BA (AR CB (AD (AK (AE 0)) (AD (Bp (Af 2)) AT))))))
theorem sub_mem{N:Net}{kept:List Ap}{u:Ap}:u∈(sub N kept).ts↔u∈N.ts/\u∈kept:=by
 show u∈N.ts.filter _↔_
 rw [List.mem_filter,decide_eq_true_eq]
theorem Dl{N:Net}(okn:okN N)(kept:List Ap):okN (sub N kept):=⟨Lv okn.1 (fun t h=>(sub_mem.mp h).1) (okn.1.trise.filter _),okn.2.1,Nat.le_trans (List.length_filter_le _ _) okn.2.2⟩
theorem HE{N:Net}(ok:N.Ok){kept ts:List Ap}(hk:∀t∈kept,t∈N.ts)(nd:kept.Nodup)(hp:ts.Perm kept)(hb:Ey ts):(⟨N.ps,ts⟩:Net)=sub N kept:=by
 unfold sub
 congr 1
 refine HD ((List.perm_ext_iff_of_nodup (hp.nodup_iff.mpr nd) ((BN ok.trise).filter _)).mpr fun t=>?_) hb (IG (ok.trise.filter _))
 rw [List.mem_filter,decide_eq_true_eq,hp.mem_iff]
 exact⟨fun h=>⟨hk t h,h⟩,fun h=>h.2⟩
theorem ML{N:Net}{t b:Int}{kept r:List Ap}{u:Ap}:Dy N t b kept (u::r)=if GZ (sub N kept) t b u=true then Dy N t b kept r else Dy N t b (kept++[u]) r:=rfl
theorem Hg{α β:Type}:∀{l:List (α×β)},(l.map (·.1)).Nodup->∀{p q:α×β},p∈l->q∈l->p.1=q.1->p=q
 | a::l,nd,p,q,hp,hq,e=>by
  rw [List.map_cons,List.nodup_cons] at nd
  rcases List.mem_cons.mp hp with hp2 | hp2 <;> rcases List.mem_cons.mp hq with hq2 | hq2
  ·rw [hp2,hq2]
  ·exact absurd (List.mem_map.mpr ⟨q,hq2,by rw [← e,hp2]⟩:a.1∈l.map (·.1)) nd.1
  ·exact absurd (List.mem_map.mpr ⟨p,hp2,by rw [e,hq2]⟩:a.1∈l.map (·.1)) nd.1
  ·exact Hg nd.2 hp2 hq2 e
theorem M9{N:Net}(ok:N.Ok){x y:Str}{l:Int}(h:Ed N x y l):look N.ts x y=some l:=by
 unfold look
 cases e:(DB N.ts x).find? fun z=>decide (z.1=y) with
 | none=>exact absurd (List.find?_eq_none.mp e (y,l) h) (by simp)
 | some q =>
  have h1:decide (q.1=y)=true:=List.find?_some (p:=fun z:Str×Int=>decide (z.1=y)) e
  have e1:q.1=y:=of_decide_eq_true h1
  rw [Hg (N8 ok x) (List.mem_of_find?_eq_some e) h e1]
  rfl
theorem FG{N:Net}(ok:N.Ok):∀{r:List Str} {x:Str} {s d:Int},walk N (x::r) d->Ig N.ts x r s=some (s+d)
 | [],x,s,d,h=>by
  have:d=0:=h
  subst this
  show some s=some (s+0)
  rw [Int.add_zero]
 | y::r,x,s,d,h=>by
  obtain⟨l,e,he,hw,rfl⟩:=h
  show (match look N.ts x y with | some l=>Ig N.ts y r (s+l) | none=>none)=_
  rw [M9 ok he]
  show Ig N.ts y r (s+l)=_
  rw [FG ok hw,Int.add_assoc]
theorem RB{N:Net}(ok:N.Ok){x:Str}{r:List Str}{d:Int}(hx:x∈N.ps)(hw:walk N (x::r) d):Ui N (.tup ((x::r).map .str))=.int d:=by
 show (if ((x::r).map D.str).all Dt then TF N (strsOf ((x::r).map .str)) else .non)=_
 rw [if_pos (all_strs _),HF]
 show (if x∈N.ps then Sw (Ig N.ts x r 0) else .non)=_
 rw [if_pos hx,FG ok hw,Int.zero_add]
 rfl
theorem Il{N:Net}{B:Nat}(ok:N.Ok):∀{w:List Str},(∀x∈w,x∈N.ps)->JI B (w.map .str)/\Lu (w.map .str)<=9*w.length/\JK (w.map .str)<=0
 | [],_=>⟨trivial,Nat.le_refl _,Nat.le_refl _⟩
 | x::r,h=>by
  obtain⟨a,b,c⟩:=Il ok (w:=r) fun y hy=>h y (List.mem_cons_of_mem _ hy)
  have hx:=ok.names x (h x List.mem_cons_self)
  refine⟨⟨fun ch hc=>by have:=hx.2.2 ch hc; omega,a⟩,?_,?_⟩
  ·show x.length+1+Lu (r.map .str)<=9*(r.length+1)
   have:=hx.2.1
   omega
  ·show max 0 (JK (r.map .str))<=0
   omega
theorem Oj{N:Net}(ok:N.Ok){w:List Str}(hl:w.length<=30)(h:∀x∈w,x∈N.ps):Uq (.tup (w.map .str)):=by
 obtain⟨a,b,c⟩:=Il ok h
 exact⟨a,by show Lu (w.map .str)<=60000; omega,by show JK (w.map .str)+1<=50; omega⟩
section
variable {ss:List Slot}{n:Nat}{Pd:D->Nat->Prop}
theorem Nl(h:CB ss n Pd):LZ (EE Pd) n (ss++List.replicate 0 .no):=by
 obtain⟨N,z,ts,rfl,hz,h64,p⟩:=h
 unfold LZ
 refine⟨_,Aj (j:=0) rfl,z,_,rfl,hz,by rw [List.length_map]; exact h64,⟨fun x hx=>?_,fun x hx y hy ka kb ea eb=>?_⟩,fun xs' hp ho=>?_⟩
 ·obtain⟨t,_,rfl⟩:=List.mem_map.mp hx
  exact⟨E5 t,rfl,List.cons_ne_nil _ _⟩
 ·obtain⟨t,_,rfl⟩:=List.mem_map.mp hx
  obtain⟨u,_,rfl⟩:=List.mem_map.mp hy
  cases (show some (E5 t)=some ka from ea)
  cases (show some (E5 u)=some kb from eb)
  rfl
 ·obtain⟨ts',h1,rfl⟩:=Md (g:=Tg) (fun _=>rfl) hp
  exact⟨z2,p ts' h1 (Mz ho)⟩
theorem IR(h:Ee ss n Pd):Fg (EE Pd) n (ss++List.replicate 1 .no):=by
 obtain⟨N,u,t,b,rfl,okn,ha,hb,b1,b2,t1,t2,p⟩:=h
 unfold Fg
 refine⟨_,Aj (j:=0) rfl,_,Aj (j:=1) rfl,N,u.a,u.b,rfl,okn,ha,hb,fun o ho=>⟨rfl,?_⟩⟩
 cases o with
 | none =>
  refine p none (fun w e=>by cases e) fun _=>?_
  rw [Bool.eq_false_iff]
  intro z
  obtain⟨d,hd,_⟩:=nearB_iff.mp z
  exact ho d hd.1
 | some w =>
  have ho':=ho
  obtain⟨d,r,rfl,hl,hw,hd,h30,hin⟩:=ho'
  have near:GZ N t b u=decide (d*b<=u.len*t):=by
   rw [Bool.eq_iff_iff,nearB_iff,decide_eq_true_eq]
   exact⟨fun⟨d',hd',h2⟩=>by rw [Least.unique hd hd']; exact h2,fun h2=>⟨d,hd,h2⟩⟩
  refine⟨N,.tup ((u.a::r).map .str),rfl,okn.1,by have:=okn.2.1; omega,okn.2.2,Oj okn.1 h30 hin,?_⟩
  rw [RB okn.1 (hin _ List.mem_cons_self) hw]
  refine⟨_,Aj (j:=2) rfl,d,t,b,u.len,rfl,b1,b2,t1,t2,?_⟩
  by_cases c:d*b<=u.len*t
  ·rw [decide_eq_true c]
   exact p (some _) (fun w e=>by cases e; exact⟨ho,by rw [near]; exact decide_eq_true c⟩) fun e=>by cases e
  ·rw [decide_eq_false c]
   exact p none (fun w e=>by cases e) fun _=>by rw [near]; exact decide_eq_false c
theorem Jk(h:Dh ss n Pd):Gi (EE Pd) n (ss++List.replicate 2 .no):=by
 obtain⟨N,t,b,rfl,okn,b1,b2,t1,t2,p⟩:=h
 have ok:=okn.1
 have l60:=okn.2.2
 have szl:=PySem.sizeLine_eq
 unfold Gi
 refine⟨z0,_,Aj (j:=1) rfl,_,N.ts,rfl,rfl,by omega,fun ord o1 o2=>?_⟩
 have hol:=o1.length_eq
 have ndo:ord.Nodup:=o1.nodup_iff.mpr (BN ok.trise)
 have go:∀(rest done kept:List Ap) (s3:Slot),done++rest=ord->(∀u∈kept,u∈done)->kept.Nodup->Dy N t b kept rest=Dy N t b [] ord ->
   BM (AW 3) (Bq (Am (Ak (Eo false) (AR Ee (AD (AK (AR CB (AD (AK (AE 0)) (AD (Bp (Af 2)) AT)))) (AD (AK (AE 1)) (AD (AK (AE 3)) AT)))) (wC D.non))) (Io 2 "list" EM (AB (AE 3) AN)) BB) { EE Pd with nx:=BA (AR CB (AD (AK (AE 0)) (AD (Bp (Af 2)) AT))) (EE Pd) } (rest.map Aa) n [.sh (enc N),.sh (.tup [.int t,.int b]),.ow (.lst (kept.map Aa)),s3]:=by
  intro rest
  induction rest with
  | nil =>
   intro done kept s3 e h1 h2 h3
   rw [List.append_nil] at e
   subst e
   have hin:∀u∈kept,u∈N.ts:=fun u hu=>o1.mem_iff.mp (h1 u hu)
   have hkl:=sub_len h2 (BN ok.trise) hin
   refine⟨N,_,kept,rfl,rfl,by omega,fun ts' p1 p2=>?_⟩
   rw [HE ok hin h2 p1 p2,show kept=Dy N t b [] done from h3]
   exact p done o1 o2
  | cons u rest ih =>
   intro done kept s3 e h1 h2 h3
   have hin:∀v∈kept,v∈N.ts:=fun v hv=>o1.mem_iff.mp (by rw [← e]; exact List.mem_append_left _ (h1 v hv))
   have hkl:=sub_len h2 (BN ok.trise) hin
   have hu:u∈N.ts:=o1.mem_iff.mp (by rw [← e]; exact List.mem_append_right _ List.mem_cons_self)
   have hud:u∉done:=by
    rw [← e,List.nodup_append] at ndo
    exact fun z=>ndo.2.2 u z u List.mem_cons_self rfl
   have e':(done++[u])++rest=ord:=by rw [List.append_assoc]; exact e
   obtain⟨m1,m2,_⟩:=ok.tin u hu
   refine⟨N,_,kept,rfl,rfl,by omega,fun ts' p1 p2=>?_⟩
   rw [HE ok hin h2 p1 p2]
   refine⟨sub N kept,u,t,b,rfl,Dl okn kept,m1,m2,b1,b2,t1,t2,fun o hs hn=>⟨rfl,?_⟩⟩
   rw [ML] at h3
   cases o with
   | some w =>
    rw [(hs w rfl).2,if_pos rfl] at h3
    exact ih (done++[u]) kept _ e' (fun v hv=>List.mem_append_left _ (h1 v hv)) h2 h3
   | none =>
    rw [hn rfl,if_neg (by decide)] at h3
    refine⟨_,rfl,rfl,_,_,rfl,rfl,by rw [List.length_map]; omega,?_⟩
    have:=ih (done++[u]) (kept++[u]) (.sh (Aa u)) e' (fun v hv=>by
     rcases List.mem_append.mp hv with hv | hv
     ·exact List.mem_append_left _ (h1 v hv)
     ·exact List.mem_append_right _ hv) (by
     rw [List.nodup_append]
     exact⟨h2,List.nodup_cons.mpr ⟨List.not_mem_nil,List.nodup_nil⟩,fun x hx y hy z=>hud (by rw [← List.mem_singleton.mp hy,← z]; exact h1 x hx)⟩) h3
    rw [List.map_append] at this
    exact this
 exact go ord [] [] _ rfl (fun u h=>by cases h) List.nodup_nil rfl
end
section
variable {ss:List Slot}{n:Nat}{Pd:D->Nat->Prop}
end
section
variable {ss:List Slot}{n:Nat}{Pd:D->Nat->Prop}
end
theorem FK{N:Net}(okn:okN N):O5 (enc N):=by
 obtain⟨f1,f2,f3⟩:=Sn okn
 exact Qt (B:=1000001) (by decide) f1 (by omega) (by omega)
inductive Cn (K:List Ap) (x:Str):Str->Prop
 | refl:Cn K x x
 | step {y z:Str}:Cn K x y->(∃t∈K,(t.a=y/\t.b=z)\/(t.b=y/\t.a=z))->Cn K x z
end Nt
namespace Dp
open PySem PySem.Spec PyProof.Rows L2
noncomputable def SZ(i:Nat)(we:DW)(b:BW):Ab:=fun D2 n ρ=>∃xs,ρ[i]?=some (.ow (.lst xs))/\we n ρ fun d n1=>∃(k:Nat) (x:D),d=.int (k:Int)/\xs[k]?=some x/\k<2 ^ 60/\b x (ρ.set i (.ow (.lst (xs.eraseIdx k)))) fun ρ1=>D2.nx n1 ρ1
section
variable {X:Cx}{κ κe:Kd}{tg e:Expr}{b:BW}{we:DW}{pos p apos cpos:Pos}{x:Str}{i:Nat}
theorem Iw{k n:Nat}(h:k<n):seqIndex? (k:Int) n=some k:=by
 refine(J6 ?_).1
 unfold RE
 rw [if_pos (by omega),if_pos (by omega)]
 simp
theorem RU(h:PE X (.Name x p) (Bo i))(ha:DE X e κe we)(hg:DG X tg b)
  (hs:swapsWithSole [tg] (.Call (.Attribute (.Name x p) "pop" apos) [e] [] cpos) pos.line X.env=pure false:=by rfl) (hw:swappedStores [tg] (.Call (.Attribute (.Name x p) "pop" apos) [e] [] cpos) X.env=pure none:=by rfl)
  (h1:(assignEach [tg] X.env).map (·.2)=[assign tg X.env]:=by rfl)
  (hbase:attributeBase (.Name x p) "pop" X.env (eval (.Name x p) X.env)=eval (.Name x p) X.env:=by rfl)
  (hfew:((backTo cpos (starEach [e] X.env)).all (fun x=>!x.1)&&(backToKw cpos (keywordEach [] X.env)).all (fun x=>x.1.isSome)
   && decide ([e].length+([]:List Keyword).length+(if ([]:List Keyword).isEmpty then 0 else 1)<30))=true:=by rfl)
  (hline:(apos.endLine==cpos.line)=true:=by rfl) (hst:starEach [e] X.env=(false,eval e X.env)::starEach [] X.env:=by rfl) (hplain:(backTo cpos (starEach [] X.env)).any (·.1)=false:=by rfl) :
  DS X κ (.Assign [tg] (.Call (.Attribute (.Name x p) "pop" apos) [e] [] cpos) pos) (SZ i we b):=by
 obtain⟨t,a1,a2⟩:=ha
 obtain⟨g,g1,g2⟩:=hg
 refine⟨_,Fx (Pg PySem.F.plainAttrs_list PySem.F.slot_list_pop PySem.F.type_list_pop LC h (BY a1 CV hst) hbase hfew hline hst hplain) g1 hs hw h1,fun C M H n ρ σ D2 E R L w=>?_⟩
 obtain⟨xs,hi,w⟩:=w
 obtain⟨a,e1,m,nv,tt⟩:=R.sl i _ hi
 refine⟨.ref a,getD_some e1,Px (show Vh "list" (.lst xs) from rfl) (tt.att nv),?_⟩
 refine a2 C M H n ρ σ _ _ R w fun v H1 d n1 ee f1 r1 p=>?_
 obtain⟨k,y,rfl,hx,hk,p⟩:=p
 have R1:=R.step ee f1
 obtain⟨a',e1',m',nv',vs,hH,hat⟩:=R1.sl i _ hi
 rw [e1] at e1'
 cases e1'
 obtain⟨v',ev,hv⟩:=hat.get hx
 have hkl:k<vs.length:=(List.getElem?_eq_some_iff.mp ev).1
 refine⟨a,vs,(k:Int),k,v',rfl,by rw [J7 r1],hH,by omega,by omega,Iw hkl,ev,?_⟩
 have R2:=R1.mut (e:=.lst (xs.eraseIdx k)) hi e1 (o:=.lst (vs.eraseIdx k)) ⟨vs.eraseIdx k,AV,(hat.eraseIdx k).pres (Dr m')⟩
 exact g2 C M _ n1 _ σ y v' _ _ R2 (hv.pres (Dr m')) p fun ρ' σ' R' w'=>L.nx M _ n1 ρ' σ' R' w'
end
section
variable {X:Cx}{κ κe:Kd}{e:Expr}{we:DW}{pos p apos cpos p2 apos2 cpos2:Pos}{x y:Str}{i j:Nat}
end
end Dp
namespace Nt
open PySem PySem.Spec PyProof.Rows L2 Dp
noncomputable def CP:W2:=fun ss n P=>∃m:Nat,ss=[.fd,.sh (.int m)]/\m<=24/\1<=n/\∀xs:List Str,xs.length=m->(∀x∈xs,Lk x)->rising xs->P (.tup (xs.map .str)) (n - 1)
noncomputable def GL:W2:=fun ss n P=>∃s:Int,ss=[.fd,.sh (.int s)]/\0<=s/\1<=n/\∀r:Int,1<=r->r<=1000000->P (.int r) (n - 1)
noncomputable def GK:W2:=fun ss n P=>∃most ties:Nat,ss=[.fd,.sh (.int most),.sh (.int ties)]/\2<=most/\most<=24/\3<=ties/\ties<=60/\130<=n/\∀(N:Net) (n':Nat),N.Ok->2<=N.ps.length->N.ps.length<=most->N.ts.length<=ties->n - 130<=n'->P (enc N) n'
noncomputable def EU:Ab:=(Ag (BZ 2 (B7 (AB (wC (D.str "a")) (AB (wC (D.str "ab")) (AB (wC (D.str "aba")) (AB (wC (D.str "b")) (AB (wC (D.str "in")) (AB (wC (D.str "out")) (AB (wC (D.str "place")) (AB (wC (D.str "tie")) (AB (wC (D.str "c")) (AB (wC (D.str "ca")) (AB (wC (D.str "near")) (AB (wC (D.str "z")) AN))))))))))))))
 (Ag (BZ 2 (Ak Bm (AE 2) (B7 (AB (wC (D.str "za")) (AB (wC (D.str "zb")) (AB (wC (D.str "x")) (AB (wC (D.str "xy")) (AB (wC (D.str "y")) (AB (wC (D.str "q")) (AB (wC (D.str "qq")) (AB (wC (D.str "d")) (AB (wC (D.str "e")) (AB (wC (D.str "f")) (AB (wC (D.str "g")) (AB (wC (D.str "h")) AN)))))))))))))))
 (Ag (BZ 3 (AR A5 (AD (Ar 0) (AD (AK (wC (D.int 24))) AT))))
 (BA (C1 Bk (AB (C1 MP (AB (DF [some 2,some 3,none] (G9 (AB (AE 1) AN)) (AW 2) E4 (Ak Cj (AE 0) (Ak (RR (fun _ j=>0<j) fun i j=>D.int (i % j)) (Ak Bm (AE 1) (AE 2)) (wC (D.int 24))))) AN)) AN))))))
noncomputable def D5:Ab:=(Ag (Bq (Am (Ak KG (AE 1) (wC (D.int 3)))) (BA (Ak Bm (wC (D.int 1)) (AR A5 (AD (Ar 0) (AD (AK (Ak Cj (B7 (AB (wC (D.int 2)) (AB (wC (D.int 4)) (AB (wC (D.int 9)) AN)))) (AE 1))) AT))))) BB)
 (Ag (Bq (Am (Ak (QA false) (AE 1) (wC (D.int 3)))) (BA (Ak Bm (wC (D.int 1)) (AR A5 (AD (Ar 0) (AD (AK (wC (D.int 60))) AT))))) BB)
 (BA (Ak Ew (Ak (RR Kf fun i j=>D.int (i ^ j.toNat)) (wC (D.int 10)) (wC (D.int 6))) (AR A5 (AD (Ar 0) (AD (AK (wC (D.int 3))) AT)))))))
noncomputable def Fi:Ab:=(Ag (BZ 3 (AR CP (AD (Ar 0) (AD (AK (Ak Bm (wC (D.int 2)) (AR A5 (AD (Ar 0) (AD (AK (Ak Ew (AE 1) (wC (D.int 1)))) AT))))) AT))))
 (Ag (Ce 4 (B7 AN))
 (Ag (D7 (A_ (AE 3)) (AW 5) (Io 4 "list" Ta (AB (DF [some 5,none] (A_ (AE 3)) (AW 1) (Am (Ak KG (AE 0) (AE 1))) (Az (AB (AE 0) (AB (AE 1) AN)))) AN)))
 (Ag (BZ 6 (AR A5 (AD (Ar 0) (AD (AK (wC (D.int 5))) AT))))
 (Ag (BZ 7 (Ak Ew (AE 2) (AR A5 (AD (Ar 0) (AD (AK (Ak Bm (Ak (RR Qh fun i j=>D.int (i / j)) (AE 2) (wC (D.int 2))) (wC (D.int 1)))) AT)))))
 (Ag (Bq (Am (Ak (QA false) (AR A5 (AD (Ar 0) (AD (AK (wC (D.int 6))) AT))) (wC (D.int 0)))) (BZ 7 (AR A5 (AD (Ar 0) (AD (AK (wC (D.int 4))) AT)))) BB)
 (Ag (Ce 8 (B7 AN))
 (Ag (D7 (G9 (AB (C1 NI (AB (AE 7) (AB (C1 KH (AB (Af 4) AN)) AN))) AN)) (AW 9) (Ag (SZ 4 (AR A5 (AD (Ar 0) (AD (AK (C1 KH (AB (Af 4) AN))) AT))) (Df 2 (AY (AW 5) (AY (AW 10) B8))))
 (Io 8 "list" EM (AB (Az (AB (AE 5) (AB (AE 10) (AB (AR GL (AD (Ar 0) (AD (AK (AE 6)) AT))) AN)))) AN))))
 (BA (Az (AB (AE 3) (AB (C1 Bk (AB (C1 CL (AB (Af 8) AN)) AN)) AN))))))))))))
noncomputable def words24:List Str:=["a","ab","aba","b","in","out","place","tie","c","ca","near","z","za","zb","x","xy","y","q","qq","d","e","f","g","h"]
noncomputable def DC(i:Nat):Str:=words24.getD i "a"
theorem Lm:∀i,i<24->Lk (DC i):=by
 have h:∀i∈List.range 24,1<=(DC i).length/\(DC i).length<=8/\∀c∈cs (DC i),97<=c/\c<=122:=by decide +kernel
 exact fun i hi=>h i (List.mem_range.mpr hi)
theorem Nb:∀i j,i<24->j<24->DC i=DC j->i=j:=by
 have h:∀i∈List.range 24,∀j∈List.range 24,cs (DC i)=cs (DC j)->i=j:=by decide +kernel
 exact fun i j hi hj e=>h i (List.mem_range.mpr hi) j (List.mem_range.mpr hj) (congrArg cs e)
theorem Oi(i:Nat)(h:i<24):(words24.map D.str)[i]?=some (.str (DC i)):=by
 have hl:i<words24.length:=h
 unfold DC
 rw [List.getElem?_map,List.getD_eq_getElem?_getD,List.getElem?_eq_getElem hl]
 rfl
section
variable {ss:List Slot}{n:Nat}{Pd:D->Nat->Prop}
theorem HU(h:CP ss n Pd):EU (EE Pd) n (ss++List.replicate 2 .no):=by
 obtain⟨m,rfl,hm,hn,p⟩:=h
 unfold EU
 refine⟨(by decide:12<=sizeLine),(by decide:12<=sizeLine),(by decide:24<=sizeLine),?_⟩
 refine⟨24,rfl,by decide,by decide,hn,fun first f0 f1=>?_⟩
 obtain⟨f,rfl⟩:∃f:Nat,first=(f:Int):=⟨first.toNat,(by first | exact u0 | exact u1 | exact u2 | exact w0 | exact w1 | omega)⟩
 refine⟨(m:Int),rfl,⟨(by first | exact u0 | exact u1 | exact u2 | exact w0 | exact w1 | omega),(by first | exact u0 | exact u1 | exact u2 | exact w0 | exact w1 | omega)⟩,by rw [C2]; omega,?_⟩
 refine B4 (fun d=>match d with | .int k=>.str (DC ((f+k.toNat) % 24)) | _=>.non) (fun ρ=>∃s,ρ=[.sh (.lst (words24.map .str)),.sh (.int f),s]) _ _ _ _ ?_ ⟨_,rfl⟩ ?_
 ·rintro d hd ρ n' nx ⟨s,rfl⟩ hnx
  obtain⟨k,hk,rfl⟩:=Kv hd
  have hlt:(f+k) % 24<24:=Nat.mod_lt _ (by decide)
  refine⟨by show (0:Int)<24; decide,.str (DC ((f+k) % 24)),?_,?_⟩
  ·rw [show ((f:Int)+(0+(k:Int))) % 24=(((f+k) % 24:Nat):Int) by omega]
   exact Aj (Oi _ hlt)
  ·have:=hnx [.sh (.lst (words24.map .str)),.sh (.int f),.sh (.int (0+(k:Int)))] ⟨_,rfl⟩
   rw [show (0+(k:Int))=k by omega] at this ⊢
   exact this
 ·have e:[]++(D8 0 ((m:Int)).toNat).map (fun d=>match d with | .int k=>D.str (DC ((f+k.toNat) % 24)) | _=>.non)=((List.range m).map fun k:Nat=>DC ((f+k) % 24)).map .str:=by
   unfold D8
   rw [List.nil_append,List.map_map,List.map_map,Int.toNat_natCast]
   refine List.map_congr_left fun k _=>?_
   have:(0+(k:Int)).toNat=k:=by omega
   simp only [Function.comp,this]
  rw [e]
  refine⟨_,_,rfl,Lb _,by rw [List.length_map,List.length_range]; omega,fun ss' hp hs=>p ss' ?_ ?_ ?_⟩
  ·rw [hp.length_eq,List.length_map,List.length_range]
  ·intro y hy
   obtain⟨k,_,rfl⟩:=List.mem_map.mp (hp.mem_iff.mp hy)
   exact Lm _ (Nat.mod_lt _ (by decide))
  ·refine Er hs (hp.nodup_iff.mpr (I_ List.nodup_range fun j hj k hk e=>?_))
   exact Q_ hm (List.mem_range.mp hj) (List.mem_range.mp hk) (Nb _ _ (Nat.mod_lt _ (by decide)) (Nat.mod_lt _ (by decide)) e)
theorem Gq(h:GL ss n Pd):D5 (EE Pd) n (ss++List.replicate 0 .no):=by
 obtain⟨s,rfl,hs,hn,p⟩:=h
 have e6:((10:Int) ^ (6:Int).toNat)=1000000:=by decide
 unfold D5
 refine EK (fun c=>?_) fun _=>?_
 ·have c:s<3:=of_decide_eq_true c
  obtain⟨z,hz,w,rfl,hw⟩:=EX (p:=fun d=>∃w:Int,d=.int w/\1<=w/\w<=9) (xs:=[D.int 2,D.int 4,D.int 9]) (fun d hd=>by
   simp only [List.mem_cons,List.not_mem_nil,or_false] at hd
   rcases hd with rfl | rfl | rfl <;> exact⟨_,rfl,by decide,by decide⟩) hs (by show s<3; exact c)
  exact⟨(by decide:3<=sizeLine),_,hz,w,rfl,(by first | exact u0 | exact u1 | exact u2 | exact w0 | exact w1 | omega),(by first | exact u0 | exact u1 | exact u2 | exact w0 | exact w1 | omega),hn,fun r r0 r1=>p _ ((by first | exact u0 | exact u1 | exact u2 | exact w0 | exact w1 | omega)) ((by first | exact u0 | exact u1 | exact u2 | exact w0 | exact w1 | omega))⟩
 refine EK (fun _=>⟨60,rfl,by decide,by decide,hn,fun r r0 r1=>p _ ((by first | exact u0 | exact u1 | exact u2 | exact w0 | exact w1 | omega)) ((by first | exact u0 | exact u1 | exact u2 | exact w0 | exact w1 | omega))⟩) fun _=>?_
 exact⟨⟨by decide,by decide,by decide⟩,3,rfl,by decide,by decide,hn,fun r r0 r1=>p _ (by rw [e6]; omega) (by rw [e6]; omega)⟩
end
noncomputable def pairD(p:Str×Str):D:=.tup [.str p.1,.str p.2]
noncomputable def CN(a:Str)(xs:List Str):List (Str×Str):=(xs.filter fun b=>decide (cs a<cs b)).map fun b=>(a,b)
noncomputable def pairsOf(pre xs:List Str):List (Str×Str):=pre.flatMap fun a=>CN a xs
noncomputable def QW(a:Str):D->Bool
 | .str b=>decide (cs a<cs b)
 | _=>false
theorem QV(a:Str)(xs:List Str):[]++((xs.map D.str).filter (QW a)).map (fun d=>D.tup [.str a,d])=(CN a xs).map pairD:=by
 rw [List.nil_append,List.filter_map,List.map_map]
 unfold CN
 rw [List.map_map]
 rfl
theorem K5{pre xs:List Str}{p:Str×Str}(h:p∈pairsOf pre xs):p.1∈pre/\p.2∈xs/\cs p.1<cs p.2:=by
 obtain⟨a,ha,h⟩:=List.mem_flatMap.mp h
 obtain⟨b,hb,rfl⟩:=List.mem_map.mp h
 obtain⟨h1,h2⟩:=List.mem_filter.mp hb
 exact⟨ha,h1,of_decide_eq_true h2⟩
theorem Jv{pre xs:List Str}(hp:rising pre)(hx:rising xs):(pairsOf pre xs).Pairwise eL:=by
 unfold pairsOf
 rw [List.pairwise_flatMap]
 refine⟨fun a _=>?_,hp.imp fun {a b} h x hx y hy=>?_⟩
 ·unfold CN
  rw [List.pairwise_map]
  exact(hx.filter _).imp fun {b c} h=>.inr ⟨rfl,h⟩
 ·obtain⟨_,_,rfl⟩:=List.mem_map.mp hx
  obtain⟨_,_,rfl⟩:=List.mem_map.mp hy
  exact .inl h
theorem To(x:Str):¬cs x<cs x:=List.lt_irrefl _
theorem QF{l:List (Str×Str)}(h:l.Pairwise eL):l.Nodup:=h.imp fun {p q} h e=>by
 subst e
 rcases h with h | ⟨_,h⟩ <;> exact To _ h
theorem ED{xs:List Str}:∀{pre:List Str},(pairsOf pre xs).length<=pre.length*xs.length
 | []=>Nat.zero_le _
 | a::pre=>by
  have ih:=@ED xs pre
  show (CN a xs++pairsOf pre xs).length<=_
  rw [List.length_append,List.length_cons,Nat.add_mul,Nat.one_mul]
  have:(CN a xs).length<=xs.length:=by unfold CN; rw [List.length_map]; exact List.length_filter_le _ _
  omega
theorem Hx{α:Type}:∀{l:List α} {k:Nat} {x:α},l[k]?=some x->(x::l.eraseIdx k).Perm l
 | [],k,x,e=>by simp at e
 | a::l,0,x,e=>by cases e; exact .refl _
 | a::l,k+1,x,e=>(List.Perm.swap a x _).trans ((Hx (l:=l) e).cons a)
theorem LX{ts:List Ap}(h:Ey ts)(nd:(ts.map ends).Nodup):ts.Pairwise B6:=by
 have h2:ts.Pairwise fun s t=>ends s≠ends t:=List.pairwise_map.mp nd
 refine(h.and h2).imp fun {s t} ⟨a,b⟩=>Classical.byContradiction fun c=>?_
 by_cases d:B6 t s
 ·have:=Mf d
  rw [this] at a
  cases a
 ·refine b ?_
  have e:=CY (QE s) (QE t) (by rw [Bool.eq_false_iff]; exact fun z=>c (ekey_iff.mp z)) (by rw [Bool.eq_false_iff]; exact fun z=>d (ekey_iff.mp z))
  unfold QE at e
  injection e with e1 e2
  injection e2 with e3 _
  injection e1 with e1
  injection e3 with e3
  unfold ends
  rw [e1,e3]
theorem u0{n k j:Nat}(h:k<=n:=by assumption)(e:Nat.ble j k=true:=by rfl):j<=n:=Nat.le_trans (Nat.le_of_ble_eq_true e) h
theorem u1{n k j a:Nat}(h:k<=n:=by assumption)(e:Nat.ble (j+a) k=true:=by rfl):j<=n - a:=Nat.le_sub_of_add_le (Nat.le_trans (Nat.le_of_ble_eq_true e) h)
theorem u2{n k j a b:Nat}(h:k<=n:=by assumption)(e:Nat.ble (j+b+a) k=true:=by rfl):j<=n - a - b:=Nat.le_sub_of_add_le (u1 h e)
theorem u3{n k j a b c:Nat}(h:k<=n:=by assumption)(e:Nat.ble (j+c+b+a) k=true:=by rfl):j<=n - a - b - c:=Nat.le_sub_of_add_le (u2 h e)
theorem u4{n k j a b c d:Nat}(h:k<=n:=by assumption)(e:Nat.ble (j+d+c+b+a) k=true:=by rfl):j<=n - a - b - c - d:=Nat.le_sub_of_add_le (u3 h e)
theorem u5{n k j a b c d f:Nat}(h:k<=n:=by assumption)(e:Nat.ble (j+f+d+c+b+a) k=true:=by rfl):j<=n - a - b - c - d - f:=Nat.le_sub_of_add_le (u4 h e)
theorem w0{n k j:Nat}(h:n<=k:=by assumption)(e:Nat.ble k j=true:=by rfl):n<=j:=Nat.le_trans h (Nat.le_of_ble_eq_true e)
theorem w1{n k j:Nat}(h:n<=k:=by assumption)(e:Nat.ble (k+1) j=true:=by rfl):n<j:=Nat.le_trans (Nat.succ_le_succ h) (Nat.le_of_ble_eq_true e)
theorem v1{a n m j:Nat}(h:a<=n)(e:n - j<=m):a - j<=m:=Nat.le_trans (Nat.sub_le_sub_right h j) e
theorem v2{a n m j i:Nat}(h:a<=n)(e:n - j - i<=m):a - j - i<=m:=v1 (Nat.sub_le_sub_right h j) e
theorem v3{a n m j i l:Nat}(h:a<=n)(e:n - j - i - l<=m):a - j - i - l<=m:=v2 (Nat.sub_le_sub_right h j) e
theorem Vn{n m j c:Nat}(h1:124<=n)(h2:n - 2*j<=m)(h3:j<c)(h4:c<=60):3<=m/\n - 2*(j+1)<=m - 1 - 1:=by omega
theorem Vo{n n' m c:Nat}(h:n - 6<=n')(h2:n' - 2*c<=m)(h4:c<=60):n - 130<=m:=by omega
theorem V8(n:Nat):n - 6<=n - 1 - 1 - 1 - 1 - 1/\n - 6<=n - 1 - 1 - 1 - 1 - 1 - 1:=by omega
theorem Do{ts:List Ap}{z:D}{P:D->Prop}(hz:Gn z=some (ts.map Aa))(h64:ts.length<64)(p:∀ts':List Ap,ts'.Perm ts->Ey ts'->P (.lst (ts'.map Aa))):CL [z] P:=by
 refine⟨z,_,rfl,hz,by rw [List.length_map]; exact h64,⟨fun x hx=>?_,fun x hx y hy ka kb ea eb=>?_⟩,fun xs' hp ho=>?_⟩
 ·obtain⟨t,_,rfl⟩:=List.mem_map.mp hx
  exact⟨E5 t,rfl,List.cons_ne_nil _ _⟩
 ·obtain⟨t,_,rfl⟩:=List.mem_map.mp hx
  obtain⟨u,_,rfl⟩:=List.mem_map.mp hy
  cases (show some (E5 t)=some ka from ea)
  cases (show some (E5 u)=some kb from eb)
  rfl
 ·obtain⟨ts',h1,rfl⟩:=Md (g:=Tg) (fun _=>rfl) hp
  exact p ts' h1 (Mz ho)
theorem Hi{α:Type}{a:List α}{x:α}{l:List α}{k:Nat}(e:l[k]?=some x):((a++[x])++l.eraseIdx k).Perm (a++l):=by
 rw [List.append_assoc]
 exact(Hx e).append_left a
section
variable {ss:List Slot}{n:Nat}{Pd:D->Nat->Prop}
theorem JH{D2:E2}{m:Nat}{xs:List Str}(hl:xs.length<=24){tg:BW}{mk:List D->Slot->List Slot}(body:Ab)
  (hstep:∀(fr:List D) (s:Slot) (a:Str) (nx:Nat->List Slot->Prop),fr.length+24<=1000->(∀s',nx m (mk (fr++(CN a xs).map pairD) s'))->tg (.str a) (mk fr s) fun ρ1=>body { D2 with nx:=nx,ct:=nx,bk:=D2.nx } m ρ1)
  (hend:∀s,D2.nx m (mk ((pairsOf xs xs).map pairD) s)):∀(rest pre:List Str) (s:Slot),pre++rest=xs->BM tg body D2 (rest.map .str) m (mk ((pairsOf pre xs).map pairD) s)
 | [],pre,s,e=>by
  rw [List.append_nil] at e
  subst e
  exact hend s
 | a::rest,pre,s,e=>by
  have hp:=@ED xs pre
  have l1:pre.length<=24:=by rw [← e,List.length_append] at hl; omega
  have l2:pre.length*xs.length<=24*24:=Nat.mul_le_mul l1 hl
  refine hstep _ s a _ (by rw [List.length_map]; omega) fun s'=>?_
  have ih:=JH hl body hstep hend rest (pre++[a]) s' (by rw [List.append_assoc]; exact e)
  have e2:pairsOf (pre++[a]) xs=pairsOf pre xs++CN a xs:=by unfold pairsOf; rw [List.flatMap_append]; simp
  rw [e2,List.map_append] at ih
  exact ih
theorem Jn(h:GK ss n Pd):Fi (EE Pd) n (ss++List.replicate 8 .no):=by
 obtain⟨most,ties,rfl,hm1,hm2,ht1,ht2,hn,p⟩:=h
 have szl:=PySem.sizeLine_eq
 unfold Fi
 refine⟨_,rfl,by omega,by omega,u0,fun r r0 r1=>?_⟩
 refine⟨(2+r).toNat,by rw [show (((2+r).toNat:Nat):Int)=2+r by omega],by omega,by omega,fun xs hl hx hr=>⟨(by decide:0<=sizeLine),?_⟩⟩
 have hxs:xs.length<=24:=by omega
 have hx2:2<=xs.length:=by omega
 have hxm:xs.length<=most:=by omega
 clear hl r0 r1
 refine JH (m:=n - 1 - 1) hxs (mk:=fun fr s=>[.fd,.sh (.int most),.sh (.int ties),.sh (.tup (xs.map .str)),.ow (.lst fr),s,.no,.no,.no,.no,.no]) _ (fun fr s a nx hfl hnx=>?_) (fun s5=>?_) xs [] .no rfl
 ·refine⟨_,rfl,rfl,by rw [List.length_map]; omega,?_⟩
  refine EH (QW a) (fun d=>.tup [.str a,d]) (fun ρ=>∃s,ρ=[.sh (.str a),s]) _ _ _ _ ?_ ⟨_,rfl⟩ ?_
  ·rintro d hd ρ m nx2 sk ⟨s2,rfl⟩ h1 h2
   obtain⟨b,hb,rfl⟩:=List.mem_map.mp hd
   refine EK (fun c=>⟨z2,h1 _ ⟨_,rfl⟩ c⟩) fun c=>h2 _ ⟨_,rfl⟩ (Bool.eq_false_iff.mpr c)
  ·rw [QV]
   have hal:(CN a xs).length<=24:=by unfold CN; rw [List.length_map]; exact Nat.le_trans (List.length_filter_le _ _) hxs
   exact⟨fr,_,rfl,rfl,by rw [List.length_map]; omega,hnx _⟩
 refine⟨5,rfl,by decide,by decide,(by first | exact u0 | exact u1 | exact u2 | exact u3 | exact u4 | exact u5 | exact u6),fun way w0 w1=>?_⟩
 refine⟨⟨by decide,by decide⟩,_,rfl,by omega,by omega,(by first | exact u0 | exact u1 | exact u2 | exact u3 | exact u4 | exact u5 | exact u6),fun q q0 q1=>?_⟩
 refine⟨6,rfl,by decide,by decide,(by first | exact u0 | exact u1 | exact u2 | exact u3 | exact u4 | exact u5 | exact u6),fun r6 _ _=>?_⟩
 have rest:∀(many:Int) (n':Nat),0<=many->many<=ties->n - 6<=n'->(Ag (Ce 8 (B7 AN))
 (Ag (D7 (G9 (AB (C1 NI (AB (AE 7) (AB (C1 KH (AB (Af 4) AN)) AN))) AN)) (AW 9) (Ag (SZ 4 (AR A5 (AD (Ar 0) (AD (AK (C1 KH (AB (Af 4) AN))) AT))) (Df 2 (AY (AW 5) (AY (AW 10) B8))))
 (Io 8 "list" EM (AB (Az (AB (AE 5) (AB (AE 10) (AB (AR GL (AD (Ar 0) (AD (AK (AE 6)) AT))) AN)))) AN))))
 (BA (Az (AB (AE 3) (AB (C1 Bk (AB (C1 CL (AB (Af 8) AN)) AN)) AN)))))) (EE Pd) n' [.fd,.sh (.int most),.sh (.int ties),.sh (.tup (xs.map .str)),.ow (.lst ((pairsOf xs xs).map pairD)),s5,.sh (.int way),.sh (.int many),.no,.no,.no]:=by
  intro many n' hmany0 hmany hn'
  clear q0 q1 hm1 hm2 ht1
  have pl:=@ED xs xs
  have pl2:xs.length*xs.length<=24*24:=Nat.mul_le_mul hxs hxs
  refine⟨(by decide:0<=sizeLine),_,_,rfl,rfl,?_⟩
  obtain⟨cnt,hcnt⟩:∃cnt:Int,cnt=(if (((pairsOf xs xs).map pairD).length:Int)<many then (((pairsOf xs xs).map pairD).length:Int) else many):=⟨_,rfl⟩
  have hc1:cnt<=many:=by rw [hcnt]; split <;> omega
  have hc2:cnt<=(pairsOf xs xs).length:=by rw [hcnt,List.length_map]; split <;> omega
  have hc0:0<=cnt:=by rw [hcnt]; split <;> omega
  refine⟨cnt,by rw [hcnt],⟨by omega,by omega⟩,?_⟩
  clear hcnt
  obtain⟨c,rfl⟩:∃c:Nat,cnt=(c:Int):=⟨cnt.toNat,by omega⟩
  have hc60:c<=60:=by omega
  have hct:c<=ties:=by omega
  have hcp:c<=(pairsOf xs xs).length:=by omega
  have p576:(pairsOf xs xs).length<=576:=Nat.le_trans pl pl2
  have hn124:124<=n':=v1 hn hn'
  clear hc1 hc2 hc0 hmany hmany0 pl pl2
  rw [Int.toNat_natCast]
  refine DY (all:=D8 0 c) (fun pre m ρ=>n' - 2*pre.length<=m/\∃(found:List Ap) (free:List (Str×Str)) (s5 s9 s10:Slot),found.length=pre.length/\(found.map ends++free).Perm (pairsOf xs xs)/\(∀t∈found,1<=t.len/\t.len<=1000000) /\
   ρ=[.fd,.sh (.int most),.sh (.int ties),.sh (.tup (xs.map .str)),.ow (.lst (free.map pairD)),s5,.sh (.int way),.sh (.int many),.ow (.lst (found.map Aa)),s9,s10]) ?_ ?_ _ [] _ _ rfl ⟨by simp,[],pairsOf xs xs,_,_,_,rfl,.refl _,(fun _ h=>by cases h),rfl⟩
  ·rintro m ρ ⟨hm,found,free,s5,s9,s10,h1,h2,h3,rfl⟩
   rw [C2] at h1 hm
   show CL [D.lst (found.map Aa)] fun z=>Bk [z] fun y=>2<=sizeLine/\Pd (.tup [.tup (xs.map .str),y]) m
   refine Do (ts:=found) rfl (by rw [h1]; exact Nat.lt_of_le_of_lt hc60 (by decide)) fun ts' p1 p2=>?_
   have hmem:∀t∈ts',(t.a∈xs/\t.b∈xs/\cs t.a<cs t.b)/\1<=t.len/\t.len<=1000000:=fun t ht=>by
    have hf:=p1.mem_iff.mp ht
    have:ends t∈pairsOf xs xs:=h2.mem_iff.mp (List.mem_append_left _ (List.mem_map_of_mem hf))
    exact⟨K5 this,h3 t hf⟩
   have nd:(ts'.map ends).Nodup:=by
    have a:=h2.nodup_iff.mpr (QF (Jv hr hr))
    exact((p1.map ends).nodup_iff).mpr (List.nodup_append.mp a).1
   refine⟨z2,p ⟨xs,ts'⟩ m ⟨hx,hr,fun t ht=>?_,LX p2 nd⟩ hx2 hxm (by show ts'.length<=ties; rw [p1.length_eq,h1]; exact hct) (Vo hn' hm hc60)⟩
   obtain⟨⟨a,b,c⟩,d⟩:=hmem t ht
   exact⟨a,b,c,d⟩
  ·rintro pre d post m ρ nx hall ⟨hm,found,free,s5,s9,s10,h1,h2,h3,rfl⟩ hnx
   obtain⟨rfl,hk⟩:=Mj hall
   have hlen:=h2.length_eq
   rw [List.length_append,List.length_map] at hlen
   rw [List.length_append,List.length_singleton] at hnx
   have hfl:(free.map pairD).length=free.length:=List.length_map ..
   obtain⟨f3,f4⟩:=Vn hn124 hm hk hc60
   have ff:1<=free.length/\free.length<=576/\found.length<=576:=by clear hm hn' hn f3 f4; omega
   clear hm
   refine⟨_,rfl,_,_,rfl,rfl,_,rfl,by rw [hfl]; exact Int.ofNat_le.mpr ff.1,by rw [hfl]; exact Int.ofNat_lt.mpr (Nat.lt_of_le_of_lt ff.2.1 (by decide)),u0,fun r r0 r1=>?_⟩
   obtain⟨k,rfl⟩:∃k:Nat,r=(k:Int):=⟨r.toNat,by omega⟩
   have hkf:k<free.length:=by omega
   have e1:free[k]?=some free[k]:=List.getElem?_eq_getElem hkf
   refine⟨k,pairD free[k],rfl,by rw [List.getElem?_map,e1]; rfl,by omega,rfl,rfl,?_⟩
   refine⟨_,rfl,rfl,way,rfl,w0,u1,fun l l0 l1=>⟨z3,_,_,rfl,rfl,by rw [List.length_map,szl]; exact Nat.lt_of_le_of_lt ff.2.2 (by decide),?_⟩⟩
   rw [GH]
   refine hnx _ _ ⟨f4,found++[⟨free[k].1,free[k].2,l⟩],free.eraseIdx k,_,_,_,by rw [List.length_append,List.length_singleton,h1],?_,fun t ht=>?_,by rw [List.map_append]; rfl⟩
   ·rw [List.map_append]
    exact(Hi (a:=found.map ends) e1).trans h2
   ·rcases List.mem_append.mp ht with ht | ht
    ·exact h3 t ht
    ·rw [List.mem_singleton.mp ht]
     exact⟨l0,l1⟩
 refine EK (fun _=>⟨4,rfl,by decide,by decide,(by first | exact u0 | exact u1 | exact u2 | exact u3 | exact u4 | exact u5 | exact u6),fun r4 _ _=>rest _ _ (by omega) (by omega) (V8 n).2⟩) fun _=>rest _ _ (by omega) (by omega) (V8 n).1
end
noncomputable def Eb:W2:=fun ss n P=>ss=[.fd]/\1<=n/\∀t b:Int,1<=b->b<=t->t<=1000000->P (.tup [.int t,.int b]) (n - 1)
noncomputable def Dd:Ab:=(Ag (Ce 2 (Ln (AE 1) (wC (D.int 0))))
 (Ag (BZ 3 (wC (D.bl true)))
 (Ag (G8 (Am (AE 3)) (Ag (BZ 3 (wC (D.bl false)))
 (Rn 0 (Df 3 (AY (AW 4) (AY (AW 5) (AY (AW 6) B8)))) (D7 (A_ (B7 (AB (Az (AB (AE 4) (AB (AE 5) AN))) (AB (Az (AB (AE 5) (AB (AE 4) AN))) AN)))) (Df 2 (AY (AW 7) (AY (AW 8) B8))) (Bq (Mc (Am (Ak (Ii false) (AE 7) (Af 2))) (Am (Ak KG (Ak Bm (Ak Bl (Af 2) (AE 7)) (AE 6)) (Oo (Af 2) (AE 8) (Ak (RR Kf fun i j=>D.int (i ^ j.toNat)) (wC (D.int 10)) (wC (D.int 20))))))) (Ag (GR 2 (AE 8) (Ak Bm (Ak Bl (Af 2) (AE 7)) (AE 6)))
 (BZ 3 (wC (D.bl true)))) BB)))))
 (Im 2))))
noncomputable def ET:Ab:=(Ag (BZ 1 (C1 CL (AB (DF [none] (A_ (AE 0)) (AW 0) E4 (Az (AB (Ak Cj (AE 0) (wC (D.int 2))) (AB (Ak Cj (AE 0) (wC (D.int 0))) (AB (Ak Cj (AE 0) (wC (D.int 1))) AN))))) AN)))
 (BA (DF [none,none,none] (A_ (AE 1)) (Df 3 (AY (AW 0) (AY (AW 1) (AY (AW 2) B8)))) E4 (Az (AB (AE 1) (AB (AE 2) (AB (AE 0) AN)))))))
noncomputable def ER:Ab:=(Ag (BZ 1 (B7 (AB (Az (AB (wC (D.int 1)) (AB (wC (D.int 1)) AN))) (AB (Az (AB (wC (D.int 3)) (AB (wC (D.int 2)) AN))) (AB (Az (AB (wC (D.int 2)) (AB (wC (D.int 1)) AN))) (AB (Az (AB (wC (D.int 3)) (AB (wC (D.int 1)) AN))) (AB (Az (AB (wC (D.int 5)) (AB (wC (D.int 2)) AN))) (AB (Az (AB (wC (D.int 1000)) (AB (wC (D.int 999)) AN))) (AB (Az (AB (Ak (RR Kf fun i j=>D.int (i ^ j.toNat)) (wC (D.int 10)) (wC (D.int 6))) (AB (wC (D.int 1)) AN))) (AB (Az (AB (wC (D.int 6)) (AB (wC (D.int 4)) AN))) (AB (Az (AB (wC (D.int 7)) (AB (wC (D.int 3)) AN))) AN)))))))))))
 (BA (Ak Cj (AE 1) (AR A5 (AD (Ar 0) (AD (AK (wC (D.int 9))) AT))))))
noncomputable abbrev QU:Ab:=(Bq (Mc (Am (Ak (Ii false) (AE 7) (Af 2))) (Am (Ak KG (Ak Bm (Ak Bl (Af 2) (AE 7)) (AE 6)) (Oo (Af 2) (AE 8) (Ak (RR Kf fun i j=>D.int (i ^ j.toNat)) (wC (D.int 10)) (wC (D.int 20))))))) (Ag (GR 2 (AE 8) (Ak Bm (Ak Bl (Af 2) (AE 7)) (AE 6)))
 (BZ 3 (wC (D.bl true)))) BB)
theorem WF:((10:Int) ^ (20:Int).toNat)=100000000000000000000:=by decide +kernel
section
variable {ss:List Slot}{n:Nat}{Pd:D->Nat->Prop}
theorem Fw(h:Dk ss n Pd):Dd (EF Pd) n (ss++List.replicate 7 .no):=by
 obtain⟨N,s,zz,us,rfl,hzz,hus,okn,hs,p⟩:=h
 have szl:=PySem.sizeLine_eq
 have ok:=okn.1
 have l25:=okn.2.1
 unfold Dd
 refine⟨_,A7 s,?_⟩
 have step:∀(D3:E2) (x y:Str) (l:Int),Ed N x y l->∀(ks:List Key) (ds:List D) (K:Kn) (g:Bool) (s4 s5 s7 s8:Slot),Dmap ks ds D.int K->Bf N s ks.length K ->
   (∀(ks':List Key) (ds':List D) (K':Kn) (g':Bool) (t7 t8:Slot),Dmap ks' ds' D.int K'->Bf N s ks'.length K'->((g'=g/\K'=K/\HB K (x,y,l))\/(g'=true/\Of N.ps K'<Of N.ps K)) ->
    D3.nx n [.br zz,.sh (.str s),.ow (.dic ks' ds'),.sh (.bl g'),s4,s5,.sh (.int l),t7,t8]) ->
   QU D3 n [.br zz,.sh (.str s),.ow (.dic ks ds),.sh (.bl g),s4,s5,.sh (.int l),.sh (.str x),.sh (.str y)]:=by
  intro D3 x y l he ks ds K g s4 s5 s7 s8 M B hD
  have kl:=M.le B.ins
  refine⟨ks,ds,_,rfl,A7 x,?_⟩
  show if ((BH ks ds (.inr x)).isSome)=true then _ else _
  cases ex:K x with
  | none =>
   rw [M.at_,ex]
   exact Ih (hD ks ds K g _ _ M B (.inl ⟨rfl,rfl,fun d e=>by rw [show K x=some d from e] at ex; cases ex⟩))
  | some d =>
   have top:=B.top x d ex
   have lp:=(he.pos ok).2
   rw [M.at_,ex]
   refine Hq ⟨ks,ds,_,_,rfl,A7 x,by rw [M.at_,ex]; rfl,?_⟩
   refine⟨ks,ds,rfl,⟨by decide,by decide,by decide⟩,_,A7 y,?_⟩
   have put:(K y=none\/∃d',K y=some d'/\d+l<d')->(Ag (GR 2 (AE 8) (Ak Bm (Ak Bl (Af 2) (AE 7)) (AE 6))) (BZ 3 (wC (D.bl true)))) D3 n [.br zz,.sh (.str s),.ow (.dic ks ds),.sh (.bl g),s4,s5,.sh (.int l),.sh (.str x),.sh (.str y)]:=fun hy=>by
    refine⟨ks,ds,rfl,ks,ds,_,.int d,rfl,A7 x,by rw [M.at_,ex]; rfl,_,A7 y,by omega,?_⟩
    have hlen:=HV ks (.inr y)
    have key:=B.put ok (c':=(Cf ks (.inr y)).length) (by rw [hlen]; split <;> omega) (by rw [hlen]; split <;> omega) ex he (fun e=>by rw [hlen,if_neg (by rw [(M.has (x:=y)).1 e]; decide)]) (fun d' e=>by
     rcases hy with hy | ⟨d2,hy,hlt⟩
     ·rw [e] at hy; cases hy
     ·rw [e] at hy; cases hy; exact hlt)
    exact hD _ _ _ true _ _ (M.put y (d+l)) key.1 (.inr ⟨rfl,key.2⟩)
   rw [M.at_]
   cases ey:K y with
   | none =>
    show if decide (d+l<(10:Int) ^ (20:Int).toNat)=true then _ else _
    rw [decide_eq_true (by rw [WF]; omega)]
    exact Hq (put (.inl ey))
   | some d' =>
    show if decide (d+l<d')=true then _ else _
    by_cases c:d+l<d'
    ·rw [decide_eq_true c]
     exact Hq (put (.inr ⟨d',ey,c⟩))
    ·rw [decide_eq_false c]
     refine Ih (hD ks ds K g _ _ M B (.inl ⟨rfl,rfl,fun d2 e=>?_⟩))
     rw [show K x=some d2 from e] at ex
     cases ex
     exact⟨d',ey,by show d'<=d+l; omega⟩
 refine Fq (fun m n' ρ=>n'=n/\∃(ks:List Key) (ds:List D) (K:Kn) (g:Bool) (s4 s5 s6 s7 s8:Slot),ρ=[.br zz,.sh (.str s),.ow (.dic ks ds),.sh (.bl g),s4,s5,s6,s7,s8]/\Dmap ks ds D.int K/\Bf N s ks.length K/\((g=true/\m=Of N.ps K+1)\/(g=false/\m=0/\∀t∈N.ts,HB K (t.a,t.b,t.len)/\HB K (t.b,t.a,t.len)))) _ ⟨rfl,_,_,_,true,_,_,_,_,_,rfl,Dmap.one (enc:=D.int) (a:=(0:Int)),Bf.init hs,.inl ⟨rfl,rfl⟩⟩ ?_ ?_
 ·rintro m n' ρ N' ⟨rfl,ks,ds,K,g,s4,s5,s6,s7,s8,rfl,M,B,hg⟩ hN
  rcases hg with ⟨rfl,hm⟩ | ⟨rfl,_,ht⟩
  ·have outer:∀(rest done:List Ap) (ks:List Key) (ds:List D) (K':Kn) (g:Bool) (s4 s5 s6 s7 s8:Slot),done++rest=us->Dmap ks ds D.int K'->Bf N s ks.length K'->((g=true/\Of N.ps K'<Of N.ps K)\/(g=false/\Of N.ps K'<=Of N.ps K/\∀t∈done,HB K' (t.a,t.b,t.len)/\HB K' (t.b,t.a,t.len))) ->
     BM (Df 3 (AY (AW 4) (AY (AW 5) (AY (AW 6) B8)))) (D7 (A_ (B7 (AB (Az (AB (AE 4) (AB (AE 5) AN))) (AB (Az (AB (AE 5) (AB (AE 4) AN))) AN)))) (Df 2 (AY (AW 7) (AY (AW 8) B8))) QU) { EF Pd with nx:=N',ct:=N',bk:=Im 2 (EF Pd) } (rest.map Aa) n' [.br zz,.sh (.str s),.ow (.dic ks ds),.sh (.bl g),s4,s5,s6,s7,s8]:=by
    intro rest
    induction rest with
    | nil =>
     intro done ks ds K' g s4 s5 s6 s7 s8 e M B hg
     rw [List.append_nil] at e
     subst e
     rcases hg with ⟨rfl,hlt⟩ | ⟨rfl,_,ht⟩
     ·exact hN (Of N.ps K'+1) _ _ (by omega) ⟨rfl,ks,ds,K',true,_,_,_,_,_,rfl,M,B,.inl ⟨rfl,rfl⟩⟩
     ·exact hN 0 _ _ (by omega) ⟨rfl,ks,ds,K',false,_,_,_,_,_,rfl,M,B,.inr ⟨rfl,rfl,fun t h=>ht t ((hus t).mpr h)⟩⟩
    | cons t rest ih =>
     intro done ks ds K' g s4 s5 s6 s7 s8 e M B hg
     have hmem:t∈N.ts:=(hus t).mp (by rw [← e]; exact List.mem_append_right _ List.mem_cons_self)
     have e':(done++[t])++rest=us:=by rw [List.append_assoc]; exact e
     have ed:=KL hmem
     refine⟨rfl,rfl,z2,z2,z2,?_⟩
     refine⟨rfl,rfl,?_⟩
     refine step _ t.a t.b t.len ed.1 ks ds K' g _ _ s7 s8 M B fun ks1 ds1 K1 g1 t7 t8 M1 B1 h1=>?_
     refine⟨rfl,rfl,?_⟩
     refine step _ t.b t.a t.len ed.2 ks1 ds1 K1 g1 _ _ t7 t8 M1 B1 fun ks2 ds2 K2 g2 u7 u8 M2 B2 h2=>?_
     refine ih (done++[t]) ks2 ds2 K2 g2 _ _ _ _ _ e' M2 B2 ?_
     rcases h1 with ⟨rfl,rfl,t1⟩ | ⟨rfl,lt1⟩
     ·rcases h2 with ⟨rfl,rfl,t2⟩ | ⟨rfl,lt2⟩
      ·rcases hg with z | ⟨z1,z2,z3⟩
       ·exact .inl z
       ·refine .inr ⟨z1,z2,fun u hu=>?_⟩
        rcases List.mem_append.mp hu with hu | hu
        ·exact z3 u hu
        ·rw [List.mem_singleton.mp hu]; exact⟨t1,t2⟩
      ·refine .inl ⟨rfl,?_⟩
       rcases hg with ⟨_,z⟩ | ⟨_,z,_⟩ <;> omega
     ·have base:Of N.ps K1<Of N.ps K:=by rcases hg with ⟨_,z⟩ | ⟨_,z,_⟩ <;> omega
      rcases h2 with ⟨rfl,rfl,t2⟩ | ⟨rfl,lt2⟩
      ·exact .inl ⟨rfl,base⟩
      ·exact .inl ⟨rfl,by omega⟩
   exact⟨zz,_,rfl,hzz,outer us [] ks ds K false _ _ _ _ _ rfl M B (.inr ⟨rfl,Nat.le_refl _,fun t h=>by cases h⟩)⟩
  ·exact⟨_,rfl,p ks ds K M (B.told ok (by have:=M.le B.ins; omega) ht)⟩
 ·rintro n' ρ P Q hPQ h
  unfold Am AE at h ⊢
  split at h
  ·rename_i d hd
   cases d with
   | bl b=>exact hPQ _ _ h
   | _=>exact h.elim
  ·exact h.elim
theorem HS(h:Cd ss n Pd):ET (EF Pd) n (ss++List.replicate 1 .no):=by
 obtain⟨d,ts,rfl,hd,h64,p⟩:=h
 have szl:=PySem.sizeLine_eq
 unfold ET
 have go:(ts.map Aa).length<=10000000/\Dw (AW 0) E4 (Az (AB (Ak Cj (AE 0) (wC (D.int 2))) (AB (Ak Cj (AE 0) (wC (D.int 0))) (AB (Ak Cj (AE 0) (wC (D.int 1))) AN)))) (fun acc n2=>CL [.lst acc] fun z=>A_ (wC z) n2 [] fun ds n1=>ds.length<=10000000/\Dw (Df 3 (AY (AW 0) (AY (AW 1) (AY (AW 2) B8)))) E4 (Az (AB (AE 1) (AB (AE 2) (AB (AE 0) AN)))) (fun acc n2=>Pd (.lst acc) n2) ds [] n1 [.no,.no,.no]) (ts.map Aa) [] n [.no]:=by
  refine⟨by rw [List.length_map]; omega,?_⟩
  refine B4 Kz (fun ρ=>∃s,ρ=[s]) _ _ _ _ ?_ ⟨_,rfl⟩ ?_
  ·rintro d hd ρ m nx ⟨s,rfl⟩ hnx
   obtain⟨t,ht,rfl⟩:=List.mem_map.mp hd
   exact⟨_,Aj (j:=2) rfl,_,Aj (j:=0) rfl,_,Aj (j:=1) rfl,z3,hnx _ ⟨_,rfl⟩⟩
  rw [List.nil_append,List.map_map]
  refine⟨_,_,rfl,rfl,by rw [List.length_map]; exact h64,⟨fun x hx=>?_,fun x hx y hy ka kb ea eb=>?_⟩,fun xs' hp ho=>?_⟩
  ·obtain⟨t,_,rfl⟩:=List.mem_map.mp hx
   exact⟨HP t,rfl,List.cons_ne_nil _ _⟩
  ·obtain⟨t,_,rfl⟩:=List.mem_map.mp hx
   obtain⟨u,_,rfl⟩:=List.mem_map.mp hy
   cases (show some (HP t)=some ka from ea)
   cases (show some (HP u)=some kb from eb)
   rfl
  ·obtain⟨ts',h1,rfl⟩:=Md (f:=Kz∘Aa) (g:=fun d=>match d with | .tup [.int l,.str a,.str b]=>⟨a,b,l⟩ | _=>⟨"","",0⟩) (fun _=>rfl) hp
   have ho:EO ts':=by
    unfold Fn at ho
    rw [List.pairwise_map] at ho
    exact ho.imp fun {s t} z=>z _ _ rfl rfl
   refine⟨by show (ts'.map (Kz∘Aa)).length<=10000000; rw [List.length_map,h1.length_eq]; omega,?_⟩
   refine B4 (fun d=>match d with | .tup [l,a,b]=>.tup [a,b,l] | d=>d) (fun ρ=>∃a b c,ρ=[a,b,c]) _ _ _ _ ?_ ⟨_,_,_,rfl⟩ ?_
   ·rintro d hd ρ m nx ⟨a,b,c,rfl⟩ hnx
    obtain⟨t,ht,rfl⟩:=List.mem_map.mp hd
    exact⟨rfl,rfl,z3,hnx _ ⟨_,_,_,rfl⟩⟩
   ·rw [List.nil_append,List.map_map]
    exact p ts' h1 ho
 cases d with
 | lst ys=>cases hd; exact go
 | tup ys=>cases hd; exact go
 | _=>cases hd
theorem HR(h:Eb ss n Pd):ER (EE Pd) n (ss++List.replicate 1 .no):=by
 obtain⟨rfl,hn,p⟩:=h
 unfold ER
 refine⟨z2,z2,z2,z2,z2,z2,Vs,z2,z2,z2,(by decide:9<=sizeLine),?_⟩
 refine⟨9,rfl,by decide,by decide,hn,fun r r0 r1=>?_⟩
 obtain⟨z,hz,t,b,rfl,b0,bt,t1⟩:=EX (p:=fun d=>∃t b:Int,d=.tup [.int t,.int b]/\1<=b/\b<=t/\t<=1000000) (xs:=[.tup [.int 1,.int 1],.tup [.int 3,.int 2],.tup [.int 2,.int 1],.tup [.int 3,.int 1],.tup [.int 5,.int 2],.tup [.int 1000,.int 999],.tup [.int ((10:Int) ^ (6:Int).toNat),.int 1],.tup [.int 6,.int 4],.tup [.int 7,.int 3]]) (fun d hd=>by
  simp only [List.mem_cons,List.not_mem_nil,or_false] at hd
  rcases hd with rfl | rfl | rfl | rfl | rfl | rfl | rfl | rfl | rfl <;> exact⟨_,_,rfl,by decide,by decide,by decide⟩) r0 (by show r<9; exact r1)
 exact⟨_,hz,p t b b0 bt t1⟩
end
end Nt
namespace Dp
open PySem PySem.Spec PyProof.Rows L2
section
variable {X:Cx}{pos:Pos}
end
section
variable {X:Cx}{κe:Kd}{tg elt iter:Expr}{ifs:List Expr}{sc:Scope}{pos:Pos}{src:FE}{b:BW}{tt:G5}{te:DW}
end
end Dp
namespace Nt
open PySem PySem.Spec PyProof.Rows L2 Dp
section
variable {ss:List Slot}{n:Nat}{Pd:D->Nat->Prop}
structure WI (N:Net) (ks:List Key) (ds:List D) (F:Str->Option Str):Prop where
 m:Dmap ks ds D.str F
 i:∀x,F x≠none->x∈N.ps
end
end Nt
namespace L2
open PySem PySem.Spec PyProof.Rows
open AutoSeq1 (wpAny_loadPart')
section
variable {prog:Program}{w:World}{A:Around}{E:Value->Shared->Prop}{s:Shared}
end
structure V2 (κ:Bool) (e it a:Addr) (k:Nat) (h:Heap):Prop where
 e:∃old,IsEnum h e it (k:Int) old
 i:ItAt κ h it a k
section
variable {X:Cx}{e1:Expr}{es:List Expr}{j:Nat}{tpos p pos:Pos}{te:TE}
end
end L2
namespace Dp
open PySem PySem.Spec PyProof.Rows L2
section
variable {K:Frag}
end
section
variable {X:Cx}{e1:Expr}{es:List Expr}{j:Nat}{tpos p pos:Pos}{κ:Kd}{wa:DW}
end
end Dp
namespace L2
open PySem PySem.Spec PyProof.Rows
section
variable {X:Cx}{e1 tg:Expr}{p pos:Pos}{te:TE}
end
end L2
namespace Dp
open PySem PySem.Spec PyProof.Rows L2
section
variable {X:Cx}{e1 tg:Expr}{p pos:Pos}{κ:Kd}{wa:DW}
end
end Dp
namespace Nt
open PySem PySem.Spec PyProof.Rows L2 Dp
noncomputable def Dz(M:Net)(u:Ap):Net:=⟨M.ps,M.ts.filter fun v=>decide (v≠u)⟩
noncomputable def Ja(t b:Int):Prop:=1<=b/\b<=1000000/\1<=t/\t<=1000000
noncomputable def Dg:W2:=fun ss n P=>∃(M:Net) (u:Ap),ss=[.sh (enc M),.sh (.lst [Aa u])]/\okN M/\(Lk u.a/\Lk u.b/\1<=u.len/\u.len<=1000000)/\P (enc (Dz M u)) n
noncomputable def Gh:Ab:=(BA (AR CB (AD (AK (AE 0)) (AD (Bp (DF [some 1,none] (A_ (Ak Cj (AE 0) (wC (D.int 1)))) (AW 1) (Am (Ak (RP true) (AE 1) (AE 0))) (AE 1))) AT))))
noncomputable def D1:Ab:=(BA (Ak RM (Ak EL (AE 0) (Ak Cj (AE 1) (wC (D.int 1)))) (Ak EL (AE 2) (Ak Cj (AE 1) (wC (D.int 0))))))
theorem LL{M:Net}(okm:okN M)(u:Ap):okN (Dz M u):=⟨Lv okm.1 (fun t h=>(List.mem_filter.mp h).1) (okm.1.trise.filter _),okm.2.1,Nat.le_trans (List.length_filter_le _ _) okm.2.2⟩
theorem HI{N:Net}(ok:N.Ok){ts ts':List Ap}(h:ts.Pairwise B6)(hp:ts'.Perm ts)(hb:Ey ts'):ts'=ts:=HD hp hb (IG h)
section
variable {ss:List Slot}{n:Nat}{Pd:D->Nat->Prop}
theorem HC{M:Net}(ok:M.Ok):∀t∈M.ts,Lk t.a/\Lk t.b/\1<=t.len/\t.len<=1000000:=fun t ht=>by
 obtain⟨a,b,_,c⟩:=ok.tin t ht
 exact⟨ok.names _ a,ok.names _ b,c⟩
theorem Ps{t:Ap}(h:Lk t.a/\Lk t.b/\1<=t.len/\t.len<=1000000):GD (Aa t)/\GD (.lst [Aa t]):=by
 have hi:item (Aa t):=LH (Cw h.1) (Cw h.2.1) h.1.2.1 h.2.1.2.1 (by have:=h.2.2; omega)
 exact⟨J5 (B:=1000001) (by decide) hi.1 (by have:=hi.2.2; omega),GC fun d hd=>by rw [List.mem_singleton.mp hd]; exact hi⟩
theorem Jj(h:Dg ss n Pd):Gh (EE Pd) n (ss++List.replicate 0 .no):=by
 obtain⟨M,u,rfl,okm,hu,p⟩:=h
 have ok:=okm.1
 have l60:=okm.2.2
 unfold Gh
 refine⟨_,Aj (j:=1) rfl,by show (M.ts.map Aa).length<=10000000; rw [List.length_map]; omega,?_⟩
 refine EH (fun d=>!(([Aa u]).any fun y=>OR y d)) id (fun ρ=>∃s,ρ=[.sh (.lst [Aa u]),s]) _ _ _ _ ?_ ⟨_,rfl⟩ ?_
 ·rintro d hd ρ m nx sk ⟨s,rfl⟩ h1 h2
  obtain⟨t,ht,rfl⟩:=List.mem_map.mp hd
  refine⟨NA ok ht,(Ps hu).2,_,rfl,?_⟩
  exact EK (fun c=>h1 _ ⟨_,rfl⟩ c) fun c=>h2 _ ⟨_,rfl⟩ (Bool.eq_false_iff.mpr c)
 ·rw [List.nil_append,List.map_id]
  have e:(M.ts.map Aa).filter (fun d=>!(([Aa u]).any fun y=>OR y d))=(Dz M u).ts.map Aa:=by
   rw [List.filter_map]
   congr 1
   refine List.filter_congr fun t _=>?_
   show (!((([u]:List Ap).map Aa).any fun y=>OR y (Aa t)))=decide (t≠u)
   rw [NS,decide_not]
   congr 1
   rw [Bool.eq_iff_iff,decide_eq_true_eq,decide_eq_true_eq,List.mem_singleton]
  rw [e]
  have okd:=LL okm u
  refine⟨M,_,(Dz M u).ts,rfl,rfl,by have:=okd.2.2; omega,fun ts' p1 p2=>?_⟩
  rw [HI okd.1 okd.1.trise p1 p2]
  exact p
theorem Gp(h:CO ss n Pd):D1 (EE Pd) n (ss++List.replicate 0 .no):=by
 obtain⟨l,t,b,x,rfl,b0,b1,t0,t1,p⟩:=h
 unfold D1
 exact⟨_,Aj (j:=1) rfl,T9 (by omega) b1,_,Aj (j:=0) rfl,T9 (by omega) t1,p⟩
end
noncomputable def tj(t:Ap)(x y:Str):Prop:=(t.a=x/\t.b=y)\/(t.b=x/\t.a=y)
inductive Us (K:List Ap) (x:Str):Str->Nat->Prop
 | nil:Us K x x 0
 | snoc {y z:Str} {n:Nat} {t:Ap}:Us K x y n->t∈K->tj t y z->Us K x z (n+1)
theorem Wk.least{N:Net}(ok:N.Ok){s x:Str}:∀(k:Nat) {d:Int},d.toNat<=k->Wk N s x d->∃d',Least N s x d'/\d'<=d
 | k,d,hk,h=>by
  by_cases c:∃d2,d2<d/\Wk N s x d2
  ·obtain⟨d2,h1,h2⟩:=c
   have p2:=h2.pos ok
   cases k with
   | zero=>omega
   | succ k =>
    obtain⟨d',h3,h4⟩:=Wk.least ok k (d:=d2) (by omega) h2
    exact⟨d',h3,by omega⟩
  ·refine⟨d,⟨h,fun d' h'=>?_⟩,Int.le_refl _⟩
   rcases Int.lt_or_le d' d with z | z
   ·exact absurd ⟨d',z,h'⟩ c
   ·exact z
noncomputable def firm(N:Net)(t b:Int)(L:List Ap):Prop:=∀pre z post,L=pre++z::post->¬Et (sub N pre) t b z
structure Kept (N:Net) (t b:Int) (L:List Ap):Prop where
 ok:okN N
 firm:firm N t b L
 ins:∀u∈L,u∈N.ts
 up:L.Pairwise fun u v=>u.len<=v.len
 b1:1<=b
theorem Lz{ps:List Str}(h:rising ps):ps.Nodup:=List.Pairwise.imp (fun {a b} z e=>by rw [e] at z; exact BV _ z) h
end Nt
namespace L2
open PySem PySem.Spec PyProof.Rows
section
variable {prog:Program}{w:World}{A:Around}{E:Value->Shared->Prop}{s:Shared}{x y:Str}{t u:Tok}
noncomputable def Ov(x y:Str)(i:Nat):Str:=if i=0 then x else y
theorem Me{i:Nat}{v:Value}(h:(#[Value.str x t,Value.str y u]:Array Value)[i]?=some v):∃k,v=.str (Ov x y i) k:=by
 match i with
 | 0=>exact⟨t,(Option.some.inj h).symm⟩
 | 1=>exact⟨u,(Option.some.inj h).symm⟩
 | i+2=>simp at h
theorem OX:CmpOf prog w A .Lt (fun i v=>(#[Value.str x t,Value.str y u]:Array Value)[i]?=some v) (fun i j=>decide ((Ov x y i).cps.toList<(Ov x y j).cps.toList)):=fun i j vi vj s Q E hi hj h=>by
 obtain⟨a,rfl⟩:=Me hi
 obtain⟨b,rfl⟩:=Me hj
 exact richCompare_gives (op:=.Lt) (typeIs_str s _ a) (typeIs_str s _ b) PySem.F.slot_str_lt PySem.F.entry_str_lt (PySem.F.args_str_lt_2 _ _) (gives_str_lt _ _ a b) (fun e=>nomatch e) h
theorem OY:CmpOf prog w A .Gt (fun i v=>(#[Value.str x t,Value.str y u]:Array Value)[i]?=some v) (fun i j=>decide ((Ov x y j).cps.toList<(Ov x y i).cps.toList)):=fun i j vi vj s Q E hi hj h=>by
 obtain⟨a,rfl⟩:=Me hi
 obtain⟨b,rfl⟩:=Me hj
 exact richCompare_gives (op:=.Gt) (typeIs_str s _ a) (typeIs_str s _ b) PySem.F.slot_str_gt PySem.F.entry_str_gt (PySem.F.args_str_gt_2 _ _) (gives_str_gt _ _ a b) (fun e=>nomatch e) h
theorem Ow{n c:Nat}(h:c∈[n+1,n]):c<n+1+1:=by
 simp only [List.mem_cons,List.not_mem_nil,or_false] at h
 omega
theorem Kk{bt:Nat->Nat->Bool}{v:Value}(h:(#[Value.str x t,Value.str y u]:Array Value)[argBest bt 1]?=some v):v=if bt 1 0=true then .str y u else .str x t:=by
 have e:argBest bt 1=if bt 1 0=true then 1 else 0:=rfl
 rw [e] at h
 cases c:bt 1 0 with
 | true=>rw [c] at h; exact(Option.some.inj h).symm
 | false=>rw [c] at h; exact(Option.some.inj h).symm
theorem OB{Q:Value->Shared->Prop}(hh:A.handled=none)(h:∀h' tk,(∀c o,s.heap.get? c=some o->h'.get? c=some o)->Q (if decide (y.cps.toList<x.cps.toList)=true then .str y u else .str x t) { s with heap:=h',toks:=tk }) :
  wpAny (model prog w) A (call (.builtin "min") [.str x t,.str y u]) Q E s:=by
 have hT:(s.heap.push { cls:=.type "tuple",data:=.seq #[.str x t,.str y u] }).IsTuple s.heap.objs.size #[.str x t,.str y u]:=⟨_,Heap.get?_push_size _ rfl,rfl,0,rfl⟩
 refine call_min_two (wpAny_pyIter_tuple hT ?_)
 have z1:(s.heap.push { cls:=.type "tuple",data:=.seq #[.str x t,.str y u] }).objs.size=s.heap.objs.size+1:=Heap.size_push ..
 refine⟨_,[_,s.heap.objs.size],[_],_,_,_,_,rfl,Walks.tuple (A:=A.in1) hh _ s.heap.objs.size (by rw [z1]; exact Nat.ne_of_lt (Nat.lt_succ_self _)) #[.str x t,.str y u],⟨⟨_,Heap.get?_push_size _ rfl,rfl,rfl⟩,hT.push _⟩,fun c hc=>?_,by simp,OX,fun v h' tk hP k=>?_⟩
 ·rw [Heap.size_push,z1]; rw [z1] at hc; exact Ow hc
 ·rw [Kk hP]
  refine h h' tk fun c o e=>k c o (fun m=>?_) (Heap.get?_push_of_some _ (Heap.get?_push_of_some _ e))
  have l:=Heap.lt_size e
  rw [List.mem_singleton.mp m,z1] at l
  exact absurd l (Nat.not_lt.mpr (Nat.le_succ _))
theorem OD{Q:Value->Shared->Prop}(hh:A.handled=none)(h:∀h' tk,(∀c o,s.heap.get? c=some o->h'.get? c=some o)->Q (if decide (x.cps.toList<y.cps.toList)=true then .str y u else .str x t) { s with heap:=h',toks:=tk }) :
  wpAny (model prog w) A (call (.builtin "max") [.str x t,.str y u]) Q E s:=by
 have hT:(s.heap.push { cls:=.type "tuple",data:=.seq #[.str x t,.str y u] }).IsTuple s.heap.objs.size #[.str x t,.str y u]:=⟨_,Heap.get?_push_size _ rfl,rfl,0,rfl⟩
 refine call_max_two (wpAny_pyIter_tuple hT ?_)
 have z1:(s.heap.push { cls:=.type "tuple",data:=.seq #[.str x t,.str y u] }).objs.size=s.heap.objs.size+1:=Heap.size_push ..
 refine⟨_,[_,s.heap.objs.size],[_],_,_,_,_,rfl,Walks.tuple (A:=A.in1) hh _ s.heap.objs.size (by rw [z1]; exact Nat.ne_of_lt (Nat.lt_succ_self _)) #[.str x t,.str y u],⟨⟨_,Heap.get?_push_size _ rfl,rfl,rfl⟩,hT.push _⟩,fun c hc=>?_,by simp,OY,fun v h' tk hP k=>?_⟩
 ·rw [Heap.size_push,z1]; rw [z1] at hc; exact Ow hc
 ·rw [Kk hP]
  refine h h' tk fun c o e=>k c o (fun m=>?_) (Heap.get?_push_of_some _ (Heap.get?_push_of_some _ e))
  have l:=Heap.lt_size e
  rw [List.mem_singleton.mp m,z1] at l
  exact absurd l (Nat.not_lt.mpr (Nat.le_succ _))
end
section
variable {X:Cx}
noncomputable def R0:List V->Hp->VK->Prop:=fun xs H Q=>∃x y:Str,xs=[.str x,.str y]/\Q (.str (if decide (y.cps.toList<x.cps.toList)=true then y else x)) H
noncomputable def R7:List V->Hp->VK->Prop:=fun xs H Q=>∃x y:Str,xs=[.str x,.str y]/\Q (.str (if decide (x.cps.toList<y.cps.toList)=true then y else x)) H
theorem JL(hc:X.calm=true):Ck X (.builtin "min") R0:=by
 intro pins s σ H xs us Q I r h
 obtain⟨x,y,rfl,q⟩:=h
 obtain⟨u,w',rfl,⟨t,rfl⟩,⟨t',rfl⟩⟩:=vals2 r
 refine OB (I.ok.hd hc) fun h' tk k=>⟨_,H,I.kept k,?_,q⟩
 cases decide (y.cps.toList<x.cps.toList) <;> exact⟨_,rfl⟩
theorem JM(hc:X.calm=true):Ck X (.builtin "max") R7:=by
 intro pins s σ H xs us Q I r h
 obtain⟨x,y,rfl,q⟩:=h
 obtain⟨u,w',rfl,⟨t,rfl⟩,⟨t',rfl⟩⟩:=vals2 r
 refine OD (I.ok.hd hc) fun h' tk k=>⟨_,H,I.kept k,?_,q⟩
 cases decide (x.cps.toList<y.cps.toList) <;> exact⟨_,rfl⟩
end
end L2
namespace Dp
open PySem PySem.Spec PyProof.Rows L2
section
variable {K:Frag}
noncomputable def NH(ds:List D)(P:D->Prop):Prop:=∃x y:Str,ds=[.str x,.str y]/\P (.str (if decide (y.cps.toList<x.cps.toList)=true then y else x))
noncomputable def NJ(ds:List D)(P:D->Prop):Prop:=∃x y:Str,ds=[.str x,.str y]/\P (.str (if decide (x.cps.toList<y.cps.toList)=true then y else x))
theorem Kj{U M:Addr->Prop}{H:Hp}{x y:Str}{vs:List V}(hp:Paired (fun v d=>AtT K U M H d v) vs [.str x,.str y]):vs=[.str x,.str y]/\x.length<=sizeLine/\y.length<=sizeLine:=by
 cases hp with
 | cons r1 r2=>cases r2 with
  | cons r3 r4 =>
   cases r4
   obtain⟨rfl,l1⟩:=r1.str
   obtain⟨rfl,l2⟩:=r3.str
   exact⟨rfl,l1,l2⟩
theorem QY:DP K .sh R0 NH:=by
 intro U M H ds vs P Q dom vM hp w q
 obtain⟨x,y,rfl,w⟩:=w
 obtain⟨e,l1,l2⟩:=Kj hp
 exact⟨x,y,e,q _ H (.str _) .refl ⟨rfl,by split <;> assumption⟩ w⟩
theorem QZ:DP K .sh R7 NJ:=by
 intro U M H ds vs P Q dom vM hp w q
 obtain⟨x,y,rfl,w⟩:=w
 obtain⟨e,l1,l2⟩:=Kj hp
 exact⟨x,y,e,q _ H (.str _) .refl ⟨rfl,by split <;> assumption⟩ w⟩
end
end Dp
namespace L2
open PySem PySem.Spec PyProof.Rows PySem.W
section
variable {prog:Program}{w:World}{A:Around}{E:Value->Shared->Prop}{I:Addr}{fp wr:List Addr}{N:Nat}{P:Nat->Value->Prop}{St:Nat->Heap->Prop}
theorem JJ(W:Walks prog w A I fp wr N P St)(items:List Value)(hl:items.length=N)(hP:∀i v,P i v->items[i]?=some v):∀(n i:Nat) (s:Shared) (Q:List Value->Shared->Prop),i+n<=N->St i s.heap ->
  (∀h' tk,St (i+n) h'->(∀b o,b∉wr->s.heap.get? b=some o->h'.get? b=some o)->Q ((items.drop i).take n) { s with heap:=h',toks:=tk })->wpAny (model prog w) A (draw (.ref I) n) Q E s
 | 0,i,s,Q,hi,hst,h=>by
  rw [draw]
  have:=h s.heap s.toks hst fun _ _ _ e=>e
  rw [List.take_zero] at this
  exact wpAny_pure this
 | n+1,i,s,Q,hi,hst,h=>by
  rw [draw]
  refine wpAny_bind (W.item i s _ _ (by omega) hst fun v h1 tk1 hv hst1 hk1=>?_)
  refine wpAny_bind (wpAny_holding (JJ W items hl hP n (i+1) _ _ (by omega) hst1 fun h2 tk2 hst2 hk2=>wpAny_pure ?_))
  have e:=hP i v hv
  obtain⟨hlt,e2⟩:=List.getElem?_eq_some_iff.mp e
  have:=h h2 tk2 (by rw [show i+(n+1)=i+1+n by omega]; exact hst2) fun b o hb q=>hk2 b o hb (hk1 b o hb q)
  rw [List.drop_eq_getElem_cons hlt,List.take_succ_cons,e2] at this
  exact this
theorem Ki{s:Shared}{l:Addr}{items:Array Value}{Q:List Value->Shared->Prop}(hh:A.handled=none)(hl:s.heap.IsList l items)(h:∀h' tk,(∀b o,s.heap.get? b=some o->h'.get? b=some o)->Q items.toList { s with heap:=h',toks:=tk }) :
  wpAny (model prog w) A (unpackItems (.ref l) items.size none) Q E s:=by
 have hlt:l<s.heap.objs.size:=by obtain⟨_,e,_⟩:=hl; exact Heap.lt_size e
 have hT:s.TypeIs (.ref l) "list":=by obtain⟨o,e,c,_⟩:=hl; exact⟨o,e,c⟩
 unfold unpackItems
 refine wpAny_bind ?_
 unfold notIterableAtAll
 refine wpAny_bind (wpAny_specialOf hT PySem.F.slot_list_iter.lookup ?_)
 refine wpAny_pure ?_
 simp only [Bool.false_eq_true,if_false]
 refine wpAny_bind (wpAny_holding (wpAny_pyIter_list hl ?_))
 have W:=Walks.list (prog:=prog) (w:=w) (A:=A) hh s.heap.objs.size l (Nat.ne_of_lt hlt) items
 refine wpAny_bind (wpAny_holding (JJ W items.toList (by simp) (fun i v e=>by simpa using e) items.size 0 _ _ (by omega) ⟨⟨_,Heap.get?_push_size _ rfl,rfl,rfl⟩,hl.push _⟩ fun h1 tk1 st1 k1=>?_))
 have hall:List.take items.size (List.drop 0 items.toList)=items.toList:=by
  rw [List.drop_zero]; exact List.take_of_length_le (by simp)
 rw [hall,if_neg (by simp)]
 rw [Nat.zero_add] at st1
 refine wpAny_bind (wpAny_holding (W.done _ _ _ st1 fun h2 tk2 k2=>?_))
 simp only [Option.isSome_none,Bool.false_eq_true,if_false]
 refine wpAny_pure (h h2 tk2 fun b o e=>?_)
 have hb:b∉[s.heap.objs.size]:=fun z=>by rw [List.mem_singleton.mp z] at e; exact Nat.lt_irrefl _ (Heap.lt_size e)
 exact k2 b o hb (k1 b o hb (Heap.get?_push_of_some _ e))
end
section
variable {X:Cx}{pos:Pos}
noncomputable def Ul(K:Frag)(n:Nat)(t:Rk):TG:=fun v σ H Q=>∃a xs,v=.ref a/\SqL K H a xs/\xs.length=n/\t xs σ H Q
theorem Qz{es:List Expr}{k:Nat}{t:Rk}{n:Nat}(hc:X.calm=true)(h:UA X es t)
  (hn:(assignEach es X.env).length=n:=by rfl) (hst:(assignEach es X.env).findIdx? (·.1)=none:=by rfl):PG X (.Tuple es k pos) (Ul X.K n t):=by
 intro pins s σ H v u Q I r hw
 obtain⟨a,xs,e1,hq,hl,hw⟩:=hw
 subst e1
 cases r
 obtain⟨its,rv,ht,hz⟩:=I.list hq
 rw [assign_Tuple]
 refine wpAny_bind (wpAny_standAt ?_)
 unfold unpack
 rw [hst,hn,show n=its.toArray.size by rw [List.size_toArray,← rv.length,hl]]
 refine wpAny_bind (wpAny_holding (Ki (I.ok.hd hc) ht.isList fun h' tk hk=>?_))
 have I1:Inv X pins σ H { s with heap:=h',toks:=tk }:=I.kept (t':=tk) hk
 exact h pins _ σ H xs _ Q I1 (by simpa using rv) hw
end
end L2
namespace Dp
open PySem PySem.Spec PyProof.Rows L2
section
variable {X:Cx}{es:List Expr}{pos:Pos}
noncomputable def SM(k:Nat)(bs:List D->List Slot->(List Slot->Prop)->Prop):BW:=fun d ρ P=>match d with
 | .lst ds=>ds.length=k/\bs ds ρ P
 | _=>False
theorem RZ{bs:List D->List Slot->(List Slot->Prop)->Prop}{k:Nat}{j:Nat}(hc:X.calm=true)(h:U9 X es bs)(hn:(assignEach es X.env).length=k:=by rfl)(hst:(assignEach es X.env).findIdx? (·.1)=none:=by rfl):DG X (.Tuple es j pos) (SM k bs):=by
 obtain⟨g,a1,a2⟩:=h
 refine⟨_,Qz hc a1 hn hst,fun C M H n ρ σ d v P Q R h w q=>?_⟩
 cases d with
 | lst ds =>
  obtain⟨a,vs,rfl,hq,hs⟩:=h
  exact⟨a,vs,rfl,hq.sq,by rw [hs.length]; exact w.1,a2 C M H n ρ σ ds vs P Q R hs w.2 q⟩
 | _=>exact w.elim
end
noncomputable def DR(xs:List Str):List V:=xs.map V.str
theorem Fj{K:Frag}{M:Addr->Prop}{H:Hp}:∀{xs:List Str} {vs:List V},Ats K M H (xs.map D.str) vs->vs=DR xs/\∀x∈xs,x.length<=sizeLine
 | [],vs,h=>⟨h,fun x hx=>by cases hx⟩
 | x::xs,vs,h=>by
  obtain⟨v,r,rfl,⟨rfl,hl⟩,h2⟩:=h
  obtain⟨rfl,h3⟩:=Fj h2
  exact⟨rfl,fun y hy=>(List.mem_cons.mp hy).elim (fun e=>by rw [e]; exact hl) (h3 y)⟩
theorem EA{K:Frag}{M:Addr->Prop}{H:Hp}:∀{xs:List Str},(∀x∈xs,x.length<=sizeLine)->Ats K M H (xs.map D.str) (DR xs)
 | [],_=>rfl
 | x::xs,h=>⟨_,_,rfl,⟨rfl,h x List.mem_cons_self⟩,EA fun y hy=>h y (List.mem_cons_of_mem _ hy)⟩
noncomputable def M8(we:DW)(P:List Str->List Str->Nat->Prop):List D->List Str->List Str->Nat->Prop
 | [],acc,xs,n=>P acc xs n
 | d::ds,acc,xs,n=>we n [.ow (.lst (xs.map .str)),.fd,.sh d] fun e n1=>∃(k:Nat) (x:Str),e=.int (k:Int)/\xs[k]?=some x/\M8 we P ds (acc++[x]) (xs.eraseIdx k) n1
noncomputable def Rm(i f:Nat)(src:FE)(we:DW)(b:BW):Ab:=fun D2 n ρ=>∃xs:List Str,ρ[i]?=some (.ow (.lst (xs.map .str)))/\ρ[f]?=some .fd/\xs.length<=1000/\src n ρ fun ds n1=>ds.length<=1000 /\
 M8 we (fun acc ys n2=>b (.lst (acc.map .str)) (ρ.set i (.ow (.lst (ys.map .str)))) fun ρ1=>D2.nx n2 ρ1) ds [] xs n1
theorem HG:∀(ys:List Str) (k:Nat),(DR ys).eraseIdx k=DR (ys.eraseIdx k)
 | [],k=>by cases k <;> rfl
 | y::ys,0=>rfl
 | y::ys,k+1=>by
  show V.str y::(DR ys).eraseIdx k=V.str y::DR (ys.eraseIdx k)
  rw [HG]
theorem Kr(ys:List Str):(DR ys).length=ys.length:=List.length_map ..
theorem Rel.putV{K:Frag}{C:Fm}{M:Addr->Prop}{H:Hp}{n:Nat}{ρ:List Slot}{σ:L2.St}{l:Addr}{o:HO}(R:Rel K C M H n ρ σ)(hV:C.V l)(nU:¬C.U l)(h0:C.H0 l=none)(nb:∀(i:Nat) (d:D),ρ[i]?≠some (.br d))(np:C.pins=[])(nk:C.kp=[]):Rel K C M (A9 H l o) n ρ σ:=by
 have ml:=R.vM l hV
 have pr:Pres M H M (A9 H l o):=⟨fun b o' e z=>by rw [AQ (fun q=>z (by rw [q]; exact ml))]; exact e,fun _ z=>.inl z⟩
 refine⟨R.len,R.sub,fun b z=>?_,fun b o' e=>?_,R.fU,R.uV,R.vM,R.feed.pres pr fun f o' hf e=>?_,fun j s q=>?_,fun p hp=>(by rw [np] at hp; cases hp),R.br0,R.new,R.two,fun p hp=>(by rw [nk] at hp; cases hp)⟩
 ·by_cases hb:b=l
  ·exact⟨o,by rw [hb,AV]⟩
  ·obtain⟨o',e⟩:=R.dom b z
   exact⟨o',by rw [AQ hb]; exact e⟩
 ·obtain⟨o2,q2,r⟩:=R.ext b o' e
  exact⟨o2,by rw [AQ (fun z=>by rw [z,h0] at e; cases e)]; exact q2,r⟩
 ·rw [AQ (fun z=>nU (by rw [← z]; exact R.fU f hf))]
  exact e
 ·have hs:=R.sl j s q
  cases s with
  | no=>trivial
  | sh d=>obtain⟨v,e1,h2⟩:=hs; exact⟨v,e1,h2.pres pr⟩
  | br d=>exact absurd q (nb j d)
  | fd=>exact hs
  | ow d =>
   obtain⟨a,e1,h2,h3,h4⟩:=hs
   exact⟨a,e1,h2,h3,h4.pres pr fun o' e=>by rw [AQ (fun z=>h3 (by rw [z]; exact hV))]; exact e⟩
  | lt a d =>
   obtain⟨e1,h2,h3,h4⟩:=hs
   exact⟨e1,h2,h3,h4.pres pr fun o' e=>by rw [AQ (fun z=>h3 (by rw [z]; exact hV))]; exact e⟩
section
variable {X:Cx}{κ κe:Kd}{tg tg2 iter e:Expr}{sc:Scope}{pos cp p apos cpos:Pos}{x:Str}{src:FE}{b:BW}{we:DW}{i f:Nat}
theorem RT(hc:X.calm=true)(N':List Str)(hi:DI X tg2 iter src)(hg2:∀cl C s H fp,PG (A6 X sc N' cl C s H fp) tg2 (Gc 2))(hx:∀cl C s H fp,PE (A6 X sc N' cl C s H fp) (.Name x p) (Bo 0))(he:∀cl C s H fp,DE (A6 X sc N' cl C s H fp) e κe we)(hg:DG X tg b)
  (hB:LQ sc X.env.scope X.N N' [some i,some f,none]=true)
  (hpop:∀cl C s H fp,PE (A6 X sc N' cl C s H fp) (.Name x p) (Bo 0)->∀t,PE (A6 X sc N' cl C s H fp) e t->PE (A6 X sc N' cl C s H fp) (.Call (.Attribute (.Name x p) "pop" apos) [e] [] cpos) (V4 X.K "list" PH (Bo 0) (Kp t O0)))
  (hfold:∀x,foldedSetIterable iter X.env x=pure x:=by intro _; rfl)
  (hs:swapsWithSole [tg] (.ListComp (.Call (.Attribute (.Name x p) "pop" apos) [e] [] cpos) [⟨tg2,iter,[],0⟩] sc cp) pos.line X.env=pure false:=by rfl) (hw:swappedStores [tg] (.ListComp (.Call (.Attribute (.Name x p) "pop" apos) [e] [] cpos) [⟨tg2,iter,[],0⟩] sc cp) X.env=pure none:=by rfl)
  (h1:(assignEach [tg] X.env).map (·.2)=[assign tg X.env]:=by rfl) :
  DS X κ (.Assign [tg] (.ListComp (.Call (.Attribute (.Name x p) "pop" apos) [e] [] cpos) [⟨tg2,iter,[],0⟩] sc cp) pos) (Rm i f src we b):=by
 obtain⟨wi,a1,a2⟩:=hi
 obtain⟨g,g1,g2⟩:=hg
 refine⟨_,Fx (Mw hc N' [some i,some f,none] a1 hB hfold) g1 hs hw h1,fun C M H n ρ σ D2 E R L w=>?_⟩
 obtain⟨xs,hi_,hf_,hxl,w⟩:=w
 refine a2 C M H n ρ σ _ _ R w fun J H1 ds n1 e1 f1 y w1=>?_
 obtain⟨hlen,w1⟩:=w1
 have R1:=R.step e1 f1
 intro l hl hkl cl Ca s0 H0 fp
 obtain⟨te,te1,te2⟩:=he cl Ca s0 H0 fp
 obtain⟨a,ea,ma,nva,vs0,hHa,hats⟩:=R1.sl i _ hi_
 obtain⟨rfl,hxz⟩:=Fj hats
 obtain⟨na0,ha0⟩:=R1.new i _ a hi_ rfl ea
 obtain⟨fd,ef,eF⟩:=R1.sl f _ hf_
 have hla:a≠l:=fun z=>by rw [z,hl] at hHa; cases hHa
 have hl0:C.H0 l=none:=R1.ext.free hl
 have noU:¬C.U l:=fun z=>by
  obtain⟨o,z⟩:=R1.udom l z
  rw [hl] at z; cases z
 have nMl:¬M l:=fun z=>by
  obtain⟨o,z⟩:=R1.dom l z
  rw [hl] at z; cases z
 generalize hM':(fun b=>M b\/b=l)=M'
 have M'l:M' l:=by rw [← hM']; exact .inr rfl
 have M'of:∀b,M b->M' b:=fun b z=>by rw [← hM']; exact .inl z
 have ofM':∀b,M' b->M b\/b=l:=fun b z=>by rw [← hM'] at z; exact z
 have sli:∀v,(CW [some i,some f,none] σ)[0]?=some v->v=(σ[i]?).getD none:=fun v z=>by cases z; rfl
 refine⟨Gc 2,_,_,fun k m σ' H'=>m=ds.length - k/\k<=ds.length/\∃n' s2 v2 acc ys,Rel X.K ⟨C.M0,C.F,C.U,fun b=>C.V b\/b=l,C.H0,[],[]⟩ M' H' n' [.ow (.lst (ys.map .str)),.fd,s2] σ'/\(s2=.no\/∃d,s2=.sh d)/\σ'=[some (.ref a),some (.ref fd.1),v2]/\H' l=some (.lst (DR acc))/\acc.length<=k/\(∀x∈acc,x.length<=sizeLine)/\(∀x∈ys,x.length<=sizeLine)/\ys.length<=1000 /\
   (∀b o,H1 b=some o->b≠a->∃o',H' b=some o'/\(¬C.U b->o'=o))/\M8 we (fun acc ys n2=>b (.lst (acc.map .str)) (ρ.set i (.ow (.lst (ys.map .str)))) fun ρ1=>D2.nx n2 ρ1) (ds.drop k) acc ys n',hg2 cl Ca s0 H0 fp,Mu,hpop cl Ca s0 H0 fp (hx cl Ca s0 H0 fp) te te1,⟨ds.length,by simp,Nat.zero_le _,n1,.no,none,[],xs,?_⟩,?_⟩
 ·have gr:Grow H1 (A9 H1 l (.lst [])):=A1 hl
  have pr:Pres M H1 M' (A9 H1 l (.lst [])):=⟨fun b o e _=>gr.all b o e,fun b z=>(ofM' b z).elim .inl fun z=>.inr (by rw [z]; exact hl)⟩
  have eσ:CW [some i,some f,none] σ=[some (.ref a),some (.ref fd.1),none]:=by
   show [(σ[i]?).getD none,(σ[f]?).getD none,none]=_
   rw [ea,ef]
  rw [eσ]
  refine⟨⟨rfl,fun b z=>M'of b (R1.sub b z),fun b z=>?_,R1.ext.trans gr.ext,R1.fU,fun b z=>.inl (R1.uV b z),fun b z=>z.elim (fun z=>M'of b (R1.vM b z)) fun z=>(by rw [z]; exact M'l),f1.pres pr fun f o _ e=>gr.all f.1 o e,?_,(fun p hp=>by cases hp),?_,?_,?_,(fun p hp=>by cases hp)⟩,.inl rfl,rfl,AV,Nat.zero_le _,(fun x hx=>by cases hx),hxz,hxl,fun b o e nb=>⟨o,gr.all b o e,fun _=>rfl⟩,w1⟩
  ·rcases ofM' b z with z | z
   ·obtain⟨o,z⟩:=R1.dom b z
    exact⟨o,gr.all b o z⟩
   ·rw [z]
    exact⟨_,AV⟩
  ·intro j s q
   match j,q with
   | 0,q=>cases q; exact⟨a,rfl,M'of a ma,fun z=>z.elim nva hla,DR xs,gr.all _ _ hHa,EA hxz⟩
   | 1,q=>cases q; exact⟨fd,rfl,eF⟩
   | 2,q=>cases q; trivial
   | j+3,q=>simp at q
  ·intro j d b q
   match j,q with
   | 0,q=>cases q
   | 1,q=>cases q
   | 2,q=>cases q
   | j+3,q=>simp at q
  ·intro j s b q o z
   match j,q,z with
   | 0,q,z=>cases z; exact⟨na0,ha0⟩
   | 1,q,z=>cases q; cases o
   | 2,q,z=>cases q; cases o
   | j+3,q,z=>simp at q
  ·intro j1 j2 s1 s2 b q1 o1 q2 o2 z1 z2
   have only0:∀(j:Nat) (s:Slot),([.ow (.lst (xs.map .str)),.fd,.no]:List Slot)[j]?=some s->s.owns=true->j=0:=fun j s q o=>by
    match j,q with
    | 0,q=>rfl
    | 1,q=>cases q; cases o
    | 2,q=>cases q; cases o
    | j+3,q=>simp at q
   rw [only0 j1 s1 q1 o1,only0 j2 s2 q2 o2]
 ·rintro k m σ' H' ⟨rfl,hk,n',s2,v2,acc,ys,R',hs2,rfl,hlv,hal,hacc,hys,hyl,hkeep,w'⟩
  have pr:Pres M H1 M' H':=⟨fun b o e nb=>by
   obtain⟨o',q1,q2⟩:=hkeep b o e fun z=>nb (by rw [z]; exact ma)
   rw [q1,q2 fun z=>nb (R1.vM b (R1.uV b z))],fun b z=>(ofM' b z).elim .inl fun z=>.inr (by rw [z]; exact hl)⟩
  by_cases hlt:k<ds.length
  ·have ed:ds.drop k=ds[k]::ds.drop (k+1):=List.drop_eq_getElem_cons hlt
   rw [ed] at w'
   obtain⟨go,yl⟩:=(y k M' H' pr R'.dom).1 ds[k] (List.getElem?_eq_getElem hlt)
   refine .inr ⟨go,fun x2 H2 hy=>?_⟩
   obtain⟨gr,hx2⟩:=yl x2 H2 hy
   have R2:=R'.step gr.ext (R'.feed.grow gr)
   have R3:Rel X.K ⟨C.M0,C.F,C.U,fun b=>C.V b\/b=l,C.H0,[],[]⟩ M' H2 n' [.ow (.lst (ys.map .str)),.fd,.sh ds[k]] [some (.ref a),some (.ref fd.1),some x2]:=R2.set (i:=2) hx2
   obtain⟨a3,ea3,_,_,vs3,hH3,hat3⟩:=R3.sl 0 _ rfl
   cases ea3
   refine⟨.ref a,rfl,.inl ⟨rfl,vs3,.inl (.inl hH3)⟩,?_⟩
   refine te2 _ M' H2 n' _ _ _ _ R3 w' fun v H4 d4 n4 e4 f4 r4 p4=>?_
   obtain⟨kk,xx,rfl,hxx,p4⟩:=p4
   have R4:=R3.step e4 f4
   obtain⟨a4,ea4,m4,nv4,vs4,hH4,hat4⟩:=R4.sl 0 _ rfl
   cases ea4
   obtain⟨rfl,_⟩:=Fj hat4
   obtain⟨hkl,exx⟩:=List.getElem?_eq_some_iff.mp hxx
   refine⟨a,DR ys,(kk:Int),kk,.str xx,rfl,by rw [J7 r4],hH4,by omega,by omega,Iw (by rw [Kr]; exact hkl),by unfold DR; rw [List.getElem?_map,hxx]; rfl,?_⟩
   have hys':∀x∈ys.eraseIdx kk,x.length<=sizeLine:=fun x hx=>hys x (List.mem_of_mem_eraseIdx hx)
   have R5:Rel X.K ⟨C.M0,C.F,C.U,fun b=>C.V b\/b=l,C.H0,[],[]⟩ M' (A9 H4 a (.lst ((DR ys).eraseIdx kk))) n4 [.ow (.lst ((ys.eraseIdx kk).map .str)),.fd,.sh ds[k]] [some (.ref a),some (.ref fd.1),some x2] :=
    R4.mut (i:=0) (e:=.lst ((ys.eraseIdx kk).map .str)) rfl rfl (o:=.lst ((DR ys).eraseIdx kk)) ⟨(DR ys).eraseIdx kk,AV,by rw [HG]; exact EA hys'⟩
   have l4:H4 l=some (.lst (DR acc)):=e4.keep (gr.all _ _ hlv) noU
   have hel:=List.length_eraseIdx_le ys kk
   refine⟨DR acc,by rw [AQ (Ne.symm hla)]; exact l4,by rw [Kr,sizeLine_eq]; omega,ds.length - (k+1),by omega,rfl,hlt,n4,.sh ds[k],some x2,acc++[xx],ys.eraseIdx kk,?_,.inr ⟨_,rfl⟩,rfl,?_,by rw [List.length_append,List.length_singleton]; omega,fun x hx=>?_,hys',by omega,fun b o eb nb=>?_,p4⟩
   ·refine R5.putV (.inr rfl) noU hl0 (fun j d q=>?_) rfl rfl
    match j,q with
    | 0,q=>cases q
    | 1,q=>cases q
    | 2,q=>cases q
    | j+3,q=>simp at q
   ·rw [AV]
    unfold DR
    rw [List.map_append]
    rfl
   ·rcases List.mem_append.mp hx with hx | hx
    ·exact hacc x hx
    ·rw [List.mem_singleton.mp hx,← exx]; exact hys _ (List.getElem_mem hkl)
   ·have nbl:b≠l:=fun z=>by rw [z,hl] at eb; cases eb
    obtain⟨o1,q1,r1⟩:=hkeep b o eb nb
    obtain⟨o2,q2,r2⟩:=e4 b o1 (gr.all _ _ q1)
    exact⟨o2,by rw [AQ nbl,AQ nb]; exact q2,fun nu=>(r2 nu).trans (r1 nu)⟩
  ·have ek:k=ds.length:=by omega
   subst ek
   rw [List.drop_length] at w'
   refine .inl ⟨(y _ M' H' pr R'.dom).2 (Nat.le_refl _),?_⟩
   obtain⟨a5,ea5,_,_,vs5,hH5,hat5⟩:=R'.sl 0 _ rfl
   cases ea5
   obtain⟨rfl,_⟩:=Fj hat5
   have ext:Ext C.U (A9 H1 a (.lst (DR ys))) H':=fun b o eb=>by
    by_cases hb:b=a
    ·subst hb
     rw [AV] at eb
     cases eb
     exact⟨_,hH5,fun _=>rfl⟩
    ·rw [AQ hb] at eb
     exact hkeep b o eb hb
   have Ro:=(R1.mut hi_ ea (e:=.lst (ys.map .str)) (o:=.lst (DR ys)) ⟨DR ys,AV,EA hys⟩).step ext (R'.feed.pres (Pres.less M'of) fun _ _ _ z=>z)
   exact g2 C M H' n' _ σ (.lst (acc.map .str)) (.ref l) _ _ Ro ⟨l,DR acc,rfl,⟨nMl,hlv⟩,EA hacc⟩ w' fun ρ' σ' R' w'=>L.nx M H' n' ρ' σ' R' w'
end
end Dp
namespace Nt
open PySem PySem.Spec PyProof.Rows L2 Dp
noncomputable def minus(N:Net)(S:List Ap):Net:=⟨N.ps,N.ts.filter fun v=>decide (v∉S)⟩
noncomputable def Oe(N:Net)(t b:Int)(u:Ap)(m:Nat):Prop:=∀S:List Ap,S.length<=m->Et (minus N S) t b u
noncomputable def P8(N:Net)(t b:Int)(u:Ap)(m:Nat):Bool:=@decide (Oe N t b u m) (Classical.propDecidable _)
theorem hldB_iff{N:Net}{t b:Int}{u:Ap}{m:Nat}:P8 N t b u m=true↔Oe N t b u m:=by
 unfold P8
 exact @decide_eq_true_iff _ (Classical.propDecidable _)
noncomputable def Ci(N:Net)(t b:Int)(m:Nat):List Ap->List Ap->List Ap
 | kept,[]=>kept
 | kept,u::r=>if P8 (sub N kept) t b u m=true then Ci N t b m kept r else Ci N t b m (kept++[u]) r
noncomputable def Ud:Option (List Ap)->D
 | some l=>.lst (l.map Aa)
 | none=>.non
noncomputable def fresh(u:Ap):Prop:=Lk u.a/\Lk u.b/\1<=u.len/\u.len<=1000000
noncomputable def IK:W2:=fun ss n P=>∃(N:Net) (w:List Str) (d:Int),ss=[.sh (enc N),.sh (.tup (w.map .str))]/\okN N/\walk N w d/\w.length<=30/\(∀x∈w,x∈N.ps)/\∀us:List Ap,(∀u∈us,u∈N.ts)->us.length<=30->(∀M:Net,(∀u∈us,u∈M.ts)->walk M w d)->P (.lst (us.map Aa)) n
noncomputable def Gk(j:Nat):W2:=fun ss n P=>∃(N:Net) (u:Ap) (t b:Int) (m:Nat),ss=[.sh (enc N),.sh (.tup [.int t,.int b]),.sh (Aa u),.sh (.int (m:Int))]/\(m<=j/\m<=2)/\okN N/\u.a∈N.ps/\u.b∈N.ps/\fresh u/\Ja t b/\∀o:Option (List Ap),(o=none->Oe N t b u m)->(∀l,o=some l->¬Oe N t b u m/\l.length<=m)->P (Ud o) n
noncomputable def DN:W2:=fun ss n P=>∃(N:Net) (t b:Int) (m:Nat),ss=[.sh (enc N),.sh (.tup [.int t,.int b]),.sh (.int (m:Int))]/\okN N/\Ja t b/\m<=2/\∀ord:List Ap,ord.Perm N.ts->EO ord->P (enc (sub N (Ci N t b m [] ord))) n
noncomputable def Ef:W2:=fun ss n P=>∃(N:Net) (t b:Int) (m:Nat),ss=[.sh (enc N),.sh (.tup [.int t,.int b]),.sh (.int (m:Int))]/\okN N/\Ja t b/\1<=m/\m<=2/\∀ord:List Ap,ord.Perm N.ts->EO ord->P (enc (sub N (Ci N t b m [] ord))) n
noncomputable def Tp(ts:List Ap)(m:Nat)(L:List (List Ap)):Prop:=(∀S∈L,S.length<=m/\∀v∈S,v∈ts)/\∀S:List Ap,S.length<=m->∃S'∈L,∀v∈ts,v∈S↔v∈S'
noncomputable def Fl:W2:=fun ss n P=>∃(z:D) (ts:List Ap) (m:Nat),ss=[.br z,.sh (.int (m:Int))]/\z=.lst (ts.map Aa)/\ts.length<=60/\1<=m/\m<=2/\∀L:List (List Ap),Tp ts m L->P (.lst (L.map fun S=>.lst (S.map Aa))) n
noncomputable def Cz:W2:=fun ss n P=>∃(N:Net) (ts:List Ap) (u:Ap) (t b:Int) (m:Nat),ss=[.br (.lst (ts.map Aa)),.sh (.tup [.int t,.int b]),.sh (Aa u),.sh (.int (m:Int))]/\okN N/\(∀v∈ts,v∈N.ts)/\ts.length<=60/\u.a∈N.ps/\u.b∈N.ps/\Ja t b/\1<=m/\m<=2/\∀o:Option (List Ap),(o=none->Oe (sub N ts) t b u m)->(∀l,o=some l->¬Oe (sub N ts) t b u m)->P (Ud o) n
noncomputable def GN:W2:=fun ss n P=>ss=[.fd]/\200<=n/\∀(N:Net) (n':Nat),okN N->n - 200<=n'->P (enc N) n'
noncomputable def Eg:W2:=fun ss n P=>ss=[.fd]/\200<=n/\∀(N:Net) (n':Nat),okN N->n - 200<=n'->P (enc N) n'
noncomputable def FC:W2:=fun ss n P=>ss=[.fd]/\1<=n/\∀t b:Int,Ja t b->P (.tup [.int t,.int b]) (n - 1)
noncomputable def Di:W2:=fun ss n P=>∃(N:Net) (t b:Int) (m:Nat),ss=[.sh (enc N),.sh (.tup [.int t,.int b]),.sh (.int (m:Int))]/\okN N/\Ja t b/\1<=m/\m<=2/\P (.bl true) n
noncomputable def Ez:Ab:=(Ag (BZ 2 (AR Ec (AD (AK (AE 0)) AT)))
 (BA (DF [some 2,none,none] (Qk (AB (AE 1) (AB (SY KD (AE 1) (GP (wC (D.int 1))) DD) AN))) (Df 2 (AY (AW 1) (AY (AW 2) B8))) E4 (Az (AB (C1 NH (AB (AE 1) (AB (AE 2) AN))) (AB (C1 NJ (AB (AE 1) (AB (AE 2) AN))) (AB (Ak Bl (Ak Bl (AE 0) (AE 1)) (AE 2)) AN)))))))
noncomputable def C9:Ab:=(Ag (Ce 3 (B7 AN))
 (Ag (D7 (A_ (AR Cd (AD (AK (Ak Cj (AE 0) (wC (D.int 1)))) AT))) (AW 4) (Bq (Am (Ak (Eo true) (AR (Gk 2) (AD (AK (AR CB (AD (AK (AE 0)) (AD (Bp (Af 3)) AT)))) (AD (AK (AE 1)) (AD (AK (AE 4)) (AD (AK (AE 2)) AT))))) (wC D.non))) (Io 3 "list" EM (AB (AE 4) AN)) BB))
 (BA (AR CB (AD (AK (AE 0)) (AD (Bp (Af 3)) AT))))))
noncomputable def D6:Ab:=(Ag (Ce 2 (B7 (AB (B7 AN) AN)))
 (Ag (Bq (Am (Ak (f2 fun i j=>D.bl (decide (j<i))) (AE 1) (wC (D.int 0)))) (Ce 2 (Ak Uu (Af 2) (DF [none] (A_ (Af 0)) (AW 0) E4 (B7 (AB (AE 0) AN))))) BB)
 (Ag (Bq (Am (Ak (f2 fun i j=>D.bl (decide (j<i))) (AE 1) (wC (D.int 1)))) (D7 (G9 (AB (C1 KH (AB (Af 0) AN)) AN)) (AW 3) (Io 2 "list" Ta (AB (DF [some 0,some 3,none] (G9 (AB (AE 3) AN)) (AW 2) E4 (B7 (AB (Ak Cj (Af 0) (AE 1)) (AB (Ak Cj (Af 0) (AE 2)) AN)))) AN))) BB)
 (Im 2))))
noncomputable def DM:Ab:=(Ag (D7 (A_ (AR Fl (AD (Bp (Af 0)) (AD (AK (AE 3)) AT)))) (AW 4) (Ag (BZ 5 (Oq (AR Dk (AD (Bp (DF [some 4,none] (A_ (Af 0)) (AW 1) (Am (Ak (RP true) (AE 1) (AE 0))) (AE 1))) (AD (AK (Ak Cj (AE 2) (wC (D.int 0)))) AT))) (Ak Cj (AE 2) (wC (D.int 1)))))
 (Bq (Om (Am (Ak (Eo false) (AE 5) (wC D.non))) (GQ (Am (AR CO (AD (AK (AE 5)) (AD (AK (AE 1)) (AD (AK (Ak Cj (AE 2) (wC (D.int 2)))) AT))))))) (BA (AE 4)) BB)))
 (BA (wC D.non)))
noncomputable def D4:Ab:=(Ag (Ce 3 (B7 AN))
 (Ag (D7 (A_ (AR Cd (AD (AK (Ak Cj (AE 0) (wC (D.int 1)))) AT))) (AW 4) (Bq (Am (Ak (Eo true) (AR Cz (AD (Bp (Af 3)) (AD (AK (AE 1)) (AD (AK (AE 4)) (AD (AK (AE 2)) AT))))) (wC D.non))) (Io 3 "list" EM (AB (AE 4) AN)) BB))
 (BA (Az (AB (Ak Cj (AE 0) (wC (D.int 0))) (AB (C1 Bk (AB (C1 CL (AB (Af 3) AN)) AN)) AN))))))
noncomputable def EV:Ab:=(Ag (BZ 1 (AR CP (AD (Ar 0) (AD (AK (Ak Ew (wC (D.int 5)) (Ak EL (AR A5 (AD (Ar 0) (AD (AK (wC (D.int 3))) AT))) (AR A5 (AD (Ar 0) (AD (AK (wC (D.int 2))) AT)))))) AT))))
 (Ag (BZ 2 (AR A5 (AD (Ar 0) (AD (AK (wC (D.int 4))) AT))))
 (Ag (BZ 3 (Ak Cj (B7 (AB (wC (D.int 12)) (AB (wC (D.int 12)) (AB (wC (D.int 12)) (AB (wC (D.int 3)) AN))))) (AR A5 (AD (Ar 0) (AD (AK (wC (D.int 4))) AT)))))
 (Ag (Ce 4 (B7 AN))
 (Ag (D7 (A_ (AE 1)) (AW 5) (D7 (A_ (AE 1)) (AW 6) (Bq (Mc (Am (Ak KG (AE 5) (AE 6))) (Am (Ak (f2 fun i j=>D.bl (decide (j<i))) (AR A5 (AD (Ar 0) (AD (AK (AE 3)) AT))) (wC (D.int 0))))) (Ag (BZ 7 (Ak Cj (B7 (AB (wC (D.int 7)) (AB (Ak Bm (wC (D.int 1)) (AR A5 (AD (Ar 0) (AD (AK (wC (D.int 2))) AT)))) (AB (Ak Ew (Ak (RR Kf fun i j=>D.int (i ^ j.toNat)) (wC (D.int 10)) (wC (D.int 6))) (AR A5 (AD (Ar 0) (AD (AK (wC (D.int 2))) AT)))) (AB (Ak Bm (wC (D.int 1)) (AR A5 (AD (Ar 0) (AD (AK (wC (D.int 9))) AT)))) AN))))) (AE 2)))
 (Io 4 "list" EM (AB (Az (AB (AE 5) (AB (AE 6) (AB (AE 7) AN)))) AN))) BB)))
 (BA (Az (AB (AE 1) (AB (C1 Bk (AB (C1 CL (AB (Af 4) AN)) AN)) AN)))))))))
noncomputable def De:Ab:=(Ag (Ce 1 (C1 MQ (AB (AR CP (AD (Ar 0) (AD (AK (wC (D.int 6))) AT))) AN)))
 (Ag (Rm 1 0 (G9 (AB (wC (D.int 6)) AN)) (AR A5 (AD (Ar 1) (AD (AK (C1 KH (AB (Af 0) AN))) AT))) (SM 6 (AY (AW 2) (AY (AW 3) (AY (AW 4) (AY (AW 5) (AY (AW 6) (AY (AW 7) B8))))))))
 (Ag (BZ 8 (Ak Bm (wC (D.int 2)) (AR A5 (AD (Ar 0) (AD (AK (wC (D.int 3))) AT)))))
 (Ag (BZ 9 (B7 (AB (Az (AB (AE 2) (AB (AE 3) (AB (AE 8) AN)))) (AB (Az (AB (AE 3) (AB (AE 4) (AB (AE 8) AN)))) (AB (Az (AB (AE 4) (AB (AE 5) (AB (AE 8) AN)))) (AB (Az (AB (AE 5) (AB (AE 6) (AB (AE 8) AN)))) (AB (Az (AB (AE 6) (AB (AE 7) (AB (AE 8) AN)))) (AB (Az (AB (AE 2) (AB (AE 4) (AB (Ak EL (wC (D.int 3)) (AE 8)) AN)))) (AB (Az (AB (AE 5) (AB (AE 7) (AB (Ak EL (wC (D.int 3)) (AE 8)) AN)))) AN)))))))))
 (Ag (BZ 9 (Ak Bm (AE 9) (B7 (AB (Az (AB (AE 3) (AB (AE 6) (AB (Ak Ew (Ak EL (wC (D.int 4)) (AE 8)) (wC (D.int 1))) AN)))) (AB (Az (AB (AE 2) (AB (AE 7) (AB (Ak EL (wC (D.int 4)) (AE 8)) AN)))) AN)))))
 (BA (Az (AB (C1 Bk (AB (C1 MP (AB (B7 (AB (AE 2) (AB (AE 3) (AB (AE 4) (AB (AE 5) (AB (AE 6) (AB (AE 7) AN))))))) AN)) AN)) (AB (C1 Bk (AB (C1 CL (AB (DF [none,none,none] (A_ (AE 9)) (Df 3 (AY (AW 0) (AY (AW 1) (AY (AW 2) B8)))) E4 (Az (AB (C1 NH (AB (AE 0) (AB (AE 1) AN))) (AB (C1 NJ (AB (AE 0) (AB (AE 1) AN))) (AB (AE 2) AN))))) AN)) AN)) AN)))))))))
noncomputable def EW:Ab:=(BA (Ak Cj (B7 (AB (Az (AB (wC (D.int 2)) (AB (wC (D.int 1)) AN))) (AB (Az (AB (wC (D.int 3)) (AB (wC (D.int 1)) AN))) (AB (Az (AB (wC (D.int 5)) (AB (wC (D.int 2)) AN))) (AB (Az (AB (Ak (RR Kf fun i j=>D.int (i ^ j.toNat)) (wC (D.int 10)) (wC (D.int 6))) (AB (wC (D.int 1)) AN))) (AB (Az (AB (wC (D.int 9)) (AB (wC (D.int 2)) AN))) (AB (Az (AB (wC (D.int 3)) (AB (wC (D.int 2)) AN))) (AB (Az (AB (wC (D.int 4)) (AB (wC (D.int 1)) AN))) (AB (Az (AB (wC (D.int 1000)) (AB (wC (D.int 999)) AN))) (AB (Az (AB (wC (D.int 2)) (AB (wC (D.int 1)) AN))) AN)))))))))) (AR A5 (AD (Ar 0) (AD (AK (wC (D.int 9))) AT)))))
noncomputable def ES:Ab:=(BA (Ak (QA false) (C1 Hw (AB (AR DN (AD (AK (AE 0)) (AD (AK (AE 1)) (AD (AK (AE 2)) AT)))) AN)) (C1 Hw (AB (AR Ef (AD (AK (AE 0)) (AD (AK (AE 1)) (AD (AK (AE 2)) AT)))) AN))))
noncomputable def E3(Wbrk:W2):Ab:=(Ag (BZ 4 (AR Ee (AD (AK (AE 0)) (AD (AK (AE 1)) (AD (AK (AE 2)) AT)))))
 (Ag (Bq (Am (Ak (Eo false) (AE 4) (wC D.non))) (BA (B7 AN)) BB)
 (Ag (Bq (Am (Ak (QA false) (AE 3) (wC (D.int 0)))) (BA (wC D.non)) BB)
 (Ag (D7 (A_ (AR IK (AD (AK (AE 0)) (AD (AK (AE 4)) AT)))) (AW 5) (Ag (BZ 6 (AR Wbrk (AD (AK (AR Dg (AD (AK (AE 0)) (AD (AK (B7 (AB (AE 5) AN))) AT)))) (AD (AK (AE 1)) (AD (AK (AE 2)) (AD (AK (Ak Ew (AE 3) (wC (D.int 1)))) AT))))))
 (Bq (Am (Ak (Eo true) (AE 6) (wC D.non))) (BA (Ak Bm (B7 (AB (AE 5) AN)) (AE 6))) BB)))
 (BA (wC D.non))))))
noncomputable def JS:Ab:=(Ag (Ce 2 (B7 (AB (Az (AB (AR GK (AD (Ar 1) (AD (AK (wC (D.int 6))) (AD (AK (wC (D.int 9))) AT)))) (AB (AR Eb (AD (Ar 1) AT)) (AB (Ak Bm (wC (D.int 1)) (AR A5 (AD (Ar 1) (AD (AK (wC (D.int 2))) AT)))) AN)))) AN)))
 (Ag (Io 2 "list" EM (AB (Az (AB (AR GN (AD (Ar 1) AT)) (AB (AR FC (AD (Ar 1) AT)) (AB (wC (D.int 2)) AN)))) AN))
 (Ag (Io 2 "list" EM (AB (Az (AB (AR GN (AD (Ar 1) AT)) (AB (AR FC (AD (Ar 1) AT)) (AB (wC (D.int 1)) AN)))) AN))
 (Ag (Io 2 "list" EM (AB (Az (AB (AR Eg (AD (Ar 1) AT)) (AB (Az (AB (wC (D.int 3)) (AB (wC (D.int 2)) AN))) (AB (wC (D.int 1)) AN)))) AN))
 (Ag (Bq (Am (Ak (QA false) (AR A5 (AD (Ar 1) (AD (AK (wC (D.int 8))) AT))) (wC (D.int 0)))) (Io 2 "list" EM (AB (Az (AB (AR GK (AD (Ar 1) (AD (AK (wC (D.int 8))) (AD (AK (wC (D.int 14))) AT)))) (AB (AR FC (AD (Ar 1) AT)) (AB (wC (D.int 1)) AN)))) AN)) BB)
 (Ag (D7 (A_ (Ak Bm (Af 2) (SY KD (Af 2) DD (GP (wC (D.int 1)))))) (Df 3 (AY (AW 3) (AY (AW 4) (AY (AW 5) B8)))) (Bq (GQ (Am (AR Di (AD (AK (AE 3)) (AD (AK (AE 4)) (AD (AK (AE 5)) AT)))))) (BA (wC (D.bl false))) BB))
 (Ag (Sb (SY KD (Ak Cj (Af 2) (AR A5 (AD (Ar 1) (AD (AK (wC (D.int 3))) AT)))) DD (GP (wC (D.int 2)))) (Df 2 (AY (AW 3) (AY (AW 4) B8))))
 (BA (Ak (QA false) (C1 Hw (AB (AR DN (AD (AK (AE 3)) (AD (AK (AE 4)) (AD (AK (wC (D.int 0))) AT)))) AN)) (C1 Hw (AB (AR Dh (AD (AK (AE 3)) (AD (AK (AE 4)) AT))) AN)))))))))))
theorem JB{N:Net}(okn:okN N)(S:List Ap):okN (minus N S):=⟨Lv okn.1 (fun t h=>(List.mem_filter.mp h).1) (okn.1.trise.filter _),okn.2.1,Nat.le_trans (List.length_filter_le _ _) okn.2.2⟩
theorem minus_mem{N:Net}{S:List Ap}{v:Ap}:v∈(minus N S).ts↔v∈N.ts/\v∉S:=by
 show v∈N.ts.filter _↔_
 rw [List.mem_filter,decide_eq_true_eq]
theorem F_(N:Net):minus N []=N:=by
 unfold minus
 rw [List.filter_eq_self.mpr fun v _=>decide_eq_true List.not_mem_nil]
theorem Pm{N:Net}{S S':List Ap}(h:∀v∈N.ts,v∈S↔v∈S'):minus N S=minus N S':=by
 unfold minus
 rw [List.filter_congr fun v hv=>by rw [decide_eq_decide.mpr (not_congr (h v hv))]]
theorem hld_zero{N:Net}{t b:Int}{u:Ap}:Oe N t b u 0↔Et N t b u:=by
 constructor
 ·intro h
  have:=h [] (Nat.le_refl _)
  rw [F_] at this
  exact this
 ·intro h S hS
  rw [List.length_eq_zero_iff.mp (Nat.le_zero.mp hS),F_]
  exact h
theorem E_{N:Net}{t b:Int}:∀{rest kept:List Ap},Ci N t b 0 kept rest=Dy N t b kept rest
 | [],kept=>rfl
 | u::r,kept=>by
  have e:P8 (sub N kept) t b u 0=GZ (sub N kept) t b u:=by rw [Bool.eq_iff_iff,hldB_iff,nearB_iff,hld_zero]
  unfold Ci Dy
  rw [e,E_,E_]
theorem Q9{N:Net}(ok:N.Ok){t b:Int}(hb:1<=b){u:Ap}{d:Int}(hw:Wk N u.a u.b d)(h:d*b<=u.len*t):Et N t b u:=by
 obtain⟨d',h1,h2⟩:=Wk.least ok _ (Nat.le_refl _) hw
 have:=Int.mul_le_mul_of_nonneg_right h2 (show 0<=b by omega)
 exact⟨d',h1,by omega⟩
theorem MZ{N:Net}:∀{r:List Str} {x y:Str} {d:Int},walk N (x::r) d->(x::r).getLast?=some y->∀{s:Str} {e:Int},Wk N s x e->Wk N s y (e+d)
 | [],x,y,d,h,hl,s,e,hw=>by
  have hd:d=0:=h
  have:x=y:=by simpa using hl
  subst hd this
  rw [Int.add_zero]
  exact hw
 | z::r,x,y,d,h,hl,s,e,hw=>by
  obtain⟨l,d',he,h2,rfl⟩:=h
  have:=MZ h2 (by simpa using hl) (Wk.snoc hw he)
  rw [Int.add_assoc] at this
  exact this
theorem P5{N:Net}(okn:okN N){t b:Int}(hb:1<=b){u:Ap}{m:Nat}{w:List Str}{us:List Ap}(hw:Way N u.a u.b (some w))(hn:Et N t b u){d0:Int}(hwk:walk N w d0)(hus:∀M:Net,(∀v∈us,v∈M.ts)->walk M w d0)(hin:∀v∈us,v∈N.ts)(h:∀v∈us,Oe (Dz N v) t b u m):Oe N t b u (m+1):=by
 intro S hS
 by_cases c:∃v∈us,v∈S
 ·obtain⟨v,hv,hvS⟩:=c
  have e:minus N S=minus (Dz N v) (S.filter fun x=>decide (x≠v)):=by
   unfold minus Dz
   rw [List.filter_filter]
   congr 1
   refine List.filter_congr fun x _=>?_
   rw [Bool.eq_iff_iff,Bool.and_eq_true,decide_eq_true_eq,decide_eq_true_eq,decide_eq_true_eq,List.mem_filter,decide_eq_true_eq]
   constructor
   ·intro z
    exact⟨fun q=>z q.1,fun q=>z (by rw [q]; exact hvS)⟩
   ·rintro ⟨z1,z2⟩ q
    exact z1 ⟨q,z2⟩
  rw [e]
  refine h v hv _ ?_
  have:(S.filter fun x=>decide (x≠v)).length<S.length:=List.length_filter_lt_length_iff_exists.mpr ⟨v,hvS,fun z=>of_decide_eq_true z rfl⟩
  omega
 ·obtain⟨d,r,rfl,hl,hwd,hld,_⟩:=hw
  obtain⟨d',hd',hle⟩:=hn
  have ed:d=d':=hld.unique hd'
  subst ed
  have w2:walk (minus N S) (u.a::r) d0:=hus (minus N S) fun v hv=>minus_mem.mpr ⟨hin v hv,fun z=>c ⟨v,hv,z⟩⟩
  have ew:d0=d:=by
   have h1:=FG okn.1 hwk (s:=0)
   rw [FG okn.1 hwd (s:=0)] at h1
   have:=Option.some.inj h1
   omega
  subst ew
  have wk:=MZ w2 hl (Wk.nil (N:=minus N S) (s:=u.a))
  rw [Int.zero_add] at wk
  exact Q9 (JB okn S).1 hb wk hle
theorem P7{N:Net}{t b:Int}{u v:Ap}{m:Nat}(h:Oe N t b u (m+1)):Oe (Dz N v) t b u m:=by
 intro S hS
 have e:minus (Dz N v) S=minus N (v::S):=by
  unfold minus Dz
  rw [List.filter_filter]
  congr 1
  refine List.filter_congr fun x _=>?_
  rw [Bool.eq_iff_iff,Bool.and_eq_true,decide_eq_true_eq,decide_eq_true_eq,decide_eq_true_eq,List.mem_cons]
  exact⟨fun⟨z1,z2⟩ q=>q.elim z2 z1,fun z=>⟨fun q=>z (.inr q),fun q=>z (.inl q)⟩⟩
 rw [e]
 exact h (v::S) (by rw [List.length_cons]; omega)
theorem P6{N:Net}{t b:Int}{u:Ap}{m:Nat}(h:Oe N t b u m):Et N t b u:=by
 have:=h [] (Nat.zero_le _)
 rw [F_] at this
 exact this
theorem Sh{N:Net}(ok:N.Ok){x y:Str}{l:Int}(he:Ed N x y l):∃t∈N.ts,t.len=l/\((t.a=x/\t.b=y)\/(t.b=x/\t.a=y))/\(if decide (cs y<cs x)=true then y else x)=t.a/\(if decide (cs x<cs y)=true then y else x)=t.b:=by
 obtain⟨t,ht,tl,h2⟩:=he.tie ok
 have lt:=(ok.tin t ht).2.2.1
 refine⟨t,ht,tl,h2,?_⟩
 rcases h2 with ⟨rfl,rfl⟩ | ⟨rfl,rfl⟩
 ·have:¬cs t.b<cs t.a:=fun z=>List.lt_irrefl _ (List.lt_trans lt z)
  exact⟨by rw [decide_eq_false this,if_neg (by decide)],by rw [decide_eq_true lt,if_pos rfl]⟩
 ·have:¬cs t.b<cs t.a:=fun z=>List.lt_irrefl _ (List.lt_trans lt z)
  exact⟨by rw [decide_eq_true lt,if_pos rfl],by rw [decide_eq_false this,if_neg (by decide)]⟩
theorem Tc{M:Net}{t:Ap}{x y:Str}(ht:t∈M.ts)(h:(t.a=x/\t.b=y)\/(t.b=x/\t.a=y)):Ed M x y t.len:=by
 rcases h with ⟨rfl,rfl⟩ | ⟨rfl,rfl⟩
 ·exact(KL ht).1
 ·exact(KL ht).2
section
variable {ss:List Slot}{n:Nat}{Pd:D->Nat->Prop}
theorem HQ(h:IK ss n Pd):Ez (EF Pd) n (ss++List.replicate 1 .no):=by
 obtain⟨N,w,d,rfl,okn,hw,hl,hin,p⟩:=h
 have ok:=okn.1
 unfold Ez
 refine⟨N,rfl,ok,by have:=okn.2.1; omega,by have:=okn.2.2; omega,?_⟩
 have go:∀(r:List Str) (x:Str) (d:Int) (acc:List Ap) (s1 s2:Slot),walk N (x::r) d->(∀y∈x::r,y∈N.ps) ->
   (∀us:List Ap,(∀u∈us,u∈N.ts)->us.length=r.length->(∀M:Net,(∀u∈us,u∈M.ts)->walk M (x::r) d)->Pd (.lst ((acc++us).map Aa)) n) ->
   Dw (Df 2 (AY (AW 1) (AY (AW 2) B8))) E4 (Az (AB (C1 NH (AB (AE 1) (AB (AE 2) AN))) (AB (C1 NJ (AB (AE 1) (AB (AE 2) AN))) (AB (Ak Bl (Ak Bl (AE 0) (AE 1)) (AE 2)) AN)))) (fun acc n2=>Pd (.lst acc) n2) (FF ((x::r).map .str) (r.map .str)) (acc.map Aa) n [.sh (Dn N),s1,s2]:=by
  intro r
  induction r with
  | nil =>
   intro x d acc s1 s2 hw hin h
   have:=h [] (fun u hu=>by cases hu) rfl fun M _=>hw
   rw [List.append_nil] at this
   exact this
  | cons y r ih =>
   intro x d acc s1 s2 hw hin h
   obtain⟨l,d',he,hw',rfl⟩:=hw
   obtain⟨t,ht,tl,te,ea,eb⟩:=Sh ok he
   subst tl
   have hx:=hin x List.mem_cons_self
   refine⟨rfl,rfl,x,y,rfl,x,y,rfl,_,_,_,N9 N.ts x,rfl,A7 x,Iv hx,_,_,_,.int t.len,rfl,A7 y,?_,z3,?_⟩
   ·show BH ((DB N.ts x).map fun z=>.inr z.1) ((DB N.ts x).map fun z=>.int z.2) (.inr y)=_
    rw [Gx]
    have:=M9 ok he
    unfold look at this
    rw [this]
    rfl
   have et:D.tup [.str (if decide (y.cps.toList<x.cps.toList)=true then y else x),.str (if decide (x.cps.toList<y.cps.toList)=true then y else x),.int t.len]=Aa t:=by
    show D.tup [.str (if decide (cs y<cs x)=true then y else x),.str (if decide (cs x<cs y)=true then y else x),.int t.len]=Aa t
    rw [ea,eb]
    rfl
   rw [et]
   have:=ih y d' (acc++[t]) (.sh (.str x)) (.sh (.str y)) hw' (fun z hz=>hin z (List.mem_cons_of_mem _ hz)) fun us h1 h2 h3=>by
    have:=h (t::us) (fun u hu=>(List.mem_cons.mp hu).elim (fun e=>by rw [e]; exact ht) (h1 u)) (by rw [List.length_cons,List.length_cons,h2]) fun M hM=>⟨t.len,d',Tc (hM t List.mem_cons_self) te,h3 M fun u hu=>hM u (List.mem_cons_of_mem _ hu),rfl⟩
    rw [List.append_assoc]
    exact this
   rw [List.map_append] at this
   exact this
 cases w with
 | nil=>exact hw.elim
 | cons x r =>
  rw [List.length_cons] at hl
  refine⟨_,_,(x::r).map .str,r.map .str,rfl,rfl,by show some (Dp.cutD (D.str x::r.map .str) (some 1) none)=_; rw [Uz]; rfl,?_,?_⟩
  ·unfold FF
   rw [List.length_zipWith,List.length_map,List.length_map]
   omega
  ·refine go r x d [] _ _ hw hin fun us h1 h2 h3=>?_
   rw [List.nil_append]
   exact p us h1 ((by first | exact u0 | exact u1 | exact u2 | exact w0 | exact w1 | omega)) h3
theorem GT{Wr:W2}{j:Nat}(hrec:∀ss n P,j≠0->Gk (j - 1) ss n P->Wr ss n P)(h:Gk j ss n Pd):E3 Wr (EE Pd) n (ss++List.replicate 3 .no):=by
 obtain⟨N,u,t,b,m,rfl,⟨hm,hm2⟩,okn,ha,hb,hu,⟨b1,b2,t1,t2⟩,p⟩:=h
 have ok:=okn.1
 unfold E3
 refine⟨N,u,t,b,rfl,okn,ha,hb,b1,b2,t1,t2,fun o h1 h2=>⟨rfl,?_⟩⟩
 cases o with
 | none =>
  refine⟨z0,p (some []) (fun e=>by cases e) fun l e=>?_⟩
  cases e
  refine⟨fun z=>?_,Nat.zero_le _⟩
  have:=nearB_iff.mpr (P6 z)
  rw [h2 rfl] at this
  cases this
 | some w =>
  obtain⟨way,hn⟩:=h1 w rfl
  have hn:=nearB_iff.mp hn
  refine EK (fun c=>absurd (show false=true from c) Bool.false_ne_true) fun _=>?_
  refine EK (fun c=>?_) fun c=>?_
  ·have c:m=0:=by
    have c:(m:Int)=0:=beq_iff_eq.mp c
    omega
   subst c
   exact p none (fun _=>hld_zero.mpr hn) fun l e=>by cases e
  ·have hm1:m≠0:=fun z=>c (by rw [z]; exact beq_self_eq_true _)
   have way':=way
   obtain⟨d,r,rfl,hl,hwd,_,h30,hin⟩:=way'
   refine⟨N,u.a::r,d,rfl,okn,hwd,h30,hin,fun us hus hul hM=>?_⟩
   have go:∀(rest done:List Ap) (s5 s6:Slot),done++rest=us->(∀v∈done,Oe (Dz N v) t b u (m - 1)) ->
     BM (AW 5) (Ag (BZ 6 (AR Wr (AD (AK (AR Dg (AD (AK (AE 0)) (AD (AK (B7 (AB (AE 5) AN))) AT)))) (AD (AK (AE 1)) (AD (AK (AE 2)) (AD (AK (Ak Ew (AE 3) (wC (D.int 1)))) AT))))))
 (Bq (Am (Ak (Eo true) (AE 6) (wC D.non))) (BA (Ak Bm (B7 (AB (AE 5) AN)) (AE 6))) BB)) { EE Pd with nx:=BA (wC D.non) (EE Pd) } (rest.map Aa) n [.sh (enc N),.sh (.tup [.int t,.int b]),.sh (Aa u),.sh (.int (m:Int)),.sh (S7 (some (u.a::r))),s5,s6]:=by
    intro rest
    induction rest with
    | nil =>
     intro done s5 s6 e hd
     rw [List.append_nil] at e
     subst e
     refine p none (fun _=>?_) fun l e=>by cases e
     have:=P5 okn b1 way hn hwd hM hus hd
     rw [show m - 1+1=m by omega] at this
     exact this
    | cons v rest ih =>
     intro done s5 s6 e hd
     have hv:v∈us:=by rw [← e]; exact List.mem_append_right _ List.mem_cons_self
     have e':(done++[v])++rest=us:=by rw [List.append_assoc]; exact e
     refine⟨z1,N,v,rfl,okn,HC ok v (hus v hv),hrec _ _ _ ((by first | exact u0 | exact u1 | exact u2 | exact w0 | exact w1 | omega)) ⟨Dz N v,u,t,b,m - 1,by rw [show ((m - 1:Nat):Int)=(m:Int) - 1 by omega],⟨(by first | exact u0 | exact u1 | exact u2 | exact w0 | exact w1 | omega),(by first | exact u0 | exact u1 | exact u2 | exact w0 | exact w1 | omega)⟩,LL okn v,ha,hb,hu,⟨b1,b2,t1,t2⟩,fun o2 g1 g2=>⟨rfl,?_⟩⟩⟩
     cases o2 with
     | none =>
      refine ih (done++[v]) _ _ e' fun x hx=>?_
      rcases List.mem_append.mp hx with hx | hx
      ·exact hd x hx
      ·rw [List.mem_singleton.mp hx]; exact g1 rfl
     | some l =>
      obtain⟨g3,g4⟩:=g2 l rfl
      refine⟨z1,by rw [List.length_map]; show 1+l.length<=sizeLine; rw [PySem.sizeLine_eq]; omega,p (some (v::l)) (fun e=>by cases e) fun l' e=>?_⟩
      cases e
      refine⟨fun z=>g3 (P7 (by rw [show m - 1+1=m by omega]; exact z)),by rw [List.length_cons]; omega⟩
   exact go us [] _ _ rfl fun v hv=>by cases hv
theorem Hn{N:Net}{t b:Int}{m:Nat}{kept r:List Ap}{u:Ap}:Ci N t b m kept (u::r)=if P8 (sub N kept) t b u m=true then Ci N t b m kept r else Ci N t b m (kept++[u]) r:=rfl
theorem Kw(h:DN ss n Pd):C9 (EE Pd) n (ss++List.replicate 2 .no):=by
 obtain⟨N,t,b,m,rfl,okn,tm,hm,p⟩:=h
 have ok:=okn.1
 have l60:=okn.2.2
 have szl:=PySem.sizeLine_eq
 unfold C9
 refine⟨z0,_,Aj (j:=1) rfl,_,N.ts,rfl,rfl,(by first | exact u0 | exact u1 | exact u2 | exact w0 | exact w1 | omega),fun ord o1 o2=>?_⟩
 have hol:=o1.length_eq
 have ndo:ord.Nodup:=o1.nodup_iff.mpr (BN ok.trise)
 have go:∀(rest done kept:List Ap) (s4:Slot),done++rest=ord->(∀u∈kept,u∈done)->kept.Nodup->Ci N t b m kept rest=Ci N t b m [] ord ->
   BM (AW 4) (Bq (Am (Ak (Eo true) (AR (Gk 2) (AD (AK (AR CB (AD (AK (AE 0)) (AD (Bp (Af 3)) AT)))) (AD (AK (AE 1)) (AD (AK (AE 4)) (AD (AK (AE 2)) AT))))) (wC D.non))) (Io 3 "list" EM (AB (AE 4) AN)) BB) { EE Pd with nx:=BA (AR CB (AD (AK (AE 0)) (AD (Bp (Af 3)) AT))) (EE Pd) } (rest.map Aa) n [.sh (enc N),.sh (.tup [.int t,.int b]),.sh (.int (m:Int)),.ow (.lst (kept.map Aa)),s4]:=by
  intro rest
  induction rest with
  | nil =>
   intro done kept s4 e h1 h2 h3
   rw [List.append_nil] at e
   subst e
   have hin:∀u∈kept,u∈N.ts:=fun u hu=>o1.mem_iff.mp (h1 u hu)
   have hkl:=sub_len h2 (BN ok.trise) hin
   refine⟨N,_,kept,rfl,rfl,(by first | exact u0 | exact u1 | exact u2 | exact w0 | exact w1 | omega),fun ts' p1 p2=>?_⟩
   rw [HE ok hin h2 p1 p2,show kept=Ci N t b m [] done from h3]
   exact p done o1 o2
  | cons u rest ih =>
   intro done kept s4 e h1 h2 h3
   have hin:∀v∈kept,v∈N.ts:=fun v hv=>o1.mem_iff.mp (by rw [← e]; exact List.mem_append_left _ (h1 v hv))
   have hkl:=sub_len h2 (BN ok.trise) hin
   have hu:u∈N.ts:=o1.mem_iff.mp (by rw [← e]; exact List.mem_append_right _ List.mem_cons_self)
   have hud:u∉done:=by
    rw [← e,List.nodup_append] at ndo
    exact fun z=>ndo.2.2 u z u List.mem_cons_self rfl
   have e':(done++[u])++rest=ord:=by rw [List.append_assoc]; exact e
   obtain⟨m1,m2,_⟩:=ok.tin u hu
   refine⟨N,_,kept,rfl,rfl,(by first | exact u0 | exact u1 | exact u2 | exact w0 | exact w1 | omega),fun ts' p1 p2=>?_⟩
   rw [HE ok hin h2 p1 p2]
   refine⟨sub N kept,u,t,b,m,rfl,⟨hm,hm⟩,Dl okn kept,m1,m2,HC ok u hu,tm,fun o hs hn=>⟨rfl,?_⟩⟩
   rw [Hn] at h3
   cases o with
   | none =>
    rw [hldB_iff.mpr (hs rfl),if_pos rfl] at h3
    exact ih (done++[u]) kept _ e' (fun v hv=>List.mem_append_left _ (h1 v hv)) h2 h3
   | some l =>
    rw [if_neg fun z=>(hn l rfl).1 (hldB_iff.mp z)] at h3
    refine⟨_,rfl,rfl,_,_,rfl,rfl,by rw [List.length_map]; omega,?_⟩
    have:=ih (done++[u]) (kept++[u]) (.sh (Aa u)) e' (fun v hv=>by
     rcases List.mem_append.mp hv with hv | hv
     ·exact List.mem_append_left _ (h1 v hv)
     ·exact List.mem_append_right _ hv) (by
     rw [List.nodup_append]
     exact⟨h2,List.nodup_cons.mpr ⟨List.not_mem_nil,List.nodup_nil⟩,fun x hx y hy z=>hud (by rw [← List.mem_singleton.mp hy,← z]; exact h1 x hx)⟩) h3
    rw [List.map_append] at this
    exact this
 exact go ord [] [] _ rfl (fun u h=>by cases h) List.nodup_nil rfl
theorem Jl(h:Ef ss n Pd):D4 (EE Pd) n (ss++List.replicate 2 .no):=by
 obtain⟨N,t,b,m,rfl,okn,tm,hm1,hm,p⟩:=h
 have ok:=okn.1
 have l60:=okn.2.2
 have szl:=PySem.sizeLine_eq
 unfold D4
 refine⟨z0,_,Aj (j:=1) rfl,_,N.ts,rfl,rfl,(by first | exact u0 | exact u1 | exact u2 | exact w0 | exact w1 | omega),fun ord o1 o2=>?_⟩
 have hol:=o1.length_eq
 have ndo:ord.Nodup:=o1.nodup_iff.mpr (BN ok.trise)
 have go:∀(rest done kept:List Ap) (s4:Slot),done++rest=ord->(∀u∈kept,u∈done)->kept.Nodup->Ci N t b m kept rest=Ci N t b m [] ord ->
   BM (AW 4) (Bq (Am (Ak (Eo true) (AR Cz (AD (Bp (Af 3)) (AD (AK (AE 1)) (AD (AK (AE 4)) (AD (AK (AE 2)) AT))))) (wC D.non))) (Io 3 "list" EM (AB (AE 4) AN)) BB) { EE Pd with nx:=BA (Az (AB (Ak Cj (AE 0) (wC (D.int 0))) (AB (C1 Bk (AB (C1 CL (AB (Af 3) AN)) AN)) AN))) (EE Pd) } (rest.map Aa) n [.sh (enc N),.sh (.tup [.int t,.int b]),.sh (.int (m:Int)),.ow (.lst (kept.map Aa)),s4]:=by
  intro rest
  induction rest with
  | nil =>
   intro done kept s4 e h1 h2 h3
   rw [List.append_nil] at e
   subst e
   have hin:∀u∈kept,u∈N.ts:=fun u hu=>o1.mem_iff.mp (h1 u hu)
   have hkl:=sub_len h2 (BN ok.trise) hin
   refine⟨_,Aj (j:=0) rfl,?_⟩
   show CL [D.lst (kept.map Aa)] fun z=>Bk [z] fun y=>2<=sizeLine/\Pd (.tup [.tup (N.ps.map .str),y]) n
   refine Do (ts:=kept) rfl ((by first | exact u0 | exact u1 | exact u2 | exact w0 | exact w1 | omega)) fun ts' p1 p2=>⟨z2,?_⟩
   have es:=HE ok hin h2 p1 p2
   have:Pd (enc (sub N kept)) n:=by rw [show kept=Ci N t b m [] done from h3]; exact p done o1 o2
   rw [← es] at this
   exact this
  | cons u rest ih =>
   intro done kept s4 e h1 h2 h3
   have hin:∀v∈kept,v∈N.ts:=fun v hv=>o1.mem_iff.mp (by rw [← e]; exact List.mem_append_left _ (h1 v hv))
   have hkl:=sub_len h2 (BN ok.trise) hin
   have hu:u∈N.ts:=o1.mem_iff.mp (by rw [← e]; exact List.mem_append_right _ List.mem_cons_self)
   have hud:u∉done:=by
    rw [← e,List.nodup_append] at ndo
    exact fun z=>ndo.2.2 u z u List.mem_cons_self rfl
   have e':(done++[u])++rest=ord:=by rw [List.append_assoc]; exact e
   obtain⟨m1,m2,_⟩:=ok.tin u hu
   refine⟨N,kept,u,t,b,m,rfl,okn,hin,(by first | exact u0 | exact u1 | exact u2 | exact w0 | exact w1 | omega),m1,m2,tm,hm1,hm,fun o hs hn=>⟨rfl,?_⟩⟩
   rw [Hn] at h3
   cases o with
   | none =>
    rw [hldB_iff.mpr (hs rfl),if_pos rfl] at h3
    exact ih (done++[u]) kept _ e' (fun v hv=>List.mem_append_left _ (h1 v hv)) h2 h3
   | some l =>
    rw [if_neg fun z=>hn l rfl (hldB_iff.mp z)] at h3
    refine⟨_,rfl,rfl,_,_,rfl,rfl,by rw [List.length_map]; omega,?_⟩
    have:=ih (done++[u]) (kept++[u]) (.sh (Aa u)) e' (fun v hv=>by
     rcases List.mem_append.mp hv with hv | hv
     ·exact List.mem_append_left _ (h1 v hv)
     ·exact List.mem_append_right _ hv) (by
     rw [List.nodup_append]
     exact⟨h2,List.nodup_cons.mpr ⟨List.not_mem_nil,List.nodup_nil⟩,fun x hx y hy z=>hud (by rw [← List.mem_singleton.mp hy,← z]; exact h1 x hx)⟩) h3
    rw [List.map_append] at this
    exact this
 exact go ord [] [] _ rfl (fun u h=>by cases h) List.nodup_nil rfl
theorem L6(h:FC ss n Pd):EW (EE Pd) n (ss++List.replicate 0 .no):=by
 obtain⟨rfl,hn,p⟩:=h
 unfold EW
 have szl:=PySem.sizeLine_eq
 refine⟨z2,z2,z2,Vs,z2,z2,z2,z2,z2,z2,(by rw [szl]; show 9<=16777216; decide),9,rfl,by decide,by decide,hn,fun r r0 r1=>?_⟩
 obtain⟨z,hz,t,b,rfl,htb⟩:=EX (p:=fun d=>∃t b:Int,d=.tup [.int t,.int b]/\Ja t b) (xs:=[.tup [.int 2,.int 1],.tup [.int 3,.int 1],.tup [.int 5,.int 2],.tup [.int ((10:Int) ^ (6:Int).toNat),.int 1],.tup [.int 9,.int 2],.tup [.int 3,.int 2],.tup [.int 4,.int 1],.tup [.int 1000,.int 999],.tup [.int 2,.int 1]]) (fun d hd=>by
  simp only [List.mem_cons,List.not_mem_nil,or_false] at hd
  rcases hd with rfl | rfl | rfl | rfl | rfl | rfl | rfl | rfl | rfl <;> exact⟨_,_,rfl,by decide,by decide,by decide,by decide⟩) r0 (by show r<9; exact r1)
 exact⟨_,hz,p t b htb⟩
theorem L1(h:Di ss n Pd):ES (EE Pd) n (ss++List.replicate 0 .no):=by
 obtain⟨N,t,b,m,rfl,okn,tm,m1,m2,p⟩:=h
 unfold ES
 refine⟨N,t,b,m,rfl,okn,tm,m2,fun ord o1 o2=>⟨_,rfl,FK (Dl okn _),N,t,b,m,rfl,okn,tm,m1,m2,fun ord' o1' o2'=>?_⟩⟩
 have e:=GU (o1'.trans o1.symm) o2' o2
 subst e
 refine⟨_,rfl,FK (Dl okn _),?_⟩
 generalize Jd (enc (sub N (Ci N t b m [] ord')))=X
 show Pd (.bl (X==X)) n
 rw [beq_self_eq_true]
 exact p
end
noncomputable def QD(S:List Ap):D:=.lst (S.map Aa)
noncomputable def DQ:Ap:=⟨"","",0⟩
noncomputable def Dq(ts:List Ap)(k:Nat):List (List Ap):=(List.range k).flatMap fun i=>(List.range i).map fun j=>[ts.getD i DQ,ts.getD j DQ]
noncomputable def Cp(ts:List Ap):List (List Ap):=[]::ts.map fun t=>[t]
theorem GV(ts:List Ap)(k:Nat):Dq ts (k+1)=Dq ts k++(List.range k).map fun j=>[ts.getD k DQ,ts.getD j DQ]:=by
 unfold Dq
 rw [List.range_succ,List.flatMap_append,List.flatMap_singleton]
theorem HY(ts:List Ap):∀k,(Dq ts k).length<=k*k
 | 0=>Nat.le_refl _
 | k+1=>by
  have:=HY ts k
  rw [GV,List.length_append,List.length_map,List.length_range]
  have:(k+1)*(k+1)=k*k+k+k+1:=by rw [Nat.add_mul,Nat.mul_add]; omega
  omega
theorem FV{ts:List Ap}{i:Nat}(h:i<ts.length):ts[i]?=some (ts.getD i DQ):=by
 rw [List.getD_eq_getElem?_getD,List.getElem?_eq_getElem h]
 rfl
theorem JG{ts:List Ap}{i:Nat}(h:i<ts.length):ts.getD i DQ∈ts:=List.mem_of_getElem? (FV h)
theorem MB{ts:List Ap}{k:Nat}{S:List Ap}(h:S∈Dq ts k)(hk:k<=ts.length):S.length<=2/\∀v∈S,v∈ts:=by
 obtain⟨i,hi,h⟩:=List.mem_flatMap.mp h
 obtain⟨j,hj,rfl⟩:=List.mem_map.mp h
 have hi:=List.mem_range.mp hi
 have hj:=List.mem_range.mp hj
 refine⟨Nat.le_refl _,fun v hv=>?_⟩
 simp only [List.mem_cons,List.not_mem_nil,or_false] at hv
 rcases hv with rfl | rfl
 ·exact JG (by omega)
 ·exact JG (by omega)
theorem GS{ts:List Ap}{S:List Ap}(h:S∈Cp ts):S.length<=1/\∀v∈S,v∈ts:=by
 rcases List.mem_cons.mp h with rfl | h
 ·exact⟨Nat.zero_le _,fun v hv=>by cases hv⟩
 ·obtain⟨t,ht,rfl⟩:=List.mem_map.mp h
  exact⟨Nat.le_refl _,fun v hv=>by rw [List.mem_singleton.mp hv]; exact ht⟩
theorem Cy{ts:List Ap}{L:List (List Ap)}(hL:∀S∈Cp ts,S∈L)(S:List Ap)(hS:S.length<=1):∃S'∈L,∀v∈ts,v∈S↔v∈S':=by
 match S,hS with
 | [],_=>exact⟨[],hL _ List.mem_cons_self,fun v _=>Iff.rfl⟩
 | [x],_ =>
  by_cases hx:x∈ts
  ·exact⟨[x],hL _ (List.mem_cons_of_mem _ (List.mem_map.mpr ⟨x,hx,rfl⟩)),fun v _=>Iff.rfl⟩
  ·exact⟨[],hL _ List.mem_cons_self,fun v hv=>⟨fun z=>absurd (by rw [← List.mem_singleton.mp z]; exact hv) hx,fun z=>by cases z⟩⟩
 | _::_::_,h=>exact absurd h (by rw [List.length_cons,List.length_cons]; omega)
theorem OV{ts:List Ap}{L:List (List Ap)}(hL:∀S∈Cp ts,S∈L)(hP:∀S∈Dq ts ts.length,S∈L)(S:List Ap)(hS:S.length<=2):∃S'∈L,∀v∈ts,v∈S↔v∈S':=by
 match S,hS with
 | [],_=>exact Cy hL [] (Nat.zero_le _)
 | [x],_=>exact Cy hL [x] (Nat.le_refl _)
 | [x,y],_ =>
  by_cases hx:x∈ts
  ·by_cases hy:y∈ts
   ·obtain⟨i,hi⟩:=List.mem_iff_getElem?.mp hx
    obtain⟨j,hj⟩:=List.mem_iff_getElem?.mp hy
    have il:=(List.getElem?_eq_some_iff.mp hi).1
    have jl:=(List.getElem?_eq_some_iff.mp hj).1
    have ei:ts.getD i DQ=x:=by have:=FV il; rw [hi] at this; exact(Option.some.inj this).symm
    have ej:ts.getD j DQ=y:=by have:=FV jl; rw [hj] at this; exact(Option.some.inj this).symm
    have mk:∀p q:Nat,p<ts.length->q<p->[ts.getD p DQ,ts.getD q DQ]∈L:=fun p q hp hq=>hP _ (List.mem_flatMap.mpr ⟨p,List.mem_range.mpr hp,List.mem_map.mpr ⟨q,List.mem_range.mpr hq,rfl⟩⟩)
    rcases Nat.lt_trichotomy i j with c | c | c
    ·refine⟨_,mk j i jl c,fun v _=>?_⟩
     rw [ei,ej]
     simp only [List.mem_cons,List.not_mem_nil,or_false]
     exact Or.comm
    ·have exy:x=y:=by rw [← ei,← ej,c]
     obtain⟨S',h1,h2⟩:=Cy hL [x] (Nat.le_refl _)
     refine⟨S',h1,fun v hv=>?_⟩
     rw [← h2 v hv,← exy]
     simp
    ·refine⟨_,mk i j il c,fun v _=>?_⟩
     rw [ei,ej]
   ·obtain⟨S',h1,h2⟩:=Cy hL [x] (Nat.le_refl _)
    refine⟨S',h1,fun v hv=>?_⟩
    rw [← h2 v hv]
    simp only [List.mem_cons,List.not_mem_nil,or_false]
    exact⟨fun z=>z.elim id fun z=>absurd (by rw [← z]; exact hv) hy,.inl⟩
  ·obtain⟨S',h1,h2⟩:=Cy hL [y] (Nat.le_refl _)
   refine⟨S',h1,fun v hv=>?_⟩
   rw [← h2 v hv]
   simp only [List.mem_cons,List.not_mem_nil,or_false]
   exact⟨fun z=>z.elim (fun z=>absurd (by rw [← z]; exact hv) hx) id,.inr⟩
 | _::_::_::_,h=>exact absurd h (by simp only [List.length_cons]; omega)
theorem zn(i:Nat):(0+(i:Int)).toNat=i:=by rw [Int.zero_add]; rfl
section
variable {ss:List Slot}{n:Nat}{Pd:D->Nat->Prop}
theorem Ky(h:Fl ss n Pd):D6 (EF Pd) n (ss++List.replicate 2 .no):=by
 obtain⟨z,ts,m,rfl,rfl,l60,m1,m2,p⟩:=h
 have szl:=PySem.sizeLine_eq
 have hml:(ts.map Aa).length=ts.length:=List.length_map ..
 unfold D6
 refine⟨z0,z1,?_⟩
 refine EK (fun _=>?_) fun c=>absurd (decide_eq_true (by omega:(0:Int)<(m:Int))) c
 refine⟨by show (ts.map Aa).length<=10000000; omega,?_⟩
 refine B4 (fun d=>.lst [d]) (fun ρ=>∃s,ρ=[s]) _ _ _ _ ?_ ⟨_,rfl⟩ ?_
 ·rintro d hd ρ m' nx ⟨s,rfl⟩ h1
  exact⟨z1,h1 _ ⟨_,rfl⟩⟩
 rw [List.nil_append]
 have e1:[D.lst []]++(ts.map Aa).map (fun d=>D.lst [d])=(Cp ts).map QD:=by
  unfold Cp
  rw [List.map_cons,List.map_map,List.map_map]
  rfl
 refine⟨by rw [List.length_map,hml]; show 1+ts.length<=sizeLine; omega,?_⟩
 rw [e1]
 refine EK (fun c=>?_) fun c=>?_
 ·have c:1<(m:Int):=of_decide_eq_true c
  have hm:m=2:=by omega
  subst hm
  refine⟨_,_,rfl,rfl,_,rfl,⟨(by first | exact u0 | exact u1 | exact u2 | exact w0 | exact w1 | omega),(by first | exact u0 | exact u1 | exact u2 | exact w0 | exact w1 | omega)⟩,?_⟩
  refine DY (all:=D8 0 (((ts.map Aa).length:Int)).toNat) (fun pre m' ρ=>m'=n/\pre.length<=ts.length/\∃s3,ρ=[.br (.lst (ts.map Aa)),.sh (.int ((2:Nat):Int)),.ow (.lst ((Cp ts++Dq ts pre.length).map QD)),s3]) ?_ ?_ _ [] _ _ rfl ⟨rfl,Nat.zero_le _,_,by rw [show Dq ts ([]:List D).length=[] from rfl,List.append_nil]; rfl⟩
  ·rintro m' ρ ⟨rfl,_,s3,rfl⟩
   have el:(D8 0 (((ts.map Aa).length:Int)).toNat).length=ts.length:=by rw [C2,hml]; rfl
   rw [el]
   refine⟨_,rfl,p (Cp ts++Dq ts ts.length) ⟨fun S hS=>?_,OV (fun S h=>List.mem_append_left _ h) fun S h=>List.mem_append_right _ h⟩⟩
   rcases List.mem_append.mp hS with hS | hS
   ·obtain⟨a,b⟩:=GS hS
    exact⟨(by first | exact u0 | exact u1 | exact u2 | exact w0 | exact w1 | omega),b⟩
   ·exact MB hS (Nat.le_refl _)
  ·rintro pre d post m' ρ nx hall ⟨rfl,hpl,s3,rfl⟩ hnx
   obtain⟨rfl,hk⟩:=Mj hall
   have epre:(pre++[D.int (0+(pre.length:Int))]).length=pre.length+1:=by rw [List.length_append,List.length_singleton]
   rw [epre] at hnx
   generalize pre.length=k at hk hnx hpl ⊢
   have hk:k<ts.length:=by rw [hml] at hk; exact hk
   have at_:∀i:Nat,i<ts.length->∀j:Int,j=(i:Int)->atI (ts.map Aa) j=some (Aa (ts.getD i DQ)):=fun i hi j e=>by
    rw [e]
    exact Aj (by rw [List.getElem?_map,FV hi]; rfl)
   refine⟨_,rfl,rfl,_,rfl,⟨(by first | exact u0 | exact u1 | exact u2 | exact w0 | exact w1 | omega),(by first | exact u0 | exact u1 | exact u2 | exact w0 | exact w1 | omega)⟩,by rw [C2]; omega,?_⟩
   refine B4 (fun d=>match d with | .int i=>.lst [Aa (ts.getD k DQ),Aa (ts.getD i.toNat DQ)] | _=>.non) (fun ρ=>∃s,ρ=[.br (.lst (ts.map Aa)),.sh (.int (0+(k:Int))),s]) _ _ _ _ ?_ ⟨_,rfl⟩ ?_
   ·rintro d hd ρ m2 nx2 ⟨s,rfl⟩ h1
    obtain⟨i,hi,rfl⟩:=Kv hd
    have h1:nx2 (.lst [Aa (ts.getD k DQ),Aa (ts.getD (0+(i:Int)).toNat DQ)]) m2 [.br (.lst (ts.map Aa)),.sh (.int (0+(k:Int))),.sh (.int (0+(i:Int)))]:=h1 _ ⟨_,rfl⟩
    rw [show (0+(i:Int)).toNat=i from zn i] at h1
    exact⟨_,at_ k hk _ (Int.zero_add _),_,at_ i (Nat.lt_trans (by rw [zn] at hi; exact hi) hk) _ (Int.zero_add _),z2,h1⟩
   ·have e2:(D8 0 ((0+(k:Int))).toNat).map (fun d=>match d with | .int i=>D.lst [Aa (ts.getD k DQ),Aa (ts.getD i.toNat DQ)] | _=>.non)=((List.range k).map fun j=>[ts.getD k DQ,ts.getD j DQ]).map QD:=by
     unfold D8
     rw [List.map_map,List.map_map,show (0+(k:Int)).toNat=k from zn k]
     refine List.map_congr_left fun j _=>?_
     show D.lst [Aa (ts.getD k DQ),Aa (ts.getD (0+(j:Int)).toNat DQ)]=_
     rw [show (0+(j:Int)).toNat=j from zn j]
     rfl
    rw [List.nil_append,e2]
    have pl:=HY ts k
    have hkk:k*k<=60*60:=Nat.mul_le_mul (Nat.le_trans (Nat.le_of_lt hk) l60) (Nat.le_trans (Nat.le_of_lt hk) l60)
    refine⟨_,_,rfl,rfl,?_,?_⟩
    ·rw [List.length_map,List.length_append,List.length_map,List.length_map,List.length_range]
     unfold Cp
     rw [List.length_cons,List.length_map]
     omega
    ·refine hnx _ _ ⟨rfl,hk,.sh (.int (0+(k:Int))),?_⟩
     rw [GV,← List.append_assoc,List.map_append,List.map_append,List.map_append]
     rfl
 ·have hm:m=1:=by
   have c:¬(1:Int)<(m:Int):=fun z=>c (decide_eq_true z)
   omega
  subst hm
  exact⟨_,rfl,p (Cp ts) ⟨fun S hS=>GS hS,Cy fun S h=>h⟩⟩
theorem IT(h:Cz ss n Pd):DM (EE Pd) n (ss++List.replicate 2 .no):=by
 obtain⟨N,ts,u,t,b,m,rfl,okn,hin,l60,ha,hb,⟨b1,b2,t1,t2⟩,m1,m2,p⟩:=h
 have ok:=okn.1
 have hml:(ts.map Aa).length=ts.length:=List.length_map ..
 unfold DM
 refine⟨_,ts,m,rfl,rfl,l60,m1,m2,fun L hL=>?_⟩
 have go:∀(rest done:List (List Ap)) (s4 s5:Slot),done++rest=L->(∀S∈done,Et (minus (sub N ts) S) t b u) ->
   BM (AW 4) (Ag (BZ 5 (Oq (AR Dk (AD (Bp (DF [some 4,none] (A_ (Af 0)) (AW 1) (Am (Ak (RP true) (AE 1) (AE 0))) (AE 1))) (AD (AK (Ak Cj (AE 2) (wC (D.int 0)))) AT))) (Ak Cj (AE 2) (wC (D.int 1)))))
 (Bq (Om (Am (Ak (Eo false) (AE 5) (wC D.non))) (GQ (Am (AR CO (AD (AK (AE 5)) (AD (AK (AE 1)) (AD (AK (Ak Cj (AE 2) (wC (D.int 2)))) AT))))))) (BA (AE 4)) BB)) { EE Pd with nx:=BA (wC D.non) (EE Pd) } (rest.map QD) n [.br (.lst (ts.map Aa)),.sh (.tup [.int t,.int b]),.sh (Aa u),.sh (.int (m:Int)),s4,s5]:=by
  intro rest
  induction rest with
  | nil =>
   intro done s4 s5 e hd
   rw [List.append_nil] at e
   subst e
   refine p none (fun _ S hS=>?_) fun l e=>by cases e
   obtain⟨S',h1,h2⟩:=hL.2 S hS
   rw [Pm (S:=S) (S':=S') fun v hv=>h2 v (sub_mem.mp hv).2]
   exact hd S' h1
  | cons S rest ih =>
   intro done s4 s5 e hd
   have hS:S∈L:=by rw [← e]; exact List.mem_append_right _ List.mem_cons_self
   have e':(done++[S])++rest=L:=by rw [List.append_assoc]; exact e
   obtain⟨s1,s2⟩:=hL.1 S hS
   have okm:=JB (Dl okn ts) S
   have bad:¬Et (minus (sub N ts) S) t b u->Pd (QD S) n:=fun hn=>p (some S) (fun e=>by cases e) fun l e=>by
    cases e
    exact fun z=>hn (z S s1)
   refine⟨by show (ts.map Aa).length<=10000000; omega,?_⟩
   refine EH (fun d=>!((S.map Aa).any fun y=>OR y d)) id (fun ρ=>∃s,ρ=[.sh (.lst (S.map Aa)),s]) _ _ _ _ ?_ ⟨_,rfl⟩ ?_
   ·rintro d hd ρ m' nx sk ⟨s,rfl⟩ h1 h2
    obtain⟨v,hv,rfl⟩:=List.mem_map.mp hd
    refine⟨NA ok (hin v hv),(Pr ok fun w hw=>hin w (s2 w hw)).2,_,rfl,?_⟩
    exact EK (fun c=>h1 _ ⟨_,rfl⟩ c) fun c=>h2 _ ⟨_,rfl⟩ (Bool.eq_false_iff.mpr c)
   have ef:(ts.map Aa).filter (fun d=>!((S.map Aa).any fun y=>OR y d))=(ts.filter fun v=>decide (v∉S)).map Aa:=by
    rw [List.filter_map]
    congr 1
    refine List.filter_congr fun v _=>?_
    show (!((S.map Aa).any fun y=>OR y (Aa v)))=decide (v∉S)
    rw [NS,decide_not]
   rw [List.nil_append,List.map_id,ef]
   refine⟨_,Aj (j:=0) rfl,minus (sub N ts) S,u.a,_,ts.filter fun v=>decide (v∉S),rfl,rfl,fun v=>?_,okm,ha,fun ks ds K Mp T=>⟨ks,ds,rfl,_,Aj (j:=1) rfl,_,A7 u.b,?_⟩⟩
   ·rw [List.mem_filter,decide_eq_true_eq,minus_mem,sub_mem]
    exact⟨fun h=>⟨⟨hin v h.1,h.1⟩,h.2⟩,fun h=>⟨h.1.2,h.2⟩⟩
   rw [RK Mp]
   have hf:=T.far u.b
   cases ek:K u.b with
   | none =>
    rw [ek] at hf
    exact⟨rfl,bad fun⟨d,hd,_⟩=>hf d hd.1⟩
   | some d =>
    rw [ek] at hf
    refine⟨rfl,_,Aj (j:=2) rfl,d,t,b,u.len,rfl,b1,b2,t1,t2,?_⟩
    by_cases c:d*b<=u.len*t
    ·rw [decide_eq_true c]
     refine ih (done++[S]) _ _ e' fun S' hS'=>?_
     rcases List.mem_append.mp hS' with hS' | hS'
     ·exact hd S' hS'
     ·rw [List.mem_singleton.mp hS']; exact⟨d,hf,c⟩
    ·rw [decide_eq_false c]
     exact bad fun⟨d',hd',h2⟩=>c (by rw [Least.unique hf hd']; exact h2)
 exact go L [] _ _ rfl fun S hS=>by cases hS
end
theorem Mi{xs:List Str}{pre post:List D}{d:D}(h:xs.map D.str=pre++d::post):d=.str (xs.getD pre.length "")/\pre.length<xs.length:=by
 have hl:=congrArg List.length h
 rw [List.length_map,List.length_append,List.length_cons] at hl
 have e:(xs.map D.str)[pre.length]?=some d:=by rw [h,List.getElem?_append_right (Nat.le_refl _),Nat.sub_self]; rfl
 rw [List.getElem?_map,getD_at (by omega)] at e
 exact⟨(Option.some.inj e).symm,by omega⟩
theorem Qv{xs:List Str}(h:rising xs){i j:Nat}(hi:i<xs.length)(hj:j<xs.length)(hlt:cs (xs.getD i "")<cs (xs.getD j "")):i<j:=by
 rcases Nat.lt_trichotomy i j with c | c | c
 ·exact c
 ·rw [c] at hlt; exact absurd hlt (BV _)
 ·exact absurd (List.lt_trans hlt (Gy h c hi)) (BV _)
section
variable {ss:List Slot}{n:Nat}{Pd:D->Nat->Prop}
theorem L5(h:GN ss n Pd):EV (EE Pd) n (ss++List.replicate 7 .no):=by
 obtain⟨rfl,hn,p⟩:=h
 have szl:=PySem.sizeLine_eq
 unfold EV
 refine⟨3,rfl,by decide,by decide,u0,fun q1 q10 q11=>⟨2,rfl,by decide,by decide,u1,fun q2 q20 q21=>⟨T9 (by omega) (by omega),?_⟩⟩⟩
 have hq:0<=q1*q2/\q1*q2<=2:=by
  have:q2=0\/q2=1:=by omega
  rcases this with rfl | rfl
  ·rw [Int.mul_zero]; decide
  ·rw [Int.mul_one]; omega
 generalize q1*q2=q at hq ⊢
 refine⟨(5 - q).toNat,by rw [show (((5 - q).toNat:Nat):Int)=5 - q by omega],by omega,by omega,fun xs hl hx hr=>?_⟩
 refine⟨4,rfl,by decide,by decide,u3,fun way w0 w1=>?_⟩
 refine⟨(by rw [szl]; show 4<=16777216; decide),4,rfl,by decide,by decide,u4,fun r0 r00 r01=>?_⟩
 obtain⟨_,hrare,rare,rfl,rr⟩:=EX (p:=fun d=>∃i:Int,d=.int i/\(i=12\/i=3)) (xs:=[.int 12,.int 12,.int 12,.int 3]) (fun d hd=>by
  simp only [List.mem_cons,List.not_mem_nil,or_false] at hd
  rcases hd with rfl | rfl | rfl | rfl
  ·exact⟨_,rfl,.inl rfl⟩
  ·exact⟨_,rfl,.inl rfl⟩
  ·exact⟨_,rfl,.inl rfl⟩
  ·exact⟨_,rfl,.inr rfl⟩) r00 (by show r0<4; exact r01)
 refine⟨_,hrare,z0,?_⟩
 have rr1:1<=rare/\rare<1073741824:=by rcases rr with rfl | rfl <;> decide
 clear rr
 have hx5:xs.length<=5:=by omega
 clear hl hq hrare r00 r01 q10 q11 q20 q21 q
 refine DY (all:=xs.map D.str) (fun pre m ρ=>n - 10 - 20*pre.length<=m/\∃(ts:List Ix) (s5 s6 s7:Slot),(∀t∈ts,t.i<t.j/\t.j<xs.length/\1<=t.len/\t.len<=1000000)/\ts.Pairwise TU/\(∀t∈ts,t.i<pre.length)/\ts.length<=5*pre.length /\
  ρ=[.fd,.sh (.tup (xs.map .str)),.sh (.int way),.sh (.int rare),.ow (.lst ((ts.map (Ix.tie xs)).map Aa)),s5,s6,s7]) ?_ ?_ _ [] _ _ rfl ⟨by show n - 10 - 20*0<=_; omega,[],_,_,_,(fun _ h=>by cases h),List.Pairwise.nil,(fun _ h=>by cases h),Nat.zero_le _,rfl⟩
 ·rintro m ρ ⟨hm,ts,s5,s6,s7,h1,h2,h4,h5,rfl⟩
  rw [List.length_map] at hm h5
  have okN1:Net.Ok ⟨xs,ts.map (Ix.tie xs)⟩:=TB hx hr h1 h2
  show CL [D.lst ((ts.map (Ix.tie xs)).map Aa)] fun z=>Bk [z] fun y=>2<=sizeLine/\Pd (.tup [.tup (xs.map .str),y]) m
  refine Do (ts:=ts.map (Ix.tie xs)) rfl (by rw [List.length_map]; omega) fun ts' p1 p2=>⟨z2,?_⟩
  rw [HI okN1 okN1.trise p1 p2]
  exact p ⟨xs,ts.map (Ix.tie xs)⟩ m ⟨okN1,by show xs.length<=25; omega,by show (ts.map (Ix.tie xs)).length<=60; rw [List.length_map]; omega⟩ (by omega)
 ·rintro pre d post m ρ nx hall ⟨hm,ts,s5,s6,s7,h1,h2,h4,h5,rfl⟩ hnx
  obtain⟨rfl,hk⟩:=Mi hall
  have epre:(pre++[D.str (xs.getD pre.length "")]).length=pre.length+1:=by rw [List.length_append,List.length_singleton]
  rw [epre] at hnx
  generalize pre.length=one at hk hnx hm h4 h5 ⊢
  clear epre
  refine DY (all:=xs.map D.str) (fun pre m ρ=>n - 10 - 20*one - 4*pre.length<=m/\∃(ts:List Ix) (s6 s7:Slot),(∀t∈ts,t.i<t.j/\t.j<xs.length/\1<=t.len/\t.len<=1000000)/\ts.Pairwise TU/\(∀t∈ts,t.i<one\/(t.i=one/\t.j<pre.length))/\ts.length<=5*one+pre.length /\
   ρ=[.fd,.sh (.tup (xs.map .str)),.sh (.int way),.sh (.int rare),.ow (.lst ((ts.map (Ix.tie xs)).map Aa)),.sh (.str (xs.getD one "")),s6,s7]) ?_ ?_ _ [] _ _ rfl ⟨by show n - 10 - 20*one - 4*0<=m; omega,ts,_,_,h1,h2,fun t ht=>.inl (h4 t ht),by show ts.length<=5*one+0; omega,rfl⟩
  ·rintro m ρ ⟨hm,ts,s6,s7,h1,h2,h4,h5,rfl⟩
   rw [List.length_map] at hm h5 h4
   refine hnx _ _ ⟨by omega,ts,_,_,_,h1,h2,fun t ht=>?_,by omega,rfl⟩
   rcases h4 t ht with h | h <;> omega
  ·rintro pre2 d2 post2 m ρ nx2 hall2 ⟨hm,ts,s6,s7,h1,h2,h4,h5,rfl⟩ hnx2
   obtain⟨rfl,hk2⟩:=Mi hall2
   rw [List.length_append,List.length_singleton] at hnx2
   generalize pre2.length=two at hk2 hnx2 hm h4 h5 ⊢
   have skip:∀m',m - 4<=m'->nx2 m' [.fd,.sh (.tup (xs.map .str)),.sh (.int way),.sh (.int rare),.ow (.lst ((ts.map (Ix.tie xs)).map Aa)),.sh (.str (xs.getD one "")),.sh (.str (xs.getD two "")),s7]:=fun m' hm'=>by
    refine hnx2 _ _ ⟨by rw [Nat.mul_succ,← Nat.sub_sub]; exact Nat.le_trans (Nat.sub_le_sub_right hm 4) hm',ts,_,_,h1,h2,fun t ht=>?_,Nat.le_succ_of_le h5,rfl⟩
    rcases h4 t ht with h | h
    ·exact .inl h
    ·exact .inr ⟨h.1,Nat.lt_succ_of_lt h.2⟩
   refine EK (fun c1=>?_) fun _=>?_
   ·have h12:one<two:=Qv hr hk hk2 (of_decide_eq_true c1)
    have m4:4<=m:=by clear h5; omega
    refine⟨rare,rfl,rr1.1,rr1.2,u0,fun d0 d00 d01=>EK (fun _=>?_) fun _=>skip _ (Nat.sub_le_sub_left (by decide) m)⟩
    refine⟨2,rfl,by decide,by decide,u1,fun e1 e10 e11=>⟨Vs,2,rfl,by decide,by decide,u2,fun e2 e20 e21=>⟨9,rfl,by decide,by decide,u3,fun e3 e30 e31=>?_⟩⟩⟩
    have e6:(10:Int) ^ (6:Int).toNat=1000000:=rfl
    obtain⟨_,hlen,len,rfl,g1,g2⟩:=EX (p:=fun d=>∃i:Int,d=.int i/\1<=i/\i<=1000000) (xs:=[.int 7,.int (1+e1),.int ((10:Int) ^ (6:Int).toNat - e2),.int (1+e3)]) (fun d hd=>by
     simp only [List.mem_cons,List.not_mem_nil,or_false] at hd
     rcases hd with rfl | rfl | rfl | rfl
     ·exact⟨_,rfl,by decide,by decide⟩
     ·exact⟨_,rfl,by omega,by omega⟩
     ·exact⟨_,rfl,by omega,by omega⟩
     ·exact⟨_,rfl,by omega,by omega⟩) w0 (by show way<4; exact w1)
    refine⟨(by rw [szl]; show 4<=16777216; decide),_,hlen,?_⟩
    refine⟨_,rfl,rfl,z3,_,_,rfl,rfl,by rw [List.length_map,List.length_map]; omega,?_⟩
    refine hnx2 _ _ ⟨by rw [Nat.mul_succ,← Nat.sub_sub]; exact Nat.sub_le_sub_right hm 4,ts++[⟨one,two,len⟩],.sh (.str (xs.getD two "")),.sh (.int len),fun t ht=>?_,?_,fun t ht=>?_,by rw [List.length_append,List.length_singleton]; exact Nat.succ_le_succ h5,?_⟩
    ·rcases List.mem_append.mp ht with ht | ht
     ·exact h1 t ht
     ·rw [List.mem_singleton.mp ht]
      exact⟨h12,hk2,g1,g2⟩
    ·rw [List.pairwise_append]
     refine⟨h2,List.pairwise_singleton _ _,fun s hs t ht=>?_⟩
     rw [List.mem_singleton.mp ht]
     rcases h4 s hs with h | h
     ·exact .inl h
     ·exact .inr h
    ·rcases List.mem_append.mp ht with ht | ht
     ·rcases h4 t ht with h | h
      ·exact .inl h
      ·exact .inr ⟨h.1,Nat.lt_succ_of_lt h.2⟩
     ·rw [List.mem_singleton.mp ht]
      exact .inr ⟨rfl,Nat.lt_succ_self _⟩
    ·rw [List.map_append,List.map_append]
     rfl
   ·exact skip _ (Nat.sub_le _ _)
end
theorem K0{P:List Str->List Str->Nat->Prop}{xs:List Str}:∀(ds:List D) (acc ys:List Str) (n:Nat),ds.length=ys.length->(acc++ys).Perm xs->ys.length<=n->ys.length<=1000->(∀acc',acc'.Perm xs->P acc' [] (n - ys.length))->M8 (AR A5 (AD (Ar 1) (AD (AK (C1 KH (AB (Af 0) AN))) AT))) P ds acc ys n
 | [],acc,ys,n,hl,hp,hn,_,h=>by
  have e:ys=[]:=List.length_eq_zero_iff.mp hl.symm
  subst e
  rw [List.append_nil] at hp
  exact h acc hp
 | d::ds,acc,ys,n,hl,hp,hn,h1000,h=>by
  rw [List.length_cons] at hl
  have hyl:(ys.map D.str).length=ys.length:=List.length_map ..
  have y1:1<=ys.length:=by rw [← hl]; exact Nat.le_add_left 1 _
  have yn:1<=n:=Nat.le_trans y1 hn
  refine⟨_,_,rfl,rfl,_,rfl,by rw [hyl]; exact Int.ofNat_le.mpr y1,by rw [hyl]; exact Int.ofNat_lt.mpr (Nat.lt_of_le_of_lt h1000 (by decide)),yn,fun r r0 r1=>?_⟩
  rw [hyl] at r1
  have hr:r.toNat<ys.length:=by clear hn h1000 yn y1; omega
  have hat:ys[r.toNat]?=some ys[r.toNat]:=List.getElem?_eq_getElem hr
  have hle:(ys.eraseIdx r.toNat).length=ys.length - 1:=by rw [List.length_eraseIdx,if_pos hr]
  refine⟨r.toNat,ys[r.toNat],by rw [Int.toNat_of_nonneg r0],hat,K0 ds _ _ _ (by rw [hle,← hl]; rfl) ((Hi hat).trans hp) (by rw [hle]; exact Nat.sub_le_sub_right hn 1) (by rw [hle]; exact Nat.le_trans (Nat.sub_le _ _) h1000) fun acc' ha=>?_⟩
  rw [hle,Nat.sub_sub,Nat.add_sub_cancel' y1]
  exact h acc' ha
theorem QQ(x y:Str):cs x<cs y\/x=y\/cs y<cs x:=by
 by_cases h1:cs x<cs y
 ·exact .inl h1
 by_cases h2:cs y<cs x
 ·exact .inr (.inr h2)
 exact .inr (.inl (QR (List.le_antisymm (as:=cs x) (bs:=cs y) h2 h1)))
noncomputable def RA(x y:Str)(l:Int):Ap:=⟨if decide (cs y<cs x)=true then y else x,if decide (cs x<cs y)=true then y else x,l⟩
noncomputable def J9(k:Int):List (Nat×Nat×Int):=[(0,1,k),(1,2,k),(2,3,k),(3,4,k),(4,5,k),(0,2,3*k),(3,5,3*k),(1,4,4*k - 1),(0,5,4*k)]
noncomputable def Gm(ns:List Str)(p:Nat×Nat×Int):Ap:=RA (ns.getD p.1 "") (ns.getD p.2.1 "") p.2.2
theorem TC{x y:Str}(h:x≠y)(l:Int):((RA x y l).a=x/\(RA x y l).b=y\/(RA x y l).a=y/\(RA x y l).b=x)/\cs (RA x y l).a<cs (RA x y l).b:=by
 unfold RA
 rcases QQ x y with c | c | c
 ·have n:¬cs y<cs x:=fun z=>BV _ (List.lt_trans c z)
  rw [decide_eq_true c,decide_eq_false n]
  exact⟨.inl ⟨rfl,rfl⟩,c⟩
 ·exact absurd c h
 ·have n:¬cs x<cs y:=fun z=>BV _ (List.lt_trans c z)
  rw [decide_eq_true c,decide_eq_false n]
  exact⟨.inr ⟨rfl,rfl⟩,c⟩
theorem J8(k:Int):∀p∈J9 k,p.1<6/\p.2.1<6/\p.1≠p.2.1:=by
 intro p hp
 unfold J9 at hp
 simp only [List.mem_cons,List.not_mem_nil,or_false] at hp
 rcases hp with rfl | rfl | rfl | rfl | rfl | rfl | rfl | rfl | rfl <;> exact⟨by dsimp only; decide,by dsimp only; decide,by dsimp only; decide⟩
theorem RJ{k:Int}(h1:1<=k)(h2:k<=10):∀p∈J9 k,1<=p.2.2/\p.2.2<=1000000:=by
 intro p hp
 unfold J9 at hp
 simp only [List.mem_cons,List.not_mem_nil,or_false] at hp
 rcases hp with rfl | rfl | rfl | rfl | rfl | rfl | rfl | rfl | rfl <;> exact⟨by dsimp only; omega,by dsimp only; omega⟩
theorem RI(k:Int):(J9 k).Pairwise fun p q=>¬(p.1=q.1/\p.2.1=q.2.1)/\¬(p.1=q.2.1/\p.2.1=q.1):=by
 have h:([(0,1),(1,2),(2,3),(3,4),(4,5),(0,2),(3,5),(1,4),(0,5)]:List (Nat×Nat)).Pairwise fun p q=>¬(p.1=q.1/\p.2=q.2)/\¬(p.1=q.2/\p.2=q.1):=by decide
 exact List.pairwise_map.mp (show ((J9 k).map fun p=>(p.1,p.2.1)).Pairwise fun p q=>¬(p.1=q.1/\p.2=q.2)/\¬(p.1=q.2/\p.2=q.1) from h)
theorem Sr{ns:List Str}(hl:ns.length=6)(nd:ns.Nodup)(hn:∀x∈ns,Lk x){k:Int}(k1:1<=k)(k2:k<=10){ps:List Str}(hp:ps.Perm ns)(hr:rising ps){ts:List Ap}(ht:ts.Perm ((J9 k).map (Gm ns)))(hb:Ey ts):Net.Ok ⟨ps,ts⟩:=by
 have inj:∀i j,i<6->j<6->ns.getD i ""=ns.getD j ""->i=j:=fun i j hi hj e=>by
  have a1:=getD_at (xs:=ns) (i:=i) (by rw [hl]; exact hi)
  have a2:=getD_at (xs:=ns) (i:=j) (by rw [hl]; exact hj)
  rw [e] at a1
  obtain⟨b1,c1⟩:=List.getElem?_eq_some_iff.mp a1
  obtain⟨b2,c2⟩:=List.getElem?_eq_some_iff.mp a2
  exact(List.getElem_inj nd).mp (c1.trans c2.symm)
 have two:∀p∈J9 k,((Gm ns p).a=ns.getD p.1 ""/\(Gm ns p).b=ns.getD p.2.1 ""\/(Gm ns p).a=ns.getD p.2.1 ""/\(Gm ns p).b=ns.getD p.1 "")/\cs (Gm ns p).a<cs (Gm ns p).b:=fun p hp=>by
  obtain⟨i1,i2,i3⟩:=J8 k p hp
  exact TC (fun e=>i3 (inj _ _ i1 i2 e)) p.2.2
 refine⟨fun x hx=>hn x (hp.mem_iff.mp hx),hr,fun t h=>?_,LX hb ((ht.map ends).nodup_iff.mpr ?_)⟩
 ·obtain⟨p,hpi,rfl⟩:=List.mem_map.mp (ht.mem_iff.mp h)
  obtain⟨i1,i2,i3⟩:=J8 k p hpi
  obtain⟨l1,l2⟩:=RJ k1 k2 p hpi
  obtain⟨h1,h2⟩:=two p hpi
  have m1:ns.getD p.1 ""∈ps:=hp.mem_iff.mpr (getD_mem (by rw [hl]; exact i1))
  have m2:ns.getD p.2.1 ""∈ps:=hp.mem_iff.mpr (getD_mem (by rw [hl]; exact i2))
  refine⟨?_,?_,h2,l1,l2⟩
  ·rcases h1 with ⟨e,_⟩ | ⟨e,_⟩ <;> rw [e] <;> assumption
  ·rcases h1 with ⟨_,e⟩ | ⟨_,e⟩ <;> rw [e] <;> assumption
 ·rw [List.map_map]
  refine List.pairwise_map.mpr ((RI k).imp_of_mem fun {p q} hpi hqi ⟨n1,n2⟩ e=>?_)
  obtain⟨i1,i2,_⟩:=J8 k p hpi
  obtain⟨j1,j2,_⟩:=J8 k q hqi
  have ea:(Gm ns p).a=(Gm ns q).a:=congrArg Prod.fst e
  have eb:(Gm ns p).b=(Gm ns q).b:=congrArg Prod.snd e
  rcases (two p hpi).1 with ⟨a1,a2⟩ | ⟨a1,a2⟩ <;> rcases (two q hqi).1 with ⟨c1,c2⟩ | ⟨c1,c2⟩
  ·exact n1 ⟨inj _ _ i1 j1 (by rw [← a1,← c1,ea]),inj _ _ i2 j2 (by rw [← a2,← c2,eb])⟩
  ·exact n2 ⟨inj _ _ i1 j2 (by rw [← a1,← c1,ea]),inj _ _ i2 j1 (by rw [← a2,← c2,eb])⟩
  ·exact n2 ⟨inj _ _ i1 j2 (by rw [← a2,← c2,eb]),inj _ _ i2 j1 (by rw [← a1,← c1,ea])⟩
  ·exact n1 ⟨inj _ _ i1 j1 (by rw [← a2,← c2,eb]),inj _ _ i2 j2 (by rw [← a1,← c1,ea])⟩
section
variable {ss:List Slot}{n:Nat}{Pd:D->Nat->Prop}
theorem Jp(h:Eg ss n Pd):De (EE Pd) n (ss++List.replicate 9 .no):=by
 obtain⟨rfl,hn,p⟩:=h
 have szl:=PySem.sizeLine_eq
 unfold De
 refine⟨6,rfl,by decide,(by first | exact u0 | exact u1 | exact u2 | exact u3 | exact u4 | exact u5 | omega),fun xs hl hx hr=>?_⟩
 refine⟨xs,rfl,rfl,by omega,6,rfl,⟨by decide,by decide⟩,by rw [C2]; decide,?_⟩
 refine K0 (xs:=xs) _ _ _ _ (by rw [C2,hl]; rfl) (List.Perm.refl _) (by omega) (by omega) fun ns hp=>?_
 have nl:ns.length=6:=hp.length_eq.trans hl
 have nd:ns.Nodup:=hp.nodup_iff.mpr (Lz hr)
 have hns:∀x∈ns,Lk x:=fun x h=>hx x (hp.mem_iff.mp h)
 rw [hl]
 have e6:∃s a b c d t,ns=[s,a,b,c,d,t]:=by
  match ns,nl with
  | [s,a,b,c,d,t],_=>exact⟨s,a,b,c,d,t,rfl⟩
 obtain⟨s,a,b,c,d,t,rfl⟩:=e6
 refine⟨rfl,rfl,?_⟩
 refine⟨3,rfl,by decide,by decide,(by first | exact u0 | exact u1 | exact u2 | exact u3 | exact u4 | exact u5 | omega),fun q q0 q1=>?_⟩
 have cm:∀i:Int,CMul i (2+q):=fun i=>T9 (by omega) (by omega)
 refine⟨z3,z3,z3,z3,z3,cm _,z3,cm _,z3,(by rw [szl]; show 7<=16777216; decide),?_⟩
 refine⟨cm _,z3,cm _,z3,z2,(by rw [szl]; show 7+2<=16777216; decide),?_⟩
 refine⟨(by rw [szl]; show 6<=16777216; decide),_,[s,a,b,c,d,t],rfl,rfl,by show 6<64; decide,fun ss' hp' hs=>?_⟩
 refine⟨(by show 7+2<=10000000; decide),?_⟩
 refine B4 (fun d=>match d with | .tup [.str x,.str y,.int l]=>Aa (RA x y l) | _=>.non) (fun ρ=>∃s0 s1 s2,ρ=[s0,s1,s2]) _ _ _ _ ?_ ⟨_,_,_,rfl⟩ ?_
 ·rintro e he ρ m nx ⟨s0,s1,s2,rfl⟩ h1
  obtain⟨x,y,l,rfl⟩:∃(x y:Str) (l:Int),e=.tup [.str x,.str y,.int l]:=by
   simp only [List.cons_append,List.nil_append,List.mem_cons,List.not_mem_nil,or_false] at he
   rcases he with rfl | rfl | rfl | rfl | rfl | rfl | rfl | rfl | rfl <;> exact⟨_,_,_,rfl⟩
  exact⟨rfl,rfl,x,y,rfl,x,y,rfl,z3,h1 _ ⟨_,_,_,rfl⟩⟩
 ·dsimp only [AN]
  refine Do (ts:=(J9 (2+q)).map (Gm [s,a,b,c,d,t])) ?_ (by rw [List.length_map]; show 9<64; decide) ?_
  ·rfl
  intro ts' p1 p2
  refine⟨z2,?_⟩
  have ok:=Sr nl nd hns (k:=2+q) (by omega) (by omega) hp' (Er hs (hp'.nodup_iff.mpr nd)) p1 p2
  refine p ⟨ss',ts'⟩ _ ⟨ok,by show ss'.length<=25; rw [hp'.length_eq]; show 6<=25; decide,by show ts'.length<=60; rw [p1.length_eq,List.length_map]; show 9<=60; decide⟩ (by omega)
end
noncomputable def MU:Ab:=(Ag (D7 (A_ (Ak Bm (Af 2) (SY KD (Af 2) DD (GP (wC (D.int 1)))))) (Df 3 (AY (AW 3) (AY (AW 4) (AY (AW 5) B8)))) (Bq (GQ (Am (AR Di (AD (AK (AE 3)) (AD (AK (AE 4)) (AD (AK (AE 5)) AT)))))) (BA (wC (D.bl false))) BB))
 (Ag (Sb (SY KD (Ak Cj (Af 2) (AR A5 (AD (Ar 1) (AD (AK (wC (D.int 3))) AT)))) DD (GP (wC (D.int 2)))) (Df 2 (AY (AW 3) (AY (AW 4) B8))))
 (BA (Ak (QA false) (C1 Hw (AB (AR DN (AD (AK (AE 3)) (AD (AK (AE 4)) (AD (AK (wC (D.int 0))) AT)))) AN)) (C1 Hw (AB (AR Dh (AD (AK (AE 3)) (AD (AK (AE 4)) AT))) AN))))))
theorem L4:JS { nx:=fun _ _=>False,rt:=fun d _=>d=.bl true } 3000 (.no::.fd::List.replicate 4 .no):=by
 have szl:=PySem.sizeLine_eq
 unfold JS
 refine⟨6,9,rfl,by decide,by decide,by decide,by decide,by decide,fun N1 n1 ok1 l1 l2 l3 hn1=>?_⟩
 have hn1:2870<=n1:=hn1
 refine⟨rfl,u0,fun t1 b1 b11 b12 b13=>⟨2,rfl,by decide,by decide,u1,fun q1 q10 q11=>⟨z3,z1,?_⟩⟩⟩
 refine⟨_,rfl,rfl,rfl,u2,fun N2 n2 okn2 hn2=>?_⟩
 have hn2:2668<=n2:=v3 hn1 hn2
 clear hn1
 refine⟨rfl,u0,fun t2 b2 tm2=>⟨z3,_,_,rfl,rfl,(by rw [szl]; show 1+1<=16777216; decide),?_⟩⟩
 refine⟨_,rfl,rfl,rfl,u1,fun N3 n3 okn3 hn3=>?_⟩
 have hn3:2467<=n3:=v2 hn2 hn3
 clear hn2
 refine⟨rfl,u0,fun t3 b3 tm3=>⟨z3,_,_,rfl,rfl,(by rw [szl]; show 2+1<=16777216; decide),?_⟩⟩
 refine⟨_,rfl,rfl,rfl,u1,fun N4 n4 okn4 hn4=>?_⟩
 have hn4:2266<=n4:=v2 hn3 hn4
 clear hn3
 refine⟨z2,z3,_,_,rfl,rfl,(by rw [szl]; show 3+1<=16777216; decide),?_⟩
 have okn1:okN N1:=⟨ok1,Nat.le_trans l2 (by decide),Nat.le_trans l3 (by decide)⟩
 have tm1:Ja t1 b1:=⟨b11,Int.le_trans b12 b13,Int.le_trans b11 b12,b13⟩
 have m1e:∃m1:Nat,(1+q1:Int)=(m1:Int)/\1<=m1/\m1<=2:=⟨(1+q1).toNat,by omega⟩
 obtain⟨m1,em1,m11,m12⟩:=m1e
 rw [em1]
 clear em1 q10 q11 q1 l1 l2 l3 b11 b12 b13
 have fin:∀(m:Nat) (L:List D),2<=m->4<=L.length->L.length<=5->(∀d∈L,∃(N:Net) (t b:Int) (m:Nat),d=.tup [enc N,.tup [.int t,.int b],.int (m:Int)]/\okN N/\Ja t b/\1<=m/\m<=2)->MU { nx:=fun _ _=>False,rt:=fun d _=>d=.bl true } m [.no,.fd,.ow (.lst L),.no,.no,.no]:=by
  intro m L hm h4 h5 hL
  obtain⟨c1,c2⟩:=QP L none (some 1)
  refine⟨(by rw [szl]; omega),?_⟩
  refine JC (fun k m' ρ=>m'=m/\∃s3 s4 s5,ρ=[.no,.fd,.ow (.lst L),s3,s4,s5]) ?_ _ _ _ ?_ ⟨rfl,_,_,_,rfl⟩
  ·rintro m' ρ ⟨rfl,s3,s4,s5,rfl⟩
   refine⟨3,rfl,by decide,by decide,u0,fun q q0 q1=>?_⟩
   have hq:q.toNat<L.length:=by clear h5 hm c2; omega
   obtain⟨N,t,b,m,e,okn,tm,m1,m2⟩:=hL _ (List.getElem_mem hq)
   obtain⟨j,rfl⟩:∃j:Nat,q=(j:Int):=⟨q.toNat,(Int.toNat_of_nonneg q0).symm⟩
   refine⟨_,Aj (j:=j) (List.getElem?_eq_getElem hq),?_⟩
   rw [e]
   have ec:Dp.cutD [enc N,.tup [.int t,.int b],.int (m:Int)] none (some 2)=[enc N,.tup [.int t,.int b]]:=Tl _ 2
   dsimp only [DD,GP,wC,KD]
   rw [ec]
   refine⟨rfl,rfl,N,t,b,0,rfl,okn,tm,by decide,fun ord o1 o2=>⟨_,rfl,FK (Dl okn _),N,t,b,rfl,okn,tm.1,tm.2.1,tm.2.2.1,tm.2.2.2,fun ord' o1' o2'=>?_⟩⟩
   have e:=GU (o1'.trans o1.symm) o2' o2
   subst e
   rw [E_]
   refine⟨_,rfl,FK (Dl okn _),?_⟩
   generalize Jd (enc (sub N (Dy N t b [] ord')))=X
   show D.bl (X==X)=.bl true
   rw [beq_self_eq_true]
  ·rintro k d m' ρ nx hd ⟨rfl,s3,s4,s5,rfl⟩ hnx
   obtain⟨N,t,b,m,rfl,okn,tm,m1,m2⟩:=hL d (by
    rcases List.mem_append.mp hd with h | h
    ·exact h
    ·exact c1 d h)
   refine⟨rfl,rfl,N,t,b,m,rfl,okn,tm,m1,m2,?_⟩
   exact hnx _ _ ⟨rfl,_,_,_,rfl⟩
 refine⟨8,rfl,by decide,by decide,u0,fun q2 q20 q21=>EK (fun _=>?_) fun _=>?_⟩
 ·refine⟨_,rfl,rfl,8,14,rfl,by decide,by decide,by decide,by decide,u1,fun N5 n5 ok5 l51 l52 l53 hn5=>?_⟩
  have hn5:2135<=n5:=v2 hn4 hn5
  refine⟨rfl,u0,fun t5 b5 tm5=>⟨z3,_,_,rfl,rfl,(by rw [szl]; show 4+1<=16777216; decide),?_⟩⟩
  refine fin _ _ u1 (by show 4<=5; decide) (by show 5<=5; decide) fun d hd=>?_
  simp only [List.cons_append,List.nil_append,List.mem_cons,List.not_mem_nil,or_false] at hd
  rcases hd with rfl | rfl | rfl | rfl | rfl
  ·exact⟨N1,t1,b1,m1,rfl,okn1,tm1,m11,m12⟩
  ·exact⟨N2,t2,b2,2,rfl,okn2,tm2,by decide,by decide⟩
  ·exact⟨N3,t3,b3,1,rfl,okn3,tm3,by decide,by decide⟩
  ·exact⟨N4,3,2,1,rfl,okn4,⟨by decide,by decide,by decide,by decide⟩,by decide,by decide⟩
  ·exact⟨N5,t5,b5,1,rfl,⟨ok5,Nat.le_trans l52 (by decide),Nat.le_trans l53 (by decide)⟩,tm5,by decide,by decide⟩
 ·refine fin _ _ u1 (by show 4<=4; decide) (by show 4<=5; decide) fun d hd=>?_
  simp only [List.cons_append,List.nil_append,List.mem_cons,List.not_mem_nil,or_false] at hd
  rcases hd with rfl | rfl | rfl | rfl
  ·exact⟨N1,t1,b1,m1,rfl,okn1,tm1,m11,m12⟩
  ·exact⟨N2,t2,b2,2,rfl,okn2,tm2,by decide,by decide⟩
  ·exact⟨N3,t3,b3,1,rfl,okn3,tm3,by decide,by decide⟩
  ·exact⟨N4,3,2,1,rfl,okn4,⟨by decide,by decide,by decide,by decide⟩,by decide,by decide⟩
end Nt
namespace K40
open PySem PySem.Spec PyProof.Rows L2 Dp Nt
section
variable {P:Program}{w:World}{K:Frag}{mg:Str->Option Value}{base:Heap}
theorem Ly:Ae ["tie"] ["tie"] (AH Cv):=by constructor <;> first | rfl | decide +kernel
theorem MG{f:Addr}{fd:FuncData}(T:Txt K mg)(F:Fun K "rank_of" "rank_of" Cv f fd):BG P w K mg base C0 1 f fd ["tie"] (EB K .sh Lh 1):=by
 exact FX F Ly (by decide) (fun cdv A outer s H E hr=>(AL (Ai (AX (AA (A8 An Bj (dv 0) AF) (AA (A8 An Bj (dv 0) AF) (AA (A8 An Bj (dv 0) AF) AI))))))) (fun ss n Pd hl hw=>L3 hw)
theorem Ku:Ae ["ties"] ["ties"] (AH CS):=by constructor <;> first | rfl | decide +kernel
theorem K8{f:Addr}{fd:FuncData}(T:Txt K mg)(G_rank_of:Got P w K mg base "rank_of" 1 ["tie"] .sh Lh)(F:Fun K "order_of" "order_of" CS f fd):BG P w K mg base C0 4 f fd ["ties"] (EB K .fr Cd 1):=by
 exact FX F Ku (by decide) (fun cdv A outer s H E hr=>(AL (Ai (QM G_rank_of (hr.mono (by decide)) rfl T.n_sorted rfl (dv 0))))) (fun ss n Pd hl hw=>Kx hw)
theorem sc_steps_of:Ae ["net","steps","place","a","b","length"] ["net"] (AH CQ):=⟨rfl,rfl,rfl,by decide +kernel,rfl,by decide +kernel,by decide +kernel⟩
theorem K7{f:Addr}{fd:FuncData}(F:Fun K "steps_of" "steps_of" CQ f fd):BG P w K mg base C0 1 f fd ["net"] (EB K .sh Ec 1):=by
 refine F.ok (k:=0) sc_steps_of (fun vs H Q E h=>h.1) (fun cdv A outer s H vs Q E hr h=>?_)
 obtain⟨hl,F0,U,V',M,n,ss,Pd,ra,⟨N,rfl,ok,lp,lt,p⟩,q⟩:=h
 obtain⟨dom,fU,uV,vM,fd0,pa⟩:=ra
 cases pa with
 | cons r1 pa =>
 cases pa
 obtain⟨v,e1,h1⟩:=r1.1
 cases e1
 obtain⟨an,vs,rfl,hn,v1,r,rfl,hp,v2,r2,rfl,ht,e2⟩:=h1
 cases (show r2=[] from e2)
 obtain⟨ap,us,rfl,hpn,hps⟩:=hp
 obtain⟨at_,ws,rfl,htn,hts⟩:=ht
 have nd:=sc_steps_of.nd
 have hu:=Hs hr
 have szl:=PySem.sizeLine_eq
 have lus:us.length=N.ps.length:=by rw [hps.length,List.length_map]
 have lws:ws.length=N.ts.length:=by rw [hts.length,List.length_map]
 refine⟨_,BF (EC (i:=1) nd rfl (Or.inl rfl) K4)
  (BF (Jr PassesOwn.never rfl (PY (Dv ix_tup (pv 0) Au (fun _ _=>rfl))) (Ej (i:=2) nd rfl (Or.inl rfl)) (DJ (Gz hu (pv 1) (pv 2) K4 rfl)))
  (BF (Jr PassesOwn.never rfl (PY (Dv ix_tup (pv 0) Au (fun _ _=>rfl))) (Pa rfl (FO (Ej (i:=3) nd rfl (Or.inl rfl)) (FO (Ej (i:=4) nd rfl (Or.inl rfl)) (FO (Ej (i:=5) nd rfl (Or.inl rfl)) Mv))))
   (BF (Gz hu (Ju hu (pv 1) (pv 3) (fun _ _=>rfl)) (pv 4) (pv 5) rfl) (DJ (Gz hu (Ju hu (pv 1) (pv 4) (fun _ _=>rfl)) (pv 3) (pv 5) rfl))))
  (DJ (E6 (S6 (pv 1)))))),?_⟩
 refine fun d hd=>?_
 have old0:∀b o,H b=some o->A9 H d (.dK []) b=some o:=fun b o e=>by rw [AQ (Al e hd)]; exact e
 have SqN:∀H':Hp,(∀b o,H b=some o->H' b=some o)->SqT K H' an [.ref ap,.ref at_]:=fun H' o=>SqT.of (o _ _ hn.2)
 have SqP:∀H':Hp,(∀b o,H b=some o->H' b=some o)->SqT K H' ap us:=fun H' o=>SqT.of (o _ _ hpn.2)
 have SqW:∀H':Hp,(∀b o,H b=some o->H' b=some o)->SqT K H' at_ ws:=fun H' o=>SqT.of (o _ _ htn.2)
 refine⟨_,rfl,an,_,0,_,rfl,rfl,SqN _ old0,rfl,ap,rfl,⟨_,SqP _ old0⟩,?_⟩
 refine NF (xs:=us) (fun i σ H'=>∃(as:List (Str×Addr)) (x2 x3 x4 x5:Option V),σ=[some (.ref an),some (.ref d),x2,x3,x4,x5]/\as.map (·.1)=N.ps.take i/\Stp H d as (fun _=>[]) H') ?_ (fun i σ H' hi ⟨as,x2,x3,x4,x5,e,hm,st⟩=>SqP _ st.old) ?_ ?_
 ·exact⟨[],_,_,_,_,rfl,rfl,old0,hd,AV,(fun x hx=>by cases hx),List.nodup_nil,List.nodup_nil⟩
 ·rintro i x σ H' hx ⟨as,x2,x3,x4,x5,rfl,hm,st⟩
  have hi:i<N.ps.length:=by rw [← lus]; exact(List.getElem?_eq_some_iff.mp hx).1
  obtain⟨x',hx',hAt⟩:=hps.get (i:=i) (d:=.str N.ps[i]) (by rw [List.getElem?_map,List.getElem?_eq_getElem hi]; rfl)
  rw [hx] at hx'
  cases hx'
  obtain⟨rfl,_⟩:=hAt
  intro q hq
  have las:as.length<=i:=by have:=congrArg List.length hm; rw [List.length_map,List.length_take] at this; omega
  have nq:d≠q:=fun e=>by rw [← e,st.top] at hq; cases hq
  have las2:(as.map fun x=>((.inr x.1:Key),V.ref x.2)).length=as.length:=List.length_map ..
  refine⟨_,rfl,_,rfl,d,_,rfl,DPut.k (k:=.inr N.ps[i]) (by rw [AQ nq]; exact st.top) (by omega),?_⟩
  refine⟨as++[(N.ps[i],q)],_,_,_,_,rfl,?_,st.more hq ?_ rfl⟩
  ·rw [List.map_append,hm,List.take_succ,List.getElem?_eq_getElem hi]; rfl
  ·rw [hm]; exact MH (Ji ok.rise) hi
 ·rintro σ H' ⟨as,x2,x3,x4,x5,rfl,hm,st⟩
  rw [lus,List.take_length] at hm
  refine⟨_,rfl,an,_,1,_,rfl,rfl,SqN _ st.old,rfl,at_,rfl,⟨_,SqW _ st.old⟩,?_⟩
  refine NF (xs:=ws) (fun i σ H'=>∃(x2 x3 x4 x5:Option V),σ=[some (.ref an),some (.ref d),x2,x3,x4,x5]/\Stp H d as (fun p=>(DB (N.ts.take i) p).map kv) H') ⟨_,_,_,_,rfl,st⟩ (fun i σ H' hi ⟨x2,x3,x4,x5,e,st⟩=>SqW _ st.old) ?_ ?_
  ·rintro i x σ H' hx ⟨x2,x3,x4,x5,rfl,st⟩
   have hi:i<N.ts.length:=by rw [← lws]; exact(List.getElem?_eq_some_iff.mp hx).1
   obtain⟨x',hx',hAt⟩:=hts.get (i:=i) (d:=Aa N.ts[i]) (by rw [List.getElem?_map,List.getElem?_eq_getElem hi]; rfl)
   rw [hx] at hx'
   cases hx'
   have hmem:N.ts[i]∈N.ts:=List.getElem_mem hi
   have hsnoc:N.ts.take (i+1)=N.ts.take i++[N.ts[i]]:=by rw [List.take_succ,List.getElem?_eq_getElem hi]; rfl
   have hpre:(N.ts.take (i+1)).Pairwise B6:=ok.trise.sublist (List.take_sublist _ _)
   have hlt2:∀s∈N.ts.take (i+1),cs s.a<cs s.b:=fun s hs=>(ok.tin s (List.mem_of_mem_take hs)).2.2.1
   rw [hsnoc] at hpre hlt2
   have new:=QC hpre hlt2
   have ltk:(N.ts.take i).length<=1000:=by rw [List.length_take]; omega
   generalize N.ts[i]=t at hAt hmem hsnoc new
   generalize N.ts.take i=ts at hsnoc new st ltk
   obtain⟨m1,m2,m3,_⟩:=ok.tin t hmem
   have hab:t.a≠t.b:=fun e=>by rw [e] at m3; exact List.lt_irrefl _ m3
   obtain⟨ta,tb,tl⟩:=t
   obtain⟨tt,us3,rfl,htt,hit⟩:=hAt
   obtain⟨va,r3,rfl,⟨rfl,_⟩,vb,r4,rfl,⟨rfl,_⟩,vl,r5,rfl,rfl,e5⟩:=hit
   cases (show r5=[] from e5)
   rw [← hm] at m1 m2
   obtain⟨⟨xa,pa⟩,ha,ea⟩:=List.mem_map.mp m1
   obtain⟨⟨xb,pb⟩,hb,eb⟩:=List.mem_map.mp m2
   have ea':ta=xa:=ea.symm
   have eb':tb=xb:=eb.symm
   subst ea' eb'
   clear ea eb
   replace hab:ta≠tb:=hab
   replace new:tb∉(DB ts ta).map (·.1)/\ta∉(DB ts tb).map (·.1):=new
   have ga:=DGet.k (k:=.inr ta) st.top
   rw [Gw st.nms ha] at ga
   have l1:=M7 ts ta
   refine⟨tt,_,rfl,SqT.of (st.old _ _ htt.2),rfl,_,_,rfl,_,_,rfl,_,_,rfl,rfl,?_⟩
   refine⟨_,rfl,_,rfl,_,rfl,d,_,rfl,ga,_,rfl,pa,_,rfl,DPut.k (k:=.inr tb) (st.inn _ ha).2.2 (by show ((DB ts ta).map kv).length<sizeLine; rw [List.length_map]; omega),?_⟩
   have st1:=st.put (tb2:=fun p=>(DB ts p++if ta=p then [(tb,tl)] else []).map kv) ha (kvs:=putK ((DB ts ta).map kv) (.inr tb) (.int tl)) (by rw [Mr new.1,if_pos rfl]) (fun q hq=>by rw [if_neg (Ne.symm hq),List.append_nil])
   have gb:=DGet.k (k:=.inr tb) st1.top
   rw [Gw st1.nms hb] at gb
   have l2:=M7 ts tb
   have ib:=(st1.inn _ hb).2.2
   simp only [if_neg hab,List.append_nil] at ib
   refine⟨_,rfl,_,rfl,_,rfl,d,_,rfl,gb,_,rfl,pb,_,rfl,DPut.k (k:=.inr ta) ib (by rw [List.length_map]; omega),?_⟩
   refine⟨_,_,_,_,rfl,st1.put hb ?_ fun q hq=>?_⟩
   ·show (DB (N.ts.take (i+1)) tb).map kv=_
    rw [hsnoc,LB,Mr new.2]
    show ((DB ts tb++((if ta=tb then [(tb,tl)] else [])++if tb=tb then [(ta,tl)] else [])).map kv)=_
    rw [if_neg hab,if_pos rfl]; rfl
   ·show (DB (N.ts.take (i+1)) q).map kv=_
    rw [hsnoc,LB]
    show ((DB ts q++((if ta=q then [(tb,tl)] else [])++if tb=q then [(ta,tl)] else [])).map kv)=_
    rw [if_neg (Ne.symm hq),List.append_nil]
  ·rintro σ H' ⟨x2,x3,x4,x5,rfl,st⟩
   rw [lws,List.take_length] at st
   have old:∀(f:Addr->Obj) b o,H b=some o->GG H' (as.map (·.2)) f b=some o:=fun f b o e=>by
    rw [FW (fun hm=>by obtain⟨x,hx,e2⟩:=List.mem_map.mp hm; have:=(st.inn x hx).1; rw [e2,e] at this; cases this)]
    exact st.old b o e
   refine⟨_,rfl,(as.map fun(x:Str×Addr)=>x.2),fun b hb=>?_,fun f=>q (.ref d) (GG H' (as.map fun(x:Str×Addr)=>x.2) f) (Dn N) n (fun b o e=>⟨o,old f b o e,fun _=>rfl⟩) (fun g hg=>?_) (show At K M (GG H' (as.map fun(x:Str×Addr)=>x.2) f) (Dn N) (.ref d) from st.at_ dom hm f) p⟩
   ·obtain⟨x,hx,rfl⟩:=List.mem_map.mp hb
    exact⟨_,(st.inn x hx).2.2⟩
   ·obtain⟨a,r,cells,hf,hcf,hc,rest⟩:=fd0 g hg
    exact⟨a,r,cells,old f _ _ hf,hcf,⟨hc.1,old f _ _ hc.2⟩,rest⟩
theorem Qu:Ae ["net","ties"] ["net","ties"] (AH Fv):=by constructor <;> first | rfl | decide +kernel
theorem Q5{f:Addr}{fd:FuncData}(T:Txt K mg)(F:Fun K "only" "only" Fv f fd):BG P w K mg base C0 1 f fd ["net","ties"] (EB K .sh CB 2):=by
 exact FX F Qu (by decide) (fun cdv A outer s H E hr=>(AL (Ai (AX (AA (A8 An Bj (dv 0) AF) (AA (CI BO DA rfl T.n_tuple boot_tuple (AS (Ao Cb En rfl T.n_sorted boot_sorted (AS (EN 1) Ac)) Ac)) AI)))))) (fun ss n Pd hl hw=>Nl hw)
theorem Lx:Ae ["net","ties"] ["net","ties"] (AH Ct):=by constructor <;> first | rfl | decide +kernel
theorem ME{f:Addr}{fd:FuncData}(T:Txt K mg)(G_only:Got P w K mg base "only" 1 ["net","ties"] .sh CB)(F:Fun K "without" "without" Ct f fd):BG P w K mg base C0 2 f fd ["net","ties"] (EB K .sh Dg 2):=by
 exact FX F Lx (by decide) (fun cdv A outer s H E hr=>(AL (Ai (AJ G_only (hr.mono (by decide)) rfl (AC (AO (dv 0)) (AC (Ex (B_ rfl [("ties" : Str),("tie" : Str)] [some 1,none] (Cs (A8 An Bj (dv 0) AF)) (fun _ _ _ _ _=>(AU (i:=1) (show List.Nodup [("ties" : Str),("tie" : Str)] by decide +kernel) rfl (Or.inl rfl))) (fun _ _ _ _ _=>(KQ (A0 (I0 hr) SQ (dv 1) (dv 0) (by with_unfolding_all rfl)))) (fun _ _ _ _ _=>(dv 1)) (by kernel_rfl))) AM)))))) (fun ss n Pd hl hw=>Jj hw)
theorem sc_length_of:Ae ["net","thing","steps","length","here","there"] ["net","thing"] (AH CD):=by constructor <;> first | rfl | decide +kernel
theorem Jx{f:Addr}{fd:FuncData}(T:Txt K mg)(G_steps_of:Got P w K mg base "steps_of" 1 ["net"] .sh Ec)(F:Fun K "length_of" "length_of" CD f fd):BG P w K mg base C0 2 f fd ["net","thing"] (EB K .sh Qd 2):=by
 exact FX F sc_length_of (by decide) (fun cdv A outer s H E hr=>(AG (BU (DTW.dt (QG (Hz (GI (QO kit_tuple (dv 1) rfl T.n_isinstance rfl T.n_tuple (by decide +kernel)))) (MR (A0 GW Lg (Ao C8 Le rfl T.n_len PySem.boot_len (AS (dv 1) Ac)) AF (Av _))))) (AL (Ai BI)) As)
 (AG (BU (Hz (GI (Ao (QT rfl) U2 rfl T.n_all PyProof.Rows.boot_all (AS (B_ rfl [("place" : Str)] [none] (Cs (dv 1)) (fun _ _ _ _ _=>(AU (i:=0) (show List.Nodup [("place" : Str)] by decide +kernel) rfl (Or.inl rfl))) (fun _ _ _ _ _=>Cr) (fun _ _ _ _ _=>(QO RD (dv 0) rfl T.n_isinstance rfl T.n_str (by decide +kernel))) (by kernel_rfl)) Ac)))) (AL (Ai BI)) As)
 (AG (Aq (i:=2) sc_length_of.nd rfl (Or.inl rfl) (AJ G_steps_of (hr.mono (by decide)) rfl (AC (AO (dv 0)) AM)))
 (AG (BU (A0 (Ek hr) Fk (A8 An Bj (dv 1) AF) (dv 2) (by with_unfolding_all rfl)) (AL (Ai BI)) As)
 (AG (Aq (i:=3) sc_length_of.nd rfl (Or.inl rfl) AF)
 (AG (CA PassesOwn.never rfl (Tf rfl T.n_zip (AA (dv 1) (AA (NO Qs NX (dv 1) (G1 AF) G2) AI))) (DU rfl (Ah (AU (i:=4) sc_length_of.nd rfl (Or.inl rfl)) (Ah (AU (i:=5) sc_length_of.nd rfl (Or.inl rfl)) CM))) (AG (BU (A0 (Ek hr) Fk (dv 5) (B9 hr (dv 2) (dv 4)) (by with_unfolding_all rfl)) (AL (Ai BI)) As)
 (AL (RX (i:=3) sc_length_of.nd rfl (Or.inl rfl) (B9 hr (B9 hr (dv 2) (dv 4)) (dv 5))))))
 (AL (Ai (dv 3)))))))))) (fun ss n Pd hl hw=>Jm hw)
theorem sc_ties_over:Ae ["net","way","steps"] ["net","way"] (AH CC):=by constructor <;> first | rfl | decide +kernel
theorem Jw{f:Addr}{fd:FuncData}(T:Txt K mg)(G_steps_of:Got P w K mg base "steps_of" 1 ["net"] .sh Ec)(F:Fun K "ties_over" "ties_over" CC f fd):BG P w K mg base C0 2 f fd ["net","way"] (EB K .fr IK 2):=by
 exact FX F sc_ties_over (by decide) (fun cdv A outer s H E hr=>(AG (Aq (i:=2) sc_ties_over.nd rfl (Or.inr rfl) (AJ G_steps_of (hr.mono (by decide)) rfl (AC (AO (dv 0)) AM)))
 (AL (Ai (B_ rfl [("steps" : Str),("here" : Str),("there" : Str)] [some 2,none,none] (RY rfl T.n_zip (AS (dv 1) (AS (NO Qs NX (dv 1) (G1 AF) G2) Ac))) (fun _ _ _ _ _=>(DU rfl (Ah (AU (i:=1) (show List.Nodup [("steps" : Str),("here" : Str),("there" : Str)] by decide +kernel) rfl (Or.inl rfl)) (Ah (AU (i:=2) (show List.Nodup [("steps" : Str),("here" : Str),("there" : Str)] by decide +kernel) rfl (Or.inl rfl)) CM)))) (fun _ _ _ _ _=>Cr) (fun _ _ _ _ _=>(AX (AA (Ao (JL rfl) QY rfl T.n_min boot_min (AS (dv 1) (AS (dv 2) Ac))) (AA (Ao (JM rfl) QZ rfl T.n_max boot_max (AS (dv 1) (AS (dv 2) Ac))) (AA (B9 hr (B9 hr (dv 0) (dv 1)) (dv 2)) AI))))) (by kernel_rfl)))))) (fun ss n Pd hl hw=>HQ hw)
theorem IN:Ae ["waiting","found"] ["waiting","found"] (AH Bu):=by constructor <;> first | rfl | decide +kernel
theorem IV{f:Addr}{fd:FuncData}(T:Txt K mg)(F:Fun K "nearest_of" "nearest_of" Bu f fd):BG P w K mg base C0 1 f fd ["waiting","found"] (EB K .sh Li 2):=by
 exact FX F IN (by decide) (fun cdv A outer s H E hr=>(AL (Ai (A8 An Bj (Ao (OZ hr) Ts rfl T.n_min boot_min (AS (B_ rfl [("found" : Str),("place" : Str)] [some 1,none] (Cs (EN 0)) (fun _ _ _ _ _=>(AU (i:=1) (show List.Nodup [("found" : Str),("place" : Str)] by decide +kernel) rfl (Or.inl rfl))) (fun _ _ _ _ _=>Cr) (fun _ _ _ _ _=>(AX (AA (A8 An Bj (B9 hr (EN 0) (dv 1)) AF) (AA (dv 1) AI)))) (by kernel_rfl)) Ac)) AF)))) (fun ss n Pd hl hw=>IQ hw)
theorem sc_least_ways:Ae ["net","start","steps","found","waiting","place","other","step","length"] ["net","start"] (AH Bv):=by constructor <;> first | rfl | decide +kernel
theorem IW{f:Addr}{fd:FuncData}(T:Txt K mg)(G_nearest_of:Got P w K mg base "nearest_of" 1 ["waiting","found"] .sh Li)(G_steps_of:Got P w K mg base "steps_of" 1 ["net"] .sh Ec)(F:Fun K "least_ways" "least_ways" Bv f fd):BG P w K mg base C0 2 f fd ["net","start"] (EB K .fr IL 2):=by
 exact FX F sc_least_ways (by decide) (fun cdv A outer s H E hr=>(AG (Aq (i:=2) sc_least_ways.nd rfl (Or.inl rfl) (AJ G_steps_of (hr.mono (by decide)) rfl (AC (AO (dv 0)) AM)))
 (AG (Bn (i:=3) sc_least_ways.nd rfl (Or.inl rfl) (LP (dv 1) (AX (AA AF (AA BI AI)))))
 (AG (Bn (i:=4) sc_least_ways.nd rfl (Or.inl rfl) (A2 (AA (dv 1) AI)))
 (AG (H_ PassesOwn.never (Td (EN 4)) (AG (Aq (i:=5) sc_least_ways.nd rfl (Or.inl rfl) (AJ G_nearest_of (hr.mono (by decide)) rfl (AC (Ex (EN 4)) (AC (Ex (EN 3)) AM))))
 (AG (DL 4 PySem.F.plainAttrs_list PySem.F.slot_list_remove PySem.F.type_list_remove (OA hr) U0 (pv 4) (AA (dv 5) AI))
 (AL (CA PassesOwn.never rfl (QK (B9 hr (dv 2) (dv 5))) (DU rfl (Ah (AU (i:=6) sc_least_ways.nd rfl (Or.inl rfl)) (Ah (AU (i:=7) sc_least_ways.nd rfl (Or.inl rfl)) CM))) (AG (Aq (i:=8) sc_least_ways.nd rfl (Or.inl rfl) (Ay BL Bt (A8 An Bj (B9 hr (EN 3) (dv 5)) AF) (dv 7)))
 (AL (BU (A0 (Ek hr) Fk (dv 6) (EN 3) (by with_unfolding_all rfl)) (AG (DL 4 PySem.F.plainAttrs_list PySem.F.slot_list_append PySem.F.type_list_append BK Ea (pv 4) (AA (dv 6) AI))
 (AL (KP (i:=3) hr (pv 3) (dv 6) (AX (AA (dv 8) (AA (dv 5) AI)))))) (AL (BU (A0 (HZ hr) Ld (dv 8) (A8 An Bj (B9 hr (EN 3) (dv 6)) AF) (Av _)) (AL (KP (i:=3) hr (pv 3) (dv 6) (AX (AA (dv 8) (AA (dv 5) AI))))) As))))))))))
 (AL (KO 3 (pv 3)))))))) (fun ss n Pd hl hw=>IS hw)
theorem sc_way_of:Ae ["net","a","b","found","way","place"] ["net","a","b"] (AH DX):=by constructor <;> first | rfl | decide +kernel
theorem Ny{f:Addr}{fd:FuncData}(T:Txt K mg)(G_least_ways:Got P w K mg base "least_ways" 2 ["net","start"] .fr IL)(F:Fun K "way_of" "way_of" DX f fd):BG P w K mg base C0 3 f fd ["net","a","b"] (EB K .sh Qc 3):=by
 exact FX F sc_way_of (by decide) (fun cdv A outer s H E hr=>(AG (Aq (i:=3) sc_way_of.nd rfl (Or.inl rfl) (AJ G_least_ways (hr.mono (by decide)) rfl (AC (AO (dv 0)) (AC (AO (dv 1)) AM))))
 (AG (BU (A0 (Ek hr) Fk (dv 2) (dv 3) (by with_unfolding_all rfl)) (AL (Ai BI)) As)
 (AG (Bn (i:=4) sc_way_of.nd rfl (Or.inl rfl) (A2 AI))
 (AG (Aq (i:=5) sc_way_of.nd rfl (Or.inl rfl) (dv 2))
 (AG (H_ PassesOwn.never (A0 FQ IJ (dv 5) BI (Av _)) (AG (DL 4 PySem.F.plainAttrs_list PySem.F.slot_list_append PySem.F.type_list_append BK Ea (pv 4) (AA (dv 5) AI))
 (AL (Aq (i:=5) sc_way_of.nd rfl (Or.inl rfl) (A8 An Bj (B9 hr (dv 3) (dv 5)) AF)))))
 (AL (Ai (OS rfl (EN 4) rfl T.n_tuple rfl T.n_reversed))))))))) (fun ss n Pd hl hw=>Nk hw)
theorem Jg:Ae ["length","times","number"] ["length","times","number"] (AH CF):=by constructor <;> first | rfl | decide +kernel
theorem Jy{f:Addr}{fd:FuncData}(T:Txt K mg)(F:Fun K "is_within" "is_within" CF f fd):BG P w K mg base C0 1 f fd ["length","times","number"] (EB K .sh CO 3):=by
 exact FX F Jg (by decide) (fun cdv A outer s H E hr=>(AL (Ai (KS Pj SO (Ay Cq Du (dv 0) (A8 An Bj (dv 1) AF)) (Ay Cq Du (dv 2) (A8 An Bj (dv 1) AF)) (Av _))))) (fun ss n Pd hl hw=>Jo hw)
theorem sc_near_way:Ae ["net","times","tie","way"] ["net","times","tie"] (AH CT):=by constructor <;> first | rfl | decide +kernel
theorem K9{f:Addr}{fd:FuncData}(T:Txt K mg)(G_is_within:Got P w K mg base "is_within" 1 ["length","times","number"] .sh CO)(G_length_of:Got P w K mg base "length_of" 2 ["net","thing"] .sh Qd)(G_way_of:Got P w K mg base "way_of" 3 ["net","a","b"] .sh Qc)(F:Fun K "near_way" "near_way" CT f fd):BG P w K mg base C0 4 f fd ["net","times","tie"] (EB K .sh Ee 3):=by
 exact FX F sc_near_way (by decide) (fun cdv A outer s H E hr=>(AG (Aq (i:=3) sc_near_way.nd rfl (Or.inl rfl) (AJ G_way_of (hr.mono (by decide)) rfl (AC (AO (dv 0)) (AC (AO (A8 An Bj (dv 2) AF)) (AC (AO (A8 An Bj (dv 2) AF)) AM)))))
 (AG (BU (DTW.dt (QG (A0 Hb Lf (dv 3) BI (Av _)) (MR (Hz (GI (AJ G_is_within (hr.mono (by decide)) rfl (AC (AO (AJ G_length_of (hr.mono (by decide)) rfl (AC (AO (dv 0)) (AC (AO (dv 3)) AM)))) (AC (AO (dv 1)) (AC (AO (A8 An Bj (dv 2) AF)) AM))))))))) (AL (Ai BI)) As)
 (AL (Ai (dv 3)))))) (fun ss n Pd hl hw=>IR hw)
theorem sc_thinned:Ae ["net","times","kept","tie"] ["net","times"] (AH Cu):=by constructor <;> first | rfl | decide +kernel
theorem MF{f:Addr}{fd:FuncData}(T:Txt K mg)(G_near_way:Got P w K mg base "near_way" 4 ["net","times","tie"] .sh Ee)(G_only:Got P w K mg base "only" 1 ["net","ties"] .sh CB)(G_order_of:Got P w K mg base "order_of" 4 ["ties"] .fr Cd)(F:Fun K "thinned" "thinned" Cu f fd):BG P w K mg base C0 5 f fd ["net","times"] (EB K .sh Dh 2):=by
 exact FX F sc_thinned (by decide) (fun cdv A outer s H E hr=>(AG (Bn (i:=2) sc_thinned.nd rfl (Or.inl rfl) (A2 AI))
 (AG (CA PassesOwn.never rfl (C7 (AJ G_order_of (hr.mono (by decide)) rfl (AC (AO (A8 An Bj (dv 0) AF)) AM))) (AU (i:=3) sc_thinned.nd rfl (Or.inl rfl)) (AL (BU (A0 Hb Lf (AJ G_near_way (hr.mono (by decide)) rfl (AC (AO (AJ G_only (hr.mono (by decide)) rfl (AC (AO (dv 0)) (AC (Ex (EN 2)) AM)))) (AC (AO (dv 1)) (AC (AO (dv 3)) AM)))) BI (Av _)) (AL (DL 2 PySem.F.plainAttrs_list PySem.F.slot_list_append PySem.F.type_list_append BK Ea (pv 2) (AA (dv 3) AI))) As)))
 (AL (Ai (AJ G_only (hr.mono (by decide)) rfl (AC (AO (dv 0)) (AC (Ex (EN 2)) AM)))))))) (fun ss n Pd hl hw=>Jk hw)
theorem sc_broken_of:Ae ["net","times","tie","many","way","step","broken"] ["net","times","tie","many"] (AH CG):=by constructor <;> first | rfl | decide +kernel
theorem FS{f:Addr}{fd:FuncData}(T:Txt K mg)(G_near_way:Got P w K mg base "near_way" 4 ["net","times","tie"] .sh Ee)(G_ties_over:Got P w K mg base "ties_over" 2 ["net","way"] .fr IK)(G_without:Got P w K mg base "without" 2 ["net","ties"] .sh Dg)(F:Fun K "broken_of" "broken_of" CG f fd)(m:mg "broken_of"=some (.ref f))(b:Binds K fd ["net","times","tie","many"] []):∀j,BG P w K mg base C0 (5+j) f fd ["net","times","tie","many"] (EB K .sh (Gk j) 4)
 | 0=>by
  have G_broken_of:Got P w K mg base "broken_of" 4 ["net","times","tie","many"] .sh (fun _ _ _=>False):=Aw F m b (fun _ _ _ h=>h.elim) (F.ok (k:=3) sc_broken_of (fun vs H Q E h=>h.1) (fun cdv A outer s H vs Q E hr h=>by obtain⟨_,_,_,_,_,_,_,_,_,hw,_⟩:=h; exact hw.elim))
  exact FX (k:=4) F sc_broken_of (by decide) (fun cdv A outer s H E hr=>(AG (Aq (i:=4) sc_broken_of.nd rfl (Or.inl rfl) (AJ G_near_way (hr.mono (by omega)) rfl (AC (AO (dv 0)) (AC (AO (dv 1)) (AC (AO (dv 2)) AM)))))
 (AG (BU (A0 Hb Lf (dv 4) BI (Av _)) (AL (Ai (DE.sh (A2 AI)))) As)
 (AG (BU (A0 GW Lg (dv 3) AF (Av _)) (AL (Ai BI)) As)
 (AG (CA PassesOwn.never rfl (C7 (AJ G_ties_over (hr.mono (by omega)) rfl (AC (AO (dv 0)) (AC (AO (dv 4)) AM)))) (AU (i:=5) sc_broken_of.nd rfl (Or.inl rfl)) (AG (Aq (i:=6) sc_broken_of.nd rfl (Or.inl rfl) (AJ G_broken_of (hr.mono (Nat.le_refl _)) rfl (AC (AO (AJ G_without (hr.mono (by omega)) rfl (AC (AO (dv 0)) (AC (AO (A2 (AA (dv 5) AI))) AM)))) (AC (AO (dv 1)) (AC (AO (dv 2)) (AC (AO (Ay DK EY (dv 3) AF)) AM))))))
 (AL (BU (A0 FQ IJ (dv 6) BI (Av _)) (AL (Ai (Ay BL Bt (A2 (AA (dv 5) AI)) (dv 6)))) As))))
 (AL (Ai BI))))))) (fun ss n Pd hl hw=>GT (fun _ _ _ h _=>absurd rfl h) hw)
 | j+1=>by
  have G_broken_of:Got P w K mg base "broken_of" (5+j) ["net","times","tie","many"] .sh (Gk j):=Aw F m b (fun _ _ _ h=>by obtain⟨_,_,_,_,_,e,_⟩:=h; rw [e]; rfl) (FS T G_near_way G_ties_over G_without F m b j)
  exact FX (k:=5+j) F sc_broken_of (by decide) (fun cdv A outer s H E hr=>(AG (Aq (i:=4) sc_broken_of.nd rfl (Or.inl rfl) (AJ G_near_way (hr.mono (by omega)) rfl (AC (AO (dv 0)) (AC (AO (dv 1)) (AC (AO (dv 2)) AM)))))
 (AG (BU (A0 Hb Lf (dv 4) BI (Av _)) (AL (Ai (DE.sh (A2 AI)))) As)
 (AG (BU (A0 GW Lg (dv 3) AF (Av _)) (AL (Ai BI)) As)
 (AG (CA PassesOwn.never rfl (C7 (AJ G_ties_over (hr.mono (by omega)) rfl (AC (AO (dv 0)) (AC (AO (dv 4)) AM)))) (AU (i:=5) sc_broken_of.nd rfl (Or.inl rfl)) (AG (Aq (i:=6) sc_broken_of.nd rfl (Or.inl rfl) (AJ G_broken_of (hr.mono (Nat.le_refl _)) rfl (AC (AO (AJ G_without (hr.mono (by omega)) rfl (AC (AO (dv 0)) (AC (AO (A2 (AA (dv 5) AI))) AM)))) (AC (AO (dv 1)) (AC (AO (dv 2)) (AC (AO (Ay DK EY (dv 3) AF)) AM))))))
 (AL (BU (A0 FQ IJ (dv 6) BI (Av _)) (AL (Ai (Ay BL Bt (A2 (AA (dv 5) AI)) (dv 6)))) As))))
 (AL (Ai BI))))))) (fun ss n Pd hl hw=>GT (j:=j+1) (fun _ _ _ _ h=>h) hw)
theorem sc_steady_thinned:Ae ["net","times","many","kept","tie"] ["net","times","many"] (AH BE):=by constructor <;> first | rfl | decide +kernel
theorem FR{f:Addr}{fd:FuncData}(T:Txt K mg)(G_broken_of:Got P w K mg base "broken_of" 7 ["net","times","tie","many"] .sh (Gk 2))(G_only:Got P w K mg base "only" 1 ["net","ties"] .sh CB)(G_order_of:Got P w K mg base "order_of" 4 ["ties"] .fr Cd)(F:Fun K "steady_thinned" "steady_thinned" BE f fd):BG P w K mg base C0 8 f fd ["net","times","many"] (EB K .sh DN 3):=by
 exact FX F sc_steady_thinned (by decide) (fun cdv A outer s H E hr=>(AG (Bn (i:=3) sc_steady_thinned.nd rfl (Or.inl rfl) (A2 AI))
 (AG (CA PassesOwn.never rfl (C7 (AJ G_order_of (hr.mono (by decide)) rfl (AC (AO (A8 An Bj (dv 0) AF)) AM))) (AU (i:=4) sc_steady_thinned.nd rfl (Or.inl rfl)) (AL (BU (A0 FQ IJ (AJ G_broken_of (hr.mono (by decide)) rfl (AC (AO (AJ G_only (hr.mono (by decide)) rfl (AC (AO (dv 0)) (AC (Ex (EN 3)) AM)))) (AC (AO (dv 1)) (AC (AO (dv 4)) (AC (AO (dv 2)) AM))))) BI (Av _)) (AL (DL 3 PySem.F.plainAttrs_list PySem.F.slot_list_append PySem.F.type_list_append BK Ea (pv 3) (AA (dv 4) AI))) As)))
 (AL (Ai (AJ G_only (hr.mono (by decide)) rfl (AC (AO (dv 0)) (AC (Ex (EN 3)) AM)))))))) (fun ss n Pd hl hw=>Kw hw)
theorem sc__law_names:Ae ["_law_feed_here","_law_many","_law_some","_law_first"] ["_law_feed_here","_law_many"] (AH Bz):=by constructor <;> first | rfl | decide +kernel
theorem Ib{f:Addr}{fd:FuncData}(T:Txt K mg)(G__law_next:Got P w K mg base "_law_next" 1 ["_law_feed_here","_law_many"] .sh A5)(F:Fun K "_law_names" "_law_names" Bz f fd):BG P w K mg base C0 2 f fd ["_law_feed_here","_law_many"] (EB K .sh CP 2):=by
 exact FX F sc__law_names (by decide) (fun cdv A outer s H E hr=>(AG (Aq (i:=2) sc__law_names.nd rfl (Or.inr rfl) (A2 (AA BC (AA BC (AA BC (AA BC (AA BC (AA BC (AA BC (AA BC (AA BC (AA BC (AA BC (AA BC AI))))))))))))))
 (AG (Aq (i:=2) sc__law_names.nd rfl (Or.inr rfl) (Ay BL Bt (dv 2) (A2 (AA BC (AA BC (AA BC (AA BC (AA BC (AA BC (AA BC (AA BC (AA BC (AA BC (AA BC (AA BC AI)))))))))))))))
 (AG (Aq (i:=3) sc__law_names.nd rfl (Or.inr rfl) (AJ G__law_next (hr.mono (by decide)) rfl (AC (A4 0) (AC (AO AF) AM))))
 (AL (Ai (CI BO DA rfl T.n_tuple boot_tuple (AS (Ao IF NW rfl T.n_sorted boot_sorted (AS (B_ rfl [("_law_some" : Str),("_law_first" : Str),("_law_k" : Str)] [some 2,some 3,none] (DI.c (Dc rfl T.n_range (AS (dv 1) Ac))) (fun _ _ _ _ _=>(AU (i:=2) (show List.Nodup [("_law_some" : Str),("_law_first" : Str),("_law_k" : Str)] by decide +kernel) rfl (Or.inl rfl))) (fun _ _ _ _ _=>Cr) (fun _ _ _ _ _=>(A8 An Bj (dv 0) (Ay EG EZ (Ay BL Bt (dv 1) (dv 2)) AF))) (by kernel_rfl)) Ac)) Ac)))))))) (fun ss n Pd hl hw=>HU hw)
theorem HN:Ae ["_law_feed_here","_law_way"] ["_law_feed_here","_law_way"] (AH Be):=by constructor <;> first | rfl | decide +kernel
theorem He{f:Addr}{fd:FuncData}(T:Txt K mg)(G__law_next:Got P w K mg base "_law_next" 1 ["_law_feed_here","_law_many"] .sh A5)(F:Fun K "_law_length" "_law_length" Be f fd):BG P w K mg base C0 2 f fd ["_law_feed_here","_law_way"] (EB K .sh GL 2):=by
 exact FX F HN (by decide) (fun cdv A outer s H E hr=>(AG (BU (A0 (HZ hr) Ld (dv 1) AF (Av _)) (AL (Ai (Ay BL Bt AF (AJ G__law_next (hr.mono (by decide)) rfl (AC (A4 0) (AC (AO (A8 An Bj (A2 (AA AF (AA AF (AA AF AI)))) (dv 1))) AM)))))) As)
 (AG (BU (A0 GW Lg (dv 1) AF (Av _)) (AL (Ai (Ay BL Bt AF (AJ G__law_next (hr.mono (by decide)) rfl (AC (A4 0) (AC (AO AF) AM)))))) As)
 (AL (Ai (Ay DK EY (Ay Fy EZ AF AF) (AJ G__law_next (hr.mono (by decide)) rfl (AC (A4 0) (AC (AO AF) AM))))))))) (fun ss n Pd hl hw=>Gq hw)
theorem sc__law_net:Ae ["_law_feed_here","_law_most","_law_ties","_law_places","_law_free","_law_a","_law_way","_law_many","_law_found","_law_k","_law_b"] ["_law_feed_here","_law_most","_law_ties"] (AH CU):=by constructor <;> first | rfl | decide +kernel
theorem K_{f:Addr}{fd:FuncData}(T:Txt K mg)(G__law_length:Got P w K mg base "_law_length" 2 ["_law_feed_here","_law_way"] .sh GL)(G__law_names:Got P w K mg base "_law_names" 2 ["_law_feed_here","_law_many"] .sh CP)(G__law_next:Got P w K mg base "_law_next" 1 ["_law_feed_here","_law_many"] .sh A5)(F:Fun K "_law_net" "_law_net" CU f fd):BG P w K mg base C0 3 f fd ["_law_feed_here","_law_most","_law_ties"] (EB K .sh GK 3):=by
 exact FX F sc__law_net (by decide) (fun cdv A outer s H E hr=>(AG (Aq (i:=3) sc__law_net.nd rfl (Or.inl rfl) (AJ G__law_names (hr.mono (by decide)) rfl (AC (A4 0) (AC (AO (Ay BL Bt AF (AJ G__law_next (hr.mono (by decide)) rfl (AC (A4 0) (AC (AO (Ay DK EY (dv 1) AF)) AM))))) AM))))
 (AG (Bn (i:=4) sc__law_net.nd rfl (Or.inl rfl) (A2 AI))
 (AG (CA PassesOwn.never rfl (C7 (dv 3)) (AU (i:=5) sc__law_net.nd rfl (Or.inr rfl)) (AL (DL 4 PySem.F.plainAttrs_list PySem.F.slot_list_extend PySem.F.type_list_extend JA SR (pv 4) (AA (B_ rfl [("_law_a" : Str),("_law_b" : Str)] [some 5,none] (Cs (dv 3)) (fun _ _ _ _ _=>(AU (i:=1) (show List.Nodup [("_law_a" : Str),("_law_b" : Str)] by decide +kernel) rfl (Or.inl rfl))) (fun _ _ _ _ _=>(KQ (A0 (HZ hr) Ld (dv 0) (dv 1) (Av _)))) (fun _ _ _ _ _=>(AX (AA (dv 0) (AA (dv 1) AI)))) (by kernel_rfl)) AI))))
 (AG (Aq (i:=6) sc__law_net.nd rfl (Or.inl rfl) (AJ G__law_next (hr.mono (by decide)) rfl (AC (A4 0) (AC (AO AF) AM))))
 (AG (Aq (i:=7) sc__law_net.nd rfl (Or.inl rfl) (Ay DK EY (dv 2) (AJ G__law_next (hr.mono (by decide)) rfl (AC (A4 0) (AC (AO (Ay BL Bt (Ay G0 EZ (dv 2) AF) AF)) AM)))))
 (AG (BU (A0 GW Lg (AJ G__law_next (hr.mono (by decide)) rfl (AC (A4 0) (AC (AO AF) AM))) AF (Av _)) (AL (Aq (i:=7) sc__law_net.nd rfl (Or.inl rfl) (AJ G__law_next (hr.mono (by decide)) rfl (AC (A4 0) (AC (AO AF) AM))))) As)
 (AG (Bn (i:=8) sc__law_net.nd rfl (Or.inl rfl) (A2 AI))
 (AG (CA PassesOwn.never rfl (Dc rfl T.n_range (AS (Ao (Oa rfl) Tt rfl T.n_min boot_min (AS (dv 7) (AS (Ao C8 Le rfl T.n_len PySem.boot_len (AS (EN 4) Ac)) Ac))) Ac)) (AU (i:=9) sc__law_net.nd rfl (Or.inl rfl)) (AG (RU (i:=4) (pv 4) (AJ G__law_next (hr.mono (by decide)) rfl (AC (A4 0) (AC (AO (Ao C8 Le rfl T.n_len PySem.boot_len (AS (EN 4) Ac))) AM))) (DU rfl (Ah (AU (i:=5) sc__law_net.nd rfl (Or.inr rfl)) (Ah (AU (i:=10) sc__law_net.nd rfl (Or.inl rfl)) CM))))
 (AL (DL 8 PySem.F.plainAttrs_list PySem.F.slot_list_append PySem.F.type_list_append BK Ea (pv 8) (AA (AX (AA (dv 5) (AA (dv 10) (AA (AJ G__law_length (hr.mono (by decide)) rfl (AC (A4 0) (AC (AO (dv 6)) AM))) AI)))) AI)))))
 (AL (Ai (AX (AA (dv 3) (AA (CI BO DA rfl T.n_tuple boot_tuple (AS (Ao Cb En rfl T.n_sorted boot_sorted (AS (EN 8) Ac)) Ac)) AI)))))))))))))) (fun ss n Pd hl hw=>Jn hw)
theorem sc__law_order:Ae ["_law_ties","_law_some"] ["_law_ties"] (AH By):=by constructor <;> first | rfl | decide +kernel
theorem IZ{f:Addr}{fd:FuncData}(T:Txt K mg)(F:Fun K "_law_order" "_law_order" By f fd):BG P w K mg base C0 1 f fd ["_law_ties"] (EB K .fr Cd 1):=by
 exact FX F sc__law_order (by decide) (fun cdv A outer s H E hr=>(AG (Aq (i:=1) sc__law_order.nd rfl (Or.inl rfl) (Ao Cb En rfl T.n_sorted boot_sorted (AS (B_ rfl [("_law_tie" : Str)] [none] (Cs (dv 0)) (fun _ _ _ _ _=>(AU (i:=0) (show List.Nodup [("_law_tie" : Str)] by decide +kernel) rfl (Or.inl rfl))) (fun _ _ _ _ _=>Cr) (fun _ _ _ _ _=>(AX (AA (A8 An Bj (dv 0) AF) (AA (A8 An Bj (dv 0) AF) (AA (A8 An Bj (dv 0) AF) AI))))) (by kernel_rfl)) Ac)))
 (AL (Ai (B_ rfl [("_law_length_here" : Str),("_law_a" : Str),("_law_b" : Str)] [none,none,none] (Cs (dv 1)) (fun _ _ _ _ _=>(DU rfl (Ah (AU (i:=0) (show List.Nodup [("_law_length_here" : Str),("_law_a" : Str),("_law_b" : Str)] by decide +kernel) rfl (Or.inl rfl)) (Ah (AU (i:=1) (show List.Nodup [("_law_length_here" : Str),("_law_a" : Str),("_law_b" : Str)] by decide +kernel) rfl (Or.inl rfl)) (Ah (AU (i:=2) (show List.Nodup [("_law_length_here" : Str),("_law_a" : Str),("_law_b" : Str)] by decide +kernel) rfl (Or.inl rfl)) CM))))) (fun _ _ _ _ _=>Cr) (fun _ _ _ _ _=>(AX (AA (dv 1) (AA (dv 2) (AA (dv 0) AI))))) (by kernel_rfl)))))) (fun ss n Pd hl hw=>HS hw)
theorem sc__law_lengths:Ae ["_law_ties","_law_place","_law_known","_law_grew","_law_a","_law_b","_law_length_here","_law_one","_law_other"] ["_law_ties","_law_place"] (AH BR):=by constructor <;> first | rfl | decide +kernel
theorem Gs{f:Addr}{fd:FuncData}(T:Txt K mg)(F:Fun K "_law_lengths" "_law_lengths" BR f fd):BG P w K mg base C0 1 f fd ["_law_ties","_law_place"] (EB K .fr Dk 2):=by
 exact FX F sc__law_lengths (by decide) (fun cdv A outer s H E hr=>(AG (Bn (i:=2) sc__law_lengths.nd rfl (Or.inl rfl) (LP (dv 1) AF))
 (AG (Aq (i:=3) sc__law_lengths.nd rfl (Or.inl rfl) NP)
 (AG (H_ PassesOwn.never (GI (dv 3)) (AG (Aq (i:=3) sc__law_lengths.nd rfl (Or.inl rfl) NP)
 (AL (RW PassesOwn.never rfl (pv 0) (DU rfl (Ah (AU (i:=4) sc__law_lengths.nd rfl (Or.inl rfl)) (Ah (AU (i:=5) sc__law_lengths.nd rfl (Or.inl rfl)) (Ah (AU (i:=6) sc__law_lengths.nd rfl (Or.inl rfl)) CM)))) (AL (CA PassesOwn.never rfl (C7 (A2 (AA (AX (AA (dv 4) (AA (dv 5) AI))) (AA (AX (AA (dv 5) (AA (dv 4) AI))) AI)))) (DU rfl (Ah (AU (i:=7) sc__law_lengths.nd rfl (Or.inl rfl)) (Ah (AU (i:=8) sc__law_lengths.nd rfl (Or.inl rfl)) CM))) (AL (BU (DTW.dt (QH (A0 (S9 hr) U1 (dv 7) (EN 2) (by with_unfolding_all rfl)) (NL (A0 (HZ hr) Ld (Ay BL Bt (B9 hr (EN 2) (dv 7)) (dv 6)) (Rc hr (EN 2) (dv 8) (Ay Fy EZ AF AF)) (Av _))))) (AG (KP (i:=2) hr (pv 2) (dv 8) (Ay BL Bt (B9 hr (EN 2) (dv 7)) (dv 6)))
 (AL (Aq (i:=3) sc__law_lengths.nd rfl (Or.inl rfl) NP))) As))))))))
 (AL (KO 2 (pv 2))))))) (fun ss n Pd hl hw=>Fw hw)
theorem sc__law_times:Ae ["_law_feed_here","_law_some"] ["_law_feed_here"] (AH Bw):=by constructor <;> first | rfl | decide +kernel
theorem IX{f:Addr}{fd:FuncData}(T:Txt K mg)(G__law_next:Got P w K mg base "_law_next" 1 ["_law_feed_here","_law_many"] .sh A5)(F:Fun K "_law_times" "_law_times" Bw f fd):BG P w K mg base C0 2 f fd ["_law_feed_here"] (EB K .sh Eb 1):=by
 exact FX F sc__law_times (by decide) (fun cdv A outer s H E hr=>(AG (Aq (i:=1) sc__law_times.nd rfl (Or.inl rfl) (A2 (AA (AX (AA AF (AA AF AI))) (AA (AX (AA AF (AA AF AI))) (AA (AX (AA AF (AA AF AI))) (AA (AX (AA AF (AA AF AI))) (AA (AX (AA AF (AA AF AI))) (AA (AX (AA AF (AA AF AI))) (AA (AX (AA (Ay Fy EZ AF AF) (AA AF AI))) (AA (AX (AA AF (AA AF AI))) (AA (AX (AA AF (AA AF AI))) AI)))))))))))
 (AL (Ai (A8 An Bj (dv 1) (AJ G__law_next (hr.mono (by decide)) rfl (AC (A4 0) (AC (AO AF) AM)))))))) (fun ss n Pd hl hw=>HR hw)
theorem HM:Ae ["_law_length_here","_law_times_here","_law_number"] ["_law_length_here","_law_times_here","_law_number"] (AH Bb):=by constructor <;> first | rfl | decide +kernel
theorem Hc{f:Addr}{fd:FuncData}(T:Txt K mg)(F:Fun K "_law_within" "_law_within" Bb f fd):BG P w K mg base C0 1 f fd ["_law_length_here","_law_times_here","_law_number"] (EB K .sh CO 3):=by
 exact FX F HM (by decide) (fun cdv A outer s H E hr=>(AL (Ai (KS Pj SO (Ay Cq Du (dv 0) (A8 An Bj (dv 1) AF)) (Ay Cq Du (dv 2) (A8 An Bj (dv 1) AF)) (Av _))))) (fun ss n Pd hl hw=>Gp hw)
theorem sc__law_breaks:Ae ["_law_ties","_law_many","_law_found","_law_k"] ["_law_ties","_law_many"] (AH Bg):=by constructor <;> first | rfl | decide +kernel
theorem Hf{f:Addr}{fd:FuncData}(T:Txt K mg)(F:Fun K "_law_breaks" "_law_breaks" Bg f fd):BG P w K mg base C0 1 f fd ["_law_ties","_law_many"] (EB K .fr Fl 2):=by
 exact FX F sc__law_breaks (by decide) (fun cdv A outer s H E hr=>(AG (Bn (i:=2) sc__law_breaks.nd rfl (Or.inl rfl) (A2 (AA (A2 AI) AI)))
 (AG (BU (A0 MC Qb (dv 1) AF (Av _)) (AL (Bn (i:=2) sc__law_breaks.nd rfl (Or.inl rfl) (Ay M6 JU (EN 2) (B_ rfl [("_law_tie" : Str)] [none] (Cs (EN 0)) (fun _ _ _ _ _=>(AU (i:=0) (show List.Nodup [("_law_tie" : Str)] by decide +kernel) rfl (Or.inl rfl))) (fun _ _ _ _ _=>Cr) (fun _ _ _ _ _=>(A2 (AA (dv 0) AI))) (by kernel_rfl))))) As)
 (AG (BU (A0 MC Qb (dv 1) AF (Av _)) (AL (CA PassesOwn.never rfl (Dc rfl T.n_range (AS (Ao C8 Le rfl T.n_len PySem.boot_len (AS (EN 0) Ac)) Ac)) (AU (i:=3) sc__law_breaks.nd rfl (Or.inr rfl)) (AL (DL 2 PySem.F.plainAttrs_list PySem.F.slot_list_extend PySem.F.type_list_extend JA SR (pv 2) (AA (B_ rfl [("_law_ties" : Str),("_law_k" : Str),("_law_j" : Str)] [some 0,some 3,none] (DI.c (Dc rfl T.n_range (AS (dv 3) Ac))) (fun _ _ _ _ _=>(AU (i:=2) (show List.Nodup [("_law_ties" : Str),("_law_k" : Str),("_law_j" : Str)] by decide +kernel) rfl (Or.inl rfl))) (fun _ _ _ _ _=>Cr) (fun _ _ _ _ _=>(A2 (AA (A8 An Bj (EN 0) (dv 1)) (AA (A8 An Bj (EN 0) (dv 2)) AI)))) (by kernel_rfl)) AI))))) As)
 (AL (KO 2 (pv 2))))))) (fun ss n Pd hl hw=>Ky hw)
theorem sc__law_breaking:Ae ["_law_ties","_law_times_here","_law_tie","_law_many","_law_gone","_law_length_here"] ["_law_ties","_law_times_here","_law_tie","_law_many"] (AH BJ):=by constructor <;> first | rfl | decide +kernel
theorem Fz{f:Addr}{fd:FuncData}(T:Txt K mg)(G__law_breaks:Got P w K mg base "_law_breaks" 1 ["_law_ties","_law_many"] .fr Fl)(G__law_lengths:Got P w K mg base "_law_lengths" 1 ["_law_ties","_law_place"] .fr Dk)(G__law_within:Got P w K mg base "_law_within" 1 ["_law_length_here","_law_times_here","_law_number"] .sh CO)(F:Fun K "_law_breaking" "_law_breaking" BJ f fd):BG P w K mg base C0 2 f fd ["_law_ties","_law_times_here","_law_tie","_law_many"] (EB K .sh Cz 4):=by
 exact FX F sc__law_breaking (by decide) (fun cdv A outer s H E hr=>(AG (CA PassesOwn.never rfl (C7 (AJ G__law_breaks (hr.mono (by decide)) rfl (AC (Ex (EN 0)) (AC (AO (dv 3)) AM)))) (AU (i:=4) sc__law_breaking.nd rfl (Or.inr rfl)) (AG (Aq (i:=5) sc__law_breaking.nd rfl (Or.inl rfl) (Rf hr (AJ G__law_lengths (hr.mono (by decide)) rfl (AC (Ex (B_ rfl [("_law_gone" : Str),("_law_one" : Str)] [some 4,none] (Cs (EN 0)) (fun _ _ _ _ _=>(AU (i:=1) (show List.Nodup [("_law_gone" : Str),("_law_one" : Str)] by decide +kernel) rfl (Or.inl rfl))) (fun _ _ _ _ _=>(KQ (A0 (I0 hr) SQ (dv 1) (dv 0) (by with_unfolding_all rfl)))) (fun _ _ _ _ _=>(dv 1)) (by kernel_rfl))) (AC (AO (A8 An Bj (dv 2) AF)) AM))) (A8 An Bj (dv 2) AF)))
 (AL (BU (DTW.dt (QG (A0 Hb Lf (dv 5) BI (Av _)) (MR (Hz (GI (AJ G__law_within (hr.mono (by decide)) rfl (AC (AO (dv 5)) (AC (AO (dv 1)) (AC (AO (A8 An Bj (dv 2) AF)) AM))))))))) (AL (Ai (dv 4))) As))))
 (AL (Ai BI)))) (fun ss n Pd hl hw=>IT hw)
theorem sc__law_steady:Ae ["_law_net_here","_law_times_here","_law_many","_law_kept","_law_tie"] ["_law_net_here","_law_times_here","_law_many"] (AH Bc):=by constructor <;> first | rfl | decide +kernel
theorem Hd{f:Addr}{fd:FuncData}(T:Txt K mg)(G__law_breaking:Got P w K mg base "_law_breaking" 2 ["_law_ties","_law_times_here","_law_tie","_law_many"] .sh Cz)(G__law_order:Got P w K mg base "_law_order" 1 ["_law_ties"] .fr Cd)(F:Fun K "_law_steady" "_law_steady" Bc f fd):BG P w K mg base C0 3 f fd ["_law_net_here","_law_times_here","_law_many"] (EB K .sh Ef 3):=by
 exact FX F sc__law_steady (by decide) (fun cdv A outer s H E hr=>(AG (Bn (i:=3) sc__law_steady.nd rfl (Or.inl rfl) (A2 AI))
 (AG (CA PassesOwn.never rfl (C7 (AJ G__law_order (hr.mono (by decide)) rfl (AC (AO (A8 An Bj (dv 0) AF)) AM))) (AU (i:=4) sc__law_steady.nd rfl (Or.inl rfl)) (AL (BU (A0 FQ IJ (AJ G__law_breaking (hr.mono (by decide)) rfl (AC (Ex (EN 3)) (AC (AO (dv 1)) (AC (AO (dv 4)) (AC (AO (dv 2)) AM))))) BI (Av _)) (AL (DL 3 PySem.F.plainAttrs_list PySem.F.slot_list_append PySem.F.type_list_append BK Ea (pv 3) (AA (dv 4) AI))) As)))
 (AL (Ai (AX (AA (A8 An Bj (dv 0) AF) (AA (CI BO DA rfl T.n_tuple boot_tuple (AS (Ao Cb En rfl T.n_sorted boot_sorted (AS (EN 3) Ac)) Ac)) AI)))))))) (fun ss n Pd hl hw=>Jl hw)
theorem sc__law_dense:Ae ["_law_feed_here","_law_places","_law_way","_law_rare","_law_ties","_law_a","_law_b","_law_length_here"] ["_law_feed_here"] (AH B0):=by constructor <;> first | rfl | decide +kernel
theorem Ic{f:Addr}{fd:FuncData}(T:Txt K mg)(G__law_names:Got P w K mg base "_law_names" 2 ["_law_feed_here","_law_many"] .sh CP)(G__law_next:Got P w K mg base "_law_next" 1 ["_law_feed_here","_law_many"] .sh A5)(F:Fun K "_law_dense" "_law_dense" B0 f fd):BG P w K mg base C0 3 f fd ["_law_feed_here"] (EB K .sh GN 1):=by
 exact FX F sc__law_dense (by decide) (fun cdv A outer s H E hr=>(AG (Aq (i:=1) sc__law_dense.nd rfl (Or.inl rfl) (AJ G__law_names (hr.mono (by decide)) rfl (AC (A4 0) (AC (AO (Ay DK EY AF (Ay Cq Du (AJ G__law_next (hr.mono (by decide)) rfl (AC (A4 0) (AC (AO AF) AM))) (AJ G__law_next (hr.mono (by decide)) rfl (AC (A4 0) (AC (AO AF) AM)))))) AM))))
 (AG (Aq (i:=2) sc__law_dense.nd rfl (Or.inl rfl) (AJ G__law_next (hr.mono (by decide)) rfl (AC (A4 0) (AC (AO AF) AM))))
 (AG (Aq (i:=3) sc__law_dense.nd rfl (Or.inl rfl) (A8 An Bj (A2 (AA AF (AA AF (AA AF (AA AF AI))))) (AJ G__law_next (hr.mono (by decide)) rfl (AC (A4 0) (AC (AO AF) AM)))))
 (AG (Bn (i:=4) sc__law_dense.nd rfl (Or.inl rfl) (A2 AI))
 (AG (CA PassesOwn.never rfl (C7 (dv 1)) (AU (i:=5) sc__law_dense.nd rfl (Or.inl rfl)) (AL (CA PassesOwn.never rfl (C7 (dv 1)) (AU (i:=6) sc__law_dense.nd rfl (Or.inl rfl)) (AL (BU (DTW.dt (QH (A0 (HZ hr) Ld (dv 5) (dv 6) (Av _)) (NL (A0 MC Qb (AJ G__law_next (hr.mono (by decide)) rfl (AC (A4 0) (AC (AO (dv 3)) AM))) AF (Av _))))) (AG (Aq (i:=7) sc__law_dense.nd rfl (Or.inl rfl) (A8 An Bj (A2 (AA AF (AA (Ay BL Bt AF (AJ G__law_next (hr.mono (by decide)) rfl (AC (A4 0) (AC (AO AF) AM)))) (AA (Ay DK EY (Ay Fy EZ AF AF) (AJ G__law_next (hr.mono (by decide)) rfl (AC (A4 0) (AC (AO AF) AM)))) (AA (Ay BL Bt AF (AJ G__law_next (hr.mono (by decide)) rfl (AC (A4 0) (AC (AO AF) AM)))) AI))))) (dv 2)))
 (AL (DL 4 PySem.F.plainAttrs_list PySem.F.slot_list_append PySem.F.type_list_append BK Ea (pv 4) (AA (AX (AA (dv 5) (AA (dv 6) (AA (dv 7) AI)))) AI)))) As)))))
 (AL (Ai (AX (AA (dv 1) (AA (CI BO DA rfl T.n_tuple boot_tuple (AS (Ao Cb En rfl T.n_sorted boot_sorted (AS (EN 4) Ac)) Ac)) AI))))))))))) (fun ss n Pd hl hw=>L5 hw)
theorem sc__law_crossed:Ae ["_law_feed_here","_law_names_here","_law_s","_law_a","_law_b","_law_c","_law_d","_law_t","_law_many","_law_some"] ["_law_feed_here"] (AH BS):=by constructor <;> first | rfl | decide +kernel
theorem Gu{f:Addr}{fd:FuncData}(T:Txt K mg)(G__law_names:Got P w K mg base "_law_names" 2 ["_law_feed_here","_law_many"] .sh CP)(G__law_next:Got P w K mg base "_law_next" 1 ["_law_feed_here","_law_many"] .sh A5)(F:Fun K "_law_crossed" "_law_crossed" BS f fd):BG P w K mg base C0 3 f fd ["_law_feed_here"] (EB K .sh Eg 1):=by
 exact FX F sc__law_crossed (by decide) (fun cdv A outer s H E hr=>(AG (Bn (i:=1) sc__law_crossed.nd rfl (Or.inr rfl) (CI Fe Rj rfl T.n_list boot_list (AS (AJ G__law_names (hr.mono (by decide)) rfl (AC (A4 0) (AC (AO AF) AM))) Ac)))
 (AG (RT (i:=1) (f:=0) rfl [("_law_names_here" : Str),("_law_feed_here" : Str),("_law_k" : Str)] (Dc rfl T.n_range (AS AF Ac)) (fun _ _ _ _ _=>Ej (i:=2) (show List.Nodup [("_law_names_here" : Str),("_law_feed_here" : Str),("_law_k" : Str)] by decide +kernel) rfl (Or.inl rfl)) (fun _ _ _ _ _=>pv 0) (fun _ _ _ _ _=>(AJ G__law_next (hr.mono (by decide)) rfl (AC (A4 1) (AC (AO (Ao C8 Le rfl T.n_len PySem.boot_len (AS (EN 0) Ac))) AM)))) (RZ rfl (Ah (AU (i:=2) sc__law_crossed.nd rfl (Or.inl rfl)) (Ah (AU (i:=3) sc__law_crossed.nd rfl (Or.inl rfl)) (Ah (AU (i:=4) sc__law_crossed.nd rfl (Or.inl rfl)) (Ah (AU (i:=5) sc__law_crossed.nd rfl (Or.inl rfl)) (Ah (AU (i:=6) sc__law_crossed.nd rfl (Or.inl rfl)) (Ah (AU (i:=7) sc__law_crossed.nd rfl (Or.inl rfl)) CM))))))) (by kernel_rfl) (fun _ _ _ _ _ h t h1=>Pg PySem.F.plainAttrs_list PySem.F.slot_list_pop PySem.F.type_list_pop LC h (BY h1 CV)))
 (AG (Aq (i:=8) sc__law_crossed.nd rfl (Or.inl rfl) (Ay BL Bt AF (AJ G__law_next (hr.mono (by decide)) rfl (AC (A4 0) (AC (AO AF) AM)))))
 (AG (Aq (i:=9) sc__law_crossed.nd rfl (Or.inl rfl) (A2 (AA (AX (AA (dv 2) (AA (dv 3) (AA (dv 8) AI)))) (AA (AX (AA (dv 3) (AA (dv 4) (AA (dv 8) AI)))) (AA (AX (AA (dv 4) (AA (dv 5) (AA (dv 8) AI)))) (AA (AX (AA (dv 5) (AA (dv 6) (AA (dv 8) AI)))) (AA (AX (AA (dv 6) (AA (dv 7) (AA (dv 8) AI)))) (AA (AX (AA (dv 2) (AA (dv 4) (AA (Ay Cq Du AF (dv 8)) AI)))) (AA (AX (AA (dv 5) (AA (dv 7) (AA (Ay Cq Du AF (dv 8)) AI)))) AI)))))))))
 (AG (Aq (i:=9) sc__law_crossed.nd rfl (Or.inl rfl) (Ay BL Bt (dv 9) (A2 (AA (AX (AA (dv 3) (AA (dv 6) (AA (Ay DK EY (Ay Cq Du AF (dv 8)) AF) AI)))) (AA (AX (AA (dv 2) (AA (dv 7) (AA (Ay Cq Du AF (dv 8)) AI)))) AI)))))
 (AL (Ai (AX (AA (CI BO DA rfl T.n_tuple boot_tuple (AS (Ao IF NW rfl T.n_sorted boot_sorted (AS (A2 (AA (dv 2) (AA (dv 3) (AA (dv 4) (AA (dv 5) (AA (dv 6) (AA (dv 7) AI))))))) Ac)) Ac)) (AA (CI BO DA rfl T.n_tuple boot_tuple (AS (Ao Cb En rfl T.n_sorted boot_sorted (AS (B_ rfl [("_law_x" : Str),("_law_y" : Str),("_law_own" : Str)] [none,none,none] (Cs (dv 9)) (fun _ _ _ _ _=>(DU rfl (Ah (AU (i:=0) (show List.Nodup [("_law_x" : Str),("_law_y" : Str),("_law_own" : Str)] by decide +kernel) rfl (Or.inl rfl)) (Ah (AU (i:=1) (show List.Nodup [("_law_x" : Str),("_law_y" : Str),("_law_own" : Str)] by decide +kernel) rfl (Or.inl rfl)) (Ah (AU (i:=2) (show List.Nodup [("_law_x" : Str),("_law_y" : Str),("_law_own" : Str)] by decide +kernel) rfl (Or.inl rfl)) CM))))) (fun _ _ _ _ _=>Cr) (fun _ _ _ _ _=>(AX (AA (Ao (JL rfl) QY rfl T.n_min boot_min (AS (dv 0) (AS (dv 1) Ac))) (AA (Ao (JM rfl) QZ rfl T.n_max boot_max (AS (dv 0) (AS (dv 1) Ac))) (AA (dv 2) AI))))) (by kernel_rfl)) Ac)) Ac)) AI))))))))))) (fun ss n Pd hl hw=>Jp hw)
theorem IP:Ae ["_law_feed_here"] ["_law_feed_here"] (AH B3):=by constructor <;> first | rfl | decide +kernel
theorem Id{f:Addr}{fd:FuncData}(T:Txt K mg)(G__law_next:Got P w K mg base "_law_next" 1 ["_law_feed_here","_law_many"] .sh A5)(F:Fun K "_law_broad" "_law_broad" B3 f fd):BG P w K mg base C0 2 f fd ["_law_feed_here"] (EB K .sh FC 1):=by
 exact FX F IP (by decide) (fun cdv A outer s H E hr=>(AL (Ai (A8 An Bj (A2 (AA (AX (AA AF (AA AF AI))) (AA (AX (AA AF (AA AF AI))) (AA (AX (AA AF (AA AF AI))) (AA (AX (AA (Ay Fy EZ AF AF) (AA AF AI))) (AA (AX (AA AF (AA AF AI))) (AA (AX (AA AF (AA AF AI))) (AA (AX (AA AF (AA AF AI))) (AA (AX (AA AF (AA AF AI))) (AA (AX (AA AF (AA AF AI))) AI)))))))))) (AJ G__law_next (hr.mono (by decide)) rfl (AC (A4 0) (AC (AO AF) AM))))))) (fun ss n Pd hl hw=>L6 hw)
theorem IO:Ae ["_law_net_here","_law_times_here","_law_many"] ["_law_net_here","_law_times_here","_law_many"] (AH Bx):=by constructor <;> first | rfl | decide +kernel
theorem IY{f:Addr}{fd:FuncData}(T:Txt K mg)(G__law_steady:Got P w K mg base "_law_steady" 3 ["_law_net_here","_law_times_here","_law_many"] .sh Ef)(G_steady_thinned:Got P w K mg base "steady_thinned" 8 ["net","times","many"] .sh DN)(F:Fun K "_law_right" "_law_right" Bx f fd):BG P w K mg base C0 9 f fd ["_law_net_here","_law_times_here","_law_many"] (EB K .sh Di 3):=by
 exact FX F IO (by decide) (fun cdv A outer s H E hr=>(AL (Ai (KS GW Lg (Ao (Em hr) Kc rfl T.n_repr boot_repr (AS (AJ G_steady_thinned (hr.mono (by decide)) rfl (AC (AO (dv 0)) (AC (AO (dv 1)) (AC (AO (dv 2)) AM)))) Ac)) (Ao (Em hr) Kc rfl T.n_repr boot_repr (AS (AJ G__law_steady (hr.mono (by decide)) rfl (AC (AO (dv 0)) (AC (AO (dv 1)) (AC (AO (dv 2)) AM)))) Ac)) (Av _))))) (fun ss n Pd hl hw=>L1 hw)
end
section
variable {P:Program}{w:World}{K:Frag}{mg:Str->Option Value}{base:Heap}
theorem Jh:Ae ["_law_script"] ["_law_script"] (AH CH):=by constructor <;> first | rfl | decide +kernel
theorem Jz{f:Addr}{fd:FuncData}(T:Txt K mg)(F:Fun K "_law_feed" "_law_feed" CH f fd):BG P w K mg base C0 1 f fd ["_law_script"] (Jb K):=by
 refine F.ok Jh (fun vs H Q E h=>?_) (fun cdv A outer s H vs Q E hr h=>?_)
 ·obtain⟨a,ns,rfl,_⟩:=h
  rfl
 ·obtain⟨a,ns,rfl,⟨hl,hS⟩,q⟩:=h
  refine⟨_,DJ (E6 (MA (BY (Iz Fe rfl T.n_list boot_list (BY (K3 sl_list (pv 0) Mt (Ms Au)) CV)) (BY Au (BY Au CV))))),?_⟩
  refine⟨_,rfl,63,rfl,a,_,rfl,hS,fun p hp=>⟨p,_,rfl,.inl (SqL.of AV),fun c hc=>⟨by show 3<=sizeLine; decide,fun g hg=>?_⟩⟩⟩
  rw [Uy hl] at hg ⊢
  have ncg:c≠g:=fun z=>by rw [← z,AV] at hg; cases hg
  exact q c g _ ncg (by rw [AQ ncg,AV]) AV
theorem sc_law:Ae ["_law_script","_law_feed_here","_law_asked","_law_net_here","_law_times_here","_law_many"] ["_law_script"] (AH FL):=by constructor <;> first | rfl | decide +kernel
theorem S_{f ff:Addr}{fd fdf:FuncData}(T:Txt K mg)(Gf:BG P w K mg base C0 1 ff fdf ["_law_script"] (Jb K))(mf:mg "_law_feed"=some (.ref ff))(kf:keepIn K (.ref ff)=true)(bf:Binds K fdf ["_law_script"] [])
  (G__law_broad:Got P w K mg base "_law_broad" 2 ["_law_feed_here"] .sh FC) (G__law_crossed:Got P w K mg base "_law_crossed" 3 ["_law_feed_here"] .sh Eg) (G__law_dense:Got P w K mg base "_law_dense" 3 ["_law_feed_here"] .sh GN) (G__law_net:Got P w K mg base "_law_net" 3 ["_law_feed_here","_law_most","_law_ties"] .sh GK) (G__law_next:Got P w K mg base "_law_next" 1 ["_law_feed_here","_law_many"] .sh A5) (G__law_right:Got P w K mg base "_law_right" 9 ["_law_net_here","_law_times_here","_law_many"] .sh Di) (G__law_times:Got P w K mg base "_law_times" 2 ["_law_feed_here"] .sh Eb) (G_steady_thinned:Got P w K mg base "steady_thinned" 8 ["net","times","many"] .sh DN) (G_thinned:Got P w K mg base "thinned" 5 ["net","times"] .sh Dh) (F:Fun K "law" "law" FL f fd):BG P w K mg base C0 10 f fd ["_law_script"] (Kt K):=by
 exact Up (n0:=3000) F sc_law rfl (by decide) (fun cdv A outer s H E hr=>EC (i:=1) sc_law.nd rfl (Or.inl rfl) (Mx Gf (hr.mono (by decide)) rfl mf kf bf .nil SE (BY (pv 0) CV)))
  (fun cdv A outer s H E hr=>(AG (Bn (i:=2) sc_law.nd rfl (Or.inl rfl) (A2 (AA (AX (AA (AJ G__law_net (hr.mono (by decide)) rfl (AC (A4 1) (AC (AO AF) (AC (AO AF) AM)))) (AA (AJ G__law_times (hr.mono (by decide)) rfl (AC (A4 1) AM)) (AA (Ay BL Bt AF (AJ G__law_next (hr.mono (by decide)) rfl (AC (A4 1) (AC (AO AF) AM)))) AI)))) AI)))
 (AG (DL 2 PySem.F.plainAttrs_list PySem.F.slot_list_append PySem.F.type_list_append BK Ea (pv 2) (AA (AX (AA (AJ G__law_dense (hr.mono (by decide)) rfl (AC (A4 1) AM)) (AA (AJ G__law_broad (hr.mono (by decide)) rfl (AC (A4 1) AM)) (AA AF AI)))) AI))
 (AG (DL 2 PySem.F.plainAttrs_list PySem.F.slot_list_append PySem.F.type_list_append BK Ea (pv 2) (AA (AX (AA (AJ G__law_dense (hr.mono (by decide)) rfl (AC (A4 1) AM)) (AA (AJ G__law_broad (hr.mono (by decide)) rfl (AC (A4 1) AM)) (AA AF AI)))) AI))
 (AG (DL 2 PySem.F.plainAttrs_list PySem.F.slot_list_append PySem.F.type_list_append BK Ea (pv 2) (AA (AX (AA (AJ G__law_crossed (hr.mono (by decide)) rfl (AC (A4 1) AM)) (AA (AX (AA AF (AA AF AI))) (AA AF AI)))) AI))
 (AG (BU (A0 GW Lg (AJ G__law_next (hr.mono (by decide)) rfl (AC (A4 1) (AC (AO AF) AM))) AF (Av _)) (AL (DL 2 PySem.F.plainAttrs_list PySem.F.slot_list_append PySem.F.type_list_append BK Ea (pv 2) (AA (AX (AA (AJ G__law_net (hr.mono (by decide)) rfl (AC (A4 1) (AC (AO AF) (AC (AO AF) AM)))) (AA (AJ G__law_broad (hr.mono (by decide)) rfl (AC (A4 1) AM)) (AA AF AI)))) AI))) As)
 (AG (CA PassesOwn.never rfl (C7 (Ay BL Bt (EN 2) (NO Qs NX (EN 2) G2 (G1 AF)))) (DU rfl (Ah (AU (i:=3) sc_law.nd rfl (Or.inl rfl)) (Ah (AU (i:=4) sc_law.nd rfl (Or.inl rfl)) (Ah (AU (i:=5) sc_law.nd rfl (Or.inl rfl)) CM)))) (AL (BU (Hz (GI (AJ G__law_right (hr.mono (by decide)) rfl (AC (AO (dv 3)) (AC (AO (dv 4)) (AC (AO (dv 5)) AM)))))) (AL (Ai NP)) As)))
 (AG (Te (NO Qs NX (A8 An Bj (EN 2) (AJ G__law_next (hr.mono (by decide)) rfl (AC (A4 1) (AC (AO AF) AM)))) G2 (G1 AF)) (DU rfl (Ah (AU (i:=3) sc_law.nd rfl (Or.inl rfl)) (Ah (AU (i:=4) sc_law.nd rfl (Or.inl rfl)) CM))))
 (AL (Ai (KS GW Lg (Ao (Em hr) Kc rfl T.n_repr boot_repr (AS (AJ G_steady_thinned (hr.mono (by decide)) rfl (AC (AO (dv 3)) (AC (AO (dv 4)) (AC (AO AF) AM)))) Ac)) (Ao (Em hr) Kc rfl T.n_repr boot_repr (AS (AJ G_thinned (hr.mono (by decide)) rfl (AC (AO (dv 3)) (AC (AO (dv 4)) AM))) Ac)) (Av _)))))))))))) L4
end
theorem FT{β:Type}{g k:List Value->β}(us:List Value)(h:us.length=1)(c:∀a0:Value,g [a0]=k [a0]):g us=k us:=by
 match us,h with
 | [a0],_=>exact c a0
theorem Dx{β:Type}{g k:List Value->β}(us:List Value)(h:us.length=2)(c:∀a0 a1:Value,g [a0,a1]=k [a0,a1]):g us=k us:=by
 match us,h with
 | [a0,a1],_=>exact c a0 a1
theorem Ga{β:Type}{g k:List Value->β}(us:List Value)(h:us.length=3)(c:∀a0 a1 a2:Value,g [a0,a1,a2]=k [a0,a1,a2]):g us=k us:=by
 match us,h with
 | [a0,a1,a2],_=>exact c a0 a1 a2
theorem SG{β:Type}{g k:List Value->β}(us:List Value)(h:us.length=4)(c:∀a0 a1 a2 a3:Value,g [a0,a1,a2,a3]=k [a0,a1,a2,a3]):g us=k us:=by
 match us,h with
 | [a0,a1,a2,a3],_=>exact c a0 a1 a2 a3
theorem all_mk{l:PySem.W.OpenLaw}{w:World}{K:Frag}{h:Heap}{mg:Str->Option Value}{fa:Addr}(X:K.In h)(G:h.Ns mainGlobals mg)(hfa:mg "law"=some (.ref fa))
  {f0 f1 f2 f3 f4 f5 f6 f7 f8 f9 f10 f11 f12 f13 f14 f15 f16 f17 f18 f19 f20 f21 f22 f23 f24 f25 f26 f27 f28 f29 f30 f31:Addr} {od0 an0 od1 an1 od2 an2 od3 an3 od4 an4 od5 an5 od6 an6 od7 an7 od8 an8 od9 an9 od10 an10 od11 an11 od12 an12 od13 an13 od14 an14 od15 an15 od16 an16 od17 an17 od18 an18 od19 an19 od20 an20 od21 an21 od22 an22 od23 an23 od24 an24 od25 an25 od26 an26 od27 an27 od28 an28 od29 an29 od30 an30 od31 an31:Option Addr} {sl0 sl1 sl2 sl3 sl4 sl5 sl6 sl7 sl8 sl9 sl10 sl11 sl12 sl13 sl14 sl15 sl16 sl17 sl18 sl19 sl20 sl21 sl22 sl23 sl24 sl25 sl26 sl27 sl28 sl29 sl30 sl31:Array (Option Value)} {oc0 kV0 dc0 pm0 cd0 ct0 oc1 kV1 dc1 pm1 cd1 ct1 oc2 kV2 dc2 pm2 cd2 ct2 oc3 kV3 dc3 pm3 cd3 ct3 oc4 kV4 dc4 pm4 cd4 ct4 oc5 kV5 dc5 pm5 cd5 ct5 oc6 kV6 dc6 pm6 cd6 ct6 oc7 kV7 dc7 pm7 cd7 ct7 oc8 kV8 dc8 pm8 cd8 ct8 oc9 kV9 dc9 pm9 cd9 ct9 oc10 kV10 dc10 pm10 cd10 ct10 oc11 kV11 dc11 pm11 cd11 ct11 oc12 kV12 dc12 pm12 cd12 ct12 oc13 kV13 dc13 pm13 cd13 ct13 oc14 kV14 dc14 pm14 cd14 ct14 oc15 kV15 dc15 pm15 cd15 ct15 oc16 kV16 dc16 pm16 cd16 ct16 oc17 kV17 dc17 pm17 cd17 ct17 oc18 kV18 dc18 pm18 cd18 ct18 oc19 kV19 dc19 pm19 cd19 ct19 oc20 kV20 dc20 pm20 cd20 ct20 oc21 kV21 dc21 pm21 cd21 ct21 oc22 kV22 dc22 pm22 cd22 ct22 oc23 kV23 dc23 pm23 cd23 ct23 oc24 kV24 dc24 pm24 cd24 ct24 oc25 kV25 dc25 pm25 cd25 ct25 oc26 kV26 dc26 pm26 cd26 ct26 oc27 kV27 dc27 pm27 cd27 ct27 oc28 kV28 dc28 pm28 cd28 ct28 oc29 kV29 dc29 pm29 cd29 ct29 oc30 kV30 dc30 pm30 cd30 ct30 oc31 kV31 dc31 pm31 cd31 ct31:Value}
  (a0:nsIn K mainGlobals "rank_of"=some (some (.ref f0))) (l0:K.lookup f0=some ⟨oc0,od0,.func (fnOf "rank_of" "rank_of" (Ad Cv) (AZ Cv) (AH Cv) .none kV0 dc0 pm0 an0 cd0 ct0),sl0⟩) (c0:codeIn K cd0 "rank_of"=true) (k0:keepIn K (.ref f0)=true)
  (a1:nsIn K mainGlobals "order_of"=some (some (.ref f1))) (l1:K.lookup f1=some ⟨oc1,od1,.func (fnOf "order_of" "order_of" (Ad CS) (AZ CS) (AH CS) .none kV1 dc1 pm1 an1 cd1 ct1),sl1⟩) (c1:codeIn K cd1 "order_of"=true) (k1:keepIn K (.ref f1)=true)
  (a2:nsIn K mainGlobals "steps_of"=some (some (.ref f2))) (l2:K.lookup f2=some ⟨oc2,od2,.func (fnOf "steps_of" "steps_of" (Ad CQ) (AZ CQ) (AH CQ) .none kV2 dc2 pm2 an2 cd2 ct2),sl2⟩) (c2:codeIn K cd2 "steps_of"=true) (k2:keepIn K (.ref f2)=true)
  (a3:nsIn K mainGlobals "only"=some (some (.ref f3))) (l3:K.lookup f3=some ⟨oc3,od3,.func (fnOf "only" "only" (Ad Fv) (AZ Fv) (AH Fv) .none kV3 dc3 pm3 an3 cd3 ct3),sl3⟩) (c3:codeIn K cd3 "only"=true) (k3:keepIn K (.ref f3)=true)
  (a4:nsIn K mainGlobals "without"=some (some (.ref f4))) (l4:K.lookup f4=some ⟨oc4,od4,.func (fnOf "without" "without" (Ad Ct) (AZ Ct) (AH Ct) .none kV4 dc4 pm4 an4 cd4 ct4),sl4⟩) (c4:codeIn K cd4 "without"=true) (k4:keepIn K (.ref f4)=true)
  (a5:nsIn K mainGlobals "length_of"=some (some (.ref f5))) (l5:K.lookup f5=some ⟨oc5,od5,.func (fnOf "length_of" "length_of" (Ad CD) (AZ CD) (AH CD) .none kV5 dc5 pm5 an5 cd5 ct5),sl5⟩) (c5:codeIn K cd5 "length_of"=true) (k5:keepIn K (.ref f5)=true)
  (a6:nsIn K mainGlobals "ties_over"=some (some (.ref f6))) (l6:K.lookup f6=some ⟨oc6,od6,.func (fnOf "ties_over" "ties_over" (Ad CC) (AZ CC) (AH CC) .none kV6 dc6 pm6 an6 cd6 ct6),sl6⟩) (c6:codeIn K cd6 "ties_over"=true) (k6:keepIn K (.ref f6)=true)
  (a7:nsIn K mainGlobals "nearest_of"=some (some (.ref f7))) (l7:K.lookup f7=some ⟨oc7,od7,.func (fnOf "nearest_of" "nearest_of" (Ad Bu) (AZ Bu) (AH Bu) .none kV7 dc7 pm7 an7 cd7 ct7),sl7⟩) (c7:codeIn K cd7 "nearest_of"=true) (k7:keepIn K (.ref f7)=true)
  (a8:nsIn K mainGlobals "least_ways"=some (some (.ref f8))) (l8:K.lookup f8=some ⟨oc8,od8,.func (fnOf "least_ways" "least_ways" (Ad Bv) (AZ Bv) (AH Bv) .none kV8 dc8 pm8 an8 cd8 ct8),sl8⟩) (c8:codeIn K cd8 "least_ways"=true) (k8:keepIn K (.ref f8)=true)
  (a9:nsIn K mainGlobals "way_of"=some (some (.ref f9))) (l9:K.lookup f9=some ⟨oc9,od9,.func (fnOf "way_of" "way_of" (Ad DX) (AZ DX) (AH DX) .none kV9 dc9 pm9 an9 cd9 ct9),sl9⟩) (c9:codeIn K cd9 "way_of"=true) (k9:keepIn K (.ref f9)=true)
  (a10:nsIn K mainGlobals "is_within"=some (some (.ref f10))) (l10:K.lookup f10=some ⟨oc10,od10,.func (fnOf "is_within" "is_within" (Ad CF) (AZ CF) (AH CF) .none kV10 dc10 pm10 an10 cd10 ct10),sl10⟩) (c10:codeIn K cd10 "is_within"=true) (k10:keepIn K (.ref f10)=true)
  (a11:nsIn K mainGlobals "near_way"=some (some (.ref f11))) (l11:K.lookup f11=some ⟨oc11,od11,.func (fnOf "near_way" "near_way" (Ad CT) (AZ CT) (AH CT) .none kV11 dc11 pm11 an11 cd11 ct11),sl11⟩) (c11:codeIn K cd11 "near_way"=true) (k11:keepIn K (.ref f11)=true)
  (a12:nsIn K mainGlobals "thinned"=some (some (.ref f12))) (l12:K.lookup f12=some ⟨oc12,od12,.func (fnOf "thinned" "thinned" (Ad Cu) (AZ Cu) (AH Cu) .none kV12 dc12 pm12 an12 cd12 ct12),sl12⟩) (c12:codeIn K cd12 "thinned"=true) (k12:keepIn K (.ref f12)=true)
  (a13:nsIn K mainGlobals "broken_of"=some (some (.ref f13))) (l13:K.lookup f13=some ⟨oc13,od13,.func (fnOf "broken_of" "broken_of" (Ad CG) (AZ CG) (AH CG) .none kV13 dc13 pm13 an13 cd13 ct13),sl13⟩) (c13:codeIn K cd13 "broken_of"=true) (k13:keepIn K (.ref f13)=true)
  (a14:nsIn K mainGlobals "steady_thinned"=some (some (.ref f14))) (l14:K.lookup f14=some ⟨oc14,od14,.func (fnOf "steady_thinned" "steady_thinned" (Ad BE) (AZ BE) (AH BE) .none kV14 dc14 pm14 an14 cd14 ct14),sl14⟩) (c14:codeIn K cd14 "steady_thinned"=true) (k14:keepIn K (.ref f14)=true)
  (a15:nsIn K mainGlobals "_law_feed"=some (some (.ref f15))) (l15:K.lookup f15=some ⟨oc15,od15,.func (fnOf "_law_feed" "_law_feed" (Ad CH) (AZ CH) (AH CH) .none kV15 dc15 pm15 an15 cd15 ct15),sl15⟩) (c15:codeIn K cd15 "_law_feed"=true) (k15:keepIn K (.ref f15)=true)
  (a16:nsIn K mainGlobals "_law_next"=some (some (.ref f16))) (l16:K.lookup f16=some ⟨oc16,od16,.func (fnOf "_law_next" "_law_next" (Ad Br) (AZ Br) (AH Br) .none kV16 dc16 pm16 an16 cd16 ct16),sl16⟩) (c16:codeIn K cd16 "_law_next"=true) (k16:keepIn K (.ref f16)=true)
  (a17:nsIn K mainGlobals "_law_names"=some (some (.ref f17))) (l17:K.lookup f17=some ⟨oc17,od17,.func (fnOf "_law_names" "_law_names" (Ad Bz) (AZ Bz) (AH Bz) .none kV17 dc17 pm17 an17 cd17 ct17),sl17⟩) (c17:codeIn K cd17 "_law_names"=true) (k17:keepIn K (.ref f17)=true)
  (a18:nsIn K mainGlobals "_law_length"=some (some (.ref f18))) (l18:K.lookup f18=some ⟨oc18,od18,.func (fnOf "_law_length" "_law_length" (Ad Be) (AZ Be) (AH Be) .none kV18 dc18 pm18 an18 cd18 ct18),sl18⟩) (c18:codeIn K cd18 "_law_length"=true) (k18:keepIn K (.ref f18)=true)
  (a19:nsIn K mainGlobals "_law_net"=some (some (.ref f19))) (l19:K.lookup f19=some ⟨oc19,od19,.func (fnOf "_law_net" "_law_net" (Ad CU) (AZ CU) (AH CU) .none kV19 dc19 pm19 an19 cd19 ct19),sl19⟩) (c19:codeIn K cd19 "_law_net"=true) (k19:keepIn K (.ref f19)=true)
  (a20:nsIn K mainGlobals "_law_order"=some (some (.ref f20))) (l20:K.lookup f20=some ⟨oc20,od20,.func (fnOf "_law_order" "_law_order" (Ad By) (AZ By) (AH By) .none kV20 dc20 pm20 an20 cd20 ct20),sl20⟩) (c20:codeIn K cd20 "_law_order"=true) (k20:keepIn K (.ref f20)=true)
  (a21:nsIn K mainGlobals "_law_lengths"=some (some (.ref f21))) (l21:K.lookup f21=some ⟨oc21,od21,.func (fnOf "_law_lengths" "_law_lengths" (Ad BR) (AZ BR) (AH BR) .none kV21 dc21 pm21 an21 cd21 ct21),sl21⟩) (c21:codeIn K cd21 "_law_lengths"=true) (k21:keepIn K (.ref f21)=true)
  (a22:nsIn K mainGlobals "_law_times"=some (some (.ref f22))) (l22:K.lookup f22=some ⟨oc22,od22,.func (fnOf "_law_times" "_law_times" (Ad Bw) (AZ Bw) (AH Bw) .none kV22 dc22 pm22 an22 cd22 ct22),sl22⟩) (c22:codeIn K cd22 "_law_times"=true) (k22:keepIn K (.ref f22)=true)
  (a23:nsIn K mainGlobals "_law_within"=some (some (.ref f23))) (l23:K.lookup f23=some ⟨oc23,od23,.func (fnOf "_law_within" "_law_within" (Ad Bb) (AZ Bb) (AH Bb) .none kV23 dc23 pm23 an23 cd23 ct23),sl23⟩) (c23:codeIn K cd23 "_law_within"=true) (k23:keepIn K (.ref f23)=true)
  (a24:nsIn K mainGlobals "_law_breaks"=some (some (.ref f24))) (l24:K.lookup f24=some ⟨oc24,od24,.func (fnOf "_law_breaks" "_law_breaks" (Ad Bg) (AZ Bg) (AH Bg) .none kV24 dc24 pm24 an24 cd24 ct24),sl24⟩) (c24:codeIn K cd24 "_law_breaks"=true) (k24:keepIn K (.ref f24)=true)
  (a25:nsIn K mainGlobals "_law_breaking"=some (some (.ref f25))) (l25:K.lookup f25=some ⟨oc25,od25,.func (fnOf "_law_breaking" "_law_breaking" (Ad BJ) (AZ BJ) (AH BJ) .none kV25 dc25 pm25 an25 cd25 ct25),sl25⟩) (c25:codeIn K cd25 "_law_breaking"=true) (k25:keepIn K (.ref f25)=true)
  (a26:nsIn K mainGlobals "_law_steady"=some (some (.ref f26))) (l26:K.lookup f26=some ⟨oc26,od26,.func (fnOf "_law_steady" "_law_steady" (Ad Bc) (AZ Bc) (AH Bc) .none kV26 dc26 pm26 an26 cd26 ct26),sl26⟩) (c26:codeIn K cd26 "_law_steady"=true) (k26:keepIn K (.ref f26)=true)
  (a27:nsIn K mainGlobals "_law_dense"=some (some (.ref f27))) (l27:K.lookup f27=some ⟨oc27,od27,.func (fnOf "_law_dense" "_law_dense" (Ad B0) (AZ B0) (AH B0) .none kV27 dc27 pm27 an27 cd27 ct27),sl27⟩) (c27:codeIn K cd27 "_law_dense"=true) (k27:keepIn K (.ref f27)=true)
  (a28:nsIn K mainGlobals "_law_crossed"=some (some (.ref f28))) (l28:K.lookup f28=some ⟨oc28,od28,.func (fnOf "_law_crossed" "_law_crossed" (Ad BS) (AZ BS) (AH BS) .none kV28 dc28 pm28 an28 cd28 ct28),sl28⟩) (c28:codeIn K cd28 "_law_crossed"=true) (k28:keepIn K (.ref f28)=true)
  (a29:nsIn K mainGlobals "_law_broad"=some (some (.ref f29))) (l29:K.lookup f29=some ⟨oc29,od29,.func (fnOf "_law_broad" "_law_broad" (Ad B3) (AZ B3) (AH B3) .none kV29 dc29 pm29 an29 cd29 ct29),sl29⟩) (c29:codeIn K cd29 "_law_broad"=true) (k29:keepIn K (.ref f29)=true)
  (a30:nsIn K mainGlobals "_law_right"=some (some (.ref f30))) (l30:K.lookup f30=some ⟨oc30,od30,.func (fnOf "_law_right" "_law_right" (Ad Bx) (AZ Bx) (AH Bx) .none kV30 dc30 pm30 an30 cd30 ct30),sl30⟩) (c30:codeIn K cd30 "_law_right"=true) (k30:keepIn K (.ref f30)=true)
  (a31:nsIn K mainGlobals "law"=some (some (.ref f31))) (l31:K.lookup f31=some ⟨oc31,od31,.func (fnOf "law" "law" (Ad FL) (AZ FL) (AH FL) .none kV31 dc31 pm31 an31 cd31 ct31),sl31⟩) (c31:codeIn K cd31 "law"=true) (k31:keepIn K (.ref f31)=true)
  (z_all:nsIn K mainGlobals "all"=some none)
  (z_isinstance:nsIn K mainGlobals "isinstance"=some none)
  (z_len:nsIn K mainGlobals "len"=some none)
  (z_list:nsIn K mainGlobals "list"=some none)
  (z_max:nsIn K mainGlobals "max"=some none)
  (z_min:nsIn K mainGlobals "min"=some none)
  (z_range:nsIn K mainGlobals "range"=some none)
  (z_repr:nsIn K mainGlobals "repr"=some none)
  (z_reversed:nsIn K mainGlobals "reversed"=some none)
  (z_sorted:nsIn K mainGlobals "sorted"=some none)
  (z_str:nsIn K mainGlobals "str"=some none)
  (z_tuple:nsIn K mainGlobals "tuple"=some none)
  (z_zip:nsIn K mainGlobals "zip"=some none)
  : ∃fd:FuncData,(∀(s:Shared) (v:Value),BindsTo s fd ⟨[v],[]⟩ [("_law_script",v)])/\∀base:Heap,K.In base->base.Ns mainGlobals mg->BG l.prog w K mg base C0 10 fa fd ["_law_script"] (Kt K):=by
 have e:=hfa.symm.trans (mg_of X G a31)
 cases e
 have T:Txt K mg:=⟨mg_none_of X G z_all,mg_none_of X G z_isinstance,mg_none_of X G z_len,mg_none_of X G z_list,mg_none_of X G z_max,mg_none_of X G z_min,mg_none_of X G z_range,mg_none_of X G z_repr,mg_none_of X G z_reversed,mg_none_of X G z_sorted,mg_none_of X G z_str,mg_none_of X G z_tuple,mg_none_of X G z_zip⟩
 have F0:=Ax (st:=Cv) l0 c0 k0
 have b0:=F0.binds (ps:=["tie"]) fun _ _ _ _ _ _ us hl=>by revert hl; revert us; exact fun us hl=>FT (g:=fun us=>bindArgs _ ⟨us,[]⟩) (k:=fun us=>pure (List.zip _ us)) us hl fun _=>rfl
 have F1:=Ax (st:=CS) l1 c1 k1
 have b1:=F1.binds (ps:=["ties"]) fun _ _ _ _ _ _ us hl=>by revert hl; revert us; exact fun us hl=>FT (g:=fun us=>bindArgs _ ⟨us,[]⟩) (k:=fun us=>pure (List.zip _ us)) us hl fun _=>rfl
 have F2:=Ax (st:=CQ) l2 c2 k2
 have b2:=F2.binds (ps:=["net"]) fun _ _ _ _ _ _ us hl=>by revert hl; revert us; exact fun us hl=>FT (g:=fun us=>bindArgs _ ⟨us,[]⟩) (k:=fun us=>pure (List.zip _ us)) us hl fun _=>rfl
 have F3:=Ax (st:=Fv) l3 c3 k3
 have b3:=F3.binds (ps:=["net","ties"]) fun _ _ _ _ _ _ us hl=>by revert hl; revert us; exact fun us hl=>Dx (g:=fun us=>bindArgs _ ⟨us,[]⟩) (k:=fun us=>pure (List.zip _ us)) us hl fun _ _=>rfl
 have F4:=Ax (st:=Ct) l4 c4 k4
 have b4:=F4.binds (ps:=["net","ties"]) fun _ _ _ _ _ _ us hl=>by revert hl; revert us; exact fun us hl=>Dx (g:=fun us=>bindArgs _ ⟨us,[]⟩) (k:=fun us=>pure (List.zip _ us)) us hl fun _ _=>rfl
 have F5:=Ax (st:=CD) l5 c5 k5
 have b5:=F5.binds (ps:=["net","thing"]) fun _ _ _ _ _ _ us hl=>by revert hl; revert us; exact fun us hl=>Dx (g:=fun us=>bindArgs _ ⟨us,[]⟩) (k:=fun us=>pure (List.zip _ us)) us hl fun _ _=>rfl
 have F6:=Ax (st:=CC) l6 c6 k6
 have b6:=F6.binds (ps:=["net","way"]) fun _ _ _ _ _ _ us hl=>by revert hl; revert us; exact fun us hl=>Dx (g:=fun us=>bindArgs _ ⟨us,[]⟩) (k:=fun us=>pure (List.zip _ us)) us hl fun _ _=>rfl
 have F7:=Ax (st:=Bu) l7 c7 k7
 have b7:=F7.binds (ps:=["waiting","found"]) fun _ _ _ _ _ _ us hl=>by revert hl; revert us; exact fun us hl=>Dx (g:=fun us=>bindArgs _ ⟨us,[]⟩) (k:=fun us=>pure (List.zip _ us)) us hl fun _ _=>rfl
 have F8:=Ax (st:=Bv) l8 c8 k8
 have b8:=F8.binds (ps:=["net","start"]) fun _ _ _ _ _ _ us hl=>by revert hl; revert us; exact fun us hl=>Dx (g:=fun us=>bindArgs _ ⟨us,[]⟩) (k:=fun us=>pure (List.zip _ us)) us hl fun _ _=>rfl
 have F9:=Ax (st:=DX) l9 c9 k9
 have b9:=F9.binds (ps:=["net","a","b"]) fun _ _ _ _ _ _ us hl=>by revert hl; revert us; exact fun us hl=>Ga (g:=fun us=>bindArgs _ ⟨us,[]⟩) (k:=fun us=>pure (List.zip _ us)) us hl fun _ _ _=>rfl
 have F10:=Ax (st:=CF) l10 c10 k10
 have b10:=F10.binds (ps:=["length","times","number"]) fun _ _ _ _ _ _ us hl=>by revert hl; revert us; exact fun us hl=>Ga (g:=fun us=>bindArgs _ ⟨us,[]⟩) (k:=fun us=>pure (List.zip _ us)) us hl fun _ _ _=>rfl
 have F11:=Ax (st:=CT) l11 c11 k11
 have b11:=F11.binds (ps:=["net","times","tie"]) fun _ _ _ _ _ _ us hl=>by revert hl; revert us; exact fun us hl=>Ga (g:=fun us=>bindArgs _ ⟨us,[]⟩) (k:=fun us=>pure (List.zip _ us)) us hl fun _ _ _=>rfl
 have F12:=Ax (st:=Cu) l12 c12 k12
 have b12:=F12.binds (ps:=["net","times"]) fun _ _ _ _ _ _ us hl=>by revert hl; revert us; exact fun us hl=>Dx (g:=fun us=>bindArgs _ ⟨us,[]⟩) (k:=fun us=>pure (List.zip _ us)) us hl fun _ _=>rfl
 have F13:=Ax (st:=CG) l13 c13 k13
 have b13:=F13.binds (ps:=["net","times","tie","many"]) fun _ _ _ _ _ _ us hl=>by revert hl; revert us; exact fun us hl=>SG (g:=fun us=>bindArgs _ ⟨us,[]⟩) (k:=fun us=>pure (List.zip _ us)) us hl fun _ _ _ _=>rfl
 have F14:=Ax (st:=BE) l14 c14 k14
 have b14:=F14.binds (ps:=["net","times","many"]) fun _ _ _ _ _ _ us hl=>by revert hl; revert us; exact fun us hl=>Ga (g:=fun us=>bindArgs _ ⟨us,[]⟩) (k:=fun us=>pure (List.zip _ us)) us hl fun _ _ _=>rfl
 have F15:=Ax (st:=CH) l15 c15 k15
 have b15:=F15.binds (ps:=["_law_script"]) fun _ _ _ _ _ _ us hl=>by revert hl; revert us; exact fun us hl=>FT (g:=fun us=>bindArgs _ ⟨us,[]⟩) (k:=fun us=>pure (List.zip _ us)) us hl fun _=>rfl
 have F16:=Ax (st:=Br) l16 c16 k16
 have b16:=F16.binds (ps:=["_law_feed_here","_law_many"]) fun _ _ _ _ _ _ us hl=>by revert hl; revert us; exact fun us hl=>Dx (g:=fun us=>bindArgs _ ⟨us,[]⟩) (k:=fun us=>pure (List.zip _ us)) us hl fun _ _=>rfl
 have F17:=Ax (st:=Bz) l17 c17 k17
 have b17:=F17.binds (ps:=["_law_feed_here","_law_many"]) fun _ _ _ _ _ _ us hl=>by revert hl; revert us; exact fun us hl=>Dx (g:=fun us=>bindArgs _ ⟨us,[]⟩) (k:=fun us=>pure (List.zip _ us)) us hl fun _ _=>rfl
 have F18:=Ax (st:=Be) l18 c18 k18
 have b18:=F18.binds (ps:=["_law_feed_here","_law_way"]) fun _ _ _ _ _ _ us hl=>by revert hl; revert us; exact fun us hl=>Dx (g:=fun us=>bindArgs _ ⟨us,[]⟩) (k:=fun us=>pure (List.zip _ us)) us hl fun _ _=>rfl
 have F19:=Ax (st:=CU) l19 c19 k19
 have b19:=F19.binds (ps:=["_law_feed_here","_law_most","_law_ties"]) fun _ _ _ _ _ _ us hl=>by revert hl; revert us; exact fun us hl=>Ga (g:=fun us=>bindArgs _ ⟨us,[]⟩) (k:=fun us=>pure (List.zip _ us)) us hl fun _ _ _=>rfl
 have F20:=Ax (st:=By) l20 c20 k20
 have b20:=F20.binds (ps:=["_law_ties"]) fun _ _ _ _ _ _ us hl=>by revert hl; revert us; exact fun us hl=>FT (g:=fun us=>bindArgs _ ⟨us,[]⟩) (k:=fun us=>pure (List.zip _ us)) us hl fun _=>rfl
 have F21:=Ax (st:=BR) l21 c21 k21
 have b21:=F21.binds (ps:=["_law_ties","_law_place"]) fun _ _ _ _ _ _ us hl=>by revert hl; revert us; exact fun us hl=>Dx (g:=fun us=>bindArgs _ ⟨us,[]⟩) (k:=fun us=>pure (List.zip _ us)) us hl fun _ _=>rfl
 have F22:=Ax (st:=Bw) l22 c22 k22
 have b22:=F22.binds (ps:=["_law_feed_here"]) fun _ _ _ _ _ _ us hl=>by revert hl; revert us; exact fun us hl=>FT (g:=fun us=>bindArgs _ ⟨us,[]⟩) (k:=fun us=>pure (List.zip _ us)) us hl fun _=>rfl
 have F23:=Ax (st:=Bb) l23 c23 k23
 have b23:=F23.binds (ps:=["_law_length_here","_law_times_here","_law_number"]) fun _ _ _ _ _ _ us hl=>by revert hl; revert us; exact fun us hl=>Ga (g:=fun us=>bindArgs _ ⟨us,[]⟩) (k:=fun us=>pure (List.zip _ us)) us hl fun _ _ _=>rfl
 have F24:=Ax (st:=Bg) l24 c24 k24
 have b24:=F24.binds (ps:=["_law_ties","_law_many"]) fun _ _ _ _ _ _ us hl=>by revert hl; revert us; exact fun us hl=>Dx (g:=fun us=>bindArgs _ ⟨us,[]⟩) (k:=fun us=>pure (List.zip _ us)) us hl fun _ _=>rfl
 have F25:=Ax (st:=BJ) l25 c25 k25
 have b25:=F25.binds (ps:=["_law_ties","_law_times_here","_law_tie","_law_many"]) fun _ _ _ _ _ _ us hl=>by revert hl; revert us; exact fun us hl=>SG (g:=fun us=>bindArgs _ ⟨us,[]⟩) (k:=fun us=>pure (List.zip _ us)) us hl fun _ _ _ _=>rfl
 have F26:=Ax (st:=Bc) l26 c26 k26
 have b26:=F26.binds (ps:=["_law_net_here","_law_times_here","_law_many"]) fun _ _ _ _ _ _ us hl=>by revert hl; revert us; exact fun us hl=>Ga (g:=fun us=>bindArgs _ ⟨us,[]⟩) (k:=fun us=>pure (List.zip _ us)) us hl fun _ _ _=>rfl
 have F27:=Ax (st:=B0) l27 c27 k27
 have b27:=F27.binds (ps:=["_law_feed_here"]) fun _ _ _ _ _ _ us hl=>by revert hl; revert us; exact fun us hl=>FT (g:=fun us=>bindArgs _ ⟨us,[]⟩) (k:=fun us=>pure (List.zip _ us)) us hl fun _=>rfl
 have F28:=Ax (st:=BS) l28 c28 k28
 have b28:=F28.binds (ps:=["_law_feed_here"]) fun _ _ _ _ _ _ us hl=>by revert hl; revert us; exact fun us hl=>FT (g:=fun us=>bindArgs _ ⟨us,[]⟩) (k:=fun us=>pure (List.zip _ us)) us hl fun _=>rfl
 have F29:=Ax (st:=B3) l29 c29 k29
 have b29:=F29.binds (ps:=["_law_feed_here"]) fun _ _ _ _ _ _ us hl=>by revert hl; revert us; exact fun us hl=>FT (g:=fun us=>bindArgs _ ⟨us,[]⟩) (k:=fun us=>pure (List.zip _ us)) us hl fun _=>rfl
 have F30:=Ax (st:=Bx) l30 c30 k30
 have b30:=F30.binds (ps:=["_law_net_here","_law_times_here","_law_many"]) fun _ _ _ _ _ _ us hl=>by revert hl; revert us; exact fun us hl=>Ga (g:=fun us=>bindArgs _ ⟨us,[]⟩) (k:=fun us=>pure (List.zip _ us)) us hl fun _ _ _=>rfl
 have F31:=Ax (st:=FL) l31 c31 k31
 refine⟨fnOf "law" "law" (Ad FL) (AZ FL) (AH FL) .none kV31 dc31 pm31 an31 cd31 ct31,fun s v=>.of_eq rfl,fun base _ _=>?_⟩
 have G_rank_of:Got l.prog w K mg base "rank_of" 1 ["tie"] .sh Lh:=Aw F0 (mg_of X G a0) b0 (fun _ _ _ h=>by obtain⟨_,_,_,e,_⟩:=h; rw [e]; rfl) (MG T  F0)
 have G_order_of:Got l.prog w K mg base "order_of" 4 ["ties"] .fr Cd:=Aw F1 (mg_of X G a1) b1 (fun _ _ _ h=>by obtain⟨_,_,e,_⟩:=h; rw [e]; rfl) (K8 T G_rank_of F1)
 have G_steps_of:Got l.prog w K mg base "steps_of" 1 ["net"] .sh Ec:=Aw F2 (mg_of X G a2) b2 (fun _ _ _ h=>by obtain⟨_,e,_⟩:=h; rw [e]; rfl) (K7 F2)
 have G_only:Got l.prog w K mg base "only" 1 ["net","ties"] .sh CB:=Aw F3 (mg_of X G a3) b3 (fun _ _ _ h=>by obtain⟨_,_,_,e,_⟩:=h; rw [e]; rfl) (Q5 T  F3)
 have G_without:Got l.prog w K mg base "without" 2 ["net","ties"] .sh Dg:=Aw F4 (mg_of X G a4) b4 (fun _ _ _ h=>by obtain⟨_,_,e,_⟩:=h; rw [e]; rfl) (ME T G_only F4)
 have G_length_of:Got l.prog w K mg base "length_of" 2 ["net","thing"] .sh Qd:=Aw F5 (mg_of X G a5) b5 (fun _ _ _ h=>by obtain⟨_,_,e,_⟩:=h; rw [e]; rfl) (Jx T G_steps_of F5)
 have G_ties_over:Got l.prog w K mg base "ties_over" 2 ["net","way"] .fr IK:=Aw F6 (mg_of X G a6) b6 (fun _ _ _ h=>by obtain⟨_,_,_,e,_⟩:=h; rw [e]; rfl) (Jw T G_steps_of F6)
 have G_nearest_of:Got l.prog w K mg base "nearest_of" 1 ["waiting","found"] .sh Li:=Aw F7 (mg_of X G a7) b7 (fun _ _ _ h=>by obtain⟨_,_,_,_,e,_⟩:=h; rw [e]; rfl) (IV T  F7)
 have G_least_ways:Got l.prog w K mg base "least_ways" 2 ["net","start"] .fr IL:=Aw F8 (mg_of X G a8) b8 (fun _ _ _ h=>by obtain⟨_,_,e,_⟩:=h; rw [e]; rfl) (IW T G_nearest_of G_steps_of F8)
 have G_way_of:Got l.prog w K mg base "way_of" 3 ["net","a","b"] .sh Qc:=Aw F9 (mg_of X G a9) b9 (fun _ _ _ h=>by obtain⟨_,_,_,e,_⟩:=h; rw [e]; rfl) (Ny T G_least_ways F9)
 have G_is_within:Got l.prog w K mg base "is_within" 1 ["length","times","number"] .sh CO:=Aw F10 (mg_of X G a10) b10 (fun _ _ _ h=>by obtain⟨_,_,_,_,e,_⟩:=h; rw [e]; rfl) (Jy T  F10)
 have G_near_way:Got l.prog w K mg base "near_way" 4 ["net","times","tie"] .sh Ee:=Aw F11 (mg_of X G a11) b11 (fun _ _ _ h=>by obtain⟨_,_,_,_,e,_⟩:=h; rw [e]; rfl) (K9 T G_is_within G_length_of G_way_of F11)
 have G_thinned:Got l.prog w K mg base "thinned" 5 ["net","times"] .sh Dh:=Aw F12 (mg_of X G a12) b12 (fun _ _ _ h=>by obtain⟨_,_,_,e,_⟩:=h; rw [e]; rfl) (MF T G_near_way G_only G_order_of F12)
 have G_broken_of:Got l.prog w K mg base "broken_of" 7 ["net","times","tie","many"] .sh (Gk 2):=Aw F13 (mg_of X G a13) b13 (fun _ _ _ h=>by obtain⟨_,_,_,_,_,e,_⟩:=h; rw [e]; rfl) (FS T G_near_way G_ties_over G_without F13 (mg_of X G a13) b13 2)
 have G_steady_thinned:Got l.prog w K mg base "steady_thinned" 8 ["net","times","many"] .sh DN:=Aw F14 (mg_of X G a14) b14 (fun _ _ _ h=>by obtain⟨_,_,_,_,e,_⟩:=h; rw [e]; rfl) (FR T G_broken_of G_only G_order_of F14)
 have Gf:=Jz (P:=l.prog) (w:=w) (base:=base) T F15
 have G__law_next:Got l.prog w K mg base "_law_next" 1 ["_law_feed_here","_law_many"] .sh A5:=Aw F16 (mg_of X G a16) b16 (fun _ _ _ h=>by obtain⟨_,e,_⟩:=h; rw [e]; rfl) (Q6 F16 T.n_len)
 have G__law_names:Got l.prog w K mg base "_law_names" 2 ["_law_feed_here","_law_many"] .sh CP:=Aw F17 (mg_of X G a17) b17 (fun _ _ _ h=>by obtain⟨_,e,_⟩:=h; rw [e]; rfl) (Ib T G__law_next F17)
 have G__law_length:Got l.prog w K mg base "_law_length" 2 ["_law_feed_here","_law_way"] .sh GL:=Aw F18 (mg_of X G a18) b18 (fun _ _ _ h=>by obtain⟨_,e,_⟩:=h; rw [e]; rfl) (He T G__law_next F18)
 have G__law_net:Got l.prog w K mg base "_law_net" 3 ["_law_feed_here","_law_most","_law_ties"] .sh GK:=Aw F19 (mg_of X G a19) b19 (fun _ _ _ h=>by obtain⟨_,_,e,_⟩:=h; rw [e]; rfl) (K_ T G__law_length G__law_names G__law_next F19)
 have G__law_order:Got l.prog w K mg base "_law_order" 1 ["_law_ties"] .fr Cd:=Aw F20 (mg_of X G a20) b20 (fun _ _ _ h=>by obtain⟨_,_,e,_⟩:=h; rw [e]; rfl) (IZ T  F20)
 have G__law_lengths:Got l.prog w K mg base "_law_lengths" 1 ["_law_ties","_law_place"] .fr Dk:=Aw F21 (mg_of X G a21) b21 (fun _ _ _ h=>by obtain⟨_,_,_,_,e,_⟩:=h; rw [e]; rfl) (Gs T  F21)
 have G__law_times:Got l.prog w K mg base "_law_times" 2 ["_law_feed_here"] .sh Eb:=Aw F22 (mg_of X G a22) b22 (fun _ _ _ h=>by obtain⟨e,_⟩:=h; rw [e]; rfl) (IX T G__law_next F22)
 have G__law_within:Got l.prog w K mg base "_law_within" 1 ["_law_length_here","_law_times_here","_law_number"] .sh CO:=Aw F23 (mg_of X G a23) b23 (fun _ _ _ h=>by obtain⟨_,_,_,_,e,_⟩:=h; rw [e]; rfl) (Hc T  F23)
 have G__law_breaks:Got l.prog w K mg base "_law_breaks" 1 ["_law_ties","_law_many"] .fr Fl:=Aw F24 (mg_of X G a24) b24 (fun _ _ _ h=>by obtain⟨_,_,_,e,_⟩:=h; rw [e]; rfl) (Hf T  F24)
 have G__law_breaking:Got l.prog w K mg base "_law_breaking" 2 ["_law_ties","_law_times_here","_law_tie","_law_many"] .sh Cz:=Aw F25 (mg_of X G a25) b25 (fun _ _ _ h=>by obtain⟨_,_,_,_,_,_,e,_⟩:=h; rw [e]; rfl) (Fz T G__law_breaks G__law_lengths G__law_within F25)
 have G__law_steady:Got l.prog w K mg base "_law_steady" 3 ["_law_net_here","_law_times_here","_law_many"] .sh Ef:=Aw F26 (mg_of X G a26) b26 (fun _ _ _ h=>by obtain⟨_,_,_,_,e,_⟩:=h; rw [e]; rfl) (Hd T G__law_breaking G__law_order F26)
 have G__law_dense:Got l.prog w K mg base "_law_dense" 3 ["_law_feed_here"] .sh GN:=Aw F27 (mg_of X G a27) b27 (fun _ _ _ h=>by obtain⟨e,_⟩:=h; rw [e]; rfl) (Ic T G__law_names G__law_next F27)
 have G__law_crossed:Got l.prog w K mg base "_law_crossed" 3 ["_law_feed_here"] .sh Eg:=Aw F28 (mg_of X G a28) b28 (fun _ _ _ h=>by obtain⟨e,_⟩:=h; rw [e]; rfl) (Gu T G__law_names G__law_next F28)
 have G__law_broad:Got l.prog w K mg base "_law_broad" 2 ["_law_feed_here"] .sh FC:=Aw F29 (mg_of X G a29) b29 (fun _ _ _ h=>by obtain⟨e,_⟩:=h; rw [e]; rfl) (Id T G__law_next F29)
 have G__law_right:Got l.prog w K mg base "_law_right" 9 ["_law_net_here","_law_times_here","_law_many"] .sh Di:=Aw F30 (mg_of X G a30) b30 (fun _ _ _ h=>by obtain⟨_,_,_,_,e,_⟩:=h; rw [e]; rfl) (IY T G__law_steady G_steady_thinned F30)
 exact S_ T Gf (mg_of X G a15) F15.kp b15 G__law_broad G__law_crossed G__law_dense G__law_net G__law_next G__law_right G__law_times G_steady_thinned G_thinned F31
theorem walk{l:PySem.W.OpenLaw}{q:Program}{loose:List Str}{XP:(Str->Option Value)->Heap->Prop}{YP:World->Heap->Prop}{d:DefRec}{K:Params->Frag}(hn:l.most=some 63)(hdf:d.params.defaults=[])
  (hY:∀(w:World) (h:Heap),YP w h->(K w.params).In h)
  (F:∀(w:World) (mg:Str->Option Value) (fa:Addr) (h:Heap),(K w.params).In h->h.Ns mainGlobals mg->mg d.name=some (.ref fa) ->
   ∃fd:FuncData,(∀(s:Shared) (u:Value),BindsTo s fd ⟨[u],[]⟩ [("_law_script",u)])/\∀base:Heap,(K w.params).In base->base.Ns mainGlobals mg->BG l.prog w (K w.params) mg base C0 10 fa fd ["_law_script"] (Kt (K w.params))) :
  PySem.W.WalkO q loose XP YP l.row.toRowW d [] (fun f vs=>PySem.call f vs) :=
 L2.Ma (n:=63) (k:=10) (x := "_law_script") (CX:=fun _=>C0) (sp:=fun w=>Kt (K w.params)) hn (by decide) hdf ⟨rfl,by decide,by decide,rfl⟩ hY F (fun _ _ a ns hl _ hS=>⟨a,ns,rfl,⟨hl,hS⟩,fun _=>rfl⟩) fun _ _ _ _ _ z=>z
end K40
open PySem PySem.W PyProof.Rows
set_option maxRecDepth 100000 in
set_option maxHeartbeats 0 in
theorem PySem.Challenge.cw_thinnet_k40_thinned_for_many_holds : PySem.Challenge.rw_thinnet_k40_thinned_for_many.Holds := by
 w_on; o_law; k_head; (case hw=>w_witness2)
 k_fill
 refine K40.walk (l:=PySem.Challenge.rw_thinnet_k40_thinned_for_many) rfl rfl (fun w h Y=>PySem.W.kIn_of Y) ?F
 case F =>
  intro w mg fa h KX G hmg
  refine' K40.all_mk KX G hmg ?a0 ?l0 ?c0 ?k0 ?a1 ?l1 ?c1 ?k1 ?a2 ?l2 ?c2 ?k2 ?a3 ?l3 ?c3 ?k3 ?a4 ?l4 ?c4 ?k4 ?a5 ?l5 ?c5 ?k5 ?a6 ?l6 ?c6 ?k6 ?a7 ?l7 ?c7 ?k7 ?a8 ?l8 ?c8 ?k8 ?a9 ?l9 ?c9 ?k9 ?a10 ?l10 ?c10 ?k10 ?a11 ?l11 ?c11 ?k11 ?a12 ?l12 ?c12 ?k12 ?a13 ?l13 ?c13 ?k13 ?a14 ?l14 ?c14 ?k14 ?a15 ?l15 ?c15 ?k15 ?a16 ?l16 ?c16 ?k16 ?a17 ?l17 ?c17 ?k17 ?a18 ?l18 ?c18 ?k18 ?a19 ?l19 ?c19 ?k19 ?a20 ?l20 ?c20 ?k20 ?a21 ?l21 ?c21 ?k21 ?a22 ?l22 ?c22 ?k22 ?a23 ?l23 ?c23 ?k23 ?a24 ?l24 ?c24 ?k24 ?a25 ?l25 ?c25 ?k25 ?a26 ?l26 ?c26 ?k26 ?a27 ?l27 ?c27 ?k27 ?a28 ?l28 ?c28 ?k28 ?a29 ?l29 ?c29 ?k29 ?a30 ?l30 ?c30 ?k30 ?a31 ?l31 ?c31 ?k31 ?z_all ?z_isinstance ?z_len ?z_list ?z_max ?z_min ?z_range ?z_repr ?z_reversed ?z_sorted ?z_str ?z_tuple ?z_zip
  case a0=>k_is
  case l0=>k_is
  case c0=>k_is
  case k0=>k_is
  case a1=>k_is
  case l1=>k_is
  case c1=>k_is
  case k1=>k_is
  case a2=>k_is
  case l2=>k_is
  case c2=>k_is
  case k2=>k_is
  case a3=>k_is
  case l3=>k_is
  case c3=>k_is
  case k3=>k_is
  case a4=>k_is
  case l4=>k_is
  case c4=>k_is
  case k4=>k_is
  case a5=>k_is
  case l5=>k_is
  case c5=>k_is
  case k5=>k_is
  case a6=>k_is
  case l6=>k_is
  case c6=>k_is
  case k6=>k_is
  case a7=>k_is
  case l7=>k_is
  case c7=>k_is
  case k7=>k_is
  case a8=>k_is
  case l8=>k_is
  case c8=>k_is
  case k8=>k_is
  case a9=>k_is
  case l9=>k_is
  case c9=>k_is
  case k9=>k_is
  case a10=>k_is
  case l10=>k_is
  case c10=>k_is
  case k10=>k_is
  case a11=>k_is
  case l11=>k_is
  case c11=>k_is
  case k11=>k_is
  case a12=>k_is
  case l12=>k_is
  case c12=>k_is
  case k12=>k_is
  case a13=>k_is
  case l13=>k_is
  case c13=>k_is
  case k13=>k_is
  case a14=>k_is
  case l14=>k_is
  case c14=>k_is
  case k14=>k_is
  case a15=>k_is
  case l15=>k_is
  case c15=>k_is
  case k15=>k_is
  case a16=>k_is
  case l16=>k_is
  case c16=>k_is
  case k16=>k_is
  case a17=>k_is
  case l17=>k_is
  case c17=>k_is
  case k17=>k_is
  case a18=>k_is
  case l18=>k_is
  case c18=>k_is
  case k18=>k_is
  case a19=>k_is
  case l19=>k_is
  case c19=>k_is
  case k19=>k_is
  case a20=>k_is
  case l20=>k_is
  case c20=>k_is
  case k20=>k_is
  case a21=>k_is
  case l21=>k_is
  case c21=>k_is
  case k21=>k_is
  case a22=>k_is
  case l22=>k_is
  case c22=>k_is
  case k22=>k_is
  case a23=>k_is
  case l23=>k_is
  case c23=>k_is
  case k23=>k_is
  case a24=>k_is
  case l24=>k_is
  case c24=>k_is
  case k24=>k_is
  case a25=>k_is
  case l25=>k_is
  case c25=>k_is
  case k25=>k_is
  case a26=>k_is
  case l26=>k_is
  case c26=>k_is
  case k26=>k_is
  case a27=>k_is
  case l27=>k_is
  case c27=>k_is
  case k27=>k_is
  case a28=>k_is
  case l28=>k_is
  case c28=>k_is
  case k28=>k_is
  case a29=>k_is
  case l29=>k_is
  case c29=>k_is
  case k29=>k_is
  case a30=>k_is
  case l30=>k_is
  case c30=>k_is
  case k30=>k_is
  case a31=>k_is
  case l31=>k_is
  case c31=>k_is
  case k31=>k_is
  case z_all=>k_is
  case z_isinstance=>k_is
  case z_len=>k_is
  case z_list=>k_is
  case z_max=>k_is
  case z_min=>k_is
  case z_range=>k_is
  case z_repr=>k_is
  case z_reversed=>k_is
  case z_sorted=>k_is
  case z_str=>k_is
  case z_tuple=>k_is
  case z_zip=>k_is
#print axioms PySem.Challenge.cw_thinnet_k40_thinned_for_many_holds

import PyProof.Rows.All
import Wide.All
import OpenK.AllK
import Wide.FinOn
import Lean
import PyProof.EqAt
import PyProof.EqKinds
import PyProof.TupleCall
import PyProof.P3In
import PyProof.NeData
import PyProof.ReprLen
import PyProof.CompUse
import KE.KSortTup
import PyProof.SumAny
import PyProof.Rows.SeqCalls
import KE.KRevIter
import PyProof.TupleOfGen
import PyProof.CollectIter
import PyProof.ListNew
import PyProof.AttrMissHeap
import PyProof.FactsAll.dict
import PySem.Challenge.RW_thinnet_k07_prices
open PySem.W (Frag nsIn keepIn fnOf codeIn mg_of mg_none_of)
set_option Elab.async false
set_option linter.all false
set_option maxRecDepth 100000
namespace L2
open PySem PySem.Spec PyProof.Rows
abbrev Key:=Sum Int Str
def HD:Key->Value->Bool
 | .inl k,v=>Value.isInt k v
 | .inr x,v=>Value.isStrOf x v
def Si(w:World):Key->Int
 | .inl k=>hashInt k
 | .inr x=>hashStr w x
theorem A9:∀{k:Key} {v:Value},HD k v=true->(∃i t,k=Sum.inl i/\v=Value.int i t)\/(∃x t,k=Sum.inr x/\v=Value.str x t)
 | .inl i,v,h=>by
  obtain⟨t,e⟩:=Value.isInt_shape (k:=i) (v:=v) h
  exact .inl ⟨i,t,rfl,e⟩
 | .inr x,v,h=>by
  obtain⟨t,e⟩:=Value.isStrOf_shape (x:=x) (v:=v) h
  exact .inr ⟨x,t,rfl,e⟩
theorem L7(i:Int)(t:Tok):HD (.inl i) (.int i t)=true:=by simp [HD,Value.isInt]
theorem L6(x:Str)(t:Tok):HD (.inr x) (.str x t)=true:=by simp [HD,Value.isStrOf]
theorem QN(a b:Int):decide ((Sum.inl a:Key)=Sum.inl b)=(a==b):=by
 by_cases e:a=b
 ·subst e; simp
 ·have h:¬(Sum.inl a:Key)=Sum.inl b:=fun q=>e (Sum.inl.inj q)
  rw [decide_eq_false h]
  exact(beq_eq_false_iff_ne.mpr e).symm
theorem QK(a b:Str):decide ((Sum.inr a:Key)=Sum.inr b)=decide (a=b):=by
 by_cases e:a=b
 ·subst e; simp
 ·have h:¬(Sum.inr a:Key)=Sum.inr b:=fun q=>e (Sum.inr.inj q)
  rw [decide_eq_false h,decide_eq_false e]
theorem QM(a:Int)(b:Str):decide ((Sum.inl a:Key)=Sum.inr b)=false:=decide_eq_false (fun q=>nomatch q)
theorem QL(a:Str)(b:Int):decide ((Sum.inr a:Key)=Sum.inl b)=false:=decide_eq_false (fun q=>nomatch q)
def Aw(prog:Program)(w:World):PySem.KeyKind prog w Key where
 is:=HD
 hash:=Si w
 inj:=fun v a b ha hb=>by
  rcases A9 ha with ⟨i,t,rfl,rfl⟩ | ⟨x,t,rfl,rfl⟩
  ·rcases A9 hb with ⟨j,u,rfl,e⟩ | ⟨y,u,rfl,e⟩
   ·injection e with e1 _; rw [e1]
   ·exact nomatch e
  ·rcases A9 hb with ⟨j,u,rfl,e⟩ | ⟨y,u,rfl,e⟩
   ·exact nomatch e
   ·injection e with e1 _; rw [e1]
 byValue:=fun k v h=>by
  rcases A9 h with ⟨i,t,rfl,rfl⟩ | ⟨x,t,rfl,rfl⟩ <;> rfl
 pyHash:=fun hv h=>by
  rcases A9 hv with ⟨i,t,rfl,rfl⟩ | ⟨x,t,rfl,rfl⟩
  ·exact wpAny_pyHash_int h
  ·exact wpAny_pyHash_str h
 eqBool:=fun hu hv h=>by
  rcases A9 hu with ⟨i,t,rfl,rfl⟩ | ⟨x,t,rfl,rfl⟩
  ·rcases A9 hv with ⟨j,u,rfl,rfl⟩ | ⟨y,u,rfl,rfl⟩
   ·rw [QN] at h; exact wpAny_eqBool_int h
   ·rw [QM] at h; exact SeqAt.EqAt.int_str i t y u _ _ _ _ h
  ·rcases A9 hv with ⟨j,u,rfl,rfl⟩ | ⟨y,u,rfl,rfl⟩
   ·rw [QL] at h; exact SeqAt.EqAt.str_int x t j u _ _ _ _ h
   ·rw [QK] at h; exact wpAny_eqBool_str h
 «strs»:=fun k x t v h=>by
  rcases A9 h with ⟨i,u,rfl,e⟩ | ⟨y,u,rfl,e⟩
  ·exact nomatch e
  ·injection e with e1 _
   subst e1
   cases v <;> rfl
theorem JQ(prog:Program)(w:World)(i:Int)(t:Tok):(Aw prog w).is (.inl i) (.int i t)=true:=L7 i t
theorem JP(prog:Program)(w:World)(x:Str)(t:Tok):(Aw prog w).is (.inr x) (.str x t)=true:=L6 x t
inductive V where
 | non | bl (b:Bool) | int (i:Int) | str (x:Str) | byt (b:Array UInt8) | flt (b:UInt64) | ref (a:Addr) | ty (n:String)
 deriving DecidableEq
def RelV:V->Value->Prop
 | .non,u=>u=Value.none
 | .bl b,u=>u=Value.bool b
 | .int i,u=>∃t,u=Value.int i t
 | .str x,u=>∃t,u=Value.str x t
 | .byt b,u=>∃t,u=Value.bytes b t
 | .flt b,u=>∃t,u=Value.float b t
 | .ref a,u=>u=Value.ref a
 | .ty n,u=>u=Value.type n
abbrev Vals:List V->List Value->Prop:=Paired RelV
theorem Vals.length{xs:List V}{us:List Value}(r:Vals xs us):xs.length=us.length:=Paired.length r
theorem Vals.get:∀{xs:List V} {us:List Value} {i:Nat} {x:V},Vals xs us->xs[i]?=some x->∃u,us[i]?=some u/\RelV x u
 | _,_,_,_,.nil,e=>by simp at e
 | _,_,0,_,.cons r _,e=>by simp at e; subst e; exact⟨_,rfl,r⟩
 | _,_,i+1,x,.cons _ t,e=>by
  obtain⟨u,h1,h2⟩:=Vals.get (i:=i) (x:=x) t (by simpa using e)
  exact⟨u,by simpa using h1,h2⟩
theorem Vals.set{x:V}{u:Value}(r:RelV x u):∀{xs:List V} {us:List Value} (i:Nat),Vals xs us->Vals (xs.set i x) (us.set i u)
 | _,_,_,.nil=>.nil
 | _,_,0,.cons _ t=>.cons r t
 | _,_,i+1,.cons q t=>.cons q (Vals.set r i t)
theorem Vals.append:∀{xs ys:List V} {us ws:List Value},Vals xs us->Vals ys ws->Vals (xs++ys) (us++ws)
 | _,_,_,_,.nil,s=>s
 | _,_,_,_,.cons r t,s=>.cons r (Vals.append t s)
theorem Vals.take:∀{xs:List V} {us:List Value} (n:Nat),Vals xs us->Vals (xs.take n) (us.take n)
 | _,_,0,_=>.nil
 | _,_,_+1,.nil=>.nil
 | _,_,n+1,.cons r t=>.cons r (Vals.take n t)
theorem Vals.drop:∀{xs:List V} {us:List Value} (n:Nat),Vals xs us->Vals (xs.drop n) (us.drop n)
 | _,_,0,r=>r
 | _,_,_+1,.nil=>.nil
 | _,_,n+1,.cons _ t=>Vals.drop n t
def RelO:Option V->Option Value->Prop
 | some v,some u=>RelV v u
 | none,none=>True
 | _,_=>False
def KV{κ:Type}:List (κ×V)->List (κ×Value)->Prop:=Paired fun(p:κ×V) (q:κ×Value)=>p.1=q.1/\RelV p.2 q.2
def kV:Key->V
 | .inl i=>.int i
 | .inr x=>.str x
inductive HO where
 | lst (xs:List V)
 | tup (xs:List V)
 | dK (kvs:List (Key×V)) | dT (kvs:List (List Key×V))
 | set (S:Int->Bool) (n:Nat)
 | ins (C dx:Addr) (fs:List (Str×V))
 | own (x:Addr)
 | xd (fs:List (Str×V))
 | met (f x:Addr)
 | rng (lo hi:Int)
 | frz (o:Obj) (u:HO)
 | tbl (ps:Array Value)
 | ext (φ:Heap->Prop)
abbrev Hp:=Addr->Option HO
def A_(H:Hp)(a:Addr)(o:HO):Hp:=fun b=>if b=a then some o else H b
theorem AX{H:Hp}{a:Addr}{o:HO}:A_ H a o a=some o:=by unfold A_; rw [if_pos rfl]
theorem AO{H:Hp}{a b:Addr}{o:HO}(h:b≠a):A_ H a o b=H b:=by unfold A_; rw [if_neg h]
theorem RX{H:Hp}{a b:Addr}{o u:HO}(h:H a=some o)(h':H b=some u)(d:o≠u):a≠b:=by
 intro e; subst e; rw [h] at h'; exact d (Option.some.inj h')
theorem A6{H:Hp}{a b:Addr}{o:HO}(h:H a=some o)(h':H b=none):a≠b:=by
 intro e; subst e; rw [h] at h'; cases h'
def IsTupN(h:Heap)(a:Addr)(items:Array Value):Prop:=∃o,h.get? a=some o/\o.cls=.type "tuple"/\∃n,o.data=.seq items n/\o.dict=none/\o.slots=#[]
theorem IsTupN.tup{h:Heap}{a:Addr}{items:Array Value}(x:IsTupN h a items):IsTup h a items:=let ⟨o,h1,h2,n,h3,_⟩:=x; ⟨o,h1,h2,n,h3⟩
theorem IsTupN.new(h:Heap)(items:Array Value):IsTupN (h.push { cls:=.type "tuple",data:=.seq items }) h.objs.size items:=⟨_,Heap.get?_push_size _ rfl,rfl,_,rfl,rfl,rfl⟩
section
variable (P:Program)(w:World)
def ObjOk(H:Hp)(h:Heap)(a:Addr):HO->Prop
 | .lst xs=>xs.length<=sizeLine/\∃(its:List Value) (n:Nat),Vals xs its/\h.get? a=some { cls:=.type "list",data:=.seq its.toArray n }
 | .tup xs=>xs.length<=sizeLine/\∃its:List Value,Vals xs its/\IsTupN h a its.toArray
 | .dK kvs=>kvs.length<=sizeLine/\(a==sysModules)=false/\∃vs,KV kvs vs/\h.DictOf (Aw P w) a vs
 | .dT kvs=>kvs.length<=sizeLine/\(a==sysModules)=false/\∃xs:List (List Key×Addr×Value),
   Paired (fun(p:List Key×V) (q:List Key×Addr×Value)=>p.1=q.1/\H q.2.1=some (.tup (p.1.map kV))/\RelV p.2 q.2.2) kvs xs /\
   ∃o es ep,h.get? a=some o/\o.ExactDict/\o.data=.dict es ep/\es.toList=xs.map (entryOfKey (tupleKind (Aw P w)))/\(xs.map (·.1)).Nodup
 | .set S n=>h.SetOf (intKind P w) a S n
 | .ins C dx fs=>H dx=some (.own a)/\fs.length<=1000/\dx≠a/\h.get? a=some (PySem.W.instObj C dx) /\
   ∃mA,h.Ns1 dx mA/\(∀f,RelO (fs.lookup f) (mA f))/\PySem.Within mA (fs.map (·.1))
 | .own _=>∃o,h.get? a=some o
 | .xd fs=>∃mA,h.Ns1 a mA/\∀f,RelO (fs.lookup f) (mA f)
 | .rng lo hi=>∃t u v,h.get? a=some { cls:=.type "range",data:=.fields #[.int lo t,.int hi u,.int 1 v] }
 | .frz o u=>h.get? a=some o/\ObjOk H h a u
 | .tbl ps=>h.get? a=some { cls:=.none,data:=.fields ps }
 | .met f x=>h.get? a=some (PySem.W.methodObj (.ref f) (.ref x))
 | .ext φ=>φ h/\(∃o,h.get? a=some o)/\∀h1 h2:Heap,φ h1->(∀o,h1.get? a=some o->h2.get? a=some o)->φ h2
def HOk(H:Hp)(h:Heap):Prop:=∀a o,H a=some o->ObjOk P w H h a o
end
section
variable {P:Program}{w:World}{H H':Hp}{h h':Heap}{a:Addr}{o:HO}
theorem ObjOk.lt(x:ObjOk P w H h a o):a<h.objs.size:=by
 cases o with
 | lst xs=>obtain⟨_,_,_,_,e⟩:=x; exact Heap.lt_size e
 | tup xs=>obtain⟨_,_,_,p⟩:=x; exact p.tup.lt
 | dK kvs=>obtain⟨_,_,_,_,o,_,_,e,_⟩:=x; exact Heap.lt_size e
 | dT kvs=>obtain⟨_,_,_,_,o,_,_,e,_⟩:=x; exact Heap.lt_size e
 | set S n=>obtain⟨o,_,_,_,e,_⟩:=x; exact Heap.lt_size e
 | ins C dx fs=>obtain⟨_,_,_,e,_⟩:=x; exact Heap.lt_size e
 | own y=>obtain⟨_,e⟩:=x; exact Heap.lt_size e
 | xd fs=>obtain⟨_,⟨_,_,_,e,_⟩,_⟩:=x; exact Heap.lt_size e
 | rng lo hi=>obtain⟨_,_,_,e⟩:=x; exact Heap.lt_size e
 | frz ob u=>obtain⟨e,_⟩:=x; exact Heap.lt_size e
 | tbl ps=>exact Heap.lt_size (show h.get? a=some _ from x)
 | met f y=>exact Heap.lt_size (show h.get? a=some _ from x)
 | ext φ=>obtain⟨_,⟨_,e⟩,_⟩:=x; exact Heap.lt_size e
theorem Paired.mapP{α β:Type}{F G:α->β->Prop}:∀{l₁:List α} {l₂:List β},Paired F l₁ l₂->(∀a b,F a b->G a b)->Paired G l₁ l₂
 | _,_,.nil,_=>.nil
 | _,_,.cons r t,f=>.cons (f _ _ r) (Paired.mapP t f)
theorem ObjOk.stay(x:ObjOk P w H h a o)(k:∀b u,(b=a\/H b=some (.own a))->h.get? b=some u->h'.get? b=some u)
  (ho:∀b,H b=some (.own a)->H' b=some (.own a)) (ht:∀b xs,H b=some (.tup xs)->H' b=some (.tup xs)):ObjOk P w H' h' a o:=by
 induction o with
 | lst xs=>obtain⟨z,its,n,r,e⟩:=x; exact⟨z,its,n,r,k _ _ (.inl rfl) e⟩
 | tup xs=>obtain⟨z,its,r,ob,e,c⟩:=x; exact⟨z,its,r,ob,k _ _ (.inl rfl) e,c⟩
 | dK kvs=>obtain⟨z,y,vs,r,ob,es,ep,e,c⟩:=x; exact⟨z,y,vs,r,ob,es,ep,k _ _ (.inl rfl) e,c⟩
 | dT kvs =>
  obtain⟨z,y,xs,r,ob,es,ep,e,c⟩:=x
  exact⟨z,y,xs,Paired.mapP r fun p q z=>⟨z.1,ht _ _ z.2.1,z.2.2⟩,ob,es,ep,k _ _ (.inl rfl) e,c⟩
 | set S n=>obtain⟨ob,es,ep,t,e,c⟩:=x; exact⟨ob,es,ep,t,k _ _ (.inl rfl) e,c⟩
 | ins C dx fs =>
  obtain⟨d,z,ne,e,mA,⟨od,es,ep,e2,c⟩,r⟩:=x
  exact⟨ho _ d,z,ne,k _ _ (.inl rfl) e,mA,⟨od,es,ep,k _ _ (.inr d) e2,c⟩,r⟩
 | own y=>obtain⟨ob,e⟩:=x; exact⟨ob,k _ _ (.inl rfl) e⟩
 | xd fs=>obtain⟨mA,⟨od,es,ep,e,c⟩,r⟩:=x; exact⟨mA,⟨od,es,ep,k _ _ (.inl rfl) e,c⟩,r⟩
 | rng lo hi=>obtain⟨t,u,v,e⟩:=x; exact⟨t,u,v,k _ _ (.inl rfl) e⟩
 | frz ob u ih=>obtain⟨e,q⟩:=x; exact⟨k _ _ (.inl rfl) e,ih q⟩
 | tbl ps =>
  have e:h.get? a=some { cls:=.none,data:=.fields ps }:=x
  show h'.get? a=some { cls:=.none,data:=.fields ps }
  exact k a _ (.inl rfl) e
 | met f y =>
  have e:h.get? a=some (PySem.W.methodObj (.ref f) (.ref y)):=x
  show h'.get? a=some (PySem.W.methodObj (.ref f) (.ref y))
  exact k a _ (.inl rfl) e
 | ext φ=>obtain⟨p,⟨o,e⟩,st⟩:=x; exact⟨st _ _ p fun o q=>k _ _ (.inl rfl) q,⟨o,k _ _ (.inl rfl) e⟩,st⟩
theorem HOk.lt(x:HOk P w H h)(e:H a=some o):a<h.objs.size:=(x a o e).lt
theorem HOk.fresh(x:HOk P w H h)(e:h.objs.size<=a):H a=none:=by
 cases q:H a with
 | none=>rfl
 | some u=>exact absurd (Nat.lt_of_lt_of_le (x.lt q) e) (Nat.lt_irrefl _)
theorem HOk.kept(x:HOk P w H h)(k:∀b u,h.get? b=some u->h'.get? b=some u):HOk P w H h':=fun a o e =>
 (x a o e).stay (fun b u _ q=>k b u q) (fun _ q=>q) fun _ _ q=>q
theorem HOk.laid(x:HOk P w H h)(k:∀b u,h.get? b=some u->h'.get? b=some u)(hp:h.objs.size<=a)(new:ObjOk P w (A_ H a o) h' a o):HOk P w (A_ H a o) h':=fun b u e=>by
 have hn:=x.fresh hp
 by_cases hb:b=a
 ·subst hb; rw [AX] at e; cases e; exact new
 ·rw [AO hb] at e
  exact(x b u e).stay (fun c v _ q=>k c v q) (fun c q=>by rw [AO (A6 q hn)]; exact q) fun c xs q=>by rw [AO (A6 q hn)]; exact q
end
def Rd(H:Hp)(a:Addr)(u:HO):Prop:=H a=some u\/∃o,H a=some (.frz o u)
theorem Rd.ok{P:Program}{w:World}{H:Hp}{h:Heap}{a:Addr}{u:HO}(r:Rd H a u)(x:HOk P w H h):ObjOk P w H h a u:=by
 rcases r with r | ⟨o,r⟩
 ·exact x a u r
 ·obtain⟨_,q⟩:=x a _ r
  exact q
def R8:Option HO->Prop
 | some (.lst _)=>True
 | some (.dK _)=>True
 | some (.dT _)=>True
 | some (.set _ _)=>True
 | some (.ins _ _ _)=>True
 | some (.ext _)=>True
 | _=>False
section
variable {P:Program}{w:World}{H:Hp}{h h':Heap}{x e:Addr}{o':HO}
theorem HOk.write(ok:HOk P w H h)(mu:R8 (H x))(he:e=x\/H e=some (.own x))(k:∀b u,b≠e->h.get? b=some u->h'.get? b=some u)(heo:∃u,h'.get? e=some u)
  (new:ObjOk P w (A_ H x o') h' x o'):HOk P w (A_ H x o') h':=fun b u q=>by
 have nown:∀c y,H c=some (.own y)->c≠x:=fun c y r z=>by subst z; rw [r] at mu; exact mu
 have ntup:∀c xs,H c=some (.tup xs)->c≠x:=fun c xs r z=>by subst z; rw [r] at mu; exact mu
 by_cases hb:b=x
 ·subst hb; rw [AX] at q; cases q; exact new
 ·rw [AO hb] at q
  by_cases hbe:b=e
  ·have q':H b=some (.own x):=by
    rcases he with z | z
    ·exact absurd (hbe.trans z) hb
    ·rw [hbe]; exact z
   rw [q] at q'; cases q'
   obtain⟨v,hv⟩:=heo
   exact⟨v,by rw [hbe]; exact hv⟩
  ·refine(ok b u q).stay (fun c v hc r=>k c v ?_ r) (fun c r=>by rw [AO (nown c b r)]; exact r) fun c xs r=>by rw [AO (ntup c xs r)]; exact r
   rcases hc with rfl | hc
   ·exact hbe
   ·rintro rfl
    rcases he with z | z
    ·exact nown c b hc z
    ·rw [hc] at z; cases z; exact hb rfl
end
structure Un (fs ex:List Addr) (H H':Hp) (h h':Heap):Prop where
 keep:∀b o,h.get? b=some o->H b=none->b∉fs->b∉ex->h'.get? b=some o
 slot:∀b o,h.get? b=some o->H b=none->b∈fs->b∉ex->∃sl,h'.get? b=some { o with slots:=sl }
 free:∀b o,h.get? b=some o->H b=none->b∉ex->H' b=none
 there:∀b o,h.get? b=some o->b∉ex->∃o',h'.get? b=some o'
 tups:∀b xs,H b=some (.tup xs)->H' b=some (.tup xs)
 frzs:∀b o u,H b=some (.frz o u)->H' b=some (.frz o u)
 tbls:∀b ps,H b=some (.tbl ps)->∃more,H' b=some (.tbl (ps++more))
section
variable {fs fs' ex ex':List Addr}{H H1 H2:Hp}{h h1 h2 h':Heap}{a x e:Addr}{o:HO}
theorem Un.any(u:Un fs ex H H1 h h1){b:Addr}{ob:Obj}(q:h.get? b=some ob)(n:H b=none)(hx:b∉ex):∃sl,h1.get? b=some { ob with slots:=sl }:=by
 by_cases hb:b∈fs
 ·exact u.slot b ob q n hb hx
 ·exact⟨ob.slots,u.keep b ob q n hb hx⟩
theorem Un.kept(k:∀b u,h.get? b=some u->h'.get? b=some u):Un fs ex H H h h' :=
 ⟨fun b ob q _ _ _=>k b ob q,fun b ob q _ _ _=>⟨ob.slots,k b ob q⟩,fun _ _ _ n _=>n,fun b ob q _=>⟨ob,k b ob q⟩,fun _ _ q=>q,fun _ _ _ q=>q,fun _ ps q=>⟨#[],by rw [q]; simp⟩⟩
theorem Un.refl:Un fs ex H H h h:=Un.kept fun _ _ q=>q
theorem Un.laid(k:∀b u,h.get? b=some u->h'.get? b=some u)(hp:h.objs.size<=a)(hn:H a=none):Un fs ex H (A_ H a o) h h' where
 keep:=fun b u q _ _ _=>k b u q
 slot:=fun b u q _ _ _=>⟨u.slots,k b u q⟩
 free:=fun b u q n _=>by rw [AO (Nat.ne_of_lt (Nat.lt_of_lt_of_le (Heap.lt_size q) hp))]; exact n
 there:=fun b u q _=>⟨u,k b u q⟩
 tups:=fun b xs q=>by rw [AO (A6 q hn)]; exact q
 frzs:=fun b u xs q=>by rw [AO (A6 q hn)]; exact q
 tbls:=fun b ps q=>⟨#[],by rw [AO (A6 q hn),q]; simp⟩
theorem Un.write(mu:R8 (H x))(he:e=x\/H e=some (.own x))(k:∀b u,b≠e->h.get? b=some u->h'.get? b=some u)(heo:∃u,h'.get? e=some u):Un fs ex H (A_ H x o) h h':=by
 have hx:∀b,H b=none->b≠x:=fun b n z=>by subst z; rw [n] at mu; exact mu
 have hb:∀b,H b=none->b≠e:=fun b n z=>by
  subst z
  rcases he with r | r
  ·exact hx b n r
  ·rw [n] at r; cases r
 have hm:∀b u,H b=some u->¬R8 (some u)->b≠x:=fun b u q nm z=>by subst z; rw [q] at mu; exact nm mu
 refine⟨fun b u q n _ _=>k b u (hb b n) q,fun b u q n _ _=>⟨u.slots,k b u (hb b n) q⟩,fun b u q n _=>by rw [AO (hx b n)]; exact n,fun b u q _=>?_,
  fun b xs q=>by rw [AO (hm b _ q fun z=>z)]; exact q,fun b u xs q=>by rw [AO (hm b _ q fun z=>z)]; exact q,fun b ps q=>⟨#[],by rw [AO (hm b _ q fun z=>z),q]; simp⟩⟩
 by_cases hbe:b=e
 ·subst hbe; exact heo
 ·exact⟨u,k b u hbe q⟩
end
def SE(h:Heap)(H:Hp):List Addr:=(List.range h.objs.size).filter fun a=>(H a).isSome
def ID(h:Heap)(H:Hp):Heap:=PySem.W.hideAll h (SE h H)
theorem MB(h:Heap)(H:Hp):(ID h H).objs.size=h.objs.size:=PySem.W.hideAll_size _ _
theorem NR{h:Heap}{H:Hp}{b:Addr}{o:Obj}(e:h.get? b=some o)(n:H b=none):(ID h H).get? b=some o :=
 PySem.W.hideAll_get _ e fun hm=>by
  have q:(H b).isSome=true:=(List.mem_filter.mp hm).2
  rw [n] at q; simp at q
theorem OI{h:Heap}{H:Hp}{b:Addr}{o:Obj}(e:(ID h H).get? b=some o):h.get? b=some o/\H b=none:=by
 have e':h.get? b=some o:=PySem.W.of_hideAll (SE h H) e
 refine⟨e',?_⟩
 cases q:H b with
 | none=>rfl
 | some x =>
  have hm:b∈SE h H:=List.mem_filter.mpr ⟨List.mem_range.mpr (Heap.lt_size e'),by simp [q]⟩
  have z:(ID h H).get? b=none:=PySem.W.hideAll_none (SE h H) hm
  rw [z] at e; cases e
structure Mod (K:Frag) (mg:Str->Option Value) (base:Heap):Prop where
 kin:K.In base
 glob:base.Ns mainGlobals mg
 blt:∃mb,base.Ns builtinsNs mb/\∀x:Str,x ≠ "__name__"->mb x=bootBuiltins x
 nolimit:base.NoLimit
/-- the context: a def's body (or a comprehension's block) running. base: fixed through the whole law; s₀, H₀: the entry; outer: the frames whose slots others may change (a def's callers); stack: all frames that run;
   ex: iterators that were made ahead of the entry and are walked here (a comprehension's); fn: the names whose cells were made at the entry (a def: all; a comprehension's block: its own); calm: not within an except suite; pn: pins that every state bears; xe: what is wanted of an exception that leaves the code -/
structure Cx where
 prog:Program
 w:World
 K:Frag
 mg:Str->Option Value
 base:Heap
 A:Around
 N:List Str
 s₀:Shared
 H₀:Hp
 env:Env
 outer:List Env
 stack:List Env
 ex:List Addr
 fn:Str->Bool
 calm:Bool
 pn:List (Addr×Obj)
 xe:Value->Shared->Prop
def NS(l:List Env):List Addr:=l.filterMap (·.frame)
abbrev Cx.fs(X:Cx):List Addr:=NS X.outer
def Qy(sc:Scope)(x:Str):Prop:=sc.names.lookup x=some .local\/sc.names.lookup x=some .cell\/sc.names.lookup x=some .free
def Loc(sc:Scope)(x:Str):Prop:=sc.names.lookup x=some .local\/sc.names.lookup x=some .cell
def Look(env:Env)(h:Heap)(m:Str->Option Value)(x:Str)(u:Value):Prop :=
 (env.kindOf x=some .local/\m x=some u)\/((env.kindOf x=some .cell\/env.kindOf x=some .free)/\∃c,env.cells.lookup x=some c/\h.IsCell c (some u))
structure Cx.Ok (X:Cx):Prop where
 mod:Mod X.K X.mg X.base
 kind:X.env.scope.kind=.function
 glob:X.env.globals=mainGlobals
 blt:X.env.builtins=builtinsNs
 above:X.s₀.heap.objs.size<=X.env.locals
 inj:∀x y c,X.env.cells.lookup x=some c->X.env.cells.lookup y=some c->x=y
 has:∀x,(X.env.kindOf x=some .cell\/X.env.kindOf x=some .free)->∃c,X.env.cells.lookup x=some c
 cab:∀x c,X.fn x=true->X.env.cells.lookup x=some c->X.s₀.heap.objs.size<=c
 hd:X.calm=true->X.A.handled=none
 frames:X.A.frames=some X.stack
 stk:X.stack=X.outer\/(X.stack=X.env::X.outer/\X.env.frame=some X.env.locals)
 exf:∀b∈X.ex,b≠X.env.locals/\∀x c,X.env.cells.lookup x=some c->c≠b
 bs:∀b o,X.base.get? b=some o->X.s₀.heap.get? b=some o/\X.H₀ b=none
 bsz:X.base.objs.size<=X.s₀.heap.objs.size
 noex:∀b o,X.base.get? b=some o->b∉X.ex
 exfs:∀b∈X.ex,b∉X.fs
 funs:X.s₀.heap.FunFrames X.base X.outer
 frf:∀b∈X.fs,X.H₀ b=none
structure Inv (X:Cx) (pins:List (Addr×Obj)) (σ:List (Option V)) (H:Hp) (s:Shared):Prop where
 ok:X.Ok
 os:s.os=X.s₀.os
 bare:AllBare s.gens
 base:Un X.fs X.ex X.H₀ H X.s₀.heap s.heap
 loc:∃m,s.heap.Ns X.env.locals m/\∀(i:Nat) (x:Str) (v:V),X.N[i]?=some x->σ[i]?=some (some v)->Qy X.env.scope x->∃u,RelV v u/\Look X.env s.heap m x u
 cell:∀x c,X.env.cells.lookup x=some c->∃v,s.heap.IsCell c v
 free:H X.env.locals=none
 freeC:∀x c,X.env.cells.lookup x=some c->H c=none
 pin:∀p∈X.pn++pins,s.heap.get? p.1=some p.2/\H p.1=none/\p.1≠X.env.locals/\p.1∉X.fs/\∀v,p.2.data≠.cell v
 hok:HOk X.prog X.w H s.heap
 len:σ.length=X.N.length
section
variable {X:Cx}{pins:List (Addr×Obj)}{σ:List (Option V)}{H H':Hp}{s:Shared}{h':Heap}
theorem Cx.Ok.nofr(ok:X.Ok){b:Addr}{o:Obj}(e:X.base.get? b=some o):b∉X.fs:=fun hb=>by
 have:=(ok.funs.mem hb).1
 rw [e] at this; cases this
theorem Inv.bs(I:Inv X pins σ H s):∀b o,X.base.get? b=some o->s.heap.get? b=some o/\H b=none:=fun b o e =>
 ⟨I.base.keep b o (I.ok.bs b o e).1 (I.ok.bs b o e).2 (I.ok.nofr e) (I.ok.noex b o e),I.base.free b o (I.ok.bs b o e).1 (I.ok.bs b o e).2 (I.ok.noex b o e)⟩
theorem Inv.bk(I:Inv X pins σ H s):∀b o,X.base.get? b=some o->s.heap.get? b=some o:=fun b o e=>(I.bs b o e).1
theorem Inv.mod(I:Inv X pins σ H s):Mod X.K X.mg X.base:=I.ok.mod
theorem Inv.kIn(I:Inv X pins σ H s):X.K.In s.heap:=I.ok.mod.kin.keeps I.bk
theorem Inv.lt(I:Inv X pins σ H s):X.env.locals<s.heap.objs.size:=let ⟨_,hn,_⟩:=I.loc; hn.lt
theorem Inv.sz(I:Inv X pins σ H s):X.s₀.heap.objs.size<=s.heap.objs.size:=Nat.le_trans I.ok.above (Nat.le_of_lt I.lt)
theorem Inv.nofs(I:Inv X pins σ H s){a:Addr}(h:s.heap.objs.size<=a):a∉X.fs:=fun hb=>by
 obtain⟨_,o,ho,_⟩:=I.ok.funs.mem hb
 exact absurd (Nat.lt_of_lt_of_le (Heap.lt_size ho) (Nat.le_trans I.sz h)) (Nat.lt_irrefl _)
theorem Inv.cne(I:Inv X pins σ H s):∀x c,X.env.cells.lookup x=some c->c≠X.env.locals:=fun x c e z=>by
 obtain⟨v,o,ho,hd⟩:=I.cell x c e
 obtain⟨m,⟨o',es,ep,ho',hd',_⟩,_⟩:=I.loc
 rw [z,ho'] at ho; cases ho; rw [hd'] at hd; cases hd
theorem Inv.funs(I:Inv X pins σ H s):s.heap.FunFrames X.base X.outer:=by
 have all:∀(l:List Env),(∀b∈NS l,b∈X.fs)->X.s₀.heap.FunFrames X.base l->s.heap.FunFrames X.base l:=by
  intro l
  induction l with
  | nil=>intro _ _; trivial
  | cons env r ih =>
   intro hs hl
   obtain⟨hk,⟨L,o,hf,hn,ho,hd⟩,hr⟩:=hl
   have hL:L∈X.fs:=hs L (by unfold NS; rw [List.filterMap_cons,hf]; exact List.mem_cons_self)
   obtain⟨sl,e⟩:=I.base.slot L o ho (I.ok.frf L hL) hL fun z=>I.ok.exfs L z hL
   exact⟨hk,⟨L,_,hf,hn,e,hd⟩,ih (fun b hb=>hs b (by unfold NS; rw [List.filterMap_cons,hf]; exact List.mem_cons_of_mem _ hb)) hr⟩
 exact all X.outer (fun _ hb=>hb) I.ok.funs
theorem Inv.stack(I:Inv X pins σ H s):s.heap.FunFrames X.base X.stack:=by
 rcases I.ok.stk with e | ⟨e,hf⟩
 ·rw [e]; exact I.funs
 ·rw [e]
  obtain⟨m,hn,_⟩:=I.loc
  refine .cons (by rw [I.ok.kind]; decide) hf hn ?_ I.funs
  exact Heap.get?_none_of_le (Nat.le_trans I.ok.bsz I.ok.above)
theorem Inv.stkSub(I:Inv X pins σ H s):∀b∈NS X.stack,b∈X.env.locals::X.fs:=fun b hb=>by
 rcases I.ok.stk with e | ⟨e,hf⟩
 ·rw [e] at hb; exact List.mem_cons_of_mem _ hb
 ·rw [e] at hb
  unfold NS at hb
  rw [List.filterMap_cons,hf] at hb
  exact hb
theorem Inv.stkFree(I:Inv X pins σ H s):∀b∈NS X.stack,H b=none:=fun b hb=>by
 rcases List.mem_cons.mp (I.stkSub b hb) with e | hb
 ·rw [e]; exact I.free
 ·obtain⟨_,o,ho,_⟩:=I.ok.funs.mem hb
  exact I.base.free b o ho (I.ok.frf b hb) fun z=>I.ok.exfs b z hb
theorem Inv.step{g':Array GenState}{t':Nat}{d':Drawn}{ch:List Addr}(I:Inv X pins σ H s)
  (hch:∀b∈ch,(b∈X.ex\/X.s₀.heap.objs.size<=b)/\b≠X.env.locals/\(∀x c,X.env.cells.lookup x=some c->c≠b)/\∀p∈X.pn++pins,p.1≠b)
  (keep:∀b o,b≠X.env.locals->b∉X.fs->b∉ch->s.heap.get? b=some o->H b=none->h'.get? b=some o)
  (slot:∀b o,b≠X.env.locals->b∈X.fs->b∉ch->s.heap.get? b=some o->H b=none->∃sl,h'.get? b=some { o with slots:=sl }) (free:∀b o,b∉ch->s.heap.get? b=some o->H b=none->H' b=none)
  (there:∀b o,b∉ch->s.heap.get? b=some o->∃o',h'.get? b=some o')
  (tups:∀b xs,H b=some (.tup xs)->H' b=some (.tup xs)) (frzs:∀b o u,H b=some (.frz o u)->H' b=some (.frz o u)) (tbls:∀b ps,H b=some (.tbl ps)->∃more,H' b=some (.tbl (ps++more)))
  (ns:∀m,s.heap.Ns X.env.locals m->h'.Ns X.env.locals m) (hok:HOk X.prog X.w H' h') (hg:AllBare g') :
  Inv X pins σ H' { s with heap:=h',gens:=g',drawn:=d',toks:=t' }:=by
 have neL:∀b o,X.s₀.heap.get? b=some o->b≠X.env.locals:=fun b o e=>Nat.ne_of_lt (Nat.lt_of_lt_of_le (Heap.lt_size e) I.ok.above)
 have neC:∀b o,X.s₀.heap.get? b=some o->b∉X.ex->b∉ch:=fun b o e hx hb=>by
  rcases (hch b hb).1 with z | z
  ·exact hx z
  ·exact absurd (Nat.lt_of_lt_of_le (Heap.lt_size e) z) (Nat.lt_irrefl _)
 have cellK:∀x c,X.env.cells.lookup x=some c->∀v,s.heap.IsCell c v->h'.IsCell c v:=fun x c e v ⟨o,ho,hd⟩=>by
  have nch:c∉ch:=fun z=>(hch c z).2.2.1 x c e rfl
  by_cases hc:c∈X.fs
  ·obtain⟨sl,q⟩:=slot c o (I.cne x c e) hc nch ho (I.freeC x c e)
   exact⟨_,q,hd⟩
  ·exact⟨o,keep c o (I.cne x c e) hc nch ho (I.freeC x c e),hd⟩
 refine⟨I.ok,I.os,hg,⟨fun b o e n hb hx=>?_,fun b o e n hb hx=>?_,fun b o e n hx=>?_,fun b o e hx=>?_,fun b xs e=>tups b xs (I.base.tups b xs e),fun b o xs e=>frzs b o xs (I.base.frzs b o xs e),fun b ps e=>?_⟩,?_,fun x c e=>?_,?_,fun x c e=>?_,fun p hp=>?_,hok,I.len⟩
 ·exact keep b o (neL b o e) hb (neC b o e hx) (I.base.keep b o e n hb hx) (I.base.free b o e n hx)
 ·obtain⟨sl,e1⟩:=I.base.slot b o e n hb hx
  obtain⟨sl',e2⟩:=slot b _ (neL b o e) hb (neC b o e hx) e1 (I.base.free b o e n hx)
  exact⟨sl',e2⟩
 ·obtain⟨o',e1⟩:=I.base.there b o e hx
  exact free b o' (neC b o e hx) e1 (I.base.free b o e n hx)
 ·obtain⟨o',e1⟩:=I.base.there b o e hx
  exact there b o' (neC b o e hx) e1
 ·obtain⟨m1,e1⟩:=I.base.tbls b ps e
  obtain⟨m2,e2⟩:=tbls b _ e1
  exact⟨m1++m2,by rw [e2,Array.append_assoc]⟩
 ·obtain⟨m,hn,hl⟩:=I.loc
  refine⟨m,ns m hn,fun i x v e1 e2 e3=>?_⟩
  obtain⟨u,r,l⟩:=hl i x v e1 e2 e3
  refine⟨u,r,?_⟩
  rcases l with l | ⟨k,c,e,z⟩
  ·exact .inl l
  ·exact .inr ⟨k,c,e,cellK x c e _ z⟩
 ·obtain⟨v,z⟩:=I.cell x c e
  exact⟨v,cellK x c e v z⟩
 ·obtain⟨m,⟨o,_,_,ho,_⟩,_⟩:=I.loc
  exact free _ o (fun z=>(hch _ z).2.1 rfl) ho I.free
 ·obtain⟨v,o,ho,hd⟩:=I.cell x c e
  exact free c o (fun z=>(hch c z).2.2.1 x c e rfl) ho (I.freeC x c e)
 ·obtain⟨e,n,ne,nf,d⟩:=I.pin p hp
  have nch:p.1∉ch:=fun z=>(hch p.1 z).2.2.2 p hp rfl
  exact⟨keep p.1 p.2 ne nf nch e n,free p.1 p.2 nch e n,ne,nf,d⟩
theorem Inv.un{t':Nat}(I:Inv X pins σ H s)(u:Un X.fs [] H H' s.heap h')(hok:HOk X.prog X.w H' h'):Inv X pins σ H' { s with heap:=h',toks:=t' }:=by
 obtain⟨m,⟨o,es,ep,ho,r⟩,_⟩:=id I.loc
 obtain⟨sl,hL⟩:=u.any ho I.free (by simp)
 exact I.step (g':=s.gens) (d':=s.drawn) (ch:=[]) (fun _ z=>nomatch z) (fun b o _ hb _ e n=>u.keep b o e n hb (by simp)) (fun b o _ hb _ e n=>u.slot b o e n hb (by simp)) (fun b o _ e n=>u.free b o e n (by simp)) (fun b o _ e=>u.there b o e (by simp)) u.tups u.frzs u.tbls (fun m' hm=>by
  obtain⟨o',es',ep',ho',r'⟩:=hm
  rw [ho] at ho'; cases ho'
  exact⟨_,es',ep',hL,r'⟩) hok I.bare
theorem Inv.call{g':Array GenState}{t':Nat}{d':Drawn}{ch:List Addr}(I:Inv X pins σ H s)(u:Un (NS X.stack) ch H H' s.heap h')(hok:HOk X.prog X.w H' h')(hg:AllBare g')
  (hch:∀b∈ch,(b∈X.ex\/X.s₀.heap.objs.size<=b)/\b≠X.env.locals/\(∀x c,X.env.cells.lookup x=some c->c≠b)/\∀p∈X.pn++pins,p.1≠b) :
  Inv X pins σ H' { s with heap:=h',gens:=g',drawn:=d',toks:=t' }:=by
 obtain⟨m,⟨o,es,ep,ho,r⟩,_⟩:=id I.loc
 obtain⟨sl,hL⟩:=u.any ho I.free fun z=>(hch _ z).2.1 rfl
 exact I.step (ch:=ch) hch (fun b o hL hb hc e n=>u.keep b o e n (fun z=>(List.mem_cons.mp (I.stkSub b z)).elim hL hb) hc) (fun b o _ _ hc e n=>u.any e n hc) (fun b o hc e n=>u.free b o e n hc) (fun b o hc e=>u.there b o e hc) u.tups u.frzs u.tbls (fun m' hm=>by
  obtain⟨o',es',ep',ho',r'⟩:=hm
  rw [ho] at ho'; cases ho'
  exact⟨_,es',ep',hL,r'⟩) hok hg
theorem Inv.turned{t':Nat}{it:Addr}(I:Inv X pins σ H s)(k:∀b o,b≠it->s.heap.get? b=some o->h'.get? b=some o)(hn:H it=none)(hL:it≠X.env.locals)
  (h1:it∈X.ex\/X.s₀.heap.objs.size<=it) (h2:∀x c,X.env.cells.lookup x=some c->c≠it) (h3:∀p∈X.pn++pins,p.1≠it):Inv X pins σ H { s with heap:=h',toks:=t' }:=by
 have nit:∀b u,H b=some u->b≠it:=fun b u e z=>by rw [z,hn] at e; cases e
 refine I.step (g':=s.gens) (d':=s.drawn) (ch:=[it]) (fun b hb=>?_) (fun b o _ _ hc e _=>k b o (fun z=>hc (by simp [z])) e) (fun b o _ _ hc e _=>⟨o.slots,k b o (fun z=>hc (by simp [z])) e⟩) (fun _ _ _ _ n=>n)
  (fun b o hc e=>⟨o,k b o (fun z=>hc (by simp [z])) e⟩) (fun _ _ e=>e) (fun _ _ _ e=>e) (fun b ps e=>⟨#[],by rw [e]; simp⟩) (fun m hm=>?_) (fun b u e=>?_) I.bare
 ·have e:b=it:=by simpa using hb
  subst e
  exact⟨h1,hL,h2,h3⟩
 ·obtain⟨o,es,ep,ho,r⟩:=hm
  exact⟨o,es,ep,k _ o (Ne.symm hL) ho,r⟩
 ·refine(I.hok b u e).stay (fun c v hc q=>k c v ?_ q) (fun _ q=>q) fun _ _ q=>q
  rcases hc with z | z
  ·rw [z]; exact nit b u e
  ·exact nit c _ z
theorem Inv.tok(I:Inv X pins σ H s)(t:Nat):Inv X pins σ H { s with toks:=t }:=I.un (h':=s.heap) (t':=t) Un.refl I.hok
theorem Inv.kept{t':Nat}(I:Inv X pins σ H s)(k:∀b u,s.heap.get? b=some u->h'.get? b=some u):Inv X pins σ H { s with heap:=h',toks:=t' }:=I.un (Un.kept k) (I.hok.kept k)
theorem Inv.laid{a:Addr}{o:HO}{t':Nat}(I:Inv X pins σ H s)(k:∀b u,s.heap.get? b=some u->h'.get? b=some u)(hp:s.heap.objs.size<=a)(new:ObjOk X.prog X.w (A_ H a o) h' a o) :
  Inv X pins σ (A_ H a o) { s with heap:=h',toks:=t' }:=I.un (Un.laid k hp (I.hok.fresh hp)) (I.hok.laid k hp new)
theorem Inv.write{x e:Addr}{o:HO}{t':Nat}(I:Inv X pins σ H s)(mu:R8 (H x))(he:e=x\/H e=some (.own x))(k:∀b u,b≠e->s.heap.get? b=some u->h'.get? b=some u)(heo:∃u,h'.get? e=some u)
  (new:ObjOk X.prog X.w (A_ H x o) h' x o):Inv X pins σ (A_ H x o) { s with heap:=h',toks:=t' }:=I.un (Un.write mu he k heo) (I.hok.write mu he k heo new)
theorem Inv.pins_of{pins':List (Addr×Obj)}(I:Inv X pins σ H s)(h:∀p∈pins',s.heap.get? p.1=some p.2/\H p.1=none/\p.1≠X.env.locals/\p.1∉X.fs/\∀v,p.2.data≠.cell v):Inv X pins' σ H s :=
 ⟨I.ok,I.os,I.bare,I.base,I.loc,I.cell,I.free,I.freeC,fun p hp=>(List.mem_append.mp hp).elim (fun z=>I.pin p (List.mem_append_left _ z)) (h p),I.hok,I.len⟩
theorem JM{N:List Str}(hN:N.Nodup){i j:Nat}{x:Str}(a:N[i]?=some x)(b:N[j]?=some x):i=j:=by
 obtain⟨h1,e1⟩:=List.getElem?_eq_some_iff.mp a
 obtain⟨h2,e2⟩:=List.getElem?_eq_some_iff.mp b
 exact(List.getElem_inj hN).mp (e1.trans e2.symm)
theorem LW{M:Model}{A:Around}{E:Value->Shared->Prop}{i:Nat}{x:Str}{v:V}{u:Value}{Q:Unit->Shared->Prop}(I:Inv X pins σ H s)(hN:X.N.Nodup)(hi:X.N[i]?=some x)(hx:Loc X.env.scope x)(r:RelV v u)
  (h:∀s',Inv X pins (σ.set i (some v)) H s'->(∃a,Heap.SameBut a s.heap s'.heap/\(a=X.env.locals\/X.env.cells.lookup x=some a))->Q () s') (hf:X.fn x=true\/X.env.scope.names.lookup x=some .local:=by first | exact .inl rfl | exact .inr rfl | assumption):wpAny M A (storeName X.env x u) Q E s:=by
 obtain⟨m,hn,hl⟩:=id I.loc
 have hcls:(X.env.scope.kind==.class||(X.env.scope.kind==.module&&X.env.locals != X.env.globals))=false:=by rw [I.ok.kind]; rfl
 have hiσ:i<σ.length:=by rw [I.len]; exact(List.getElem?_eq_some_iff.mp hi).1
 have cne:=I.cne
 have tracked:∀{a:Addr} {h':Heap},(∃o,s.heap.get? a=some o/\H a=none)->Heap.SameBut a s.heap h'->HOk X.prog X.w H h':=fun {a h'} ha hs b ob e=>by
  obtain⟨_,_,hfree⟩:=ha
  refine(I.hok b ob e).stay (fun c w' hc q=>(hs.2 c ?_).trans q) (fun _ q=>q) fun _ _ q=>q
  rintro rfl
  rcases hc with rfl | hc
  ·rw [hfree] at e; cases e
  ·rw [hfree] at hc; cases hc
 rcases hx with hk | hk
 ·refine wpAny_storeName_local hk hn (fun h' hn' hs=>?_) hcls
  obtain⟨oL,_,_,hoL,_⟩:=id hn
  refine h _ ⟨I.ok,I.os,I.bare,⟨fun b o e n hb hx=>?_,fun b o e n hb hx=>?_,I.base.free,fun b o e hx=>?_,I.base.tups,I.base.frzs,I.base.tbls⟩,⟨_,hn',fun j y v' e1 e2 e3=>?_⟩,fun y c e=>?_,I.free,I.freeC,fun p hp=>?_,tracked ⟨oL,hoL,I.free⟩ hs,by simpa using I.len⟩ ⟨_,hs,.inl rfl⟩
  ·exact(hs.2 b (Nat.ne_of_lt (Nat.lt_of_lt_of_le (Heap.lt_size e) I.ok.above))).trans (I.base.keep b o e n hb hx)
  ·obtain⟨sl,e1⟩:=I.base.slot b o e n hb hx
   exact⟨sl,(hs.2 b (Nat.ne_of_lt (Nat.lt_of_lt_of_le (Heap.lt_size e) I.ok.above))).trans e1⟩
  ·obtain⟨o',e1⟩:=I.base.there b o e hx
   exact⟨o',(hs.2 b (Nat.ne_of_lt (Nat.lt_of_lt_of_le (Heap.lt_size e) I.ok.above))).trans e1⟩
  ·by_cases hj:j=i
   ·subst hj
    rw [hi] at e1; cases e1
    rw [List.getElem?_set_self hiσ] at e2
    cases e2
    exact⟨u,r,.inl ⟨hk,by simp⟩⟩
   ·rw [List.getElem?_set_ne (Ne.symm hj)] at e2
    obtain⟨u',r',q⟩:=hl j y v' e1 e2 e3
    refine⟨u',r',?_⟩
    rcases q with ⟨k,e⟩ | ⟨k,c,e,z⟩
    ·refine .inl ⟨k,?_⟩
     have:y≠x:=fun e=>hj (JM hN e1 (e▸hi))
     simp [this,e]
    ·exact .inr ⟨k,c,e,z.sameBut hs (cne y c e)⟩
  ·obtain⟨w',z⟩:=I.cell y c e
   exact⟨w',z.sameBut hs (cne y c e)⟩
  ·obtain⟨e,n,ne,nf,d⟩:=I.pin p hp
   exact⟨(hs.2 p.1 ne).trans e,n,ne,nf,d⟩
 ·have hfn:X.fn x=true:=by
   rcases hf with z | z
   ·exact z
   ·rw [z] at hk; cases hk
  obtain⟨c,hc⟩:=I.ok.has x (.inl hk)
  obtain⟨w',z⟩:=I.cell x c hc
  refine wpAny_storeName_cell I.ok.kind hk hc z (fun h' hc' hs=>?_)
  obtain⟨oc,hoc,hocd⟩:=id z
  refine h { s with heap:=h' } ⟨I.ok,I.os,I.bare,⟨fun b o e n hb hx=>?_,fun b o e n hb hx=>?_,I.base.free,fun b o e hx=>?_,I.base.tups,I.base.frzs,I.base.tbls⟩,⟨m,hn.sameBut hs (Ne.symm (cne x c hc)),fun j y v' e1 e2 e3=>?_⟩,fun y c' e=>?_,I.free,I.freeC,fun p hp=>?_,tracked ⟨oc,hoc,I.freeC x c hc⟩ hs,by simpa using I.len⟩ ⟨c,hs,.inr hc⟩
  ·exact(hs.2 b (Nat.ne_of_lt (Nat.lt_of_lt_of_le (Heap.lt_size e) (I.ok.cab x c hfn hc)))).trans (I.base.keep b o e n hb hx)
  ·obtain⟨sl,e1⟩:=I.base.slot b o e n hb hx
   exact⟨sl,(hs.2 b (Nat.ne_of_lt (Nat.lt_of_lt_of_le (Heap.lt_size e) (I.ok.cab x c hfn hc)))).trans e1⟩
  ·obtain⟨o',e1⟩:=I.base.there b o e hx
   exact⟨o',(hs.2 b (Nat.ne_of_lt (Nat.lt_of_lt_of_le (Heap.lt_size e) (I.ok.cab x c hfn hc)))).trans e1⟩
  ·by_cases hj:j=i
   ·subst hj
    rw [hi] at e1; cases e1
    rw [List.getElem?_set_self hiσ] at e2
    cases e2
    exact⟨u,r,.inr ⟨.inl hk,c,hc,hc'⟩⟩
   ·rw [List.getElem?_set_ne (Ne.symm hj)] at e2
    obtain⟨u',r',q⟩:=hl j y v' e1 e2 e3
    refine⟨u',r',?_⟩
    rcases q with q | ⟨k,c',e,z'⟩
    ·exact .inl q
    ·refine .inr ⟨k,c',e,z'.sameBut hs ?_⟩
     rintro rfl
     exact hj (JM hN e1 (I.ok.inj _ _ _ e hc▸hi))
  ·by_cases hcc:c'=c
   ·subst hcc; exact⟨_,hc'⟩
   ·obtain⟨w2,z2⟩:=I.cell y c' e
    exact⟨w2,z2.sameBut hs hcc⟩
  ·obtain⟨e,n,ne,nf,d⟩:=I.pin p hp
   refine⟨(hs.2 p.1 ?_).trans e,n,ne,nf,d⟩
   intro q
   rw [q,hoc] at e
   have q':oc=p.2:=Option.some.inj e
   exact d w' (by rw [← q']; exact hocd)
theorem Iz{M:Model}{A:Around}{E:Value->Shared->Prop}{i:Nat}{x:Str}{v:V}{u:Value}{Q:Unit->Shared->Prop}(I:Inv X pins σ H s)(hN:X.N.Nodup)(hi:X.N[i]?=some x)(hx:Loc X.env.scope x)(r:RelV v u)
  (h:∀s',Inv X pins (σ.set i (some v)) H s'->Q () s') (hf:X.fn x=true\/X.env.scope.names.lookup x=some .local:=by first | exact .inl rfl | exact .inr rfl | assumption):wpAny M A (storeName X.env x u) Q E s :=
 LW I hN hi hx r (fun s' I' _=>h s' I') hf
theorem Inv.call'{s':Shared}{ch:List Addr}(I:Inv X pins σ H s)(ho:s'.os=s.os)(u:Un (NS X.stack) ch H H' s.heap s'.heap)(hok:HOk X.prog X.w H' s'.heap)(hg:AllBare s'.gens)
  (hch:∀b∈ch,(b∈X.ex\/X.s₀.heap.objs.size<=b)/\b≠X.env.locals/\(∀x c,X.env.cells.lookup x=some c->c≠b)/\∀p∈X.pn++pins,p.1≠b):Inv X pins σ H' s':=by
 obtain⟨h',g',d',t',o'⟩:=s'
 have e:o'=s.os:=ho
 subst e
 exact I.call (g':=g') (t':=t') (d':=d') u hok hg hch
end
abbrev XK:=Value->Option Addr->Hp->Prop
abbrev St:=List (Option V)
abbrev VK:=V->Hp->Prop
abbrev TE:=St->Hp->VK->Prop
abbrev TT:=St->Hp->(Bool->Hp->Prop)->Prop
abbrev TA:=St->Hp->(List V->Hp->Prop)->Prop
structure Ends where
 nx:St->Hp->Prop
 rt:VK
 bk:St->Hp->Prop:=fun _ _=>False
 ct:St->Hp->Prop:=fun _ _=>False
abbrev TS:=Ends->St->Hp->Prop
def EP(X:Cx)(pins:List (Addr×Obj))(σ:St)(Q:VK)(u:Value)(s':Shared):Prop:=∃v H',Inv X pins σ H' s'/\RelV v u/\Q v H'
def TP(X:Cx)(pins:List (Addr×Obj))(σ:St)(Q:Bool->Hp->Prop)(b:Bool)(s':Shared):Prop:=∃H',Inv X pins σ H' s'/\Q b H'
def AP(X:Cx)(pins:List (Addr×Obj))(σ:St)(Q:List V->Hp->Prop)(us:List Value)(s':Shared):Prop:=∃vs H',Inv X pins σ H' s'/\Vals vs us/\Q vs H'
def SP(X:Cx)(pins:List (Addr×Obj))(D:Ends)(f:Flow)(s':Shared):Prop :=
 match f with
 | .next=>∃σ' H',Inv X pins σ' H' s'/\D.nx σ' H'
 | .brk=>∃σ' H',Inv X pins σ' H' s'/\D.bk σ' H'
 | .cont=>∃σ' H',Inv X pins σ' H' s'/\D.ct σ' H'
 | .ret u=>∃v σ' H',Inv X pins σ' H' s'/\RelV v u/\D.rt v H'
def PE(X:Cx)(e:Expr)(t:TE):Prop :=
 ∀(pins:List (Addr×Obj)) (s:Shared) (σ:St) (H:Hp) (Q:VK),Inv X pins σ H s->t σ H Q->wpAny (model X.prog X.w) X.A (eval e X.env) (EP X pins σ Q) X.xe s
def PT(X:Cx)(e:Expr)(t:TT):Prop :=
 ∀(pins:List (Addr×Obj)) (s:Shared) (σ:St) (H:Hp) (Q:Bool->Hp->Prop),Inv X pins σ H s->t σ H Q->wpAny (model X.prog X.w) X.A (isTrue e X.env (eval e X.env)) (TP X pins σ Q) X.xe s
def PW(X:Cx)(e:Expr)(t:TT):Prop :=
 ∀(whole:Sem Value) (pins:List (Addr×Obj)) (s:Shared) (σ:St) (H:Hp) (Q:Bool->Hp->Prop),Inv X pins σ H s->t σ H Q->wpAny (model X.prog X.w) X.A (isTrue e X.env whole) (TP X pins σ Q) X.xe s
theorem PW.pt{X:Cx}{e:Expr}{t:TT}(h:PW X e t):PT X e t:=h _
def PA(X:Cx)(es:List Expr)(t:TA):Prop :=
 ∀(pos:Pos) (pins:List (Addr×Obj)) (s:Shared) (σ:St) (H:Hp) (Q:List V->Hp->Prop),Inv X pins σ H s->t σ H Q->wpAny (model X.prog X.w) X.A (spliced (backTo pos (starEach es X.env))) (AP X pins σ Q) X.xe s
def PS(X:Cx)(st:Stmt)(t:TS):Prop :=
 ∀(pins:List (Addr×Obj)) (s:Shared) (σ:St) (H:Hp) (D:Ends),Inv X pins σ H s->t D σ H->wpAny (model X.prog X.w) X.A (exec st X.env) (SP X pins D) X.xe s
def PSs(X:Cx)(st:List Stmt)(t:TS):Prop :=
 ∀(pins:List (Addr×Obj)) (s:Shared) (σ:St) (H:Hp) (D:Ends),Inv X pins σ H s->t D σ H->wpAny (model X.prog X.w) X.A (execs st X.env) (SP X pins D) X.xe s
theorem BL{α:Type}{t:Sem α}{Q Q':α->Shared->Prop}{M:Model}{A:Around}{E:Value->Shared->Prop}{s:Shared}(h:wpAny M A t Q E s)(hQ:∀a s,Q a s->Q' a s):wpAny M A t Q' E s:=wpAny_mono h hQ fun _ _ x=>x
section
variable {X:Cx}
def Bu(i:Nat):TE:=fun σ H Q=>∃v,σ[i]?=some (some v)/\Q v H
def tC(v:V):TE:=fun _ H Q=>Q v H
theorem Hr{i:Nat}{x:Str}{pos:Pos}(hN:X.N[i]?=some x)(hv:Qy X.env.scope x)(hd:(x==("__debug__" : Str))=false:=by decide)(hcd:(x==("__classdict__" : Str))=false:=by decide):PE X (.Name x pos) (Bu i):=by
 intro pins s σ H Q I h
 obtain⟨v,e,h⟩:=h
 obtain⟨m,hn,hl⟩:=I.loc
 obtain⟨u,r,l⟩:=hl i x v hN e hv
 have fin:EP X pins σ Q u s:=⟨v,H,I,r,h⟩
 rcases l with ⟨hk,hm⟩ | ⟨hk,c,hc,hcell⟩
 ·exact wpAny_Name (wpAny_loadName_local I.ok.kind hk hn hm fin) hd
 ·rcases hk with hk | hk
  ·exact wpAny_Name (wpAny_loadName_cell I.ok.kind hk hc hcell fin) hd
  ·exact wpAny_Name (wpAny_loadName_free I.ok.kind hk hc hcell fin hcd) hd
theorem Aq{i j pos}:PE X (.Constant (.int i) j pos) (tC (.int i)):=fun _ _ _ H _ I h=>wpAny_Constant_int ⟨.int i,H,I.tok _,⟨_,rfl⟩,h⟩
theorem RU{b j pos}:PE X (.Constant (.bool b) j pos) (tC (.bl b)):=fun _ _ _ H _ I h=>Constant_bool ⟨.bl b,H,I,rfl,h⟩
theorem QA{j pos}:PE X (.Constant .none j pos) (tC .non):=fun _ _ _ H _ I h=>Constant_none ⟨.non,H,I,rfl,h⟩
theorem P7{x j pos}:PE X (.Constant (.str x) j pos) (tC (.str x)):=fun _ _ _ H _ I h=>Calls.Constant_str ⟨.str x,H,I.tok _,⟨_,rfl⟩,h⟩
def Gl(X:Cx)(x:Str):Prop:=X.env.kindOf x=some .globalImplicit
theorem OM{E:Value->Shared->Prop}{pins:List (Addr×Obj)}{s:Shared}{σ:St}{H:Hp}{x:Str}{u:Value}{pos:Pos}{Q:Value->Shared->Prop}(I:Inv X pins σ H s)(hg:Gl X x)(hm:X.mg x=some u)(h:Q u s)
  (hd:(x==("__debug__" : Str))=false:=by decide):wpAny (model X.prog X.w) X.A (eval (.Name x pos) X.env) Q E s :=
 Calls.Name_function_global I.ok.kind hg (Calls.loadGlobal_global (by rw [I.ok.glob]; exact I.mod.glob.keeps I.bk) hm h) hd
theorem Fw{E:Value->Shared->Prop}{pins:List (Addr×Obj)}{s:Shared}{σ:St}{H:Hp}{x:Str}{u:Value}{pos:Pos}{Q:Value->Shared->Prop}(I:Inv X pins σ H s)(hg:Gl X x)(hm:X.mg x=none)(hv:bootBuiltins x=some u)(h:Q u s)
  (hn:x ≠ "__name__":=by decide) (hd:(x==("__debug__" : Str))=false:=by decide):wpAny (model X.prog X.w) X.A (eval (.Name x pos) X.env) Q E s:=by
 obtain⟨mb,h1,h2⟩:=I.mod.blt
 exact Calls.Name_function_global I.ok.kind hg (Calls.loadGlobal_builtin (by rw [I.ok.glob]; exact I.mod.glob.keeps I.bk) hm (by rw [I.ok.blt]; exact h1.keeps I.bk) ((h2 x hn).trans hv) h) hd
theorem Ht{x:Str}{v:V}{u:Value}{pos:Pos}(hg:Gl X x)(hm:X.mg x=none)(hv:bootBuiltins x=some u)(r:RelV v u)(hn:x ≠ "__name__":=by decide)(hd:(x==("__debug__" : Str))=false:=by decide):PE X (.Name x pos) (tC v) :=
 fun _ _ _ H _ I h=>Fw I hg hm hv ⟨v,H,I,r,h⟩ hn hd
variable {a b:Expr}{ta tb:TE}{pos:Pos}
def tB(t:TE):TT:=fun σ H Q=>t σ H fun x H1=>∃c,x=.bl c/\Q c H1
theorem P2{e:Expr}{t:TE}(h:PE X e t)(he:∀whole,isTrue e X.env whole=(do let v ← whole; standAt e.pos; holding [v] (truthy v)):=by intro _; rfl):PT X e (tB t):=by
 intro pins s σ H Q I hw
 refine isTrue_plain (BL (h pins s σ H _ I hw) fun v s1 ⟨x,H1,I1,r1,q1⟩=>?_) (he _)
 obtain⟨d,rfl,q⟩:=q1
 cases r1
 exact wpAny_truthy_bool ⟨H1,I1,q⟩
variable {tA tB':TT}{rest:List Expr}
def RA(t u:TT):TT:=fun σ H Q=>t σ H fun c H1=>if c=true then u σ H1 Q else Q false H1
def TN(t u:TT):TT:=fun σ H Q=>t σ H fun c H1=>if c=true then Q true H1 else u σ H1 Q
def SX(t:TT):TT:=fun σ H Q=>t σ H fun c H1=>Q (!c) H1
theorem Kh(ha:PT X a tA):PW X (.BoolOp .And [a] pos) tA:=by
 intro wh pins s σ H Q I h
 refine isTrue_and (BL (ha pins s σ H Q I h) fun c s1 e=>?_)
 cases c with
 | true=>exact isTrue_and_nil e
 | false=>exact e
theorem P1(ha:PT X a tA):PW X (.BoolOp .Or [a] pos) tA:=by
 intro wh pins s σ H Q I h
 refine isTrue_or (BL (ha pins s σ H Q I h) fun c s1 e=>?_)
 cases c with
 | false=>exact isTrue_or_nil e
 | true=>exact e
theorem Mo(ha:PT X a tA)(hb:PW X (.BoolOp .And (b::rest) pos) tB'):PW X (.BoolOp .And (a::b::rest) pos) (RA tA tB'):=by
 intro wh pins s σ H Q I h
 refine isTrue_and (BL (ha pins s σ H _ I h) fun c s1 ⟨H1,I1,q1⟩=>?_)
 cases c with
 | true=>exact hb wh pins s1 σ H1 Q I1 q1
 | false=>exact⟨H1,I1,q1⟩
theorem RS(ha:PT X a tA)(hb:PW X (.BoolOp .Or (b::rest) pos) tB'):PW X (.BoolOp .Or (a::b::rest) pos) (TN tA tB'):=by
 intro wh pins s σ H Q I h
 refine isTrue_or (BL (ha pins s σ H _ I h) fun c s1 ⟨H1,I1,q1⟩=>?_)
 cases c with
 | true=>exact⟨H1,I1,q1⟩
 | false=>exact hb wh pins s1 σ H1 Q I1 q1
theorem P4(ha:PT X a tA):PT X (.UnaryOp .Not a pos) (SX tA):=by
 intro pins s σ H Q I h
 exact isTrue_not (ha pins s σ H (fun c H1=>Q (!c) H1) I h)
def Q_(ta tb:TE):TE:=fun σ H Q=>ta σ H fun x H1=>∃c,x=.bl c/\if c=true then tb σ H1 Q else Q (.bl false) H1
def Q4(ta:TE):TE:=fun σ H Q=>ta σ H fun x H1=>∃c,x=.bl c/\Q (.bl (!c)) H1
theorem P9{op}{t:TE}(h:PE X a t):PE X (.BoolOp op [a] pos) t:=fun pins s σ H Q I hw=>BoolOp_one (h pins s σ H Q I hw)
theorem QC(ha:PE X a ta)(hb:PE X (.BoolOp .And (b::rest) pos) tb):PE X (.BoolOp .And (a::b::rest) pos) (Q_ ta tb):=by
 intro pins s σ H Q I h
 refine BoolOp_and (BL (ha pins s σ H _ I h) fun v s1 ⟨x,H1,I1,r1,q1⟩=>?_)
 obtain⟨c,rfl,q1⟩:=q1
 cases r1
 refine wpAny_truthy_bool ?_
 cases c with
 | true=>exact hb pins s1 σ H1 Q I1 q1
 | false=>exact⟨.bl false,H1,I1,rfl,q1⟩
theorem P_(ha:PE X a ta):PE X (.UnaryOp .Not a pos) (Q4 ta):=by
 intro pins s σ H Q I h
 refine UnaryOp_ (BL (ha pins s σ H _ I h) fun v s1 ⟨x,H1,I1,r1,q1⟩=>?_)
 obtain⟨c,rfl,q1⟩:=q1
 cases r1
 exact not_of (wpAny_truthy_bool ⟨.bl (!c),H1,I1,rfl,q1⟩)
def TQ(t:TT)(ta tb:TE):TE:=fun σ H Q=>t σ H fun c H1=>if c=true then ta σ H1 Q else tb σ H1 Q
theorem JF{c:Expr}(hc:PT X c tA)(ha:PE X a ta)(hb:PE X b tb):PE X (.IfExp c a b pos) (TQ tA ta tb):=by
 intro pins s σ H Q I h
 refine wpAny_IfExp (BL (hc pins s σ H _ I h) fun d s1 ⟨H1,I1,q1⟩=>?_)
 cases d with
 | true=>exact ha pins s1 σ H1 Q I1 q1
 | false=>exact hb pins s1 σ H1 Q I1 q1
end
def SqL(K:Frag)(H:Hp)(a:Addr)(xs:List V):Prop :=
 Rd H a (.lst xs) \/
  ∃(o:Obj) (its:Array Value) (n:Nat),K.lookup a=some o/\o.cls=.type "list"/\o.dict=none/\o.data=.seq its n/\its.size<=sizeLine/\Vals xs its.toList
def SqT(K:Frag)(H:Hp)(a:Addr)(xs:List V):Prop :=
 Rd H a (.tup xs) \/
  ∃(o:Obj) (its:Array Value) (n:Nat),K.lookup a=some o/\o.cls=.type "tuple"/\o.data=.seq its n/\its.size<=sizeLine/\Vals xs its.toList
def Sx:Value->Option V
 | .none=>some .non
 | .bool b=>some (.bl b)
 | .int i _=>some (.int i)
 | .str x _=>some (.str x)
 | .bytes b _=>some (.byt b)
 | .float b _=>some (.flt b)
 | .ref a=>some (.ref a)
 | .type n=>some (.ty n)
 | _=>none
theorem RelV.abs{x:V}{u:Value}(r:RelV x u):Sx u=some x:=by
 cases x with
 | non=>cases r; rfl
 | bl _=>cases r; rfl
 | int _=>obtain⟨t,rfl⟩:=r; rfl
 | str _=>obtain⟨t,rfl⟩:=r; rfl
 | byt _=>obtain⟨t,rfl⟩:=r; rfl
 | flt _=>obtain⟨t,rfl⟩:=r; rfl
 | ref _=>cases r; rfl
 | ty _=>cases r; rfl
theorem RelV.inj{x y:V}{u:Value}(r:RelV x u)(q:RelV y u):x=y:=Option.some.inj (r.abs.symm.trans q.abs)
theorem Vals.inj:∀{xs ys:List V} {us:List Value},Vals xs us->Vals ys us->xs=ys
 | _,_,_,.nil,.nil=>rfl
 | _,_,_,.cons r t,.cons r' t'=>by rw [r.inj r',Vals.inj t t']
section
variable {X:Cx}{pins:List (Addr×Obj)}{σ:St}{H:Hp}{s:Shared}{a:Addr}{xs ys:List V}
theorem SqL.of{K:Frag}(h:H a=some (.lst xs)):SqL K H a xs:=.inl (.inl h)
theorem SqT.of{K:Frag}(h:H a=some (.tup xs)):SqT K H a xs:=.inl (.inl h)
theorem Inv.list(I:Inv X pins σ H s)(h:SqL X.K H a xs):∃its:List Value,Vals xs its/\PlainL s.heap a its.toArray/\xs.length<=sizeLine:=by
 rcases h with h | ⟨o,its,n,hk,hc,hd,hs,hz,r⟩
 ·obtain⟨z,its,n,r,e⟩:=h.ok I.hok
  exact⟨its,r,⟨_,n,e,rfl,rfl,rfl⟩,z⟩
 ·refine⟨its.toList,r,⟨o,n,I.kIn a o hk,hc,hd,by simpa using hs⟩,?_⟩
  have e:=r.length
  simp only [Array.length_toList] at e
  omega
theorem Inv.tuple(I:Inv X pins σ H s)(h:SqT X.K H a xs):∃its:List Value,Vals xs its/\IsTup s.heap a its.toArray/\xs.length<=sizeLine:=by
 rcases h with h | ⟨o,its,n,hk,hc,hs,hz,r⟩
 ·obtain⟨z,its,r,p⟩:=h.ok I.hok
  exact⟨its,r,p.tup,z⟩
 ·refine⟨its.toList,r,⟨o,I.kIn a o hk,hc,n,by simpa using hs⟩,?_⟩
  have e:=r.length
  simp only [Array.length_toList] at e
  omega
theorem Inv.list_inj(I:Inv X pins σ H s)(h:SqL X.K H a xs)(h':SqL X.K H a ys):xs=ys:=by
 obtain⟨its,r,⟨o,n,e,_,_,d⟩,_⟩:=I.list h
 obtain⟨its',r',⟨o',n',e',_,_,d'⟩,_⟩:=I.list h'
 rw [e] at e'; cases e'
 rw [d] at d'
 injection d' with d1 _
 have:its=its':=by simpa using congrArg Array.toList d1
 subst this
 exact r.inj r'
theorem Inv.tuple_inj(I:Inv X pins σ H s)(h:SqT X.K H a xs)(h':SqT X.K H a ys):xs=ys:=by
 obtain⟨its,r,⟨o,e,_,n,d⟩,_⟩:=I.tuple h
 obtain⟨its',r',⟨o',e',_,n',d'⟩,_⟩:=I.tuple h'
 rw [e] at e'; cases e'
 rw [d] at d'
 injection d' with d1 _
 have:its=its':=by simpa using congrArg Array.toList d1
 subst this
 exact r.inj r'
end
abbrev Cx.wish(X:Cx)(E:Value->Shared->Prop):Cx:={ X with xe:=E }
abbrev Cx.nox(X:Cx):Cx:=X.wish fun _ _=>False
theorem Cx.Ok.wish{X:Cx}(ok:X.Ok)(E:Value->Shared->Prop):(X.wish E).Ok :=
 ⟨ok.mod,ok.kind,ok.glob,ok.blt,ok.above,ok.inj,ok.has,ok.cab,ok.hd,ok.frames,ok.stk,ok.exf,ok.bs,ok.bsz,ok.noex,ok.exfs,ok.funs,ok.frf⟩
theorem Cx.Ok.unwish{X:Cx}{E:Value->Shared->Prop}(ok:(X.wish E).Ok):X.Ok :=
 ⟨ok.mod,ok.kind,ok.glob,ok.blt,ok.above,ok.inj,ok.has,ok.cab,ok.hd,ok.frames,ok.stk,ok.exf,ok.bs,ok.bsz,ok.noex,ok.exfs,ok.funs,ok.frf⟩
section
variable {X:Cx}{pins:List (Addr×Obj)}{σ:St}{H:Hp}{s:Shared}{E:Value->Shared->Prop}
theorem Inv.wish(I:Inv X pins σ H s)(E:Value->Shared->Prop):Inv (X.wish E) pins σ H s:=⟨I.ok.wish E,I.os,I.bare,I.base,I.loc,I.cell,I.free,I.freeC,I.pin,I.hok,I.len⟩
theorem Inv.unwish(I:Inv (X.wish E) pins σ H s):Inv X pins σ H s:=⟨I.ok.unwish,I.os,I.bare,I.base,I.loc,I.cell,I.free,I.freeC,I.pin,I.hok,I.len⟩
theorem SP.unwish{D:Ends}{f:Flow}{s':Shared}(h:SP (X.wish E) pins D f s'):SP X pins D f s':=by
 cases f with
 | next=>obtain⟨σ',H',I,q⟩:=h; exact⟨σ',H',I.unwish,q⟩
 | brk=>obtain⟨σ',H',I,q⟩:=h; exact⟨σ',H',I.unwish,q⟩
 | cont=>obtain⟨σ',H',I,q⟩:=h; exact⟨σ',H',I.unwish,q⟩
 | ret u=>obtain⟨v,σ',H',I,r,q⟩:=h; exact⟨v,σ',H',I.unwish,r,q⟩
theorem PSs.nox{st:List Stmt}{t:TS}(h:PSs X.nox st t):PSs X st t:=fun pins s σ H D I hw =>
 wpAny_mono (h pins s σ H D (I.wish _) hw) (fun _ _ q=>q.unwish) fun _ _ z=>False.elim z
end
section
variable {X:Cx}{st:Stmt}{rest:List Stmt}{t u:TS}{e:Expr}{te:TE}{pos:Pos}
def Ot:TS:=fun D σ H=>D.nx σ H
def LV(t u:TS):TS:=fun D σ H=>t { D with nx:=u D } σ H
theorem Ho:PSs X [] Ot:=fun _ _ σ H _ I h=>wpAny_execs_nil ⟨σ,H,I,h⟩
theorem BA(h1:PS X st t)(h2:PSs X rest u):PSs X (st::rest) (LV t u):=by
 intro pins s σ H D I h
 refine wpAny_execs_cons (BL (h1 pins s σ H { D with nx:=u D } I h) fun f s1 q=>?_)
 cases f with
 | next =>
  obtain⟨σ',H',I',q⟩:=q
  exact h2 pins s1 σ' H' D I' q
 | ret v=>exact q
 | brk=>exact q
 | cont=>exact q
theorem Cy(h1:PS X st t):PSs X [st] t:=by
 intro pins s σ H D I h
 refine wpAny_execs_cons (BL (h1 pins s σ H D I h) fun f s1 q=>?_)
 cases f with
 | next=>exact wpAny_execs_nil q
 | ret v=>exact q
 | brk=>exact q
 | cont=>exact q
theorem Inv.quiet{pins:List (Addr×Obj)}{σ:St}{H:Hp}{s:Shared}(I:Inv X pins σ H s):interactive X.env=false:=by simp [interactive,I.ok.kind]
def Q6(te:TE):TS:=fun D σ H=>te σ H fun _ H1=>D.nx σ H1
theorem N_(he:PE X e te)(hs:swapsWith e none pos.line X.env=pure false:=by rfl):PS X (.Expr e pos) (Q6 te):=by
 intro pins s σ H D I h
 exact wpAny_Expr_any (BL (he pins s σ H _ I h) fun v s1 ⟨x,H1,I1,r1,q1⟩=>⟨σ,H1,I1,q1⟩) I.quiet hs
def N5(te:TE):TS:=fun D σ H=>te σ H D.rt
theorem EA(he:PE X e te):PS X (.Return (some e) pos) (N5 te):=by
 intro pins s σ H D I h
 exact wpAny_Return_some (BL (he pins s σ H _ I h) fun v s1 ⟨x,H1,I1,r1,q1⟩=>⟨x,σ,H1,I1,r1,q1⟩)
def Q5(c:TT)(t u:TS):TS:=fun D σ H=>c σ H fun b H1=>if b=true then t D σ H1 else u D σ H1
theorem Mt{c:Expr}{a b:List Stmt}{tc:TT}(hc:PT X c tc)(ha:PSs X a t)(hb:PSs X b u):PS X (.If c a b pos) (Q5 tc t u):=by
 intro pins s σ H D I h
 refine wpAny_If (BL (hc pins s σ H _ I h) fun d s1 ⟨H1,I1,q1⟩=>?_)
 cases d with
 | true=>exact ha pins s1 σ H1 D I1 q1
 | false=>exact hb pins s1 σ H1 D I1 q1
end
abbrev TG:=V->St->Hp->(St->Hp->Prop)->Prop
abbrev Qo:=List V->St->Hp->(St->Hp->Prop)->Prop
def PG(X:Cx)(target:Expr)(t:TG):Prop :=
 ∀(pins:List (Addr×Obj)) (s:Shared) (σ:St) (H:Hp) (v:V) (u:Value) (Q:St->Hp->Prop),Inv X pins σ H s->RelV v u->t v σ H Q ->
  wpAny (model X.prog X.w) X.A (assign target X.env u) (fun _ s'=>∃σ' H',Inv X pins σ' H' s'/\Q σ' H') X.xe s
def R7(X:Cx)(ts:List Expr)(t:Qo):Prop :=
 ∀(pins:List (Addr×Obj)) (s:Shared) (σ:St) (H:Hp) (vs:List V) (us:List Value) (Q:St->Hp->Prop),Inv X pins σ H s->Vals vs us->t vs σ H Q ->
  wpAny (model X.prog X.w) X.A (assignInOrder ((assignEach ts X.env).map (·.2)) us) (fun _ s'=>∃σ' H',Inv X pins σ' H' s'/\Q σ' H') X.xe s
abbrev Qn:=V->V->V->Hp->(Hp->Prop)->Prop
def R6(X:Cx)(t:Qn):Prop :=
 ∀(pins:List (Addr×Obj)) (s:Shared) (σ:St) (H:Hp) (o i v:V) (ov iv u:Value) (Q:Hp->Prop),Inv X pins σ H s->RelV o ov->RelV i iv->RelV v u->t o i v H Q ->
  wpAny (model X.prog X.w) X.A (setItem ov iv u) (fun _ s'=>∃H',Inv X pins σ H' s'/\Q H') X.xe s
section
variable {X:Cx}{pos:Pos}
def HG(i:Nat):TG:=fun v σ H Q=>Q (σ.set i (some v)) H
theorem EV{i:Nat}{x:Str}(hN:X.N.Nodup)(hi:X.N[i]?=some x)(hx:Loc X.env.scope x)(hf:X.fn x=true\/X.env.scope.names.lookup x=some .local:=by first | exact .inl rfl | exact .inr rfl | assumption):PG X (.Name x pos) (HG i):=by
 intro pins s σ H v u Q I r h
 exact wpAny_assign_Name (Iz I hN hi hx r (fun s' I'=>⟨_,H,I',h⟩) hf)
def Sq:Qo:=fun vs σ H Q=>vs=[]/\Q σ H
def Rg(t:TG)(u:Qo):Qo:=fun vs σ H Q=>∃v r,vs=v::r/\t v σ H fun σ' H'=>u r σ' H' Q
theorem Ko:R7 X [] Sq:=by
 intro pins s σ H vs us Q I r h
 obtain⟨e,h⟩:=h
 subst e
 cases r
 exact assignInOrder_nil ⟨σ,H,I,h⟩
theorem EU{e:Expr}{es:List Expr}{t:TG}{u:Qo}(h1:PG X e t)(h2:R7 X es u)
  (hs:(assignEach (e::es) X.env).map (·.2)=assign e X.env::(assignEach es X.env).map (·.2):=by rfl):R7 X (e::es) (Rg t u):=by
 intro pins s σ H vs us Q I r h
 obtain⟨v,vr,e1,h⟩:=h
 subst e1
 cases r with
 | cons r rr =>
  rw [hs]
  refine assignInOrder_cons (BL (h1 pins s σ H _ _ _ I r h) fun _ s1 ⟨σ1,H1,I1,q1⟩=>?_)
  exact h2 pins s1 σ1 H1 _ _ Q I1 rr q1
def Sn(K:Frag)(n:Nat)(t:Qo):TG:=fun v σ H Q=>∃a xs,v=.ref a/\SqT K H a xs/\xs.length=n/\t xs σ H Q
theorem M5{es:List Expr}{k:Nat}{t:Qo}{n:Nat}(hc:X.calm=true)(h:R7 X es t)
  (hn:(assignEach es X.env).length=n:=by rfl) (hst:(assignEach es X.env).findIdx? (·.1)=none:=by rfl):PG X (.Tuple es k pos) (Sn X.K n t):=by
 intro pins s σ H v u Q I r hw
 obtain⟨a,xs,e1,hq,hl,hw⟩:=hw
 subst e1
 cases r
 obtain⟨its,rv,ht,hz⟩:=I.tuple hq
 refine assign_Tuple_tuple (I.ok.hd hc) ht (by simp [hn,← hl,rv.length]) hst fun h' hx=>?_
 have I1:Inv X pins σ H { s with heap:=h' }:=I.kept (t':=s.toks) fun b o e=>hx b o (Nat.ne_of_lt (Heap.lt_size e)) e
 exact h pins _ σ H xs _ Q I1 (by simpa using rv) hw
def Rf(to ti:TE)(t:Qn):TG:=fun v σ H Q=>to σ H fun o H1=>ti σ H1 fun i H2=>t o i v H2 fun H3=>Q σ H3
theorem Jz{o i:Expr}{to ti:TE}{t:Qn}(ho:PE X o to)(hi:PE X i ti)(hs:R6 X t)
  (ha:∀v,assign (.Subscript o i pos) X.env v=(do
   let ov ← holding [v] (eval o X.env)
   let iv ← holding [v,ov] (eval i X.env)
   standAt pos
   holding [v,ov,iv] (setItem ov iv v)
   release [v,ov,iv] []):=by intro _; rfl):PG X (.Subscript o i pos) (Rf to ti t):=by
 intro pins s σ H v u Q I r h
 rw [ha]
 refine wpAny_bind (wpAny_holding (BL (ho pins s σ H _ I h) fun ov s1 ⟨x,H1,I1,r1,q1⟩=>?_))
 refine wpAny_bind (wpAny_holding (BL (hi pins s1 σ H1 _ I1 q1) fun iv s2 ⟨y,H2,I2,r2,q2⟩=>?_))
 refine wpAny_bind (wpAny_standAt (wpAny_bind (wpAny_holding (BL (hs pins s2 σ H2 x y v ov iv u _ I2 r1 r2 r q2) fun _ s3 ⟨H3,I3,q3⟩=>?_))))
 exact wpAny_release ⟨σ,H3,I3,q3⟩
def Jq(te:TE)(g:TG):TS:=fun D σ H=>te σ H fun x H1=>g x σ H1 D.nx
theorem Jw{tg e:Expr}{te:TE}{g:TG}(he:PE X e te)(hg:PG X tg g)(hs:swapsWithSole [tg] e pos.line X.env=pure false:=by rfl)(hw:swappedStores [tg] e X.env=pure none:=by rfl)
  (h1:(assignEach [tg] X.env).map (·.2)=[assign tg X.env]:=by rfl):PS X (.Assign [tg] e pos) (Jq te g):=by
 intro pins s σ H D I h
 refine wpAny_Assign_stores (BL (he pins s σ H _ I h) fun v s1 ⟨x,H1,I1,r1,q1⟩=>?_) hs hw
 rw [h1]
 exact BL (hg pins s1 σ H1 x v _ I1 r1 q1) fun _ s2 q=>q
theorem DZ{i:Nat}{x:Str}{e:Expr}{te:TE}{pos':Pos}(hN:X.N.Nodup)(hi:X.N[i]?=some x)(hx:Loc X.env.scope x)(he:PE X e te)(hs:swapsWith e (some (.Name x pos')) pos.line X.env=pure false:=by rfl)(hf:X.fn x=true\/X.env.scope.names.lookup x=some .local:=by first | exact .inl rfl | exact .inr rfl | assumption) :
  PS X (.Assign [.Name x pos'] e pos) (Jq te (HG i)):=by
 intro pins s σ H D I h
 refine wpAny_Assign_Name (BL (he pins s σ H _ I h) fun v s1 ⟨y,H1,I1,r1,q1⟩=>?_) hs
 exact Iz I1 hN hi hx r1 (fun s2 I2=>⟨_,H1,I2,q1⟩) hf
end
section
variable {X:Cx}{pos:Pos}
def Pn(c:TT)(tb:TS):TS:=fun D σ H=>∃W:Nat->St->Hp->Prop,(∃m,W m σ H)/\∀m σ H,W m σ H ->
 c σ H fun b H1=>if b=true then ∃N:St->Hp->Prop,(∀σ' H',N σ' H'->∃m',m'<m/\W m' σ' H')/\tb { D with nx:=N,ct:=N,bk:=D.nx } σ H1 else D.nx σ H1
theorem Ms{c:Expr}{body:List Stmt}{tc:TT}{tb:TS}(hp:PassesOwn (model X.prog X.w) X.A X.env X.xe)(hc:PT X c tc)(hb:PSs X body tb):PS X (.While c body [] pos) (Pn tc tb):=by
 intro pins s σ H D I h
 obtain⟨W,⟨m0,w0⟩,turn⟩:=h
 refine wpAny_While (codeAny_whileLoop (fun n s'=>∃σ' H',Inv X pins σ' H' s'/\W n σ' H') ?_ m0 ⟨σ,H,I,w0⟩)
 rintro n s1 ⟨σ1,H1,I1,w1⟩
 refine wpAny_passesOwn hp (BL (hc pins s1 σ1 H1 _ I1 (turn n σ1 H1 w1)) fun b s2 ⟨H2,I2,q2⟩=>?_)
 cases b with
 | true =>
  obtain⟨N,hN,q2⟩:=q2
  rw [if_pos rfl]
  refine wpAny_passesOwn hp (BL (hb pins s2 σ1 H2 _ I2 q2) fun f s3 q3=>?_)
  cases f with
  | next =>
   obtain⟨σ3,H3,I3,n3⟩:=q3
   obtain⟨m',hm,w3⟩:=hN σ3 H3 n3
   exact⟨m',hm,σ3,H3,I3,w3⟩
  | cont =>
   obtain⟨σ3,H3,I3,n3⟩:=q3
   obtain⟨m',hm,w3⟩:=hN σ3 H3 n3
   exact⟨m',hm,σ3,H3,I3,w3⟩
  | brk=>exact q3
  | ret v=>exact q3
 | false =>
  rw [if_neg Bool.false_ne_true]
  exact wpAny_execs_nil ⟨σ1,H2,I2,q2⟩
end
structure It where
 go:Nat->Hp->Prop
 yld:Nat->Hp->V->Hp->Prop
 stop:Nat->Hp->Prop
def E_(X:Cx)(pins:List (Addr×Obj))(H:Hp)(b:Addr):Prop :=
 H b=none/\b≠X.env.locals/\b∉X.fs/\(b∈X.ex\/X.s₀.heap.objs.size<=b)/\(∀x c,X.env.cells.lookup x=some c->c≠b)/\∀p∈X.pn++pins,p.1≠b
theorem Inv.fpOk{X:Cx}{pins:List (Addr×Obj)}{σ:St}{H H':Hp}{s:Shared}{b:Addr}(I:Inv X pins σ H s)(hb:s.heap.objs.size<=b)(hn:H' b=none):E_ X pins H' b:=by
 refine⟨hn,Nat.ne_of_gt (Nat.lt_of_lt_of_le I.lt hb),I.nofs hb,.inr (Nat.le_trans I.sz hb),fun x c e z=>?_,fun p hp z=>?_⟩
 ·obtain⟨v,q⟩:=I.cell x c e
  exact absurd (Nat.lt_of_lt_of_le q.lt (by rw [z]; exact hb)) (Nat.lt_irrefl _)
 ·exact absurd (Nat.lt_of_lt_of_le (Heap.lt_size (I.pin p hp).1) (by rw [z]; exact hb)) (Nat.lt_irrefl _)
structure Turn (P:Program) (w:World) (K:Frag) (tg:Expr) (J:It) (fp:List Addr) (it:Addr) (tn:Nat->Heap->Prop):Prop where
 mem:it∈fp
 obj:∀i h,tn i h->∀b∈fp,∃o,h.get? b=some o/\∀v,o.data≠.cell v
 keep:∀i h h',tn i h->(∀b∈fp,∀o,h.get? b=some o->h'.get? b=some o)->tn i h'
 item:∀(X:Cx),X.prog=P->X.w=w->X.K=K->X.calm=true->∀(i:Nat) (pins:List (Addr×Obj)) (s:Shared) (σ:St) (H:Hp) (E:Value->Shared->Prop),Inv X pins σ H s->(∀b∈fp,E_ X pins H b)->tn i s.heap->J.go i H ->
  wpAny (model P w) X.A (pyNext (.ref it)) (fun r s1=>∃u,r=some u /\
   wpAny (model P w) X.A (letOwnedTupleGo tg (.ref it) u) (fun _ s2=>∃x H',Inv X pins σ H' s2/\RelV x u/\J.yld i H x H'/\tn (i+1) s2.heap/\∀b∈fp,H' b=none) E s1) E s
 done:∀(X:Cx),X.prog=P->X.w=w->X.K=K->X.calm=true->∀(i:Nat) (pins:List (Addr×Obj)) (s:Shared) (σ:St) (H:Hp) (E:Value->Shared->Prop),Inv X pins σ H s->(∀b∈fp,E_ X pins H b)->tn i s.heap->J.stop i H ->
  wpAny (model P w) X.A (pyNext (.ref it)) (fun r s1=>r=none/\Inv X pins σ H s1) E s
 self:∀(A:Around) (i:Nat) (s:Shared) (Q:Value->Shared->Prop) (E:Value->Shared->Prop),tn i s.heap->Q (.ref it) s->wpAny (model P w) A (pyIter (.ref it)) Q E s
abbrev TI:=St->Hp->(It->Hp->Prop)->Prop
def TD(X:Cx)(pins:List (Addr×Obj))(σ:St)(tg:Expr)(R:It->Hp->Prop)(itv:Value)(s2:Shared):Prop :=
 ∃(it:Addr) (fp:List Addr) (tn:Nat->Heap->Prop) (J:It) (H':Hp),itv=.ref it/\Inv X pins σ H' s2/\Turn X.prog X.w X.K tg J fp it tn/\tn 0 s2.heap/\(∀b∈fp,E_ X pins H' b)/\R J H'
def PI(X:Cx)(tg iter:Expr)(wi:TI):Prop :=
 ∀(pins:List (Addr×Obj)) (s:Shared) (σ:St) (H:Hp) (R:It->Hp->Prop),Inv X pins σ H s->wi σ H R ->
  wpAny (model X.prog X.w) X.A (eval iter X.env) (fun v s1=>wpAny (model X.prog X.w) X.A (pyIter v) (TD X pins σ tg R) X.xe s1) X.xe s
theorem K3 {M : Model} {A : Around} {E : Value → Shared → Prop} {s : Shared} {tg : Expr} {it : Addr} {u : Value} {o : Obj} {n : String} {vs : Array Value} {Q : Unit → Shared → Prop} (ho : s.heap.get? it = some o) (hc : o.cls = .type n) (hd : o.data = .fields vs)
    (hn : ["enumerate", "zip", "dict_itemiterator", "dict_reverseitemiterator", "odict_iterator", "itertools.zip_longest", "itertools.pairwise"].contains n = false) (hQ : Q () s) : wpAny M A (letOwnedTupleGo tg (.ref it) u) Q E s := by
  unfold letOwnedTupleGo
  cases tg <;> first
    | exact wpAny_pure hQ
    | (cases u <;> first
        | exact wpAny_pure hQ
        | (refine wpAny_bind (wpAny_load ho ?_)
           rw [hc, hd]
           show wpAny M A (if (["enumerate", "zip", "dict_itemiterator", "dict_reverseitemiterator", "odict_iterator", "itertools.zip_longest", "itertools.pairwise"].contains n && vs[0]? == some (rawInt _)) = true then _ else _) Q E s
           rw [if_neg (by intro h; rw [hn, Bool.false_and] at h; cases h)]
           exact wpAny_pure hQ))
def S3(K:Frag)(a:Addr):It :=
 ⟨fun i H=>∃xs x,SqL K H a xs/\xs[i]?=some x,fun i H x H'=>H'=H/\∀xs,SqL K H a xs->xs[i]?=some x,fun i H=>∃xs,SqL K H a xs/\xs.length<=i⟩
def Qu(K:Frag)(a:Addr):It :=
 ⟨fun i H=>∃xs x,SqT K H a xs/\xs[i]?=some x,fun i H x H'=>H'=H/\∀xs,SqT K H a xs->xs[i]?=some x,fun i H=>∃xs,SqT K H a xs/\xs.length<=i⟩
def R9(lo:Int)(n:Nat):It:=⟨fun i _=>i<n,fun i H x H'=>H'=H/\x=.int (lo+i),fun i _=>n<=i⟩
theorem LT{P:Program}{w:World}{K:Frag}{tg:Expr}(a it:Addr):Turn P w K tg (S3 K a) [it] it (fun i h=>h.IsListIter it a i) where
 mem:=by simp
 obj:=fun i h st b hb=>by
  have e:b=it:=by simpa using hb
  subst e
  obtain⟨o,e,c,d⟩:=st
  exact⟨o,e,fun v z=>by rw [d] at z; cases z⟩
 keep:=fun i h h' st k=>st.at fun o e=>k it (by simp) o e
 item:=by
  intro X hP hw hK hc i pins s σ H E I hf st hg
  subst hP hw hK
  obtain⟨xs,x,hq,hx⟩:=hg
  obtain⟨its,rv,p,hz⟩:=I.list hq
  obtain⟨u,hu,ru⟩:=rv.get hx
  obtain⟨f0,f1,f2,f3,f4,f5⟩:=hf it (by simp)
  refine wpAny_pyNext_list_item st p.isList (x:=u) (by simpa using hu) fun h' st' sb=>?_
  have I1:Inv X pins σ H { s with heap:=h' }:=I.turned (t':=s.toks) (fun b o hb e=>(sb.2 b hb).trans e) f0 f1 f3 f4 f5
  obtain⟨o,e,c,d⟩:=id st'
  exact⟨u,rfl,K3 (s:={ s with heap:=h' }) e c d (by decide) ⟨x,H,I1,ru,⟨rfl,fun ys hy=>by rw [I.list_inj hy hq]; exact hx⟩,st',fun b hb=>(hf b hb).1⟩⟩
 done:=by
  intro X hP hw hK hc i pins s σ H E I hf st hg
  subst hP hw hK
  obtain⟨xs,hq,hx⟩:=hg
  obtain⟨its,rv,p,hz⟩:=I.list hq
  obtain⟨f0,f1,f2,f3,f4,f5⟩:=hf it (by simp)
  have hl:=rv.length
  exact wpAny_pyNext_list_end (I.ok.hd hc) st p.isList (by simp; omega) fun h' eb=>⟨rfl,I.turned (t':=s.toks) (fun b o hb e=>eb b o hb e) f0 f1 f3 f4 f5⟩
 self:=fun _ _ _ _ _ st h=>wpAny_pyIter_listiter st h
theorem FY{P:Program}{w:World}{K:Frag}{tg:Expr}(a it:Addr):Turn P w K tg (Qu K a) [it] it (fun i h=>h.IsTupleIter it a i) where
 mem:=by simp
 obj:=fun i h st b hb=>by
  have e:b=it:=by simpa using hb
  subst e
  obtain⟨o,e,c,d⟩:=st
  exact⟨o,e,fun v z=>by rw [d] at z; cases z⟩
 keep:=fun i h h' st k=>st.at fun o e=>k it (by simp) o e
 item:=by
  intro X hP hw hK hc i pins s σ H E I hf st hg
  subst hP hw hK
  obtain⟨xs,x,hq,hx⟩:=hg
  obtain⟨its,rv,p,hz⟩:=I.tuple hq
  obtain⟨u,hu,ru⟩:=rv.get hx
  obtain⟨f0,f1,f2,f3,f4,f5⟩:=hf it (by simp)
  refine wpAny_pyNext_tuple_item st (show s.heap.IsTuple a its.toArray from p) (x:=u) (by simpa using hu) fun h' st' sb=>?_
  have I1:Inv X pins σ H { s with heap:=h' }:=I.turned (t':=s.toks) (fun b o hb e=>(sb.2 b hb).trans e) f0 f1 f3 f4 f5
  obtain⟨o,e,c,d⟩:=id st'
  exact⟨u,rfl,K3 (s:={ s with heap:=h' }) e c d (by decide) ⟨x,H,I1,ru,⟨rfl,fun ys hy=>by rw [I.tuple_inj hy hq]; exact hx⟩,st',fun b hb=>(hf b hb).1⟩⟩
 done:=by
  intro X hP hw hK hc i pins s σ H E I hf st hg
  subst hP hw hK
  obtain⟨xs,hq,hx⟩:=hg
  obtain⟨its,rv,p,hz⟩:=I.tuple hq
  obtain⟨f0,f1,f2,f3,f4,f5⟩:=hf it (by simp)
  have hl:=rv.length
  exact wpAny_pyNext_tuple_end (I.ok.hd hc) st (show s.heap.IsTuple a its.toArray from p) (by simp; omega) fun h' eb=>⟨rfl,I.turned (t':=s.toks) (fun b o hb e=>eb b o hb e) f0 f1 f3 f4 f5⟩
 self:=fun _ _ _ _ _ st h=>wpAny_pyIter_tupleiter st h
theorem Jn{P:Program}{w:World}{K:Frag}{tg:Expr}(it:Addr)(lo:Int)(n:Nat):Turn P w K tg (R9 lo n) [it] it (fun i h=>IsRangeIter h it (lo+(i:Nat)*1) ((n:Int) - (i:Nat)) 1) where
 mem:=by simp
 obj:=fun i h st b hb=>by
  have e:b=it:=by simpa using hb
  subst e
  exact⟨_,st,fun v z=>by
   have z':Data.fields _=Data.cell v:=z
   cases z'⟩
 keep:=fun i h h' st k=>k it (by simp) _ st
 item:=by
  intro X hP hw hK hc i pins s σ H E I hf st hg
  subst hP hw hK
  obtain⟨f0,f1,f2,f3,f4,f5⟩:=hf it (by simp)
  have W:=Walks.range (prog:=X.prog) (w:=X.w) (I.ok.hd hc) it lo 1 n
  refine W.item i s _ _ hg st fun v h' tk hv st' kk=>?_
  obtain⟨t,rfl⟩:=hv
  have I1:Inv X pins σ H { s with heap:=h',toks:=tk }:=I.turned (fun b o hb e=>kk b o (by simpa using hb) e) f0 f1 f3 f4 f5
  refine⟨_,rfl,K3 (s:={ s with heap:=h',toks:=tk }) (n := "range_iterator") st' rfl rfl (by decide) ⟨.int (lo+i),H,I1,⟨t,?_⟩,⟨rfl,rfl⟩,st',fun b hb=>(hf b hb).1⟩⟩
  rw [Int.mul_one]
 done:=by
  intro X hP hw hK hc i pins s σ H E I hf st hg
  subst hP hw hK
  obtain⟨f0,f1,f2,f3,f4,f5⟩:=hf it (by simp)
  exact wpAny_pyNext_range_end (I.ok.hd hc) st (by have:n<=i:=hg; omega) fun h' eb=>⟨rfl,I.turned (t':=s.toks) (fun b o hb e=>eb b o hb e) f0 f1 f3 f4 f5⟩
 self:=fun _ _ _ _ _ st h=>wpAny_pyIter_rangeiter st h
section
variable {X:Cx}{tg:Expr}
def Sl(K:Frag)(tl:TE):TI:=fun σ H R=>tl σ H fun x H1=>∃a,x=.ref a/\(∃xs,SqT K H1 a xs)/\R (Qu K a) H1
theorem Mx{l:Expr}{tl:TE}(hl:PE X l tl):PI X tg l (Sl X.K tl):=by
 intro pins s σ H R I h
 refine BL (hl pins s σ H _ I h) fun v s1 ⟨x,H1,I1,r1,q1⟩=>?_
 obtain⟨a,e,⟨xs,hq⟩,q⟩:=q1
 subst e
 cases r1
 obtain⟨its,rv,p,hz⟩:=I1.tuple hq
 refine wpAny_pyIter_tuple (show s1.heap.IsTuple a its.toArray from p) ?_
 refine⟨s1.heap.objs.size,[s1.heap.objs.size],_,_,H1,rfl,I1.kept (t':=s1.toks) fun b o e=>Heap.get?_push_of_some _ e,FY a _,⟨_,Heap.get?_push_size _ rfl,rfl,rfl⟩,fun b hb=>?_,q⟩
 have e:b=s1.heap.objs.size:=by simpa using hb
 subst e
 exact I1.fpOk (Nat.le_refl _) (I1.hok.fresh (Nat.le_refl _))
theorem JD{pins:List (Addr×Obj)}{σ:St}{H:Hp}{s:Shared}{R:It->Hp->Prop}{E:Value->Shared->Prop}{lo hi:Int}{t u v:Tok}{tk:Nat}(I:Inv X pins σ H s)(h1:-(2 ^ 62)<=lo)(h2:lo<2 ^ 62)(h3:-(2 ^ 62)<=hi)(h4:hi<2 ^ 62)
  (q:R (R9 lo (hi - lo).toNat) H):wpAny (model X.prog X.w) X.A (pyIter (.ref s.heap.objs.size)) (TD X pins σ tg R) E { s with heap:=s.heap.push { cls:=.type "range",data:=.fields #[.int lo t,.int hi u,.int 1 v] },toks:=tk }:=by
 refine wpAny_pyIter_range (IsRange.new ..) (small_one h1 h2 h3 h4) ?_
 have I1:Inv X pins σ H { s with heap:=s.heap.push { cls:=.type "range",data:=.fields #[.int lo t,.int hi u,.int 1 v] },toks:=tk }:=I.kept fun b o e=>Heap.get?_push_of_some _ e
 refine⟨(s.heap.push { cls:=.type "range",data:=.fields #[.int lo t,.int hi u,.int 1 v] }).objs.size,[(s.heap.push { cls:=.type "range",data:=.fields #[.int lo t,.int hi u,.int 1 v] }).objs.size],_,_,H,rfl,
  I1.kept (t':=tk) fun b o e=>Heap.get?_push_of_some _ e,Jn _ lo (hi - lo).toNat,?_,fun b hb=>?_,q⟩
 ·have e1:lo+((0:Nat):Int)*1=lo:=by simp
  have e2:(((hi - lo).toNat:Nat):Int) - ((0:Nat):Int)=Builtin.Range.rangeSize lo hi 1:=by rw [rangeSize_one]; split <;> omega
  show IsRangeIter _ _ (lo+((0:Nat):Int)*1) ((((hi - lo).toNat:Nat):Int) - ((0:Nat):Int)) 1
  rw [e1,e2]
  exact Heap.get?_push_size _ rfl
 ·have e:b=(s.heap.push { cls:=.type "range",data:=.fields #[.int lo t,.int hi u,.int 1 v] }).objs.size:=by simpa using hb
  subst e
  exact I1.fpOk (Nat.le_refl _) (I1.hok.fresh (Nat.le_refl _))
def Rc(ta:TA):TI:=fun σ H R=>ta σ H fun vs H1=>∃j:Int,vs=[.int j]/\-(2 ^ 62)<=j/\j<2 ^ 62/\R (R9 0 j.toNat) H1
def Rb(ta:TA):TI:=fun σ H R=>ta σ H fun vs H1=>∃i j:Int,vs=[.int i,.int j]/\(-(2 ^ 62)<=i/\i<2 ^ 62/\-(2 ^ 62)<=j/\j<2 ^ 62)/\R (R9 i (j - i).toNat) H1
theorem Lg{a:Expr}{ta:TA}{p pos:Pos}(hg:Gl X "range")(hm:X.mg "range"=none)(ha:PA X [a] ta)(hs:starEach [a] X.env=[(false,eval a X.env)]:=by rfl):PI X tg (.Call (.Name "range" p) [a] [] pos) (Rc ta):=by
 intro pins s σ H R I h
 refine Call_ (Fw I hg hm boot_range (PyProof.Rows.callWith_type1 (BL (ha pos pins s σ H _ I h) fun us s1 ⟨vs,H1,I1,r1,q1⟩=>?_) hs rfl))
 obtain⟨j,e,q1,q2,q⟩:=q1
 subst e
 cases r1 with
 | cons r rr =>
  cases rr
  obtain⟨t,rfl⟩:=r
  exact call_range_1 (JD I1 (by omega) (by omega) q1 q2 (by simpa using q))
theorem Lf{a b:Expr}{ta:TA}{p pos:Pos}(hg:Gl X "range")(hm:X.mg "range"=none)(ha:PA X [a,b] ta)(hs:starEach [a,b] X.env=[(false,eval a X.env),(false,eval b X.env)]:=by rfl)(hs2:starEach [b] X.env=[(false,eval b X.env)]:=by rfl) :
  PI X tg (.Call (.Name "range" p) [a,b] [] pos) (Rb ta):=by
 intro pins s σ H R I h
 refine Call_ (Fw I hg hm boot_range (PyProof.Rows.callWith_type1 (BL (ha pos pins s σ H _ I h) fun us s1 ⟨vs,H1,I1,r1,q1⟩=>?_) (by rw [hs,hs2]) (by rw [hs2]; rfl)))
 obtain⟨i,j,e,⟨q1,q2,q3,q4⟩,q⟩:=q1
 subst e
 cases r1 with
 | cons r rr =>
  cases rr with
  | cons r' rr =>
   cases rr
   obtain⟨t,rfl⟩:=r
   obtain⟨t',rfl⟩:=r'
   exact call_range_2 (JD I1 q1 q2 q3 q4 q)
def Sa(wi:TI)(g:TG)(tb:TS):TS:=fun D σ H=>wi σ H fun J H1=>∃W:Nat->Nat->St->Hp->Prop,(∃m,W 0 m σ H1)/\∀i m σ H,W i m σ H ->
 (J.stop i H/\D.nx σ H)\/(J.go i H/\∃N:St->Hp->Prop,(∀σ' H',N σ' H'->∃m',m'<m/\W (i+1) m' σ' H')/\∀x H',J.yld i H x H'->g x σ H' fun σ2 H2=>tb { D with nx:=N,ct:=N,bk:=D.nx } σ2 H2)
def Fj(fp:List Addr)(h:Heap):List (Addr×Obj):=fp.filterMap fun b=>(h.get? b).map fun o=>(b,o)
theorem DC{fp:List Addr}{h:Heap}{b:Addr}{o:Obj}(hb:b∈fp)(e:h.get? b=some o):(b,o)∈Fj fp h:=List.mem_filterMap.mpr ⟨b,hb,by rw [e]; rfl⟩
theorem Ln{fp:List Addr}{h:Heap}{p:Addr×Obj}(hp:p∈Fj fp h):p.1∈fp/\h.get? p.1=some p.2:=by
 obtain⟨b,hb,e⟩:=List.mem_filterMap.mp hp
 cases q:h.get? b with
 | none=>rw [q] at e; cases e
 | some o =>
  rw [q] at e
  have e':(b,o)=p:=Option.some.inj e
  subst e'
  exact⟨hb,q⟩
theorem Inv.pinned{pins:List (Addr×Obj)}{σ:St}{H:Hp}{s:Shared}{fp:List Addr}(I:Inv X pins σ H s)(hf:∀b∈fp,E_ X pins H b)(ho:∀b∈fp,∃o,s.heap.get? b=some o/\∀v,o.data≠.cell v):Inv X (pins++Fj fp s.heap) σ H s :=
 I.pins_of fun p hp=>(List.mem_append.mp hp).elim (fun z=>I.pin p (List.mem_append_right _ z)) fun z=>by
  obtain⟨hb,e⟩:=Ln z
  obtain⟨f0,f1,f2,_⟩:=hf p.1 hb
  obtain⟨o,e',d⟩:=ho p.1 hb
  rw [e] at e'; cases e'
  exact⟨e,f0,f1,f2,d⟩
theorem Inv.unpinned{pins pl:List (Addr×Obj)}{σ:St}{H:Hp}{s:Shared}(I:Inv X (pins++pl) σ H s):Inv X pins σ H s:=I.pins_of fun p hp=>I.pin p (List.mem_append_right _ (List.mem_append_left _ hp))
theorem Hq{iter:Expr}{body:List Stmt}{wi:TI}{g:TG}{tb:TS}{pos:Pos}(hp:PassesOwn (model X.prog X.w) X.A X.env X.xe)(hc:X.calm=true)(hi:PI X tg iter wi)(hg:PG X tg g)(hb:PSs X body tb)
  (hs:∀x,foldedSetIterable iter X.env x=pure x:=by intro _; rfl):PS X (.For tg iter body [] pos) (Sa wi g tb):=by
 intro pins s σ H D I h
 refine wpAny_For (BL (hi pins s σ H _ I h) fun v s1 h1=>BL h1 fun itv s2 h2=>?_) hs
 obtain⟨it,fp,tn,J,H2,e,I2,T,st2,f2,W,⟨m0,w0⟩,turn⟩:=h2
 subst e
 have stat:∀{H':Hp},(∀b∈fp,H' b=none)->∀b∈fp,E_ X pins H' b:=fun hn b hb=>⟨hn b hb,(f2 b hb).2⟩
 refine codeAny_forLoop_any (fun n s'=>∃i σ' H',Inv X pins σ' H' s'/\tn i s'.heap/\(∀b∈fp,H' b=none)/\W i n σ' H') ?_ m0 ⟨0,σ,H2,I2,st2,fun b hb=>(f2 b hb).1,w0⟩
 rintro n s3 ⟨i,σ3,H3,I3,st3,fr3,w3⟩
 rcases turn i n σ3 H3 w3 with ⟨stop,qn⟩ | ⟨go,N,hN,step⟩
 ·refine wpAny_passesOwn hp (BL (T.done X rfl rfl rfl hc i pins s3 σ3 H3 X.xe I3 (stat fr3) st3 stop) fun r s4 ⟨hr,I4⟩=>?_)
  subst hr
  exact wpAny_execs_nil ⟨σ3,H3,I4,qn⟩
 ·refine wpAny_passesOwn hp (BL (T.item X rfl rfl rfl hc i pins s3 σ3 H3 X.xe I3 (stat fr3) st3 go) fun r s4 ⟨u,hr,h4⟩=>?_)
  subst hr
  refine wpAny_passesOwn hp (BL h4 fun _ s5 ⟨x,H5,I5,r5,y5,st5,fr5⟩=>?_)
  have I5':=I5.pinned (stat fr5) (T.obj _ _ st5)
  refine wpAny_passesOwn hp (BL (hg _ s5 σ3 H5 x u _ I5' r5 (step x H5 y5)) fun _ s6 ⟨σ6,H6,I6,q6⟩=>?_)
  refine wpAny_passesOwn hp (BL (hb _ s6 σ6 H6 _ I6 q6) fun f s7 q7=>?_)
  have again:∀{σ7:St} {H7:Hp},Inv X (pins++Fj fp s5.heap) σ7 H7 s7->N σ7 H7->∃m,m<n/\∃i σ' H',Inv X pins σ' H' s7/\tn i s7.heap/\(∀b∈fp,H' b=none)/\W i m σ' H':=fun {σ7 H7} I7 n7=>by
   obtain⟨m',hm,w7⟩:=hN σ7 H7 n7
   refine⟨m',hm,i+1,σ7,H7,I7.unpinned,T.keep _ _ _ st5 fun b hb o e=>(I7.pin (b,o) (List.mem_append_right _ (List.mem_append_right _ (DC hb e)))).1,fun b hb=>?_,w7⟩
   obtain⟨o,e,d⟩:=T.obj _ _ st5 b hb
   exact(I7.pin (b,o) (List.mem_append_right _ (List.mem_append_right _ (DC hb e)))).2.1
  cases f with
  | next=>obtain⟨σ7,H7,I7,n7⟩:=q7; exact again I7 n7
  | cont=>obtain⟨σ7,H7,I7,n7⟩:=q7; exact again I7 n7
  | brk=>obtain⟨σ7,H7,I7,q7⟩:=q7; exact⟨σ7,H7,I7.unpinned,q7⟩
  | ret v=>obtain⟨x7,σ7,H7,I7,r7,q7⟩:=q7; exact⟨x7,σ7,H7,I7.unpinned,r7,q7⟩
end
theorem K5{K:Frag}{a:Addr}{xs:List V}{g:TG}{tb:TS}{D:Ends}{σ:St}{H:Hp}(Pv:Nat->St->Hp->Prop)(h0:Pv 0 σ H)(hl:∀i σ H,i<=xs.length->Pv i σ H->SqT K H a xs)
  (hs:∀i x σ H,xs[i]?=some x->Pv i σ H->g x σ H fun σ2 H2=>tb { D with nx:=Pv (i+1),ct:=Pv (i+1),bk:=D.nx } σ2 H2) (hd:∀σ H,Pv xs.length σ H->D.nx σ H) :
  ∃W:Nat->Nat->St->Hp->Prop,(∃m,W 0 m σ H)/\∀i m σ H,W i m σ H ->
   ((Qu K a).stop i H/\D.nx σ H)\/((Qu K a).go i H/\∃N:St->Hp->Prop,(∀σ' H',N σ' H'->∃m',m'<m/\W (i+1) m' σ' H')/\∀x H',(Qu K a).yld i H x H'->g x σ H' fun σ2 H2=>tb { D with nx:=N,ct:=N,bk:=D.nx } σ2 H2):=by
 refine⟨fun i m σ H=>m=xs.length - i/\i<=xs.length/\Pv i σ H,⟨xs.length,by simp,Nat.zero_le _,h0⟩,?_⟩
 rintro i m σ H ⟨rfl,hi,p⟩
 have q:=hl i σ H hi p
 by_cases hlt:i<xs.length
 ·refine .inr ⟨⟨xs,xs[i],q,by simp [hlt]⟩,Pv (i+1),fun σ' H' p'=>⟨xs.length - (i+1),by omega,rfl,hlt,p'⟩,fun x H' y=>?_⟩
  obtain⟨e,y⟩:=y
  subst e
  exact hs i x σ _ (y xs q) p
 ·have e:i=xs.length:=by omega
  subst e
  exact .inl ⟨⟨xs,q,Nat.le_refl _⟩,hd σ H p⟩
abbrev R2:=V->V->Hp->VK->Prop
def OpR(X:Cx)(f:Value->Value->Sem Value)(r:R2):Prop :=
 ∀(pins:List (Addr×Obj)) (s:Shared) (σ:St) (H:Hp) (x y:V) (v u:Value) (Q:VK),Inv X pins σ H s->RelV x v->RelV y u->r x y H Q ->
  wpAny (model X.prog X.w) X.A (f v u) (EP X pins σ Q) X.xe s
def Sy(X:Cx)(f:Value->Sem Value)(r:V->Hp->VK->Prop):Prop :=
 ∀(pins:List (Addr×Obj)) (s:Shared) (σ:St) (H:Hp) (x:V) (v:Value) (Q:VK),Inv X pins σ H s->RelV x v->r x H Q ->
  wpAny (model X.prog X.w) X.A (f v) (EP X pins σ Q) X.xe s
def CD(X:Cx)(f:Value)(r:List V->Hp->VK->Prop):Prop :=
 ∀(pins:List (Addr×Obj)) (s:Shared) (σ:St) (H:Hp) (xs:List V) (us:List Value) (Q:VK),Inv X pins σ H s->Vals xs us->r xs H Q ->
  wpAny (model X.prog X.w) X.A (call f us) (EP X pins σ Q) X.xe s
def Sz(X:Cx)(r:V->Hp->(Bool->Hp->Prop)->Prop):Prop :=
 ∀(pins:List (Addr×Obj)) (s:Shared) (σ:St) (H:Hp) (x:V) (v:Value) (Q:Bool->Hp->Prop),Inv X pins σ H s->RelV x v->r x H Q ->
  wpAny (model X.prog X.w) X.A (truthy v) (TP X pins σ Q) X.xe s
def C8(r:R2)(ta tb:TE):TE:=fun σ H Q=>ta σ H fun x H1=>tb σ H1 fun y H2=>r x y H2 Q
def TK(r:V->Hp->VK->Prop)(ta:TE):TE:=fun σ H Q=>ta σ H fun x H1=>r x H1 Q
def rI(C:Int->Int->Prop)(g:Int->Int->V):R2:=fun x y H Q=>∃i j,x=.int i/\y=.int j/\C i j/\Q (g i j) H
def FA(g:Int->Int->V):R2:=fun x y H Q=>∃i j,x=.int i/\y=.int j/\Q (g i j) H
def rU(g:Int->V):V->Hp->VK->Prop:=fun x H Q=>∃i,x=.int i/\Q (g i) H
section
variable {X:Cx}{a b c:Expr}{ta tb tc:TE}{pos:Pos}
theorem Qf(ha:PE X a ta)(hb:PE X b tb){pins:List (Addr×Obj)}{s:Shared}{σ:St}{H:Hp}{R:V->V->Hp->Prop}(I:Inv X pins σ H s)
  (h:ta σ H fun x H1=>tb σ H1 fun y H2=>R x y H2) {Q:Value->Shared->Prop} {f:Value->Value->Sem Value}
  (hf:∀v u s2 x y H2,Inv X pins σ H2 s2->RelV x v->RelV y u->R x y H2->wpAny (model X.prog X.w) X.A (f v u) Q X.xe s2) :
  wpAny (model X.prog X.w) X.A (eval a X.env) (fun v s₁=>wpAny (model X.prog X.w) X.A (eval b X.env) (fun u s₂=>wpAny (model X.prog X.w) X.A (f v u) Q X.xe s₂) X.xe s₁) X.xe s:=by
 refine BL (ha pins s σ H _ I h) fun v s1 ⟨x,H1,I1,r1,q1⟩=>?_
 refine BL (hb pins s1 σ H1 _ I1 q1) fun u s2 ⟨y,H2,I2,r2,q2⟩=>?_
 exact hf v u s2 x y H2 I2 r1 r2 q2
theorem Bk{op:Operator}{r:R2}(ho:OpR X (binaryOp op) r)(ha:PE X a ta)(hb:PE X b tb):PE X (.BinOp a op b pos) (C8 r ta tb):=by
 intro pins s σ H Q I h
 exact wpAny_BinOp (Qf ha hb I h fun v u s2 x y H2 I2 rx ry q=>ho pins s2 σ H2 x y v u Q I2 rx ry q)
theorem RT{op:UnaryOp}{r:V->Hp->VK->Prop}(ho:Sy X (unaryOp op) r)(ha:PE X a ta):PE X (.UnaryOp op a pos) (TK r ta):=by
 intro pins s σ H Q I h
 exact UnaryOp_ (BL (ha pins s σ H _ I h) fun v s1 ⟨x,H1,I1,r1,q1⟩=>ho pins s1 σ H1 x v Q I1 r1 q1)
theorem SH{f:Value->Value->Sem Value}{C:Int->Int->Prop}{g:Int->Int->Int}
  (rule:∀(i j:Int) (t u:Tok) (s:Shared) (Q:Value->Shared->Prop) (E:Value->Shared->Prop),C i j->Q (.int (g i j) s.toks) { s with toks:=s.toks+1 }->wpAny (model X.prog X.w) X.A (f (.int i t) (.int j u)) Q E s) :
  OpR X f (rI C fun i j=>.int (g i j)):=by
 intro pins s σ H x y v u Q I rx ry h
 obtain⟨i,j,rfl,rfl,hc,q⟩:=h
 obtain⟨t,rfl⟩:=rx
 obtain⟨t',rfl⟩:=ry
 exact rule i j t t' s _ _ hc ⟨.int (g i j),H,I.tok _,⟨_,rfl⟩,q⟩
theorem RW{f:Value->Value->Sem Value}{g:Int->Int->Int}
  (rule:∀(i j:Int) (t u:Tok) (s:Shared) (Q:Value->Shared->Prop) (E:Value->Shared->Prop),Q (.int (g i j) s.toks) { s with toks:=s.toks+1 }->wpAny (model X.prog X.w) X.A (f (.int i t) (.int j u)) Q E s) :
  OpR X f (FA fun i j=>.int (g i j)):=by
 intro pins s σ H x y v u Q I rx ry h
 obtain⟨i,j,rfl,rfl,q⟩:=h
 obtain⟨t,rfl⟩:=rx
 obtain⟨t',rfl⟩:=ry
 exact rule i j t t' s _ _ ⟨.int (g i j),H,I.tok _,⟨_,rfl⟩,q⟩
theorem OG{f:Value->Value->Sem Value}{g:Int->Int->Bool}
  (rule:∀(i j:Int) (t u:Tok) (s:Shared) (Q:Value->Shared->Prop) (E:Value->Shared->Prop),Q (.bool (g i j)) s->wpAny (model X.prog X.w) X.A (f (.int i t) (.int j u)) Q E s) :
  OpR X f (FA fun i j=>.bl (g i j)):=by
 intro pins s σ H x y v u Q I rx ry h
 obtain⟨i,j,rfl,rfl,q⟩:=h
 obtain⟨t,rfl⟩:=rx
 obtain⟨t',rfl⟩:=ry
 exact rule i j t t' s _ _ ⟨.bl (g i j),H,I,rfl,q⟩
def Oo(i j:Int):Prop:=0<j/\j<1073741824
def Ep(i j:Int):Prop:=0<=j/\j<=1000000/\i.natAbs<2 ^ 64
def CMul(i j:Int):Prop:=(-(2 ^ 64)<i/\i<2 ^ 64)\/(-(2 ^ 64)<j/\j<2 ^ 64)
theorem CMul.ok{i j:Int}(h:CMul i j):IntMulOk i j:=by
 rcases h with ⟨h1,h2⟩ | ⟨h1,h2⟩
 ·exact .of_left (intBits_le_64 h1 h2)
 ·exact .of_right (intBits_le_64 h1 h2)
theorem op_add:OpR X (binaryOp .Add) (FA fun i j=>.int (i+j)):=RW fun _ _ _ _ _ _ _ q=>add_int q
theorem op_sub:OpR X (binaryOp .Sub) (FA fun i j=>.int (i - j)):=RW fun _ _ _ _ _ _ _ q=>sub_int q
theorem op_mul:OpR X (binaryOp .Mult) (rI CMul fun i j=>.int (i*j)):=SH fun _ _ _ _ _ _ _ hc q=>mul_int q hc.ok
theorem Hv:OpR X (binaryOp .FloorDiv) (rI Oo fun i j=>.int (i / j)):=SH fun i j _ _ _ _ _ hc q=>by
 have h1:(0:Int)<j:=hc.1
 have h2:j<1073741824:=hc.2
 exact floordiv_int (by omega) (by rw [Int.fdiv_eq_ediv_of_nonneg i (by omega)]; exact q) (.inl (PyProof.noPylong_small (by omega)))
theorem C4:OpR X (binaryOp .Mod) (rI (fun _ j=>0<j) fun i j=>.int (i % j)):=SH fun i j _ _ _ _ _ hc q=>by
 have h1:(0:Int)<j:=hc
 exact mod_int' (by omega) (by rw [Int.fmod_eq_emod_of_nonneg i (by omega)]; exact q)
theorem CT:OpR X (binaryOp .Pow) (rI Ep fun i j=>.int (i ^ j.toNat)):=SH fun _ _ _ _ _ _ _ hc q=>pow_int_small hc.1 hc.2.1 hc.2.2 q
theorem TJ{f:Value->Sem Value}{g:Int->Int}
  (rule:∀(i:Int) (t:Tok) (s:Shared) (Q:Value->Shared->Prop) (E:Value->Shared->Prop),Q (.int (g i) s.toks) { s with toks:=s.toks+1 }->wpAny (model X.prog X.w) X.A (f (.int i t)) Q E s) :
  Sy X f (rU fun i=>.int (g i)):=by
 intro pins s σ H x v Q I rx h
 obtain⟨i,rfl,q⟩:=h
 obtain⟨t,rfl⟩:=rx
 exact rule i t s _ _ ⟨.int (g i),H,I.tok _,⟨_,rfl⟩,q⟩
theorem Pi:Sy X (unaryOp .USub) (rU fun i=>.int (-i)):=TJ fun _ _ _ _ _ q=>neg_int q
end
def RB:V->V->Bool
 | .non,.non=>true | .non,.int _=>true | .int _,.non=>true | .non,.bl _=>true | .bl _,.non=>true | .non,.str _=>true | .str _,.non=>true
 | .int _,.int _=>true | .bl _,.bl _=>true | .str _,.str _=>true | .byt _,.byt _=>true
 | .int _,.str _=>true | .str _,.int _=>true | .bl _,.str _=>true | .str _,.bl _=>true
 | _,_=>false
def S_:R2:=fun x y H Q=>RB x y=true/\Q (.bl (decide (x=y))) H
def S7:R2:=fun x y H Q=>RB x y=true/\Q (.bl (!decide (x=y))) H
theorem FV{i j:Int}:decide (V.int i=V.int j)=(i==j):=by
 rw [Bool.eq_iff_iff]
 simp
theorem IP{i j:Bool}:decide (V.bl i=V.bl j)=(i==j):=by
 rw [Bool.eq_iff_iff]
 simp
theorem FU{i j:Str}:decide (V.str i=V.str j)=(i==j):=by
 rw [Bool.eq_iff_iff]
 simp
theorem LC{i j:Array UInt8}:decide (V.byt i=V.byt j)=(i.toList==j.toList):=by
 rw [Bool.eq_iff_iff]
 cases i
 cases j
 simp
section
variable {X:Cx}{a b c:Expr}{ta tb tc:TE}{pos:Pos}
theorem As{pins:List (Addr×Obj)}{σ:St}{H:Hp}{s:Shared}{Q:VK}{k k':Bool}(I:Inv X pins σ H s)(q:Q (.bl k) H)(e:k=k'):EP X pins σ Q (.bool k') s:=by
 subst e
 exact⟨.bl k,H,I,rfl,q⟩
theorem CP:OpR X (compareOp .Eq) S_:=by
 intro pins s σ H x y v u Q I rx ry h
 obtain⟨hs,q⟩:=h
 cases x with
 | non =>
  cases rx
  cases y with
  | non=>cases ry; exact PySem.EqNone.eq_none_none (As I q (by simp))
  | bl j=>cases ry; exact PySem.EqNone.eq_none_bool (As I q (by simp))
  | int j=>obtain⟨t',rfl⟩:=ry; exact PySem.EqNone.eq_none_int (As I q (by simp))
  | str j=>obtain⟨t',rfl⟩:=ry; exact PySem.EqNone.eq_none_str (As I q (by simp))
  | _=>exact absurd (show false=true from hs) Bool.false_ne_true
 | bl i =>
  cases rx
  cases y with
  | non=>cases ry; exact PySem.EqNone.eq_bool_none (As I q (by simp))
  | bl j=>cases ry; exact eq_bool (As I q IP)
  | str j=>obtain⟨t',rfl⟩:=ry; exact PySem.EqMixed.eq_bool_str (As I q (by simp))
  | _=>exact absurd (show false=true from hs) Bool.false_ne_true
 | int i =>
  obtain⟨t,rfl⟩:=rx
  cases y with
  | non=>cases ry; exact PySem.EqNone.eq_int_none (As I q (by simp))
  | int j=>obtain⟨t',rfl⟩:=ry; exact eq_int (As I q FV)
  | str j=>obtain⟨t',rfl⟩:=ry; exact PySem.EqMixed.eq_int_str (As I q (by simp))
  | _=>exact absurd (show false=true from hs) Bool.false_ne_true
 | str i =>
  obtain⟨t,rfl⟩:=rx
  cases y with
  | non=>cases ry; exact PySem.EqNone.eq_str_none (As I q (by simp))
  | bl j=>cases ry; exact PySem.EqMixed.eq_str_bool (As I q (by simp))
  | int j=>obtain⟨t',rfl⟩:=ry; exact PySem.EqMixed.eq_str_int (As I q (by simp))
  | str j=>obtain⟨t',rfl⟩:=ry; exact eq_str (As I q FU)
  | _=>exact absurd (show false=true from hs) Bool.false_ne_true
 | byt i =>
  obtain⟨t,rfl⟩:=rx
  cases y with
  | byt j=>obtain⟨t',rfl⟩:=ry; exact PySem.W.eq_bytes (As I q LC)
  | _=>exact absurd (show false=true from hs) Bool.false_ne_true
 | _=>cases y <;> exact absurd (show false=true from hs) Bool.false_ne_true
theorem PD:OpR X (compareOp .NotEq) S7:=by
 intro pins s σ H x y v u Q I rx ry h
 obtain⟨hs,q⟩:=h
 cases x with
 | non =>
  cases rx
  cases y with
  | non=>cases ry; exact PySem.EqNone.ne_none_none (As I q (by simp))
  | bl j=>cases ry; exact PySem.EqNone.ne_none_bool (As I q (by simp))
  | int j=>obtain⟨t',rfl⟩:=ry; exact PySem.EqNone.ne_none_int (As I q (by simp))
  | str j=>obtain⟨t',rfl⟩:=ry; exact PySem.EqNone.ne_none_str (As I q (by simp))
  | _=>exact absurd (show false=true from hs) Bool.false_ne_true
 | bl i =>
  cases rx
  cases y with
  | non=>cases ry; exact PySem.EqNone.ne_bool_none (As I q (by simp))
  | bl j=>cases ry; exact ne_bool (As I q (congrArg not IP))
  | str j=>obtain⟨t',rfl⟩:=ry; exact PySem.EqMixed.ne_bool_str (As I q (by simp))
  | _=>exact absurd (show false=true from hs) Bool.false_ne_true
 | int i =>
  obtain⟨t,rfl⟩:=rx
  cases y with
  | non=>cases ry; exact PySem.EqNone.ne_int_none (As I q (by simp))
  | int j=>obtain⟨t',rfl⟩:=ry; exact ne_int (As I q (congrArg not FV))
  | str j=>obtain⟨t',rfl⟩:=ry; exact PySem.EqMixed.ne_int_str (As I q (by simp))
  | _=>exact absurd (show false=true from hs) Bool.false_ne_true
 | str i =>
  obtain⟨t,rfl⟩:=rx
  cases y with
  | non=>cases ry; exact PySem.EqNone.ne_str_none (As I q (by simp))
  | bl j=>cases ry; exact PySem.EqMixed.ne_str_bool (As I q (by simp))
  | int j=>obtain⟨t',rfl⟩:=ry; exact PySem.EqMixed.ne_str_int (As I q (by simp))
  | str j=>obtain⟨t',rfl⟩:=ry; exact ne_str (As I q (congrArg not FU))
  | _=>exact absurd (show false=true from hs) Bool.false_ne_true
 | byt i =>
  obtain⟨t,rfl⟩:=rx
  cases y with
  | byt j=>obtain⟨t',rfl⟩:=ry; exact PySem.W.ne_bytes (As I q (congrArg not LC))
  | _=>exact absurd (show false=true from hs) Bool.false_ne_true
 | _=>cases y <;> exact absurd (show false=true from hs) Bool.false_ne_true
theorem op_lt:OpR X (compareOp .Lt) (FA fun i j=>.bl (decide (i<j))):=OG fun _ _ _ _ _ _ _ q=>lt_int q
theorem op_le:OpR X (compareOp .LtE) (FA fun i j=>.bl (decide (i<=j))):=OG fun _ _ _ _ _ _ _ q=>le_int q
theorem PF:OpR X (compareOp .Gt) (FA fun i j=>.bl (decide (j<i))):=OG fun _ _ _ _ _ _ _ q=>gt_int q
theorem PH:OpR X (compareOp .GtE) (FA fun i j=>.bl (decide (j<=i))):=OG fun _ _ _ _ _ _ _ q=>ge_int q
theorem Lj:OpR X (compareOp .Lt) (fun x y H Q=>∃i j,x=.str i/\y=.str j/\Q (.bl (decide (i.cps.toList<j.cps.toList))) H):=by
 intro pins s σ H x y v u Q I rx ry h
 obtain⟨i,j,rfl,rfl,q⟩:=h
 obtain⟨t,rfl⟩:=rx
 obtain⟨t',rfl⟩:=ry
 exact lt_str (As I q rfl)
theorem OpR.or{f:Value->Value->Sem Value}{r r':R2}(h:OpR X f r)(h':OpR X f r'):OpR X f (fun x y H Q=>r x y H Q\/r' x y H Q):=by
 intro pins s σ H x y v u Q I rx ry q
 rcases q with q | q
 ·exact h pins s σ H x y v u Q I rx ry q
 ·exact h' pins s σ H x y v u Q I rx ry q
theorem Aj(b:Expr){op:CmpOp}(h:op≠.In:=by decide)(h2:op≠.NotIn:=by decide):behindInMarks op b=false:=by
 have e1:(op==CmpOp.In)=false:=by cases op <;> first | rfl | exact absurd rfl h
 have e2:(op==CmpOp.NotIn)=false:=by cases op <;> first | rfl | exact absurd rfl h2
 cases b <;> simp [behindInMarks,e1,e2]
theorem OE{op:CmpOp}{r:R2}(ho:OpR X (compareOp op) r)(ha:PE X a ta)(hb:PE X b tb)(hm:behindInMarks op b=false):PE X (.Compare a [op] [b] pos) (C8 r ta tb):=by
 intro pins s σ H Q I h
 exact wpAny_Compare1 (Qf ha hb I h fun v u s2 x y H2 I2 rx ry q=>ho pins s2 σ H2 x y v u Q I2 rx ry q) hm
def MV(t:TE):TT:=fun σ H Q=>t σ H fun x H'=>∃k,x=.bl k/\Q k H'
theorem ET{op:CmpOp}{r:R2}(ho:OpR X (compareOp op) r)(ha:PE X a ta)(hb:PE X b tb)(hm:behindInMarks op b=false):PT X (.Compare a [op] [b] pos) (MV (C8 r ta tb)):=by
 intro pins s σ H Q I h
 refine wpAny_isTrue_Compare1 (BL (ha pins s σ H _ I h) fun v s1 ⟨x,H1,I1,r1,q1⟩=>BL (hb pins s1 σ H1 _ I1 q1) fun u s2 ⟨y,H2,I2,r2,q2⟩ =>
  BL (ho pins s2 σ H2 x y v u _ I2 r1 r2 q2) fun c s3 ⟨z,H3,I3,r3,k,e,q3⟩=>?_) hm
 subst e
 cases r3
 exact wpAny_truthy_bool ⟨H3,I3,q3⟩
def MW(r r':R2)(ta tb tc:TE):TE:=fun σ H Q=>ta σ H fun x H1=>tb σ H1 fun y H2=>r x y H2 fun z H3=>∃k,z=.bl k /\
 (if k=true then tc σ H3 fun w' H4=>r' y w' H4 Q else Q (.bl false) H3)
theorem M8{op op':CmpOp}{r r':R2}(ho:OpR X (compareOp op) r)(ho':OpR X (compareOp op') r')(ha:PE X a ta)(hb:PE X b tb)(hc:PE X c tc)
  (hm:lastMarks [op,op'] [b,c]=false:=by with_unfolding_all rfl):PE X (.Compare a [op,op'] [b,c] pos) (MW r r' ta tb tc):=by
 intro pins s σ H Q I h
 refine Compare_chain (BL (ha pins s σ H _ I h) fun v s1 ⟨x,H1,I1,r1,q1⟩=>chain_link (BL (hb pins s1 σ H1 _ I1 q1) fun u s2 ⟨y,H2,I2,r2,q2⟩ =>
  BL (ho pins s2 σ H2 x y v u _ I2 r1 r2 q2) fun d s3 ⟨z,H3,I3,r3,k,e,q3⟩=>?_)) hm
 subst e
 cases r3
 refine wpAny_truthy_bool ?_
 cases k with
 | false=>exact ite_ff ⟨.bl false,H3,I3,rfl,q3⟩
 | true=>exact ite_tt (chain_last (BL (hc pins s3 σ H3 _ I3 q3) fun w' s4 ⟨z',H4,I4,r4,q4⟩=>ho' pins s4 σ H4 y z' u w' Q I4 r2 r4 q4))
def Qm(K:Frag)(x:V)(H:Hp)(k:Bool):Prop :=
 match x with
 | .non=>k=false
 | .bl b=>k=b
 | .int i=>k=(i != 0)
 | .str y=>y.length<=sizeLine/\k=((y.length:Int) != 0)
 | .byt y=>y.size<=sizeLine/\k=((y.size:Int) != 0)
 | .ref p=>(∃xs,SqL K H p xs/\k=!xs.isEmpty)\/(∃xs,SqT K H p xs/\k=!xs.isEmpty)\/∃kvs,H p=some (.dK kvs)/\k=!kvs.isEmpty
 | _=>False
theorem J8{κ:Type}{kvs:List (κ×V)}{vs:List (κ×Value)}(r:KV kvs vs):(!vs.isEmpty)=!kvs.isEmpty:=by
 cases r <;> rfl
theorem F_{xs:List V}{its:List Value}(r:Vals xs its):(!its.toArray.isEmpty)=!xs.isEmpty:=by
 cases r <;> simp
theorem Ez:(sizeLine:Nat)<2 ^ 63:=by rw [sizeLine_eq]; decide
theorem Pl:Sz X (fun x H Q=>∃k,Qm X.K x H k/\Q k H):=by
 intro pins s σ H x v Q I rx h
 obtain⟨k,e,q⟩:=h
 have hl:=Ez
 have hs:sizeLine=16777216:=sizeLine_eq
 cases x with
 | non =>
  cases rx
  have e':k=false:=e
  subst e'
  exact truthy_none ⟨H,I,q⟩
 | bl b =>
  cases rx
  have e':k=b:=e
  subst e'
  exact wpAny_truthy_bool ⟨H,I,q⟩
 | int i =>
  obtain⟨t,rfl⟩:=rx
  have e':k=(i != 0):=e
  subst e'
  exact PySem.P.truthy_int ⟨H,I,q⟩
 | str y =>
  obtain⟨t,rfl⟩:=rx
  obtain⟨hy,e'⟩:y.length<=sizeLine/\k=((y.length:Int) != 0):=e
  subst e'
  exact PySem.P.truthy_str (by omega) ⟨H,I.tok _,q⟩
 | byt y =>
  obtain⟨t,rfl⟩:=rx
  obtain⟨hy,e'⟩:y.size<=sizeLine/\k=((y.size:Int) != 0):=e
  subst e'
  exact PySem.W.truthy_bytes (by omega) ⟨H,I.tok _,q⟩
 | ref p =>
  cases rx
  have e':(∃xs,SqL X.K H p xs/\k=!xs.isEmpty)\/(∃xs,SqT X.K H p xs/\k=!xs.isEmpty)\/∃kvs,H p=some (.dK kvs)/\k=!kvs.isEmpty:=e
  rcases e' with ⟨xs,hx,e'⟩ | ⟨xs,hx,e'⟩ | ⟨kvs,hx,e'⟩
  ·subst e'
   obtain⟨its,r,pl,hz⟩:=I.list hx
   have hlen:=r.length
   exact wpAny_truthy_list pl.isList (by simp only [List.size_toArray]; omega) ⟨H,I.tok _,by rw [F_ r]; exact q⟩
  ·subst e'
   obtain⟨its,r,pl,hz⟩:=I.tuple hx
   have hlen:=r.length
   exact truthy_tuple pl (by simp only [List.size_toArray]; omega) ⟨H,I.tok _,by rw [F_ r]; exact q⟩
  ·subst e'
   obtain⟨hz,hS,vs,r,m⟩:kvs.length<=sizeLine/\(p==sysModules)=false/\∃vs,KV kvs vs/\s.heap.DictOf (Aw X.prog X.w) p vs:=I.hok p _ hx
   have hlen:kvs.length=vs.length:=Paired.length r
   exact wpAny_truthy_dict hS m (by omega) ⟨H,I.tok _,by rw [J8 r]; exact q⟩
 | _=>exact(show False from e).elim
theorem Mr(ha:PE X a ta)(he:∀whole,isTrue a X.env whole=(do let v ← whole; standAt a.pos; holding [v] (truthy v))) :
  PT X a (fun σ H Q=>ta σ H fun x H'=>∃k,Qm X.K x H' k/\Q k H'):=by
 intro pins s σ H Q I h
 exact isTrue_plain (BL (ha pins s σ H _ I h) fun v s1 ⟨x,H1,I1,r1,q1⟩=>Pl pins s1 σ H1 x v Q I1 r1 q1) (he _)
theorem J1:OpR X (binaryOp .Add) (fun x y H Q=>∃i j,x=.str i/\y=.str j/\i.length+j.length<=sizeLine/\Q (.str (i++j)) H):=by
 intro pins s σ H x y v u Q I rx ry h
 obtain⟨i,j,rfl,rfl,hz,q⟩:=h
 obtain⟨t,rfl⟩:=rx
 obtain⟨t',rfl⟩:=ry
 exact add_str (fun t' tk=>⟨.str (i++j),H,I.tok _,⟨_,rfl⟩,q⟩) hz
theorem vals1{x:V}{us:List Value}(r:Vals [x] us):∃u,us=[u]/\RelV x u:=by
 cases r with
 | cons r1 r2=>cases r2; exact⟨_,rfl,r1⟩
theorem vals2{x y:V}{us:List Value}(r:Vals [x,y] us):∃u w',us=[u,w']/\RelV x u/\RelV y w':=by
 cases r with
 | cons r1 r2 =>
  cases r2 with
  | cons r3 r4=>cases r4; exact⟨_,_,rfl,r1,r3⟩
theorem Ni:CD X (.builtin "abs") (fun xs H Q=>∃i,xs=[.int i]/\Q (.int (if i<0 then -i else i)) H):=by
 intro pins s σ H xs us Q I r h
 obtain⟨i,rfl,q⟩:=h
 obtain⟨u,rfl,t,rfl⟩:=vals1 r
 exact call_abs_int fun u tk=>⟨.int (if i<0 then -i else i),H,I.tok _,⟨_,rfl⟩,q⟩
theorem HN(hc:X.calm=true):CD X (.builtin "min") (fun xs H Q=>∃i j,xs=[.int i,.int j]/\Q (.int (if j<i then j else i)) H):=by
 intro pins s σ H xs us Q I r h
 obtain⟨i,j,rfl,q⟩:=h
 obtain⟨u,w',rfl,⟨t,rfl⟩,⟨t',rfl⟩⟩:=vals2 r
 refine min_two_ints (I.ok.hd hc) fun h' tk k=>⟨_,H,I.kept k,?_,q⟩
 by_cases hj:j<i
 ·rw [if_pos hj,if_pos hj]; exact⟨_,rfl⟩
 ·rw [if_neg hj,if_neg hj]; exact⟨_,rfl⟩
theorem IW:CD X (.type "str") (fun xs H Q=>∃i,xs=[.int i]/\i.natAbs.log2<1920/\Q (.str (toString i)) H):=by
 intro pins s σ H xs us Q I r h
 obtain⟨i,rfl,hz,q⟩:=h
 obtain⟨u,rfl,t,rfl⟩:=vals1 r
 exact PySem.P.str_of_int hz ⟨.str _,H,I.tok _,⟨_,rfl⟩,q⟩
def Qt(K:Frag)(x:V)(H:Hp)(n:Nat):Prop :=
 match x with
 | .str y=>y.length<=sizeLine/\n=y.length
 | .byt y=>y.size<=sizeLine/\n=y.size
 | .ref p=>(∃xs,SqL K H p xs/\n=xs.length)\/∃xs,SqT K H p xs/\n=xs.length
 | _=>False
theorem A2:CD X (.builtin "len") (fun xs H Q=>∃x n,xs=[x]/\Qt X.K x H n/\Q (.int n) H):=by
 intro pins s σ H xs us Q I r h
 obtain⟨x,n,rfl,e,q⟩:=h
 obtain⟨u,rfl,rx⟩:=vals1 r
 have hl:=Ez
 have hs:sizeLine=16777216:=sizeLine_eq
 cases x with
 | str y =>
  obtain⟨t,rfl⟩:=rx
  obtain⟨hy,e'⟩:y.length<=sizeLine/\n=y.length:=e
  subst e'
  exact len_str (by omega) ⟨.int _,H,I.tok _,⟨_,rfl⟩,q⟩
 | byt y =>
  obtain⟨t,rfl⟩:=rx
  obtain⟨hy,e'⟩:y.size<=sizeLine/\n=y.size:=e
  subst e'
  exact PySem.W.len_bytes (by omega) ⟨.int _,H,I.tok _,⟨_,rfl⟩,q⟩
 | ref p =>
  cases rx
  have e':(∃xs,SqL X.K H p xs/\n=xs.length)\/∃xs,SqT X.K H p xs/\n=xs.length:=e
  rcases e' with ⟨xs,hx,e'⟩ | ⟨xs,hx,e'⟩
  ·subst e'
   obtain⟨its,r',pl,hz⟩:=I.list hx
   have hlen:=r'.length
   exact Calls.call_len_list pl.isList (by simp only [List.size_toArray]; omega) ⟨.int xs.length,H,I.tok _,⟨_,by simp only [List.size_toArray]; rw [hlen]⟩,q⟩
  ·subst e'
   obtain⟨its,r',pl,hz⟩:=I.tuple hx
   have hlen:=r'.length
   exact len_tuple pl (by simp only [List.size_toArray]; omega) ⟨.int xs.length,H,I.tok _,⟨_,by simp only [List.size_toArray]; rw [hlen]⟩,q⟩
 | _=>exact(show False from e).elim
end
structure ObjM (h:Heap) (x dx C:Addr) (mA:Str->Option Value):Prop where
 obj:h.get? x=some (PySem.W.instObj C dx)
 ns:h.Ns1 dx mA
 ne:dx≠x
theorem Lx{h:Heap}{dx:Addr}{mA:Str->Option Value}(n:h.Ns1 dx mA):∃od,h.get? dx=some od/\∀name,PySem.W.lookIn name od=some (mA name):=by
 obtain⟨o,es,ep,ho,hd,hk,_,hm⟩:=n
 refine⟨o,ho,fun name=>?_⟩
 have e:=hm name
 unfold nsFind findBy at e
 rw [← Array.find?_toList] at e
 unfold PySem.W.lookIn
 rw [hd]
 dsimp only
 split
 ·rename_i y q
  rw [q] at e
  exact congrArg some e
 ·rename_i q
  rw [q] at e
  have a:es.toList.any (·.refKey)=false:=by
   rw [List.any_eq_false]
   intro y hy
   obtain⟨z,t,hkey⟩:=hk y (Array.mem_toList_iff.mp hy)
   simp [DictEntry.refKey,hkey]
  have a':¬es.toList.any (·.refKey)=true:=by rw [a]; exact Bool.false_ne_true
  rw [if_neg a']
  exact congrArg some e
theorem ObjM.look{h:Heap}{x dx C:Addr}{mA:Str->Option Value}(I:ObjM h x dx C mA):∃od,PySem.W.InstAt h x (PySem.W.instObj C dx) C (some od)/\∀name,PySem.W.lookIn name od=some (mA name) :=
 let ⟨od,ho,hl⟩:=Lx I.ns
 ⟨od,⟨I.obj,rfl,rfl,ho⟩,hl⟩
section
variable {prog:Program}{w:World}{A:Around}{E:Value->Shared->Prop}{s:Shared}{K:Frag}{x dx C f:Addr}{mA:Str->Option Value}{name:Str}{v:Value}
end
theorem RelO.some_of{v:V}{o:Option Value}(r:RelO (some v) o):∃u,o=some u/\RelV v u:=by
 cases o with
 | none=>exact(show False from r).elim
 | some u=>exact⟨u,rfl,r⟩
section
variable {P:Program}{w:World}{H H':Hp}{h h':Heap}{a C dx:Addr}{fs fs':List (Str×V)}
theorem OR(hok:HOk P w H h)(e:H a=some (.ins C dx fs)):∃mA,ObjM h a dx C mA/\(∀f,RelO (fs.lookup f) (mA f))/\PySem.Within mA (fs.map (·.1))/\fs.length<=1000/\H dx=some (.own a):=by
 obtain⟨d,z,ne,ob,mA,n,r,q⟩:=(show ObjOk P w H h a (.ins C dx fs) from hok a _ e)
 exact⟨mA,⟨ob,n,ne⟩,r,q,z,d⟩
end
structure Cls (K:Frag) (C:Addr):Prop where
 pg:PySem.W.plainGet K C Str.empty=true
 hd:PySem.W.hasDictIn K C=true
 po:PySem.W.plainOver K C=true
 sa:PySem.W.findIn K (.ref C) "__setattr__"=some (some (.builtin "object.__setattr__"))
theorem Cls.get{K:Frag}{C:Addr}(c:Cls K C)(f:Str):PySem.W.plainGet K C f=true:=c.pg
structure Ta (K:Frag) (C:Addr) (f:Str) (v:V) (u:Value):Prop where
 at_:PySem.W.findIn K (.ref C) f=some (some u)
 rel:RelV v u
 get:PySem.W.specialIn K u "__get__"=some none
 cp:PySem.W.copiedNames.contains f=false
structure TY (K:Frag) (C:Addr) (m:Str) (f:Addr):Prop where
 at_:PySem.W.findIn K (.ref C) m=some (some (.ref f))
 fn:PySem.W.isFn K (.ref f)=true
 kp:keepIn K (.ref f)=true
section
variable {X:Cx}{pins:List (Addr×Obj)}{σ:St}{H:Hp}{s:Shared}{a C dx:Addr}{fs:List (Str×V)}{f:Str}{v:V}{A:Around}{E:Value->Shared->Prop}
end
section
variable {X:Cx}{o e value:Expr}{f:Str}{pos pos' tpos:Pos}{ta tv:TE}
end
section
variable {X:Cx}{pins:List (Addr×Obj)}{σ:St}{H:Hp}{s:Shared}{A:Around}{E:Value->Shared->Prop}{Q:Value->Shared->Prop}{c:Value}{b:Bool}
inductive Dy (K:Frag) (H:Hp):V->Value->Prop where
 | non:Dy K H .non (.type "NoneType")
 | bl (x:Bool):Dy K H (.bl x) (.type "bool")
 | int (i:Int):Dy K H (.int i) (.type "int")
 | str (x:Str):Dy K H (.str x) (.type "str")
 | flt (x:UInt64):Dy K H (.flt x) (.type "float")
 | lst {a:Addr} {xs:List V} (e:H a=some (.lst xs)):Dy K H (.ref a) (.type "list")
 | frz {a:Addr} {o:Obj} {xs:List V} (e:H a=some (.frz o (.lst xs))):Dy K H (.ref a) (.type "list")
 | tup {a:Addr} {xs:List V} (e:H a=some (.tup xs)):Dy K H (.ref a) (.type "tuple")
 | dF {a:Addr} {o:Obj} {kvs:List (Key×V)} (e:H a=some (.frz o (.dK kvs))):Dy K H (.ref a) (.type "dict")
 | dK {a:Addr} {kvs:List (Key×V)} (e:H a=some (.dK kvs)):Dy K H (.ref a) (.type "dict")
 | dT {a:Addr} {kvs:List (List Key×V)} (e:H a=some (.dT kvs)):Dy K H (.ref a) (.type "dict")
 | ins {a C dx:Addr} {fs:List (Str×V)} (e:H a=some (.ins C dx fs)) (cl:Cls K C) (ha:PySem.W.findIn K (.ref C) "__class__"=some (some (.builtin "object.__class__")))
   (hn:PySem.W.specialIn K (.builtin "object.__class__") "__get__"=some (some (.builtin "getset_descriptor.__get__"))) (htk:PySem.W.takesIn K (.builtin "object.__class__")=some true)
   (hm:PySem.W.mroIn K C (.type "object")=some true):Dy K H (.ref a) (.ref C)
theorem L8{x:V}{u t:Value}(I:Inv X pins σ H s)(rx:RelV x u)(ty:Dy X.K H x t)(e:PySem.W.kitOne X.K t c=some b)(h:∀tk,Q (.bool b) { s with toks:=tk }) :
  wpAny (model X.prog X.w) A (call (.builtin "isinstance") [u,c]) Q E s:=by
 cases ty with
 | non=>cases (show u=Value.none from rx); exact PySem.W.kia_one PySem.W.kitx_none I.kIn True.intro e (fun z=>nomatch z) h
 | bl y=>cases (show u=Value.bool y from rx); exact PySem.W.kia_one PySem.W.kitx_bool I.kIn True.intro e (fun z=>nomatch z) h
 | int i=>obtain⟨t,q⟩:=(show ∃t,u=Value.int i t from rx); cases q; exact PySem.W.kia_one PySem.W.kitx_int I.kIn True.intro e (fun z=>nomatch z) h
 | str y=>obtain⟨t,q⟩:=(show ∃t,u=Value.str y t from rx); cases q; exact PySem.W.kia_one PySem.W.kitx_str I.kIn True.intro e (fun z=>nomatch z) h
 | flt y=>obtain⟨t,q⟩:=(show ∃t,u=Value.float y t from rx); cases q; exact PySem.W.kia_one PySem.W.kitx_float I.kIn True.intro e (fun z=>nomatch z) h
 | @lst a xs ea =>
  cases (show u=Value.ref a from rx)
  obtain⟨_,_,n,_,h1⟩:=(show ObjOk X.prog X.w H s.heap a (.lst xs) from I.hok a _ ea)
  exact PySem.W.kia_one PySem.W.kitx_list I.kIn ⟨_,h1,rfl⟩ e (fun z=>nomatch z) h
 | @frz a ob xs ea =>
  cases (show u=Value.ref a from rx)
  obtain⟨_,_,_,n,_,h1⟩:=(show ObjOk X.prog X.w H s.heap a (.frz ob (.lst xs)) from I.hok a _ ea)
  exact PySem.W.kia_one PySem.W.kitx_list I.kIn ⟨_,h1,rfl⟩ e (fun z=>nomatch z) h
 | @tup a xs ea =>
  cases (show u=Value.ref a from rx)
  obtain⟨_,_,_,p⟩:=(show ObjOk X.prog X.w H s.heap a (.tup xs) from I.hok a _ ea)
  obtain⟨o,h1,h2,_⟩:=p
  exact PySem.W.kia_one PySem.W.kitx_tuple I.kIn ⟨o,h1,h2⟩ e (fun z=>nomatch z) h
 | @dF a ob kvs ea =>
  cases (show u=Value.ref a from rx)
  obtain⟨_,_,_,vs,_,p⟩:=(show ObjOk X.prog X.w H s.heap a (.frz ob (.dK kvs)) from I.hok a _ ea)
  obtain⟨o,es,ep,h1,h2,_⟩:=p
  exact PySem.W.kia_one PySem.W.kitx_dict I.kIn ⟨o,h1,h2.1⟩ e (fun z=>nomatch z) h
 | @dK a kvs ea =>
  cases (show u=Value.ref a from rx)
  obtain⟨_,_,vs,_,p⟩:=(show ObjOk X.prog X.w H s.heap a (.dK kvs) from I.hok a _ ea)
  obtain⟨o,es,ep,h1,h2,_⟩:=p
  exact PySem.W.kia_one PySem.W.kitx_dict I.kIn ⟨o,h1,h2.1⟩ e (fun z=>nomatch z) h
 | @dT a kvs ea =>
  cases (show u=Value.ref a from rx)
  obtain⟨_,_,xs,_,o,es,ep,h1,h2,_⟩:=(show ObjOk X.prog X.w H s.heap a (.dT kvs) from I.hok a _ ea)
  exact PySem.W.kia_one PySem.W.kitx_dict I.kIn ⟨o,h1,h2.1⟩ e (fun z=>nomatch z) h
 | @ins a C dx fs ea cl ha hn htk hm =>
  cases (show u=Value.ref a from rx)
  obtain⟨mA,O,_⟩:=OR I.hok ea
  obtain⟨od,J,_⟩:=O.look
  exact PySem.W.kia_one (PySem.W.kitx_own (cl.get _) cl.hd ha hn htk hm) I.kIn J e (fun z=>nomatch z) h
end
structure Room (k:Nat) (A:Around):Prop where
 hd:A.handled=none
 dp:A.depth+3*k+5<recursionLimit
 un:A.units+16*k+200<cLine
 gd:A.guards=some []
theorem Room.mono{j k:Nat}{A:Around}(r:Room k A)(h:j<=k):Room j A:=⟨r.hd,by have:=r.dp; omega,by have:=r.un; omega,by first | exact r.gd | (show pushGuards _ _=_; rw [r.gd]; rfl) | (simp [Around.under,pushGuards,Code.guards,Code.isGuard,r.gd])⟩
theorem Room.deeper{k:Nat}{A:Around}(r:Room (k+1) A)(env:Env):Room k (A.deeper env) :=
 ⟨r.hd,by have:=r.dp; show A.depth+1+3*k+5<_; omega,by have:=r.un; show A.units+3+16*k+200<_; omega,by first | exact r.gd | (show pushGuards _ _=_; rw [r.gd]; rfl) | (simp [Around.under,pushGuards,Code.guards,Code.isGuard,r.gd])⟩
theorem Room.depth{k:Nat}{A:Around}(r:Room k A):A.depth<recursionLimit:=by have:=r.dp; omega
theorem Room.units{k:Nat}{A:Around}(r:Room k A):A.units+64<cLine:=by have:=r.un; omega
theorem Room.units0{k:Nat}{A:Around}(r:Room k A):A.units<cLine:=by have:=r.un; omega
def N7:TA:=fun _ H Q=>Q [] H
def KZ(ta:TE)(tr:TA):TA:=fun σ H Q=>ta σ H fun x H1=>tr σ H1 fun xs H2=>Q (x::xs) H2
section
variable {X:Cx}{e:Expr}{es:List Expr}{te:TE}{t:TA}{pos:Pos}
theorem CS:PA X [] N7:=fun _ _ _ _ H Q I h=>Calls.spliced_nil ⟨[],H,I,.nil,h⟩
theorem BN(ha:PE X e te)(hr:PA X es t)(hs:starEach (e::es) X.env=(false,eval e X.env)::starEach es X.env:=by rfl):PA X (e::es) (KZ te t):=by
 intro pos pins s σ H Q I h
 rw [hs]
 show wpAny _ _ (spliced ((false,eval e X.env)::backTo pos (starEach es X.env))) _ _ s
 refine Calls.spliced_cons (BL (ha pins s σ H _ I h) fun u s1 ⟨x,H1,I1,r1,q1⟩=>?_)
 exact BL (hr pos pins s1 σ H1 _ I1 q1) fun us s2 ⟨xs,H2,I2,r2,q2⟩=>⟨x::xs,H2,I2,.cons r1 r2,q2⟩
def SU(t:TA):TE:=fun σ H Q=>t σ H fun xs H1=>xs.length<=sizeLine/\∀p,H1 p=none->Q (.ref p) (A_ H1 p (.tup xs))
def SY(t:TA):TE:=fun σ H Q=>t σ H fun xs H1=>xs.length<=sizeLine/\∀p,H1 p=none->Q (.ref p) (A_ H1 p (.lst xs))
theorem M6{x1}(h:PA X es t):PE X (.Tuple es x1 pos) (SU t):=by
 intro pins s σ H Q I hq
 refine wpAny_Tuple_spliced (BL (h pos pins s σ H _ I hq) fun us s1 ⟨xs,H1,I1,r,z,q⟩=>⟨by rw [← r.length]; exact z,?_⟩)
 have hf:H1 s1.heap.objs.size=none:=I1.hok.fresh (Nat.le_refl _)
 refine⟨.ref s1.heap.objs.size,A_ H1 s1.heap.objs.size (.tup xs),I1.laid (t':=s1.toks) (fun b u e=>Heap.get?_push_of_some _ e) (Nat.le_refl _) ?_,rfl,q _ hf⟩
 exact⟨z,us,r,IsTupN.new _ _⟩
theorem J0(h:PA X es t):PE X (.List es pos) (SY t):=by
 intro pins s σ H Q I hq
 refine wpAny_List_spliced (BL (h pos pins s σ H _ I hq) fun us s1 ⟨xs,H1,I1,r,z,q⟩=>⟨by rw [← r.length]; exact z,?_⟩)
 have hf:H1 s1.heap.objs.size=none:=I1.hok.fresh (Nat.le_refl _)
 refine⟨.ref s1.heap.objs.size,A_ H1 s1.heap.objs.size (.lst xs),I1.laid (t':=s1.toks) (fun b u e=>Heap.get?_push_of_some _ e) (Nat.le_refl _) ?_,rfl,q _ hf⟩
 exact⟨z,us,0,r,Heap.get?_push_size _ rfl⟩
end
abbrev Sp:=List V->Hp->VK->XK->Prop
abbrev Nx:=List Env->Hp->Shared->XK->Value->Shared->Prop
structure Ol (P:Program) (w:World) (K:Frag) (mg:Str->Option Value) (base:Heap) (A:Around) (outer:List Env) (s:Shared) (H:Hp):Prop where
 frames:A.frames=some outer
 mod:Mod K mg base
 bs:∀b o,base.get? b=some o->s.heap.get? b=some o/\H b=none
 bsz:base.objs.size<=s.heap.objs.size
 funs:s.heap.FunFrames base outer
 frf:∀b∈NS outer,H b=none
 hok:HOk P w H s.heap
 bare:AllBare s.gens
def CE(outer:List Env)(P:Program)(w:World)(H:Hp)(s:Shared)(Q:VK)(u:Value)(s':Shared):Prop :=
 ∃v H',s'.os=s.os/\AllBare s'.gens/\Un (NS outer) [] H H' s.heap s'.heap/\HOk P w H' s'.heap/\RelV v u/\Q v H'
def CR(CX:Nx)(outer:List Env)(P:Program)(w:World)(H:Hp)(s:Shared)(Q:VK)(E:XK)(r:Result)(s':Shared):Prop :=
 match r with
 | .ok (.ret u)=>CE outer P w H s Q u s'
 | .ok _=>False
 | .error e=>CX outer H s E e s'
structure Bh (P:Program) (w:World) (K:Frag) (mg:Str->Option Value) (base:Heap) (CX:Nx) (k:Nat) (f:Addr) (fd:FuncData) (ps:List Str) (sp:Sp):Prop where
 len:∀vs H Q E,sp vs H Q E->vs.length=ps.length
 run:∀(A:Around) (outer:List Env) (s:Shared) (H:Hp) (args:Args) (us:List Value) (vs:List V) (Q:VK) (E:XK),Room k A->Ol P w K mg base A outer s H->BindsTo s fd args (ps.zip us)->Vals vs us->sp vs H Q E ->
  codeAny (model P w) A (.call (.ref f) args) (CR CX outer P w H s Q E) s
section
variable {X:Cx}{pins:List (Addr×Obj)}{σ:St}{H:Hp}{s s':Shared}
theorem Inv.env0(I:Inv X pins σ H s):Ol X.prog X.w X.K X.mg X.base X.A X.stack s H :=
 ⟨I.ok.frames,I.ok.mod,I.bs,Nat.le_trans I.ok.bsz I.sz,I.stack,I.stkFree,I.hok,I.bare⟩
theorem Inv.after{Q:VK}{u:Value}(I:Inv X pins σ H s)(h:CE X.stack X.prog X.w H s Q u s'):EP X pins σ Q u s':=by
 obtain⟨v,H',os,bare,un,hok,r,q⟩:=h
 obtain⟨hh,g,d,t,os'⟩:=s'
 obtain rfl:os'=s.os:=os
 exact⟨v,H',I.call (h':=hh) (g':=g) (d':=d) (t':=t) (ch:=[]) un hok bare (fun b z=>absurd z (by simp)),r,q⟩
end
def MX(sp:Sp)(dvs:List V)(E:XK)(t:TA):TE:=fun σ H Q=>t σ H fun vs H1=>sp (vs++dvs) H1 Q E
def Binds(K:Frag)(fd:FuncData)(ps:List Str)(ds:List Value):Prop :=
 ∀(s:Shared) (us:List Value),K.In s.heap->(us++ds).length=ps.length->BindsTo s fd ⟨us,[]⟩ (ps.zip (us++ds))
theorem Binds.all{K:Frag}{fd:FuncData}{ps:List Str}(h:∀us:List Value,us.length=ps.length->bindArgs fd ⟨us,[]⟩=pure (ps.zip us)):Binds K fd ps []:=fun s us _ hl=>by
 rw [List.append_nil] at hl ⊢
 exact .of_eq (h us hl)
def KP(CX:Nx)(X:Cx)(E:XK):Prop:=∀(pins:List (Addr×Obj)) (σ:St) (H:Hp) (s:Shared) (e:Value) (s':Shared),Inv X pins σ H s->CX X.stack H s E e s'->X.xe e s'
section
variable {X:Cx}{CX:Nx}{k:Nat}{f C:Addr}{fd:FuncData}{ps:List Str}{sp:Sp}{dvs:List V}{ds:List Value}{E:XK}{x m:Str}{p pos apos:Pos}{e o:Expr}{es:List Expr}{ta:TE}{t:TA}
theorem Pt{pins:List (Addr×Obj)}{σ:St}{H:Hp}{s:Shared}{Q:VK}{us:List Value}{vs:List V}(F:Bh X.prog X.w X.K X.mg X.base CX k f fd ps sp)(hr:Room k X.A)(hb:Binds X.K fd ps ds)(hd:Vals dvs ds)(hx:KP CX X E)
  (I:Inv X pins σ H s) (r:Vals vs us) (h:sp (vs++dvs) H Q E):wpAny (model X.prog X.w) X.A (call (.ref f) us) (EP X pins σ Q) X.xe s:=by
 have r2:Vals (vs++dvs) (us++ds):=r.append hd
 have hl:(us++ds).length=ps.length:=by rw [← r2.length]; exact F.len _ _ _ _ h
 refine wpAny_call (codeAny_mono (F.run X.A X.stack s H ⟨us,[]⟩ (us++ds) (vs++dvs) Q E hr I.env0 (hb s us I.kIn hl) r2 h) fun r s' hq=>?_)
 cases r with
 | error e=>exact hx pins σ H s e s' I hq
 | ok fl =>
  cases fl with
  | ret u=>exact I.after hq
  | next=>exact False.elim hq
  | brk=>exact False.elim hq
  | cont=>exact False.elim hq
theorem Kp(F:Bh X.prog X.w X.K X.mg X.base CX k f fd ps sp)(hr:Room k X.A)(hg:Gl X x)(hm:X.mg x=some (.ref f))(hk:keepIn X.K (.ref f)=true)(hb:Binds X.K fd ps ds)(hd:Vals dvs ds)(hx:KP CX X E)
  (ha:PA X (e::es) t) (hdb:(x==("__debug__" : Str))=false:=by decide) (he:starEach (e::es) X.env=(false,eval e X.env)::starEach es X.env:=by rfl) (hpl:(backTo pos (starEach es X.env)).any (·.1)=false:=by rfl) :
  PE X (.Call (.Name x p) (e::es) [] pos) (MX sp dvs E t):=by
 intro pins s σ H Q I h
 refine wpAny_Call_Name_kw (OM I hg hm ?_ hdb)
 refine PySem.W.callWith_K (h₀:=X.base) I.ok.mod.kin hk (BL (ha pos pins s σ H _ I h) fun us s1 ⟨vs,H1,I1,r,q⟩=>⟨I1.kIn,?_⟩) he hpl
 exact Pt F hr hb hd hx I1 r q
structure Mk (K:Frag) (C f:Addr):Prop where
 makes:PySem.W.makesIn K C=true
 init:PySem.W.findIn K (.ref C) "__init__"=some (some (.ref f))
 fn:PySem.W.isFn K (.ref f)=true
 kp:keepIn K (.ref C)=true
end
section
variable {X:Cx}{CX:Nx}{k:Nat}{f C:Addr}{fd:FuncData}{ps ks:List Str}{sp:Sp}{E:XK}{x m:Str}{p pos apos kpos:Pos}{e o:Expr}{es:List Expr}{kws:List Keyword}{te ta:TE}{t tk:TA}{nm:Option Str}
structure S1 (K:Frag) (fd:FuncData) (ps ks:List Str) (g:List Value->List Value->List Value) (gV:List V->List V->List V):Prop where
 to:∀(s:Shared) (us ws:List Value),K.In s.heap->(g us ws).length=ps.length->BindsTo s fd ⟨us,ks.zip ws⟩ (ps.zip (g us ws))
 rel:∀{vs:List V} {us:List Value} {zs:List V} {ws:List Value},Vals vs us->Vals zs ws->Vals (gV vs zs) (g us ws)
variable {g:List Value->List Value->List Value}{gV:List V->List V->List V}
end
structure An (N P:List Str) (sc:Scope):Prop where
 kind:sc.kind=.function
 co:sc.isCoroutine=false
 gen:sc.isGenerator=false
 nd:N.Nodup
 pre:N.take P.length=P
 par:∀x∈P,sc.names.lookup x=some .local\/sc.names.lookup x=some .cell
 nofree:∀y∈sc.names,y.2≠.free
theorem HP{kindOf:Str->Option NameKind}{x:Str}:∀{binds:List (Str×Value)} {m:Str->Option Value},(∀v,(x,v)∉binds)->bindL kindOf binds m x=m x
 | [],_,_=>rfl
 | (n,v)::r,m,h=>by
  unfold bindL
  rw [HP fun w hw=>h w (List.mem_cons_of_mem _ hw)]
  split
  ·have:x≠n:=by rintro rfl; exact h v List.mem_cons_self
   simp [this]
  ·rfl
theorem HR{kindOf:Str->Option NameKind}{x:Str}:∀{binds:List (Str×Value)} {m:Str->Option Value},(∀v,(x,v)∉binds)->bindC kindOf binds m x=m x
 | [],_,_=>rfl
 | (n,v)::r,m,h=>by
  unfold bindC
  rw [HR fun w hw=>h w (List.mem_cons_of_mem _ hw)]
  split
  ·rfl
  ·have:x≠n:=by rintro rfl; exact h v List.mem_cons_self
   simp [this]
theorem HQ{kindOf:Str->Option NameKind}{x:Str}{v:Value}:∀{P:List Str} {vs:List Value} {i:Nat} {m:Str->Option Value},P.Nodup->P[i]?=some x->vs[i]?=some v->kindOf x=some .local ->
  bindL kindOf (P.zip vs) m x=some v
 | [],_,_,_,_,h,_,_=>by simp at h
 | _::_,[],_,_,_,_,h,_=>by simp at h
 | p::P,w::vs,0,m,nd,h1,h2,hk=>by
  simp at h1 h2; subst h1; subst h2
  show bindL kindOf ((p,w)::P.zip vs) m p=_
  unfold bindL
  rw [HP fun v hv=>(List.nodup_cons.mp nd).1 (List.of_mem_zip hv).1,if_pos hk]
  simp
 | p::P,w::vs,i+1,m,nd,h1,h2,hk=>by
  show bindL kindOf ((p,w)::P.zip vs) m x=_
  unfold bindL
  exact HQ (i:=i) (List.nodup_cons.mp nd).2 (by simpa using h1) (by simpa using h2) hk
theorem HS{kindOf:Str->Option NameKind}{x:Str}{v:Value}:∀{P:List Str} {vs:List Value} {i:Nat} {m:Str->Option Value},P.Nodup->P[i]?=some x->vs[i]?=some v->kindOf x≠some .local ->
  bindC kindOf (P.zip vs) m x=some v
 | [],_,_,_,_,h,_,_=>by simp at h
 | _::_,[],_,_,_,_,h,_=>by simp at h
 | p::P,w::vs,0,m,nd,h1,h2,hk=>by
  simp at h1 h2; subst h1; subst h2
  show bindC kindOf ((p,w)::P.zip vs) m p=_
  unfold bindC
  rw [HR fun v hv=>(List.nodup_cons.mp nd).1 (List.of_mem_zip hv).1,if_neg hk]
  simp
 | p::P,w::vs,i+1,m,nd,h1,h2,hk=>by
  show bindC kindOf ((p,w)::P.zip vs) m x=_
  unfold bindC
  exact HS (i:=i) (List.nodup_cons.mp nd).2 (by simpa using h1) (by simpa using h2) hk
def start(N:List Str)(vs:List V):St:=vs.map some++List.replicate (N.length - vs.length) none
def IT(CX:Nx)(P:Program)(w:World)(K:Frag)(mg:Str->Option Value)(base:Heap)(N:List Str)(qual:Str)(scope:Scope)(f:Addr)(cd:Value)(A:Around)(outer:List Env)(s:Shared)(H:Hp)(E:XK):Cx where
 prog:=P
 w:=w
 K:=K
 mg:=mg
 base:=base
 A:=A.deeper (envOfC qual scope s.heap.objs.size f cd)
 N:=N
 s₀:=s
 H₀:=H
 env:=envOfC qual scope s.heap.objs.size f cd
 outer:=outer
 stack:=envOfC qual scope s.heap.objs.size f cd::outer
 ex:=[]
 calm:=true
 fn:=fun _=>true
 pn:=[]
 xe:=fun e s'=>wpAny (model P w) (A.deeper (envOfC qual scope s.heap.objs.size f cd)) (leaving (envOfC qual scope s.heap.objs.size f cd) e) (fun _ s''=>CX outer H s E e s'') (fun e' s''=>CX outer H s E e' s'') s'
theorem Jc{sc:Scope}{n:Nat}{x:Str}(h:sc.names.lookup x=some .cell):∃c,(cellsFrom n sc.names []).lookup x=some c:=by
 have q:=PySem.W.cellsFrom_some sc.names n [] (.inl h)
 exact Option.isSome_iff_exists.mp q
theorem L_{CX:Nx}{P:Program}{w:World}{K:Frag}{mg:Str->Option Value}{base:Heap}{N ps:List Str}{qual:Str}{scope:Scope}{f:Addr}{cd:Value}{A:Around}{outer:List Env}{s s1:Shared}{H:Hp}{E:XK}{us:List Value}{vs:List V}
  (S:An N ps scope) (hd:A.handled=none) (e0:Ol P w K mg base A outer s H) (hl:vs.length=ps.length) (r:Vals vs us)
  (x:InCallC s s.heap.objs.size (bindL (envOfC qual scope s.heap.objs.size f cd).kindOf (ps.zip us) fun _=>none) (cellsFrom (s.heap.objs.size+1) scope.names []) (bindC (envOfC qual scope s.heap.objs.size f cd).kindOf (ps.zip us) fun _=>none) s1) :
  Inv (IT CX P w K mg base N qual scope f cd A outer s H E) [] (start N vs) H s1:=by
 have hpl:ps.length<=N.length:=by have:=congrArg List.length S.pre; rw [List.length_take] at this; omega
 obtain⟨h1,tk,rfl,hk⟩:=x.done
 have noA:∀b:Addr,b∉(IT CX P w K mg base N qual scope f cd A outer s H E).ex:=fun b z=>absurd (show b∈([]:List Addr) from z) (by simp)
 refine⟨⟨e0.mod,S.kind,rfl,rfl,Nat.le_refl _,fun y z c h1 h2=>?_,fun y hy=>?_,fun y c _ h=>?_,fun _=>hd,Around.frames_deeper e0.frames,.inr ⟨rfl,rfl⟩,fun b z=>absurd z (noA b),e0.bs,e0.bsz,fun b _ _=>noA b,fun b z=>absurd z (noA b),e0.funs,e0.frf⟩,
  rfl,e0.bare,Un.kept hk,⟨_,x.toInCall.ns,fun i y v h1 h2 h3=>?_⟩,fun y c h=>⟨_,x.cell y c h⟩,e0.hok.fresh (Nat.le_refl _),fun y c h=>?_,fun p hp=>absurd (show p∈([]:List (Addr×Obj)) from hp) (by simp),e0.hok.kept hk,?_⟩
 ·exact name_of_addr x.apart (PySem.mem_of_lookup h1) (PySem.mem_of_lookup h2)
 ·have hy:scope.names.lookup y=some .cell\/scope.names.lookup y=some .free:=hy
  rcases hy with hy | hy
  ·exact Jc hy
  ·exact absurd rfl (S.nofree _ (PySem.mem_of_lookup hy))
 ·exact Nat.le_of_lt (x.above y c (PySem.mem_of_lookup h))
 ·have hi:i<vs.length:=by
   unfold start at h2
   by_cases hi:i<vs.length
   ·exact hi
   ·rw [List.getElem?_append_right (by simpa using hi)] at h2
    rw [List.getElem?_replicate] at h2
    split at h2 <;> cases h2
  have ha:vs[i]?=some v:=by
   unfold start at h2
   rw [List.getElem?_append_left (by simpa using hi),List.getElem?_map] at h2
   cases e:vs[i]? with
   | none=>rw [e] at h2; cases h2
   | some a=>rw [e] at h2; cases h2; rfl
  obtain⟨u,hu,rv⟩:=r.get ha
  have hp:ps[i]?=some y:=by
   rw [← S.pre,List.getElem?_take_of_lt (by omega)]; exact h1
  have ndP:ps.Nodup:=by rw [← S.pre]; exact S.nd.sublist (List.take_sublist _ _)
  refine⟨u,rv,?_⟩
  rcases S.par y (List.mem_of_getElem? hp) with k | k
  ·exact .inl ⟨k,HQ ndP hp hu k⟩
  ·obtain⟨c,e⟩:=Jc (n:=s.heap.objs.size+1) k
   refine .inr ⟨.inl k,c,e,?_⟩
   have q:=x.cell y c e
   rw [HS ndP hp hu (by show scope.names.lookup y≠_; rw [k]; decide)] at q
   exact q
 ·exact e0.hok.fresh (Nat.le_of_lt (x.above y c (PySem.mem_of_lookup h)))
 ·unfold start
  show _=N.length
  rw [List.length_append,List.length_map,List.length_replicate]
  omega
theorem Rh{CX:Nx}{P:Program}{w:World}{K:Frag}{mg:Str->Option Value}{base:Heap}{k:Nat}{f:Addr}{name qual:Str}{params:Arguments}{body:List Stmt}{scope:Scope}{dV kV doc pm cdv ct oc:Value}{an od:Option Addr}
  {osl:Array (Option Value)} {N ps:List Str} {sp:Sp} (lk:K.lookup f=some ⟨oc,od,.func (fnOf name qual params body scope dV kV doc pm an cdv ct),osl⟩) (hcd:codeIn K cdv qual=true) (S:An N ps scope)
  (len:∀vs H Q E,sp vs H Q E->vs.length=ps.length)
  (hbody:∀(A:Around) (outer:List Env) (s:Shared) (H:Hp) (vs:List V) (Q:VK) (E:XK),Room k (A.deeper (envOfC qual scope s.heap.objs.size f cdv))->sp vs H Q E ->
   ∃t,PSs (IT CX P w K mg base N qual scope f cdv A outer s H E) body t/\t { nx:=fun _ H'=>Q .non H',rt:=Q } (start N vs) H) :
  Bh P w K mg base CX (k+1) f (fnOf name qual params body scope dV kV doc pm an cdv ct) ps sp:=by
 refine⟨len,fun A outer s H args us vs Q E hr e0 hb r hsp=>?_⟩
 have hl:=len _ _ _ _ hsp
 have KX:K.In s.heap:=e0.mod.kin.keeps fun b o e=>(e0.bs b o e).1
 have lim:s.heap.NoLimit:=e0.mod.nolimit.keeps fun b o e=>(e0.bs b o e).1
 have hkind:∀y∈ps.zip us,scope.names.lookup y.1=some .local\/(scope.names.lookup y.1=some .cell/\((cellsFrom (s.heap.objs.size+1) scope.names []).lookup y.1).isSome=true):=fun⟨n,v⟩ hy=>by
  rcases S.par n (List.of_mem_zip hy).1 with q | q
  ·exact .inl q
  ·exact .inr ⟨q,PySem.W.cellsFrom_some _ _ _ (.inl q)⟩
 refine codeAny_call_function hr.depth (KX _ _ lk) rfl S.co S.gen rfl (PySem.W.codeRec_of KX hcd) (hb _ _ _ _ ?_)
 refine wpAny_newFunctionEnv_cells S.kind hkind fun env he s1 x=>?_
 subst he
 refine⟨lim.keeps x.toInCall.keep,codeAny_func ?_⟩
 obtain⟨t,ht,hq⟩:=hbody A outer s H vs Q E (hr.deeper _) hsp
 have I:Inv (IT CX P w K mg base N qual scope f cdv A outer s H E) [] (start N vs) H s1:=L_ S hr.hd e0 hl r x
 refine wpAny_mono (ht [] s1 (start N vs) H _ I hq) (fun fl s' hs=>?_) fun e s' hs=>hs
 have fin:∀{σ':St} {H':Hp} {v:V} {u:Value},Inv (IT CX P w K mg base N qual scope f cdv A outer s H E) [] σ' H' s'->RelV v u->Q v H'->CE outer P w H s Q u s' :=
  fun {σ' H' v u} J rv q=>⟨v,H',J.os,J.bare,J.base,J.hok,rv,q⟩
 cases fl with
 | ret u =>
  obtain⟨v,σ',H',J,rv,q⟩:=hs
  exact fin J rv q
 | next =>
  obtain⟨σ',H',J,q⟩:=hs
  exact fin (v:=V.non) (u:=Value.none) J rfl q
 | brk =>
  obtain⟨_,_,_,q⟩:=hs
  exact False.elim q
 | cont =>
  obtain⟨_,_,_,q⟩:=hs
  exact False.elim q
section
variable {X:Cx}{x:Str}{p pos:Pos}{e:Expr}{es:List Expr}{t:TA}{id T:String}{r:List V->Hp->VK->Prop}
def SF(r:List V->Hp->VK->Prop)(t:TA):TE:=fun σ H Q=>t σ H fun vs H1=>r vs H1 Q
theorem Dc(hc:CD X (.builtin id) r)(hg:Gl X x)(hm:X.mg x=none)(hv:bootBuiltins x=some (.builtin id))(ha:PA X (e::es) t)(hn:x ≠ "__name__":=by decide)(hdb:(x==("__debug__" : Str))=false:=by decide)
  (he:starEach (e::es) X.env=(false,eval e X.env)::starEach es X.env:=by rfl) (hpl:(backTo pos (starEach es X.env)).any (·.1)=false:=by rfl):PE X (.Call (.Name x p) (e::es) [] pos) (SF r t):=by
 intro pins s σ H Q I h
 refine wpAny_Call_Name_kw (Fw I hg hm hv ?_ hn hdb)
 exact PyProof.Rows.callWith_builtin1 (BL (ha pos pins s σ H _ I h) fun us s1 ⟨vs,H1,I1,r1,q1⟩=>hc pins s1 σ H1 vs us Q I1 r1 q1) he hpl
theorem G_(hc:CD X (.type T) r)(hg:Gl X x)(hm:X.mg x=none)(hv:bootBuiltins x=some (.type T))(ha:PA X (e::es) t)(hn:x ≠ "__name__":=by decide)(hdb:(x==("__debug__" : Str))=false:=by decide)
  (he:starEach (e::es) X.env=(false,eval e X.env)::starEach es X.env:=by rfl) (hpl:(backTo pos (starEach es X.env)).any (·.1)=false:=by rfl):PE X (.Call (.Name x p) (e::es) [] pos) (SF r t):=by
 intro pins s σ H Q I h
 refine wpAny_Call_Name_kw (Fw I hg hm hv ?_ hn hdb)
 exact PyProof.Rows.callWith_type1 (BL (ha pos pins s σ H _ I h) fun us s1 ⟨vs,H1,I1,r1,q1⟩=>hc pins s1 σ H1 vs us Q I1 r1 q1) he hpl
end
end L2
namespace HT
open PySem PyProof.Rows
section
open PySem.SeqAt
open PySem.AutoSeq1 (wpAny_loadPart')
open PySem.MeetsSeq PySem.MeetsSeq2 PySem.MeetsSeq3
end
section
variable {prog:Program}{w:World}{A:Around}{E:Value->Shared->Prop}{s:Shared}
theorem cat_tup{t b:Addr}{vs ws:List Value}{Q:Value->Shared->Prop}(ht:IsTup s.heap t vs.toArray)(hb:IsTup s.heap b ws.toArray)(hv:vs≠[])
  (h1:ws=[]->Q (.ref t) s) (h2:ws≠[]->Q (.ref s.heap.objs.size) { s with heap:=s.heap.push { cls:=.type "tuple",data:=.seq (vs++ws).toArray } })
  (hsz:vs.length+ws.length<=sizeLine):wpAny (model prog w) A (binaryOp .Add (.ref t) (.ref b)) Q E s:=by
 obtain⟨⟨cls,dd,data,sl⟩,ho,hc,n,hd⟩:=id ht
 obtain⟨⟨cls2,dd2,data2,sl2⟩,ho2,hc2,n2,hd2⟩:=id hb
 simp only at hc hd hc2 hd2
 subst hc hd hc2 hd2
 have e:vs.toArray++ws.toArray=(vs++ws).toArray:=by simp
 by_cases hw:ws=[]
 ·exact concat_meets ⟨_,ho,rfl⟩ ⟨_,ho2,rfl⟩ noFill_tuple_add seq_tuple_add PySem.F.slot_tuple_add PySem.F.entry_tuple_add (PySem.F.args_tuple_add_2 _ _)
   (tuple_addW1 t b vs.toArray ws.toArray n n2 dd dd2 sl sl2 (by simpa using hv) (by simp [hw])) ⟨ho,ho2,h1 hw⟩
 ·refine concat_meets ⟨_,ho,rfl⟩ ⟨_,ho2,rfl⟩ noFill_tuple_add seq_tuple_add PySem.F.slot_tuple_add PySem.F.entry_tuple_add (PySem.F.args_tuple_add_2 _ _)
   (tuple_addW2 t b vs.toArray ws.toArray n n2 dd dd2 sl sl2 (by simpa using hv) (by simpa using hw) (by rw [List.size_toArray,List.size_toArray]; exact hsz)) ⟨ho,ho2,?_⟩
  rw [e]
  exact h2 hw
def sIx(n d:Nat):Option Int->Nat
 | none=>d
 | some v=>if v<0 then (v+(n:Int)).toNat else min v.toNat n
theorem sIx_none(n d:Nat):sIx n d none=d:=rfl
theorem sIx_nat(n d k:Nat):sIx n d (some (k:Int))=min k n:=by
 show (if (k:Int)<0 then ((k:Int)+(n:Int)).toNat else min (k:Int).toNat n)=min k n
 rw [if_neg (by omega),Int.toNat_natCast]
theorem Ps(n d:Nat)(hd:d<=n)(o:Option Int):sIx n d o<=n:=by
 cases o with
 | none=>exact hd
 | some v =>
  show (if v<0 then (v+(n:Int)).toNat else min v.toNat n)<=n
  by_cases hv:v<0
  ·rw [if_pos hv]; omega
  ·rw [if_neg hv]; exact Nat.min_le_right _ _
theorem LI(v:Int)(n d:Nat):(if v<0 then max (v+(n:Int)) 0 else min v (n:Int))=((sIx n d (some v):Nat):Int):=by
 show (if v<0 then max (v+(n:Int)) 0 else min v (n:Int))=(((if v<0 then (v+(n:Int)).toNat else min v.toNat n):Nat):Int)
 by_cases hv:v<0
 ·simp only [if_pos hv]; omega
 ·simp only [if_neg hv]; omega
theorem KO(lo hi:Option Int)(n:Nat):Builtin.Slice.sliceAdjust lo hi 1 (n:Int)=(((sIx n 0 lo:Nat):Int),((sIx n n hi:Nat):Int)):=by
 have h1:¬((1:Int)<0):=by omega
 unfold Builtin.Slice.sliceAdjust
 simp only [h1,if_false]
 refine Prod.ext ?_ ?_
 ·cases lo with
  | none=>rfl
  | some v=>exact LI v n 0
 ·cases hi with
  | none=>rfl
  | some v=>exact LI v n n
theorem Jx(i j:Nat):Builtin.Slice.slicePlaces (i:Int) (j:Int) 1=j - i:=by
 unfold Builtin.Slice.slicePlaces
 have h1:(1:Int) > 0:=by omega
 simp only [h1,if_true,Int.ediv_one]
 split <;> omega
theorem slicePart_{v:Value}{o:Option Int}{Q:Option Int->Shared->Prop}(p:IsPart v o)(h:Q o s):wpAny (model prog w) A (Builtin.Slice.slicePartIndex v) Q E s:=by
 cases p with
 | none=>exact slicePart_none h
 | int i t=>exact slicePart_int h
theorem sliceApplied_gen{sl:Addr}{vl vu:Value}{lo hi:Option Int}{n:Nat}{Q:Int×Int×Nat->Shared->Prop}(hs:s.heap.IsSliceOf sl vl vu .none)(pl:IsPart vl lo)(pu:IsPart vu hi)
  (h:Q (((sIx n 0 lo:Nat):Int),1,sIx n n hi - sIx n 0 lo) s):wpAny (model prog w) A (Builtin.Slice.sliceApplied (.ref sl) (pure (n:Int))) Q E s:=by
 obtain⟨os,hos,hcs,hds⟩:=id hs
 unfold Builtin.Slice.sliceApplied Builtin.Slice.sliceFields
 refine wpAny_bind (wpAny_bind (wpAny_field hos hds (x:=vl) rfl (wpAny_bind (wpAny_field hos hds (x:=vu) rfl (wpAny_bind (wpAny_field hos hds (x:=.none) rfl (wpAny_pure ?_)))))))
 refine wpAny_bind (slicePart_none ?_)
 show wpAny _ _ (if ((1:Int)==0)=true then _ else _) _ _ s
 rw [if_neg (by decide)]
 refine wpAny_bind (slicePart_ pl (wpAny_bind (slicePart_ pu (wpAny_bind (wpAny_pure ?_)))))
 show wpAny _ _ (match Builtin.Slice.sliceAdjust lo hi 1 (n:Int) with | (lo,hi)=>pure (lo,(1:Int),Builtin.Slice.slicePlaces lo hi 1)) _ _ s
 rw [KO lo hi n]
 show wpAny _ _ (pure (((sIx n 0 lo:Nat):Int),(1:Int),Builtin.Slice.slicePlaces ((sIx n 0 lo:Nat):Int) ((sIx n n hi:Nat):Int) 1)) _ _ s
 rw [Jx]
 exact wpAny_pure h
theorem Mw(xs:Array Value)(i k:Nat):((List.range k).filterMap fun(m:Nat)=>xs[((i:Int)+(m:Int)*1).toNat]?).toArray=((xs.toList.drop i).take k).toArray:=by
 have e:(fun(m:Nat)=>xs[((i:Int)+(m:Int)*1).toNat]?)=fun m=>xs[i+m]?:=by
  funext m
  have:((i:Int)+(m:Int)*1).toNat=i+m:=by omega
  rw [this]
 rw [e]
 have:=pick_run xs i k
 rw [List.filterMap_map] at this
 have e2:((fun x=>xs[x]?)∘fun x=>i+x)=fun m=>xs[i+m]?:=rfl
 rw [e2] at this
 rw [this]
theorem getItem_tuple_cut{t sl:Addr}{items:Array Value}{vl vu:Value}{lo hi:Option Int}{Q:Value->Shared->Prop}(ht:IsTup s.heap t items)(hs:s.heap.IsSliceOf sl vl vu .none)(pl:IsPart vl lo)(pu:IsPart vu hi)
  (hw:¬(sIx items.size 0 lo=0/\sIx items.size items.size hi=items.size))
  (h:Q (.ref s.heap.objs.size) { s with heap:=s.heap.push { cls:=.type "tuple",data:=.seq ((items.toList.drop (sIx items.size 0 lo)).take (sIx items.size items.size hi - sIx items.size 0 lo)).toArray } })
  (hsz:items.size<=sizeLine):wpAny (model prog w) A (getItem (.ref t) (.ref sl)) Q E s:=by
 have htake:sizeOk (.seq ((items.toList.drop (sIx items.size 0 lo)).take (sIx items.size items.size hi - sIx items.size 0 lo)).toArray):=by
  show ((items.toList.drop (sIx items.size 0 lo)).take (sIx items.size items.size hi - sIx items.size 0 lo)).toArray.size<=sizeLine
  rw [List.size_toArray,List.length_take,List.length_drop,Array.length_toList]
  omega
 have hj:sIx items.size items.size hi<=items.size:=Ps _ _ (Nat.le_refl _) hi
 obtain⟨os,hos,hcs,hds⟩:=id hs
 have hTs:s.TypeIs (.ref sl) "slice":=⟨os,hos,hcs⟩
 unfold getItem
 try with_reducible refine wpAny_holding ?_
 first | refine wpAny_bind (wpAny_pure ?_) | skip
 refine wpAny_bind (wpAny_sequenceKey ht.typeIs (by decide) ?_)
 refine wpAny_bind (wpAny_callSpecial?_slot (name:=Str.ofString "__getitem__") ht.typeIs PyProof.Rows.slot_tuple_getitem
  (wpAny_call_entry PyProof.Rows.slot_tuple_getitem ht.typeIs entry_tuple_getitem ?_ (args_tuple_getitem _ _)))
 show wpAny _ _ (Builtin.Tuple.tupleItemsOf (.ref t) >>= _) _ _ s
 refine wpAny_bind (tupleItemsOf_ ht ?_)
 refine wpAny_bind (wpAny_typeOf hTs ?_)
 rw [if_pos (by decide)]
 refine wpAny_bind (sliceApplied_gen hs pl pu ?_)
 have hno:¬((((sIx items.size 0 lo:Nat):Int)==0&&(1:Int)==1&&(sIx items.size items.size hi - sIx items.size 0 lo)==items.size)=true):=by
  intro q
  rw [Bool.and_eq_true,Bool.and_eq_true] at q
  have q1:((sIx items.size 0 lo:Nat):Int)=0:=eq_of_beq q.1.1
  have q2:sIx items.size items.size hi - sIx items.size 0 lo=items.size:=eq_of_beq q.2
  exact hw ⟨by omega,by omega⟩
 show wpAny _ _ (if (((sIx items.size 0 lo:Nat):Int)==0&&(1:Int)==1&&(sIx items.size items.size hi - sIx items.size 0 lo)==items.size)=true then _ else _) _ _ s
 rw [if_neg hno,Mw]
 first
  | exact wpAny_bind (m:=Builtin.Tuple.tupleExact _) (wpAny_newObj_type (wpAny_pure ⟨_,rfl,wpAny_pure h⟩) htake)
  | exact wpAny_bind (m:=Builtin.Tuple.tupleExact _) (wpAny_newObj_type (wpAny_bind (wpAny_pure (wpAny_pure ⟨_,rfl,wpAny_pure h⟩))) htake)
  | exact wpAny_bind (wpAny_bind (m:=Builtin.Tuple.tupleExact _) (wpAny_newObj_type (wpAny_pure (wpAny_pure ⟨_,rfl,wpAny_pure h⟩)) htake))
  | exact wpAny_bind (wpAny_bind (m:=Builtin.Tuple.tupleExact _) (wpAny_newObj_type (wpAny_pure ⟨_,rfl,wpAny_pure h⟩) htake))
end
end HT
namespace L2
open PySem PySem.Spec PyProof.Rows
abbrev TO:=St->Hp->(Option Int->Hp->Prop)->Prop
def PO(X:Cx)(e:Option Expr)(t:TO):Prop :=
 ∀(pins:List (Addr×Obj)) (s:Shared) (σ:St) (H:Hp) (Q:Option Int->Hp->Prop),Inv X pins σ H s->t σ H Q ->
  wpAny (model X.prog X.w) X.A (evalPart e X.env) (fun u s'=>∃o H',Inv X pins σ H' s'/\IsPart u o/\Q o H') X.xe s
def N6:TO:=fun _ H Q=>Q none H
def Q3(t:TE):TO:=fun σ H Q=>t σ H fun x H1=>∃i,x=.int i/\Q (some i) H1
section
variable {X:Cx}{e:Expr}{te:TE}{lo hi:Option Expr}{tl th:TO}{pos p2:Pos}
theorem Km:PO X none N6:=by
 intro pins s σ H Q I h
 rw [evalPart_none]
 exact wpAny_pure ⟨none,H,I,.none,h⟩
theorem Kl(h:PE X e te):PO X (some e) (Q3 te):=by
 intro pins s σ H Q I hw
 rw [evalPart_some]
 refine BL (h pins s σ H _ I hw) fun u s1 ⟨x,H1,I1,r1,q1⟩=>?_
 obtain⟨i,rfl,q⟩:=q1
 obtain⟨t,rfl⟩:=r1
 exact⟨some i,H1,I1,.int i t,q⟩
def SlR(X:Cx)(r:V->Option Int->Option Int->Hp->VK->Prop):Prop :=
 ∀(pins:List (Addr×Obj)) (s:Shared) (σ:St) (H:Hp) (x:V) (v vl vu:Value) (lo hi:Option Int) (sl:Addr) (Q:VK),Inv X pins σ H s->RelV x v->s.heap.IsSliceOf sl vl vu .none->IsPart vl lo->IsPart vu hi->r x lo hi H Q ->
  ∃T id,typeLookup (.type T) "__getitem__"=pure (some (.builtin id))/\s.TypeIs v T/\wpAny (model X.prog X.w) X.A (getItem v (.ref sl)) (EP X pins σ Q) X.xe s
theorem SlR.or{r r':V->Option Int->Option Int->Hp->VK->Prop}(h:SlR X r)(h':SlR X r'):SlR X (fun x lo hi H Q=>r x lo hi H Q\/r' x lo hi H Q):=by
 intro pins s σ H x v vl vu lo hi sl Q I rx hs pl pu q
 rcases q with q | q
 ·exact h pins s σ H x v vl vu lo hi sl Q I rx hs pl pu q
 ·exact h' pins s σ H x v vl vu lo hi sl Q I rx hs pl pu q
def TL(r:V->Option Int->Option Int->Hp->VK->Prop)(te:TE)(tl th:TO):TE:=fun σ H Q=>te σ H fun x H1=>tl σ H1 fun l H2=>th σ H2 fun u H3=>r x l u H3 Q
theorem JE{r:V->Option Int->Option Int->Hp->VK->Prop}(hr:SlR X r)(he:PE X e te)(hl:PO X lo tl)(hu:PO X hi th):PE X (.Subscript e (.Slice lo hi none p2) pos) (TL r te tl th):=by
 intro pins s σ H Q I h
 refine Subscript_ (BL (he pins s σ H _ I h) fun v s1 ⟨x,H1,I1,r1,q1⟩=>?_)
 refine wpAny_Slice (BL (hl pins s1 σ H1 _ I1 q1) fun vl s2 ⟨l,H2,I2,pl,q2⟩=>BL (hu pins s2 σ H2 _ I2 q2) fun vu s3 ⟨u,H3,I3,pu,q3⟩=>?_)
 rw [evalPart_none]
 refine wpAny_pure ?_
 have I4:Inv X pins σ H3 { s3 with heap:=s3.heap.push { cls:=.type "slice",data:=.fields #[vl,vu,.none] } }:=I3.kept (t':=s3.toks) fun b ob q=>Heap.get?_push_of_some _ q
 obtain⟨T,id,hT,ht,hg⟩:=hr pins { s3 with heap:=s3.heap.push { cls:=.type "slice",data:=.fields #[vl,vu,.none] } } σ H3 x v vl vu l u s3.heap.objs.size Q I4 r1 (Heap.IsSliceOf.new ..) pl pu q3
 show wpAny (model X.prog X.w) X.A (subscriptTail e (.Slice lo hi none p2) v (.ref s3.heap.objs.size)) (EP X pins σ Q) X.xe { s3 with heap:=s3.heap.push { cls:=.type "slice",data:=.fields #[vl,vu,.none] } }
 exact tail_any (ops:=[.ref s3.heap.objs.size,v]) ht hT hg (by with_unfolding_all rfl)
def G1(xs:List V)(lo hi:Option Int):List V:=(xs.drop (HT.sIx xs.length 0 lo)).take (HT.sIx xs.length xs.length hi - HT.sIx xs.length 0 lo)
theorem FG(xs:List V)(lo hi:Option Int):(G1 xs lo hi).length<=xs.length:=by
 unfold G1
 rw [List.length_take,List.length_drop]
 omega
def RF(K:Frag):V->Option Int->Option Int->Hp->VK->Prop:=fun x lo hi H Q=>∃a xs,x=.ref a/\SqT K H a xs /\
 ¬(HT.sIx xs.length 0 lo=0/\HT.sIx xs.length xs.length hi=xs.length)/\∀p,H p=none->Q (.ref p) (A_ H p (.tup (G1 xs lo hi)))
theorem sl_tup:SlR X (RF X.K):=by
 intro pins s σ H x v vl vu lo hi sl Q I rx hs pl pu h
 obtain⟨a,xs,rfl,hx,hw,q⟩:=h
 cases rx
 obtain⟨its,r,ht,hz⟩:=I.tuple hx
 have hlen:its.toArray.size=xs.length:=by rw [List.size_toArray]; exact r.length.symm
 refine⟨"tuple",_,PyProof.Rows.slot_tuple_getitem.lookup,ht.typeIs,?_⟩
 refine HT.getItem_tuple_cut ht hs pl pu (by rw [hlen]; exact hw) ?_ (by rw [hlen]; exact hz)
 rw [hlen]
 refine⟨.ref s.heap.objs.size,_,I.laid (t':=s.toks) (o:=.tup (G1 xs lo hi)) (fun b ob q=>Heap.get?_push_of_some _ q) (Nat.le_refl _) ?_,rfl,q _ (I.hok.fresh (Nat.le_refl _))⟩
 exact⟨Nat.le_trans (FG xs lo hi) hz,_,(r.drop (HT.sIx xs.length 0 lo)).take (HT.sIx xs.length xs.length hi - HT.sIx xs.length 0 lo),IsTupN.new _ _⟩
def Mm(K:Frag):R2:=fun x y H Q=>∃a b xs ys,x=.ref a/\y=.ref b/\SqT K H a xs/\SqT K H b ys/\xs≠[]/\xs.length+ys.length<=sizeLine /\
 (ys=[]->Q (.ref a) H)/\(ys≠[]->∀p,H p=none->Q (.ref p) (A_ H p (.tup (xs++ys))))
theorem Vals.nil_iff{xs:List V}{us:List Value}(r:Vals xs us):us=[]↔xs=[]:=by
 cases r with
 | nil=>simp
 | cons _ _=>simp
theorem op_catT:OpR X (binaryOp .Add) (Mm X.K):=by
 intro pins s σ H x y v u Q I rx ry h
 obtain⟨a,b,xs,ys,rfl,rfl,ha,hb,hx,hz,q1,q2⟩:=h
 cases rx
 cases ry
 obtain⟨its,r1,p1,_⟩:=I.tuple ha
 obtain⟨its2,r2,p2,_⟩:=I.tuple hb
 refine HT.cat_tup p1 p2 (fun z=>hx (r1.nil_iff.mp z)) (fun z=>⟨.ref a,H,I,rfl,q1 (r2.nil_iff.mp z)⟩) (fun z=>?_) (by rw [← r1.length,← r2.length]; exact hz)
 refine⟨.ref s.heap.objs.size,_,I.laid (t':=s.toks) (o:=.tup (xs++ys)) (fun b ob q=>Heap.get?_push_of_some _ q) (Nat.le_refl _) ?_,rfl,q2 (fun w=>z (r2.nil_iff.mpr w)) _ (I.hok.fresh (Nat.le_refl _))⟩
 exact⟨by rw [List.length_append]; exact hz,_,r1.append r2,IsTupN.new _ _⟩
end
def PJ(n:Nat)(i:Int):Option Nat:=if 0<=i then (if i<n then some i.toNat else none) else if -(n:Int)<=i then some (i+n).toNat else none
def atI{α:Type}(xs:List α)(i:Int):Option α:=(PJ xs.length i).bind fun j=>xs[j]?
theorem Kz{n:Nat}{i:Int}{j:Nat}(h:PJ n i=some j):seqIndex? i n=some j/\j<n/\-(n:Int)<=i/\i<n:=by
 unfold PJ at h
 by_cases h0:0<=i
 ·rw [if_pos h0] at h
  by_cases h1:i<n
  ·rw [if_pos h1] at h
   have e:i.toNat=j:=Option.some.inj h
   exact⟨by rw [seqIndex_of h0 h1,e],by omega,by omega,h1⟩
  ·rw [if_neg h1] at h; cases h
 ·rw [if_neg h0] at h
  by_cases h1:-(n:Int)<=i
  ·rw [if_pos h1] at h
   have e:(i+n).toNat=j:=Option.some.inj h
   exact⟨by rw [seqIndex_neg (by omega) h1,e],by omega,h1,by omega⟩
  ·rw [if_neg h1] at h; cases h
theorem IZ{α:Type}{xs:List α}{i:Int}{v:α}(h:atI xs i=some v):∃j,seqIndex? i xs.length=some j/\xs[j]?=some v/\j<xs.length/\-(xs.length:Int)<=i/\i<xs.length:=by
 unfold atI at h
 cases e:PJ xs.length i with
 | none=>rw [e] at h; cases h
 | some j =>
  rw [e] at h
  obtain⟨h1,h2,h3,h4⟩:=Kz e
  exact⟨j,h1,h,h2,h3,h4⟩
theorem AV{α:Type}{xs:List α}{j:Nat}{v:α}(h:xs[j]?=some v):atI xs (j:Int)=some v:=by
 have hj:j<xs.length:=(List.getElem?_eq_some_iff.mp h).1
 have e:PJ xs.length (j:Int)=some j:=by
  unfold PJ
  rw [if_pos (by omega),if_pos (by omega)]; simp
 unfold atI; rw [e]; exact h
def LQ(b:Expr):Prop:=∀o i,subscripted b false o i=operate [o,i] (getItem o i)
def IxR(X:Cx)(r:R2):Prop :=
 ∀(value slice:Expr) (pins:List (Addr×Obj)) (s:Shared) (σ:St) (H:Hp) (x y:V) (v u:Value) (Q:VK),Inv X pins σ H s->RelV x v->RelV y u->r x y H Q ->
  subscripted slice false v u=operate [v,u] (getItem v u)->wpAny (model X.prog X.w) X.A (subscriptTail value slice v u) (EP X pins σ Q) X.xe s
def Qs(X:Cx)(id:String)(r:V->List V->Hp->VK->Prop):Prop :=
 ∀(pins:List (Addr×Obj)) (s:Shared) (σ:St) (H:Hp) (x:V) (xs:List V) (v:Value) (us:List Value) (Q:VK),Inv X pins σ H s->RelV x v->Vals xs us->r x xs H Q ->
  wpAny (model X.prog X.w) X.A (call (.builtin id) (v::us)) (EP X pins σ Q) X.xe s
section
variable {X:Cx}{a b:Expr}{ta tb:TE}{pos:Pos}
theorem IxR.or{r r':R2}(h:IxR X r)(h':IxR X r'):IxR X (fun x y H Q=>r x y H Q\/r' x y H Q):=by
 intro value slice pins s σ H x y v u Q I rx ry q hs
 rcases q with q | q
 ·exact h value slice pins s σ H x y v u Q I rx ry q hs
 ·exact h' value slice pins s σ H x y v u Q I rx ry q hs
theorem DN{r:R2}(hr:IxR X r)(ha:PE X a ta)(hb:PE X b tb)(hs:LQ b):PE X (.Subscript a b pos) (C8 r ta tb):=by
 intro pins s σ H Q I h
 exact Subscript_ (Qf ha hb I h fun v u s2 x y H2 I2 rx ry q=>hr a b pins s2 σ H2 x y v u Q I2 rx ry q (hs _ _))
def Pz(K:Frag):R2:=fun x y H Q=>∃p xs i v,x=.ref p/\y=.int i/\SqL K H p xs/\atI xs i=some v/\Q v H
def RL(K:Frag):R2:=fun x y H Q=>∃p xs i v,x=.ref p/\y=.int i/\SqT K H p xs/\atI xs i=some v/\Q v H
def RM:R2:=fun x y H Q=>∃z i c,x=.str z/\y=.int i/\z.length<=sizeLine/\atI z.cps.toList i=some c/\Q (.str ⟨#[c]⟩) H
theorem ix_list:IxR X (Pz X.K):=by
 intro value slice pins s σ H x y v u Q I rx ry h hs
 obtain⟨p,xs,i,z,rfl,rfl,hq,he,q⟩:=h
 cases rx
 obtain⟨t,rfl⟩:=ry
 obtain⟨its,r,pl,hz⟩:=I.list hq
 obtain⟨j,h1,h2,h3,h4,h5⟩:=IZ he
 obtain⟨w,ew,rw'⟩:=r.get h2
 have hl:=r.length
 have hn:=Ez
 have fin:EP X pins σ Q w s:=⟨z,H,I,rw',q⟩
 by_cases h0:0<=i
 ·have hj:i.toNat=j:=by
   rw [seqIndex_of h0 h5] at h1
   exact Option.some.inj h1
  exact item_listR pl.isList h0 (by omega) (by rw [hj]; simpa using ew) fin hs
 ·have hj:(i+(its.toArray.size:Int)).toNat=j:=by
   rw [seqIndex_neg (by omega) h4] at h1
   rw [List.size_toArray,← hl]
   exact Option.some.inj h1
  exact subscriptTail_builtinR (x:=w) pl.isList.typeIs slot_list_getitem.lookup
   (wpAny_getItem_list_neg (Q:=fun r s'=>r=w/\EP X pins σ Q r s') pl.isList (by omega) (by rw [List.size_toArray] <;> omega) (by omega) (by rw [hj]; simpa using ew) ⟨rfl,fin⟩) hs
theorem ix_tup:IxR X (RL X.K):=by
 intro value slice pins s σ H x y v u Q I rx ry h hs
 obtain⟨p,xs,i,z,rfl,rfl,hq,he,q⟩:=h
 cases rx
 obtain⟨t,rfl⟩:=ry
 obtain⟨its,r,pl,hz⟩:=I.tuple hq
 obtain⟨j,h1,h2,h3,h4,h5⟩:=IZ he
 obtain⟨w,ew,rw'⟩:=r.get h2
 have hl:=r.length
 have hn:=Ez
 have fin:EP X pins σ Q w s:=⟨z,H,I,rw',q⟩
 exact subscriptTail_builtinR (x:=w) pl.typeIs slot_tuple_getitem.lookup
  (getItem_tuple (j:=j) (Q:=fun r s'=>r=w/\EP X pins σ Q r s') pl (by omega) (by omega) (by rw [List.size_toArray,← hl]; exact h1) (by simpa using ew) ⟨rfl,fin⟩) hs
theorem QQ:IxR X RM:=by
 intro value slice pins s σ H x y v u Q I rx ry h hs
 obtain⟨z,i,c,rfl,rfl,hz,he,q⟩:=h
 obtain⟨t,rfl⟩:=rx
 obtain⟨t',rfl⟩:=ry
 obtain⟨j,h1,h2,h3,h4,h5⟩:=IZ he
 have hl:z.cps.toList.length=z.length:=by simp [Str.length]
 rw [hl] at h1 h4 h5
 have hn:=Ez
 exact tail_any (typeIs_str s z t) slot_str_getitem.lookup (getItem_str (c:=c) (by
  have e1:decide (i < -(2 ^ 63:Int))=false:=decide_eq_false (by omega)
  have e2:decide (i≥2 ^ 63)=false:=decide_eq_false (by omega)
  rw [e1,e2,Bool.or_false]) (by rw [h1]; simpa using h2) ⟨.str ⟨#[c]⟩,H,I.tok _,⟨_,rfl⟩,q⟩) hs
def S8(K:Frag):R2:=fun x y H Q=>Pz K x y H Q\/RL K x y H Q\/RM x y H Q
theorem Ab:IxR X (S8 X.K):=ix_list.or (ix_tup.or QQ)
theorem J6(its:List Value)(n j:Nat)(u:Value):Obj.mapSeq (·.setIfInBounds j u) { cls:=.type "list",data:=.seq its.toArray n }={ cls:=.type "list",data:=.seq (its.set j u).toArray n }:=by
 simp [Obj.mapSeq]
theorem Inv.lst{pins:List (Addr×Obj)}{σ:St}{H:Hp}{s:Shared}{p:Addr}{xs:List V}(I:Inv X pins σ H s)(h:H p=some (.lst xs)) :
  ∃(its:List Value) (n:Nat),Vals xs its/\s.heap.get? p=some { cls:=.type "list",data:=.seq its.toArray n }/\xs.length<=sizeLine:=by
 obtain⟨z,its,n,r,e⟩:=I.hok p _ h
 exact⟨its,n,r,e,z⟩
theorem Inv.lstUpd{pins:List (Addr×Obj)}{σ:St}{H:Hp}{s:Shared}{p:Addr}{xs ys:List V}{its its':List Value}{n n':Nat}{f:Obj->Obj}(I:Inv X pins σ H s)(h:H p=some (.lst xs))
  (ho:s.heap.get? p=some { cls:=.type "list",data:=.seq its.toArray n }) (hf:f { cls:=.type "list",data:=.seq its.toArray n }={ cls:=.type "list",data:=.seq its'.toArray n' }) (r:Vals ys its') (hz:ys.length<=sizeLine) (t:Nat) :
  Inv X pins σ (A_ H p (.lst ys)) { s with heap:=s.heap.update p f,toks:=t }:=by
 have e:(s.heap.update p f).get? p=some { cls:=.type "list",data:=.seq its'.toArray n' }:=by
  rw [Heap.get?_update_self f ho (by rw [hf] <;> rfl),hf]
 refine I.write (x:=p) (e:=p) (by rw [h]; trivial) (.inl rfl) (fun b u hb q=>(Heap.get?_update_other _ _ (Ne.symm hb)).trans q) ⟨_,e⟩ ?_
 exact⟨hz,its',n',r,e⟩
def O0:V->V->V->Hp->(Hp->Prop)->Prop:=fun o i v H Q=>∃p xs k j,o=.ref p/\i=.int k/\H p=some (.lst xs)/\PJ xs.length k=some j/\Q (A_ H p (.lst (xs.set j v)))
theorem set_list:R6 X O0:=by
 intro pins s σ H o i v ov iv u Q I ro ri rv h
 obtain⟨p,xs,k,j,rfl,rfl,hp,hj,q⟩:=h
 cases ro
 obtain⟨t,rfl⟩:=ri
 obtain⟨its,n,r,ho,hz⟩:=I.lst hp
 obtain⟨h1,h2,h3,h4⟩:=Kz hj
 have hl:=r.length
 have hn:=Ez
 have I':Inv X pins σ (A_ H p (.lst (xs.set j v))) { s with heap:=s.heap.update p (Obj.mapSeq (·.setIfInBounds j u)) } :=
  I.lstUpd hp ho (J6 its n j u) (r.set rv j) (by rw [List.length_set]; exact hz) s.toks
 by_cases h0:0<=k
 ·have hk:k.toNat=j:=by
   rw [seqIndex_of h0 h4] at h1
   exact Option.some.inj h1
  exact PySem.W.ki_setAt ho h0 (by omega) (by rw [List.size_toArray,← hl]; exact h4) (by rw [hk]; exact⟨_,I',q⟩)
 ·have hk:(k+(its.toArray.size:Int)).toNat=j:=by
   rw [seqIndex_neg (by omega) h3] at h1
   rw [List.size_toArray,← hl]
   exact Option.some.inj h1
  exact PySem.W.ki_setBack ho (by omega) (by rw [List.size_toArray,← hl]; exact h3) (by omega) (by rw [hk]; exact⟨_,I',q⟩)
theorem Hb(lo hi:Option Int)(n:Nat):(sliceBounds lo hi none n).1=((HT.sIx n 0 lo:Nat):Int)/\(sliceBounds lo hi none n).2.1=((HT.sIx n n hi:Nat):Int)/\(sliceBounds lo hi none n).2.2=1:=by
 refine⟨?_,?_,rfl⟩
 ·cases lo with
  | none=>simp [sliceBounds,HT.sIx]
  | some i =>
   simp only [sliceBounds,HT.sIx,Option.getD_none,show (1:Int) > 0 by decide,if_true]
   by_cases h:i<0
   ·simp only [h,if_true] <;> omega
   ·simp only [h,if_false] <;> omega
 ·cases hi with
  | none=>simp [sliceBounds,HT.sIx]
  | some i =>
   simp only [sliceBounds,HT.sIx,Option.getD_none,show (1:Int) > 0 by decide,if_true]
   by_cases h:i<0
   ·simp only [h,if_true] <;> omega
   ·simp only [h,if_false] <;> omega
theorem Gg(its:List Value)(lo hi:Option Int):slicePick its.toArray lo hi none=((its.drop (HT.sIx its.length 0 lo)).take (HT.sIx its.length its.length hi - HT.sIx its.length 0 lo)).toArray:=by
 obtain⟨h1,h2,h3⟩:=Hb lo hi its.toArray.size
 unfold slicePick
 rw [h1,h2,h3]
 simp only [sliceRange_one,pick_run,List.size_toArray] <;> rfl
def RG(K:Frag):V->Option Int->Option Int->Hp->VK->Prop:=fun x lo hi H Q=>∃a xs,x=.ref a/\SqL K H a xs/\∀p,H p=none->Q (.ref p) (A_ H p (.lst (G1 xs lo hi)))
theorem sl_list:SlR X (RG X.K):=by
 intro pins s σ H x v vl vu lo hi sl Q I rx hs pl pu h
 obtain⟨a,xs,rfl,hx,q⟩:=h
 cases rx
 obtain⟨its,r,ht,hz⟩:=I.list hx
 have hlen:=r.length
 refine⟨"list",_,slot_list_getitem.lookup,ht.isList.typeIs,?_⟩
 refine wpAny_getItem_list_slice ht.isList hs pl pu .none (by simp) ?_ (by rw [List.size_toArray] <;> omega)
 rw [Gg,← hlen]
 refine⟨.ref s.heap.objs.size,_,I.laid (t':=s.toks) (o:=.lst (G1 xs lo hi)) (fun b ob q=>Heap.get?_push_of_some _ q) (Nat.le_refl _) ?_,rfl,q _ (I.hok.fresh (Nat.le_refl _))⟩
 exact⟨Nat.le_trans (FG xs lo hi) hz,_,0,(r.drop (HT.sIx xs.length 0 lo)).take (HT.sIx xs.length xs.length hi - HT.sIx xs.length 0 lo),Heap.get?_push_size _ rfl⟩
def PK:V->Bool
 | .non=>true
 | .bl _=>true
 | .int _=>true
 | .str _=>true
 | _=>false
def Rn:V->V->Bool
 | .non,.non=>true
 | .bl a,.bl b=>a==b
 | .bl a,.int b=>(if a then 1 else 0)==b
 | .int a,.bl b=>a==(if b then 1 else 0)
 | .int a,.int b=>a==b
 | .str a,.str b=>a==b
 | _,_=>false
theorem IJ{A:Around}{s:Shared}{y x:V}{u v:Value}(ry:RelV y u)(rx:RelV x v)(fy:PK y=true)(fx:PK x=true):SeqAt.EqAt A s u v (Rn y x):=by
 cases y with
 | non =>
  cases ry
  cases x with
  | non=>cases rx; exact SeqAt.EqAt.same _
  | bl b=>cases rx; exact SeqAt.EqAt.none_bool b
  | int b=>obtain⟨t,rfl⟩:=rx; exact SeqAt.EqAt.none_int b t
  | str b=>obtain⟨t,rfl⟩:=rx; exact SeqAt.EqAt.none_str b t
  | _=>exact absurd (show false=true from fx) Bool.false_ne_true
 | bl a =>
  cases ry
  cases x with
  | non=>cases rx; exact SeqAt.EqAt.bool_none a
  | bl b=>cases rx; exact SeqAt.EqAt.bool_bool a b
  | int b=>obtain⟨t,rfl⟩:=rx; exact SeqAt.EqAt.bool_int a b t
  | str b=>obtain⟨t,rfl⟩:=rx; exact SeqAt.EqAt.bool_str a b t
  | _=>exact absurd (show false=true from fx) Bool.false_ne_true
 | int a =>
  obtain⟨t',rfl⟩:=ry
  cases x with
  | non=>cases rx; exact SeqAt.EqAt.int_none a t'
  | bl b=>cases rx; exact SeqAt.EqAt.int_bool a t' b
  | int b=>obtain⟨t,rfl⟩:=rx; exact SeqAt.EqAt.int_int a t' b t
  | str b=>obtain⟨t,rfl⟩:=rx; exact SeqAt.EqAt.int_str a t' b t
  | _=>exact absurd (show false=true from fx) Bool.false_ne_true
 | str a =>
  obtain⟨t',rfl⟩:=ry
  cases x with
  | non=>cases rx; exact SeqAt.EqAt.str_none a t'
  | bl b=>cases rx; exact SeqAt.EqAt.str_bool a t' b
  | int b=>obtain⟨t,rfl⟩:=rx; exact SeqAt.EqAt.str_int a t' b t
  | str b=>obtain⟨t,rfl⟩:=rx; exact SeqAt.EqAt.str_str a t' b t
  | _=>exact absurd (show false=true from fx) Bool.false_ne_true
 | _=>exact absurd (show false=true from fy) Bool.false_ne_true
theorem DK:CD X (.type "list") (fun xs H Q=>∃p ys,xs=[.ref p]/\(SqL X.K H p ys\/SqT X.K H p ys)/\∀l,H l=none->Q (.ref l) (A_ H l (.lst ys))):=by
 intro pins s σ H xs us Q I r h
 obtain⟨p,ys,rfl,hq,q⟩:=h
 obtain⟨u,rfl,rx⟩:=vals1 r
 cases rx
 have fin:∀(its:List Value),Vals ys its->ys.length<=sizeLine->∀(h':Heap) (c':Nat),(∀b o',s.heap.get? b=some o'->h'.get? b=some o') ->
   h'.get? s.heap.objs.size=some { cls:=.type "list",dict:=none,data:=.seq its.toArray c',slots:=#[] }->EP X pins σ Q (.ref s.heap.objs.size) { s with heap:=h' }:=fun its r' hz h' c' kp e =>
  ⟨.ref s.heap.objs.size,_,I.laid (t':=s.toks) kp (Nat.le_refl _) (show ObjOk X.prog X.w _ h' _ (.lst ys) from⟨hz,its,c',r',e⟩),rfl,q _ (I.hok.fresh (Nat.le_refl _))⟩
 rcases hq with hq | hq
 ·obtain⟨its,r',pl,hz⟩:=I.list hq
  have hlen:=r'.length
  obtain⟨o,ho,hc,n,hd⟩:=pl.isList
  exact call_list_seq p (.inl rfl) ho hc hd (fun h' c' kp e=>fin its r' hz h' c' kp e) (by simp only [List.size_toArray] <;> omega)
 ·obtain⟨its,r',pl,hz⟩:=I.tuple hq
  have hlen:=r'.length
  obtain⟨o,ho,hc,n,hd⟩:=pl
  exact call_list_seq p (.inr rfl) ho hc hd (fun h' c' kp e=>fin its r' hz h' c' kp e) (by simp only [List.size_toArray] <;> omega)
theorem Au:CD X (.type "tuple") (fun xs H Q=>∃p ys,xs=[.ref p]/\((SqL X.K H p ys/\∀l,H l=none->Q (.ref l) (A_ H l (.tup ys)))\/(SqT X.K H p ys/\Q (.ref p) H))):=by
 intro pins s σ H xs us Q I r h
 obtain⟨p,ys,rfl,h⟩:=h
 obtain⟨u,rfl,rx⟩:=vals1 r
 cases rx
 rcases h with ⟨hq,q⟩ | ⟨hq,q⟩
 ·obtain⟨its,r',pl,hz⟩:=I.list hq
  have hlen:=r'.length
  refine call_tuple_list pl.isList (fun h' kp=>?_) (by simp only [List.size_toArray] <;> omega)
  have I1:Inv X pins σ H { s with heap:=h' }:=I.kept (t':=s.toks) kp
  have I2:Inv X pins σ (A_ H h'.objs.size (.tup ys)) { s with heap:=h'.push { cls:=.type "tuple",data:=.seq its.toArray } } :=
   I1.laid (t':=s.toks) (fun b o e=>Heap.get?_push_of_some _ e) (Nat.le_refl _) (show ObjOk X.prog X.w _ _ _ (.tup ys) from⟨hz,its,r',IsTupN.new _ _⟩)
  exact⟨.ref h'.objs.size,_,I2,rfl,q _ (I1.hok.fresh (Nat.le_refl _))⟩
 ·obtain⟨its,r',pl,hz⟩:=I.tuple hq
  exact call_tuple_same pl ⟨.ref p,H,I,rfl,q⟩
def SS(K:Frag)(T:String)(x:V)(H:Hp):Prop:=match x with
 | .str _=>T = "str"
 | .int _=>T = "int"
 | .ref p=>(T = "list"/\∃xs,SqL K H p xs)\/(T = "tuple"/\∃o,K.lookup p=some o/\o.cls=.type "tuple"/\o.dict=none) \/
   (T = "dict"/\((∃kvs,H p=some (.dK kvs))\/∃kvs,H p=some (.dT kvs)))\/(T = "set"/\∃S n,H p=some (.set S n))
 | _=>False
theorem Pj{pins:List (Addr×Obj)}{σ:St}{H:Hp}{s:Shared}{T:String}{x:V}{v:Value}(I:Inv X pins σ H s)(r:RelV x v)(ty:SS X.K T x H) :
  s.TypeIs v T/\∀a,v=.ref a->∃ob,s.heap.get? a=some ob/\ob.dict=none:=by
 cases x with
 | str z =>
  obtain⟨t,rfl⟩:=r
  cases (show T = "str" from ty)
  exact⟨typeIs_str s z t,fun _ e=>nomatch e⟩
 | int i =>
  obtain⟨t,rfl⟩:=r
  cases (show T = "int" from ty)
  exact⟨typeIs_int s i t,fun _ e=>nomatch e⟩
 | ref p =>
  cases r
  rcases ty with ⟨rfl,xs,hq⟩ | ⟨rfl,o,hk,hc,hd⟩ | ⟨rfl,hk⟩ | ⟨rfl,S,n,hk⟩
  ·obtain⟨its,_,pl,_⟩:=I.list hq
   refine⟨pl.isList.typeIs,fun a e=>?_⟩
   cases e
   obtain⟨o,n,e,c,hd,_⟩:=pl
   exact⟨o,e,hd⟩
  ·refine⟨⟨o,I.kIn p o hk,hc⟩,fun a e=>?_⟩
   cases e
   exact⟨o,I.kIn _ o hk,hd⟩
  ·have z:∃o,s.heap.get? p=some o/\o.ExactDict:=by
    rcases hk with ⟨kvs,hk⟩ | ⟨kvs,hk⟩
    ·obtain⟨_,_,_,_,o,_,_,e,ex,_⟩:=I.hok p _ hk
     exact⟨o,e,ex⟩
    ·obtain⟨_,_,_,_,o,_,_,e,ex,_⟩:=I.hok p _ hk
     exact⟨o,e,ex⟩
   obtain⟨o,e,ex⟩:=z
   refine⟨⟨o,e,ex.1⟩,fun a e2=>?_⟩
   cases e2
   exact⟨o,e,ex.2.1⟩
  ·obtain⟨o,_,_,_,e,ex,_⟩:=I.hok p _ hk
   refine⟨⟨o,e,ex.1⟩,fun a e2=>?_⟩
   cases e2
   exact⟨o,e,ex.2.1⟩
 | _=>exact False.elim ty
def TR(K:Frag)(T:String)(r:V->List V->Hp->VK->Prop)(to:TE)(t:TA):TE:=fun σ H Q=>to σ H fun x H1=>SS K T x H1/\t σ H1 fun xs H2=>r x xs H2 Q
variable {o e:Expr}{es:List Expr}{to:TE}{t:TA}{name:Str}{apos cpos:Pos}{T id:String}{r:V->List V->Hp->VK->Prop}
theorem PB(pa:PlainAttrs T)(slot:Slot T name id)(hty:typeOf (.builtin id)=pure (.type "method_descriptor"))(hm:Qs X id r)(ho:PE X o to)(ha:PA X (e::es) t)
  (hbase:attributeBase o name X.env (eval o X.env)=eval o X.env:=by rfl)
  (hfew:((backTo cpos (starEach (e::es) X.env)).all (fun x=>!x.1)&&(backToKw cpos (keywordEach [] X.env)).all (fun x=>x.1.isSome)
   && decide ((e::es).length+([]:List Keyword).length+(if ([]:List Keyword).isEmpty then 0 else 1)<30))=true:=by rfl)
  (hline:(apos.endLine==cpos.line)=true:=by rfl) (hs:starEach (e::es) X.env=(false,eval e X.env)::starEach es X.env:=by rfl) (hplain:(backTo cpos (starEach es X.env)).any (·.1)=false:=by rfl) :
  PE X (.Call (.Attribute o name apos) (e::es) [] cpos) (TR X.K T r to t):=by
 intro pins s σ H Q I h
 refine wpAny_Call_method_late hbase hfew hline rfl (BL (ho pins s σ H _ I h) fun v s1 ⟨x,H1,I1,r1,ty,q1⟩=>?_)
 obtain⟨h1,h2⟩:=Pj I1 r1 ty
 refine⟨T,id,pa,slot,hty,h1,h2,?_⟩
 have hA:=ha cpos pins s1 σ H1 _ I1 q1
 rw [hs] at hA ⊢
 refine Calls.callWith_builtin (by show (false||(backTo cpos (starEach es X.env)).any (·.1))=false; rw [hplain] <;> rfl) (Calls.evalArgs_plain ?_)
 exact BL hA fun us s2 ⟨vs,H2,I2,r2,q2⟩=>hm pins s2 σ H2 x vs v us Q I2 r1 r2 q2
end
def TV(X:Cx)(id:String)(r:V->List V->Hp->VK->Prop):Prop :=
 ∀(pins:List (Addr×Obj)) (s:Shared) (σ:St) (H:Hp) (x:V) (xs:List V) (v:Value) (us:List Value) (Q:VK),Inv X pins σ H s->RelV x v->Vals xs us->r x xs H Q ->
  wpAny (model X.prog X.w) X.A (call (.builtin id) (v::us)) (EP X pins σ Q) X.xe s
theorem Vals.one:∀{x:V} {us:List Value},Vals [x] us->∃u,us=[u]/\RelV x u
 | _,_,.cons r .nil=>⟨_,rfl,r⟩
theorem Vals.eraseIdx:∀{xs:List V} {us:List Value} (i:Nat),Vals xs us->Vals (xs.eraseIdx i) (us.eraseIdx i)
 | _,_,_,.nil=>.nil
 | _,_,0,.cons _ t=>t
 | _,_,i+1,.cons r t=>.cons r (Vals.eraseIdx i t)
theorem Vals.reverse{xs:List V}{us:List Value}(h:Vals xs us):Vals xs.reverse us.reverse:=by
 induction h with
 | nil=>exact .nil
 | cons r t ih=>rw [List.reverse_cons,List.reverse_cons]; exact Vals.append ih (.cons r .nil)
theorem HB{α:Type}:∀(l:List α) (i:Nat),(l.eraseIdx i).length<=l.length
 | [],_=>Nat.le_refl _
 | _::_,0=>Nat.le_succ _
 | _::r,i+1=>Nat.succ_le_succ (HB r i)
section
variable {X:Cx}{pins:List (Addr×Obj)}{σ:St}{H:Hp}{s:Shared}{l b:Addr}{xs ys zs:List V}
theorem Inv.lset{its its':List Value}{n:Nat}{f:Array Value->Array Value}{t':Nat}(I:Inv X pins σ H s)(hH:H l=some (.lst xs))
  (e:s.heap.get? l=some { cls:=.type "list",data:=.seq its.toArray n }) (hf:f its.toArray=its'.toArray) (hv:Vals ys its') (hz:ys.length<=sizeLine) :
  Inv X pins σ (A_ H l (.lst ys)) { s with heap:=s.heap.update l (Obj.mapSeq f),toks:=t' }:=by
 have q:=PySem.IsL.update e f
 rw [hf] at q
 refine I.write (x:=l) (e:=l) (by rw [hH]; exact trivial) (.inl rfl) (fun b' u hb hu=>(Heap.get?_update_other s.heap (Obj.mapSeq f) (Ne.symm hb)).trans hu) ⟨_,q⟩ ?_
 exact⟨hz,its',_,hv,q⟩
theorem Inv.lnew{its:List Value}{t':Nat}(I:Inv X pins σ H s)(hv:Vals ys its)(hz:ys.length<=sizeLine) :
  Inv X pins σ (A_ H s.heap.objs.size (.lst ys)) { s with heap:=s.heap.push { cls:=.type "list",data:=.seq its.toArray },toks:=t' } :=
 I.laid (fun _ _ q=>Heap.get?_push_of_some _ q) (Nat.le_refl _) ⟨hz,its,0,hv,Heap.get?_push_size _ rfl⟩
theorem Inv.fresh(I:Inv X pins σ H s):H s.heap.objs.size=none:=I.hok.fresh (Nat.le_refl _)
theorem Inv.lstM(I:Inv X pins σ H s)(hH:H l=some (.lst xs)):xs.length<=sizeLine/\∃(its:List Value) (n:Nat),Vals xs its/\xs.length=its.length/\s.heap.get? l=some { cls:=.type "list",data:=.seq its.toArray n }:=by
 obtain⟨z,its,n,r,e⟩:=I.hok l _ hH
 exact⟨z,its,n,r,r.length,e⟩
end
section
variable {X:Cx}
def Kg:V->List V->Hp->VK->Prop:=fun x vs H Q=>∃l xs y,x=.ref l/\vs=[y]/\H l=some (.lst xs)/\xs.length<sizeLine/\Q .non (A_ H l (.lst (xs++[y])))
theorem C_:TV X "list.append" Kg:=by
 intro pins s σ H x vs v us Q I rx rv h
 obtain⟨l,xs,y,rfl,rfl,hH,hz,q⟩:=h
 cases rx
 obtain⟨u,rfl,ru⟩:=rv.one
 obtain⟨z,its,n,r,hl,e⟩:=I.lstM hH
 refine call_meets F.slot_list_append ⟨_,e,rfl⟩ F.entry_list_append (F.args_list_append_2 _ _) (PySem.list_append l its.toArray n u (by rw [List.size_toArray]; omega)) ⟨e,?_⟩
 refine⟨.non,_,I.lset (its':=its++[u]) hH e (by simp) (r.append (.cons ru .nil)) ?_,rfl,q⟩
 rw [List.length_append,List.length_singleton]
 omega
end
section
variable {prog:Program}{w:World}{A:Around}{E:Value->Shared->Prop}{s:Shared}
end
section
variable {X:Cx}
end
end L2
namespace Att
open PySem PySem.W PySem.Calls PyProof.Rows
theorem FO{P:Params}{h:Heap}:∀(ns:List Int) (vs:List Value),WellAll P h vs (ns.map WData.int)->IntsAre vs ns:=by
 intro ns
 induction ns with
 | nil =>
  intro vs w
  rw [List.map_nil] at w
  cases w
  exact .nil
 | cons n ns ih =>
  intro vs w
  rw [List.map_cons] at w
  cases w with
  | cons a b =>
   cases a
   exact .cons _ _ (ih _ b)
theorem LY{l:OpenLaw}{n:Nat}(hn:l.most=some n){P:Params}{h:Heap}{args:List WData}{vals:List Value}
  (hpre:l.row.toRowW.claim.pre args=true) (hwl:WellAll P h vals args) :
  ∃a vs ns,vals=[Value.ref a]/\args=[WData.list (ns.map WData.int)]/\h.get? a=some { cls:=.type "list",data:=.seq vs.toArray }/\IntsAre vs ns/\ns.length<=n:=by
 have hsh:WShape.hasAll [] args [.list .int]=true:=(pre_splitW hpre).1
 have hc:l.pre.holds [] { args:=args }=true:=(pre_splitW hpre).2
 obtain⟨d,r,rfl,h1,h2⟩:=hasAllW_cons hsh
 obtain rfl:=hasAllW_nil h2
 obtain⟨xs,rfl,h3⟩:=hasW_list h1
 obtain⟨ns,rfl⟩:=items_int h3
 have hlen:ns.length<=n:=by
  unfold OpenLaw.pre at hc
  have h4:(WTm.not (.lt (.lit (.int (n:Int))) (.len (.arg 0)))).holds [] { args:=[.list (ns.map .int)] }=true:=by
   have h4:=(holds_andW hc).1
   rw [hn] at h4
   exact h4
  have h5:=condW_of h4 (w_not (w_lt w_lit (w_len_list (w_arg rfl))))
  rw [List.length_map] at h5
  refine Nat.le_of_not_lt fun q=>?_
  have q':(n:Int)<((ns.length:Nat):Int):=by omega
  first
   | (rw [decide_eq_true q'] at h5; exact absurd h5 (by decide))
   | (simp at h5; omega)
 cases hwl with
 | cons w1 w2 =>
  cases w2
  cases w1 with
  | list ho hall=>exact⟨_,_,ns,rfl,rfl,ho,FO ns _ hall,hlen⟩
theorem Le(l:OpenLaw)(args:List WData):l.row.toRowW.claim.post args (.bool true) args=true :=
 postW_of (r:=l.row.toRowW) (X:=(true==true))
  (show WShape.has [] (.bool true) .bool=true by first | rfl | decide | simp [WShape.has,WShape.arms,WShape.armsAll])
  (show (WTm.eq .res (.lit (.bool true))).value [] { args:=args,res:=some (.bool true),after:=args }=some (.bool (true==true)) from w_eq_bool (w_res rfl) w_lit) rfl
theorem attach_call{l:OpenLaw}{n:Nat}{q:Program}{loose:List Str}{XP:(Str->Option Value)->Heap->Prop}{YP:World->Heap->Prop}{d:DefRec}
  (hn:l.most=some n) (hdf:d.params.defaults=[])
  (call:∀(w:World) (s₀ s₁:Shared) (mg mb:Str->Option Value) (fa:Addr) (o:Obj) (pm cd doc:Value) (a:Addr) (vs:List Value) (ns:List Int),
   Ground q loose [] XP w s₀ mg mb s₁.heap->YP w s₁.heap ->
   s₁.heap.get? fa=some o->o.data=.func (docDef d.name d.params d.body d.scope pm cd doc)->s₁.heap.CodeRec cd d.name->mg d.name=some (.ref fa) ->
   s₁.heap.get? a=some { cls:=.type "list",data:=.seq vs.toArray }->IntsAre vs ns->ns.length<=n->s₁.gens=#[] ->
   codeAny (model l.prog w) callerA (.call (.ref fa) ⟨[.ref a],[]⟩) (fun r s'=>r=.ok (.ret (.bool true))/\OldK s₁.heap s'.heap/\s'.os=s₁.os/\AllBare s'.gens) s₁) :
  WalkO q loose XP YP l.row.toRowW d [] (fun f vs=>PySem.call f vs):=by
 intro w s₀ s₁ mg mb G Y fa o pm cd doc dV kV ho hd hcd hD hmg hg args vals as hpre hlay hrd hwl hlo
 obtain rfl:dV=.none:=Dflts.none hD hdf
 obtain rfl:kV=.none:=Dflts.noKw hD
 obtain⟨a,vs,ns,rfl,rfl,hobj,hints,hlen⟩:=LY hn hpre hwl
 refine enter_call (codeAny_mono (call w s₀ s₁ mg mb fa o pm cd doc a vs ns G Y ho (fd_plain hd) hcd hmg hobj hints hlen hg) fun r s' hq=>?_)
 obtain⟨rfl,h2,h3,h4⟩:=hq
 exact⟨.inl ⟨.bool true,.bool true,[],rfl,fun _=>rfl,.bool true,Le l _,fun _=>⟨List.Pairwise.nil,fun _ hm=>(nomatch hm)⟩⟩,h2,h3,h4⟩
section
variable {prog:Program}{w:World}{A:Around}{E:Value->Shared->Prop}{s:Shared}{K:Frag}
end
end Att
namespace L2
open PySem PySem.Spec PyProof.Rows
theorem G8:∀{vs:List Value} {ns:List Int},IntsAre vs ns->Vals (ns.map V.int) vs
 | _,_,.nil=>.nil
 | _,_,.cons n t h=>.cons ⟨t,rfl⟩ (G8 h)
def Qp(H:Hp):Prop:=∀b,H b=none\/∃o xs,H b=some (.frz o (.lst xs))
theorem NF{P:Program}{w:World}{K:Frag}{mg mb:Str->Option Value}{CX:Nx}{k:Nat}{fa a:Addr}{fd:FuncData}{x:Str}{sp:Sp}{s₁:Shared}{vs:List Value}{ns:List Int}
  (KX:K.In s₁.heap) (hns:s₁.heap.Ns mainGlobals mg) (hb:s₁.heap.Ns builtinsNs mb) (hbb:∀x:Str,x ≠ "__name__"->mb x=bootBuiltins x) (hlim:s₁.heap.NoLimit) (hg:s₁.gens=#[])
  (ha:s₁.heap.get? a=some { cls:=.type "list",data:=.seq vs.toArray }) (hi:IntsAre vs ns) (hl:ns.length<=sizeLine) (hr:Room k callerA)
  (F:∀base:Heap,K.In base->base.Ns mainGlobals mg->Bh P w K mg base CX k fa fd [x] sp) (hbind:∀(s:Shared) (u:Value),BindsTo s fd ⟨[u],[]⟩ [(x,u)])
  (hsp:∀H:Hp,Qp H->SqL K H a (ns.map V.int)->sp [.ref a] H (fun v _=>v=.bl true) fun _ _ _=>False)
  (hCX:∀H e s',CX [] H s₁ (fun _ _ _=>False) e s'->False) :
  codeAny (model P w) callerA (.call (.ref fa) ⟨[.ref a],[]⟩) (fun r s'=>r=.ok (.ret (.bool true))/\OldK s₁.heap s'.heap/\s'.os=s₁.os/\AllBare s'.gens) s₁:=by
 have rv:=G8 hi
 have lenV:=hi.length
 have core:∀H:Hp,Qp H->SqL K H a (ns.map V.int)->HOk P w H s₁.heap->(∀b,H b≠none->b=a)->(H a≠none->K.lookup a=none) ->
   codeAny (model P w) callerA (.call (.ref fa) ⟨[.ref a],[]⟩) (fun r s'=>r=.ok (.ret (.bool true))/\OldK s₁.heap s'.heap/\s'.os=s₁.os/\AllBare s'.gens) s₁:=by
  intro H hO hS hok hA hK
  have base_of:∀{b:Addr} {o:Obj},s₁.heap.get? b=some o->H b=none->(ID s₁.heap H).get? b=some o:=fun e n=>NR e n
  have noA:∀{b:Addr} {o:Obj} {es:Array DictEntry} {ep:Nat},s₁.heap.get? b=some o->o.data=.dict es ep->H b=none:=fun {b o es ep} e d=>by
   cases q:H b with
   | none=>rfl
   | some u =>
    have e':b=a:=hA b (by rw [q]; simp)
    subst e'
    rw [ha] at e; cases e
    have d':Data.seq vs.toArray _=Data.dict es ep:=d
    cases d'
  have nsK:∀{b:Addr} {m:Str->Option Value},s₁.heap.Ns b m->(ID s₁.heap H).Ns b m:=fun {b m} ⟨o,es,ep,e,d,r⟩=>⟨o,es,ep,base_of e (noA e d),d,r⟩
  have hKb:K.In (ID s₁.heap H):=fun b o e=>base_of (KX b o e) (by
   cases q:H b with
   | none=>rfl
   | some u =>
    have e':b=a:=hA b (by rw [q]; simp)
    subst e'
    rw [hK (by rw [q]; simp)] at e; cases e)
  have hM:Mod K mg (ID s₁.heap H):=⟨hKb,nsK hns,⟨mb,nsK hb,hbb⟩,let ⟨mc,h1,h2⟩:=hlim; ⟨mc,nsK h1,h2⟩⟩
  have e0:Ol P w K mg (ID s₁.heap H) callerA [] s₁ H:=⟨rfl,hM,fun b o e=>OI e,Nat.le_of_eq (MB _ _),trivial,fun b hb=>absurd (show b∈([]:List Addr) from hb) (by simp),hok,.of_eq hg⟩
  refine codeAny_mono ((F _ hKb (nsK hns)).run callerA [] s₁ H ⟨[.ref a],[]⟩ [.ref a] [.ref a] _ _ hr e0 (hbind s₁ (.ref a)) (.cons rfl .nil) (hsp H hO hS)) fun r s' h=>?_
  cases r with
  | error e=>exact(hCX H e s' h).elim
  | ok fl =>
   cases fl with
   | next=>exact False.elim h
   | brk=>exact False.elim h
   | cont=>exact False.elim h
   | ret u =>
    obtain⟨v,H',os,bare,un,hok',r',q⟩:=h
    have q':v=.bl true:=q
    subst q'
    obtain rfl:u=Value.bool true:=r'
    refine⟨rfl,OldK.of_keep fun b o e=>?_,os,bare⟩
    cases q:H b with
    | none=>exact un.keep b o e q (by intro z; exact absurd (show b∈([]:List Addr) from z) (by simp)) (by simp)
    | some u =>
     rcases hO b with z | ⟨ob,xs,z⟩
     ·rw [q] at z; cases z
     ·have z2:=un.frzs b ob _ z
      obtain⟨e1,_⟩:=hok b _ z
      obtain⟨e2,_⟩:=hok' b _ z2
      rw [e] at e1; cases e1
      exact e2
 cases hk:K.lookup a with
 | some o =>
  have e:=KX a o hk
  rw [ha] at e
  cases e
  refine core (fun _=>none) (fun _=>.inl rfl) (.inr ⟨_,vs.toArray,_,hk,rfl,rfl,rfl,by rw [List.size_toArray,lenV]; exact hl,by simpa using rv⟩) (fun b u z=>by have z':(none:Option HO)=some u:=z; cases z') (fun b z=>absurd rfl z) fun z=>absurd rfl z
 | none =>
  refine core (fun b=>if b=a then some (.frz { cls:=.type "list",data:=.seq vs.toArray } (.lst (ns.map V.int))) else none) (fun b=>?_) (.inl (.inr ⟨{ cls:=.type "list",data:=.seq vs.toArray },if_pos rfl⟩)) (fun b u z=>?_) (fun b z=>?_) fun _=>hk
  ·by_cases hb:b=a
   ·exact .inr ⟨_,_,if_pos hb⟩
   ·exact .inl (if_neg hb)
  ·by_cases hb:b=a
   ·have z':=(if_pos hb).symm.trans z
    cases z'
    subst hb
    exact⟨ha,by rw [List.length_map]; exact hl,vs,_,rv,ha⟩
   ·have z':=(if_neg hb).symm.trans z
    cases z'
  ·by_cases hb:b=a
   ·exact hb
   ·exact absurd (if_neg hb) z
theorem KQ{l:PySem.W.OpenLaw}{n k:Nat}{q:Program}{loose:List Str}{XP:(Str->Option Value)->Heap->Prop}{YP:World->Heap->Prop}{d:DefRec}{K:Params->Frag}{CX:World->Nx}{sp:World->Sp}{x:Str}
  (hn:l.most=some n) (hn2:n<=sizeLine) (hdf:d.params.defaults=[]) (hr:Room k callerA)
  (hY:∀(w:World) (h:Heap),YP w h->(K w.params).In h)
  (F:∀(w:World) (mg:Str->Option Value) (fa:Addr) (h:Heap),(K w.params).In h->h.Ns mainGlobals mg->mg d.name=some (.ref fa) ->
   ∃fd:FuncData,(∀(s:Shared) (u:Value),BindsTo s fd ⟨[u],[]⟩ [(x,u)]) /\
    ∀base:Heap,(K w.params).In base->base.Ns mainGlobals mg->Bh l.prog w (K w.params) mg base (CX w) k fa fd [x] (sp w))
  (hsp:∀(w:World) (H:Hp) (a:Addr) (ns:List Int),ns.length<=n->Qp H->SqL (K w.params) H a (ns.map V.int)->sp w [.ref a] H (fun v _=>v=.bl true) fun _ _ _=>False)
  (hCX:∀(w:World) (H:Hp) (s:Shared) (e:Value) (s':Shared),CX w [] H s (fun _ _ _=>False) e s'->False) :
  PySem.W.WalkO q loose XP YP l.row.toRowW d [] (fun f vs=>PySem.call f vs):=by
 refine Att.attach_call hn hdf fun w s₀ s₁ mg mb fa o pm cd doc a vs ns G Y ho hd hcd hmg hobj hints hlen hg=>?_
 have KX:=hY w _ Y
 obtain⟨fd,hb,hF⟩:=F w mg fa _ KX G.T.g hmg
 exact NF KX G.T.g G.T.b G.T.builtins G.T.nolimit hg hobj hints (Nat.le_trans hlen hn2) hr hF hb (fun H hO hS=>hsp w H a ns hlen hO hS) fun H e s'=>hCX w H s₁ e s'
end L2
/- THE LAST THEOREM (shape; LID, My.* are yours):
   My.Adr: a structure of the addresses that your layer names (classes, functions); My.Txt K t: a structure (Prop) of the equations over K;
   My.txt_mk : {K} {implicit addresses ..} (e1 : nsIn K mainGlobals "law" = some (some (.ref f))) (e2 : K.lookup f = some ⟨oc, od, .func (fnOf "law" "law" params body scope dV kV doc pm an cdv ct), sl⟩) (e3 : codeIn K cdv "law" = true) .. : ∃ t, My.Txt K t
set_option maxRecDepth 100000 in
set_option maxHeartbeats 0 in
theorem PySem.Challenge.cw_LID_holds : PySem.Challenge.rw_LID.Holds := by
 w_on; o_law; k_head; (case hw=>w_witness2)
 k_fill
 refine L2.KQ (l:=PySem.Challenge.rw_LID) (n:=63) (k:=40) (x := "script") (CX:=fun w=>..) (sp:=fun _=>My.sp_law) rfl (by decide) rfl ⟨rfl,by decide,by decide⟩ (fun w h Y=>PySem.W.kIn_of Y) ?F ?S ?C
 case F =>
  intro w mg fa h KX G hmg
  have T:∃t,My.Txt (L2.KOf KX) t:=by
   dsimp only [L2.KOf]                          -- K must stand as «<heap const> w.params» for k_is
   refine' My.txt_mk ?e1 ?e2 ?e3 ..
   (case e1=>PySem.W.k_is)                    -- in the order: a name -> its address -> its object -> its parts
   (case e2=>PySem.W.k_is)
   ..
  obtain⟨t,T⟩:=T
  have e0:=hmg.symm.trans (mg_of KX G T.law)
  cases e0                                       -- fa is the law's own address
  exact⟨_,fun s u=>.of_eq rfl,fun base kb nb=>My.law_fn T kb nb⟩     -- if «.of_eq rfl» comes too early: refine' ⟨_,?b,fun base kb nb=>My.law_fn T kb nb⟩; exact fun s u=>.of_eq rfl
 case S=>exact fun w H a ns hl hO hS=>..
 case C=>exact ..
(the tactic k_is has no namespace: write k_is) -/
namespace L2
open PySem PySem.Spec PyProof.Rows
def Am(s:Stmt):Arguments:=match s with
 | .FunctionDef _ a _ _ _ _ _ _ _ _=>a
 | _=>{ posonlyargs:=[],args:=[],vararg:=none,kwonlyargs:=[],kw_defaults:=[],kwarg:=none,defaults:=[] }
def Ah(s:Stmt):List Stmt:=match s with
 | .FunctionDef _ _ b _ _ _ _ _ _ _=>b
 | _=>[]
def AH(s:Stmt):Scope:=match s with
 | .FunctionDef _ _ _ _ _ _ sc _ _ _=>sc
 | _=>{ kind:=.function,names:=[],isGenerator:=false,isCoroutine:=false }
abbrev DR:Nx:=fun _ _ _ _ _ _=>False
abbrev E0:XK:=fun _ _ _=>False
theorem PC{X:Cx}:KP DR X E0:=fun _ _ _ _ _ _ _ h=>h.elim
structure Fun (K:Frag) (x qual:Str) (st:Stmt) (f:Addr) (fd:FuncData):Prop where
 ex:∃(oc:Value) (od:Option Addr) (kV doc pm:Value) (an:Option Addr) (cdv ct:Value) (osl:Array (Option Value)),
  fd=fnOf x qual (Am st) (Ah st) (AH st) .none kV doc pm an cdv ct/\K.lookup f=some ⟨oc,od,.func fd,osl⟩/\codeIn K cdv qual=true
 kp:keepIn K (.ref f)=true
section
variable {P:Program}{w:World}{K:Frag}{mg:Str->Option Value}{base:Heap}
theorem Fun.ok{x qual:Str}{st:Stmt}{f:Addr}{fd:FuncData}{N ps:List Str}{k:Nat}{sp:Sp}(F:Fun K x qual st f fd)(S:An N ps (AH st))(len:∀vs H Q E,sp vs H Q E->vs.length=ps.length)
  (hbody:∀(cdv:Value) (A:Around) (outer:List Env) (s:Shared) (H:Hp) (vs:List V) (Q:VK) (E:XK),Room k (A.deeper (envOfC qual (AH st) s.heap.objs.size f cdv))->sp vs H Q E ->
   ∃t,PSs (IT DR P w K mg base N qual (AH st) f cdv A outer s H E).nox (Ah st) t/\t { nx:=fun _ H'=>Q .non H',rt:=Q } (start N vs) H):Bh P w K mg base DR (k+1) f fd ps sp:=by
 obtain⟨oc,od,kV,doc,pm,an,cdv,ct,osl,rfl,lk,hcd⟩:=F.ex
 refine Rh lk hcd S len fun A outer s H vs Q E hr hsp=>?_
 obtain⟨t,h,q⟩:=hbody cdv A outer s H vs Q E hr hsp
 exact⟨t,h.nox,q⟩
theorem Fun.binds{x qual:Str}{st:Stmt}{f:Addr}{fd:FuncData}{ps:List Str}(F:Fun K x qual st f fd)
  (h:∀(kV doc pm:Value) (an:Option Addr) (cdv ct:Value) (us:List Value),us.length=ps.length->bindArgs (fnOf x qual (Am st) (Ah st) (AH st) .none kV doc pm an cdv ct) ⟨us,[]⟩=pure (ps.zip us)):Binds K fd ps []:=by
 obtain⟨oc,od,kV,doc,pm,an,cdv,ct,osl,rfl,lk,hcd⟩:=F.ex
 exact .all (h kV doc pm an cdv ct)
theorem BD{x qual:Str}{st:Stmt}{f:Addr}{oc:Value}{od an:Option Addr}{osl:Array (Option Value)}{kV doc pm cdv ct:Value}(l:K.lookup f=some ⟨oc,od,.func (fnOf x qual (Am st) (Ah st) (AH st) .none kV doc pm an cdv ct),osl⟩)
  (c:codeIn K cdv qual=true) (k:keepIn K (.ref f)=true):Fun K x qual st f (fnOf x qual (Am st) (Ah st) (AH st) .none kV doc pm an cdv ct):=⟨⟨oc,od,kV,doc,pm,an,cdv,ct,osl,rfl,l,c⟩,k⟩
end
theorem HF{A:Around}{k:Nat}(hr:Room k A):A.units+1<cLine:=Nat.lt_of_le_of_lt (Nat.add_le_add_left (by decide:1<=64) _) hr.units
section
variable {X:Cx}
theorem pv(i:Nat){x:Str}{pos:Pos}(hN:X.N[i]?=some x:=by rfl)(hv:Qy X.env.scope x:=by first | exact Or.inl rfl | exact Or.inr (Or.inl rfl) | exact Or.inr (Or.inr rfl))(hd:(x==("__debug__" : Str))=false:=by decide)
  (hcd:(x==("__classdict__" : Str))=false:=by decide):PE X (.Name x pos) (Bu i):=Hr hN hv hd hcd
end
theorem Gz{A B:Prop}(h:B):if false=true then A else B:=by
 rw [if_neg Bool.false_ne_true]
 exact h
theorem Fz{A B:Prop}(h:A):if true=true then A else B:=by
 rw [if_pos rfl]
 exact h
theorem Cc{c A B:Prop}[Decidable c](h1:c->A)(h2:¬c->B):if c then A else B:=by
 by_cases h:c
 ·rw [if_pos h]
  exact h1 h
 ·rw [if_neg h]
  exact h2 h
section
variable {κ:Type}[DecidableEq κ]
def Cb(kvs:List (κ×V))(k:κ):Option V:=(kvs.find? fun kv=>decide (kv.1=k)).map (·.2)
def putK(kvs:List (κ×V))(k:κ)(v:V):List (κ×V) :=
 if (kvs.any fun kv=>decide (kv.1=k))=true then kvs.map (fun kv=>if kv.1=k then (kv.1,v) else kv) else kvs++[(k,v)]
theorem DX{p:κ×V}{r:List (κ×V)}{k:κ}(e:p.1=k):Cb (p::r) k=some p.2:=by simp [Cb,List.find?_cons,e]
theorem DY{p:κ×V}{r:List (κ×V)}{k:κ}(e:¬p.1=k):Cb (p::r) k=Cb r k:=by simp [Cb,List.find?_cons,e]
theorem Iq(k:κ):∀kvs:List (κ×V),(kvs.any fun kv=>decide (kv.1=k))=(Cb kvs k).isSome
 | []=>rfl
 | p::r=>by
  rw [List.any_cons]
  by_cases e:p.1=k
  ·simp only [DX e,decide_eq_true e,Bool.true_or,Option.isSome_some]
  ·rw [DY e,decide_eq_false e,Bool.false_or]; exact Iq k r
theorem Df(kvs:List (κ×V))(k:κ)(v:V):(putK kvs k v).length<=kvs.length+1:=by
 unfold putK
 split
 ·rw [List.length_map]; omega
 ·rw [List.length_append,List.length_cons,List.length_nil]; omega
theorem RelO.isSome_eq{o:Option V}{u:Option Value}(r:RelO o u):o.isSome=u.isSome:=by
 cases o with
 | none=>cases u with
  | none=>rfl
  | some _=>exact(show False from r).elim
 | some _=>cases u with
  | none=>exact(show False from r).elim
  | some _=>rfl
theorem RelO.getD{o:Option V}{u:Option Value}{d:V}{d':Value}(r:RelO o u)(rd:RelV d d'):RelV (o.getD d) (u.getD d'):=by
 cases o with
 | none=>cases u with
  | none=>exact rd
  | some _=>exact(show False from r).elim
 | some _=>cases u with
  | none=>exact(show False from r).elim
  | some _=>exact r
theorem KV.val{kvs:List (κ×V)}{vs:List (κ×Value)}(r:KV kvs vs)(k:κ):RelO (Cb kvs k) (valueAt vs k):=by
 unfold KV at r
 induction r with
 | nil=>exact True.intro
 | @cons p q ps qs h t ih =>
  obtain⟨h1,h2⟩:=h
  by_cases e:p.1=k
  ·have e':q.1=k:=h1.symm.trans e
   have b:valueAt (q::qs) k=some q.2:=by simp [valueAt,List.find?_cons,e']
   rw [DX e,b]; exact h2
  ·have e':¬q.1=k:=fun z=>e (h1.trans z)
   have b:valueAt (q::qs) k=valueAt qs k:=by simp [valueAt,List.find?_cons,e']
   rw [DY e,b]; exact ih
theorem KV.any{kvs:List (κ×V)}{vs:List (κ×Value)}(r:KV kvs vs)(k:κ):(kvs.any fun kv=>decide (kv.1=k))=vs.any fun kv=>decide (kv.1=k):=by
 unfold KV at r
 induction r with
 | nil=>rfl
 | cons h t ih=>rw [List.any_cons,List.any_cons,ih,h.1]
theorem KV.repl{kvs:List (κ×V)}{vs:List (κ×Value)}(r:KV kvs vs)(k:κ){y:V}{u:Value}(ry:RelV y u) :
  KV (kvs.map fun kv=>if kv.1=k then (kv.1,y) else kv) (vs.map fun kv=>if kv.1=k then (kv.1,u) else kv):=by
 unfold KV at r ⊢
 induction r with
 | nil=>exact .nil
 | @cons p q ps qs h t ih =>
  rw [List.map_cons,List.map_cons]
  refine .cons ?_ ih
  obtain⟨h1,h2⟩:=h
  by_cases e:p.1=k
  ·rw [if_pos e,if_pos (h1.symm.trans e)]; exact⟨h1,ry⟩
  ·rw [if_neg e,if_neg (fun z=>e (h1.trans z))]; exact⟨h1,h2⟩
theorem KV.put{kvs:List (κ×V)}{vs:List (κ×Value)}(r:KV kvs vs)(k:κ){y:V}{u:Value}(ry:RelV y u):KV (putK kvs k y) (stored vs k u):=by
 unfold putK stored
 rw [r.any k]
 by_cases e:(vs.any fun kv=>decide (kv.1=k))=true
 ·rw [if_pos e,if_pos e]; exact r.repl k ry
 ·rw [if_neg e,if_neg e]; exact Paired.snoc r ⟨rfl,ry⟩
theorem KV.keys{kvs:List (κ×V)}{vs:List (κ×Value)}(r:KV kvs vs):kvs.map (·.1)=vs.map (·.1):=by
 unfold KV at r
 induction r with
 | nil=>rfl
 | cons h t ih=>rw [List.map_cons,List.map_cons,ih,h.1]
theorem KV.length{kvs:List (κ×V)}{vs:List (κ×Value)}(r:KV kvs vs):kvs.length=vs.length:=Paired.length r
end
theorem FE{P:Program}{w:World}{k:Key}{u:Value}(r:RelV (kV k) u):(Aw P w).is k u=true:=by
 cases k with
 | inl i=>obtain⟨t,e⟩:=(show ∃t,u=Value.int i t from r); subst e; exact JQ P w i t
 | inr x=>obtain⟨t,e⟩:=(show ∃t,u=Value.str x t from r); subst e; exact JP P w x t
theorem HE{P:Program}{w:World}:∀{ks:List Key} {us:List Value},Vals (ks.map kV) us->ItemsAre (Aw P w) ks us
 | [],_,r=>by rw [List.map_nil] at r; cases r; exact .nil
 | k::ks,_,r=>by
  rw [List.map_cons] at r
  cases r with
  | cons h t=>exact .cons (FE h) (HE t)
abbrev KT(H:Hp):List (List Key×V)->List (List Key×Addr×Value)->Prop:=Paired fun p q=>p.1=q.1/\H q.2.1=some (.tup (p.1.map kV))/\RelV p.2 q.2.2
theorem KT.val{H:Hp}{kvs:List (List Key×V)}{xs:List (List Key×Addr×Value)}(r:KT H kvs xs)(k:List Key):RelO (Cb kvs k) ((atKey xs k).map (·.2)):=by
 induction r with
 | nil=>exact True.intro
 | @cons p q ps qs h t ih =>
  obtain⟨h1,_,h2⟩:=h
  by_cases e:p.1=k
  ·have e':q.1=k:=h1.symm.trans e
   have b:atKey (q::qs) k=some q.2:=by simp [atKey,List.find?_cons,e']
   rw [DX e,b]; exact h2
  ·have e':¬q.1=k:=fun z=>e (h1.trans z)
   have b:atKey (q::qs) k=atKey qs k:=by simp [atKey,List.find?_cons,e']
   rw [DY e,b]; exact ih
theorem KT.repl{H:Hp}{kvs:List (List Key×V)}{xs:List (List Key×Addr×Value)}(r:KT H kvs xs)(k:List Key){y:V}{u:Value}(ry:RelV y u) :
  KT H (kvs.map fun kv=>if kv.1=k then (kv.1,y) else kv) (xs.map (putAt k u)):=by
 induction r with
 | nil=>exact .nil
 | @cons p q ps qs h t ih =>
  rw [List.map_cons,List.map_cons]
  refine .cons ?_ ih
  obtain⟨h1,h2,h3⟩:=h
  unfold putAt
  by_cases e:p.1=k
  ·rw [if_pos e,if_pos (h1.symm.trans e)]; exact⟨h1,h2,ry⟩
  ·rw [if_neg e,if_neg (fun z=>e (h1.trans z))]; exact⟨h1,h2,h3⟩
theorem KT.put{H:Hp}{kvs:List (List Key×V)}{xs:List (List Key×Addr×Value)}(r:KT H kvs xs)(k:List Key){b:Addr}{y:V}{u:Value}(hb:H b=some (.tup (k.map kV)))(ry:RelV y u) :
  KT H (putK kvs k y) (storedH xs k b u):=by
 have e:(kvs.any fun kv=>decide (kv.1=k))=(atKey xs k).isSome:=by
  rw [Iq,(r.val k).isSome_eq,Option.isSome_map]
 unfold putK storedH
 rw [e]
 by_cases q:(atKey xs k).isSome=true
 ·rw [if_pos q,if_pos q]; exact r.repl k ry
 ·rw [if_neg q,if_neg q]; exact Paired.snoc r ⟨rfl,hb,ry⟩
theorem KT.keeps{H H':Hp}{kvs:List (List Key×V)}{xs:List (List Key×Addr×Value)}(r:KT H kvs xs)(ht:∀b ys,H b=some (.tup ys)->H' b=some (.tup ys)):KT H' kvs xs :=
 Paired.mapP r fun _ _ z=>⟨z.1,ht _ _ z.2.1,z.2.2⟩
section
variable {P:Program}{w:World}{H:Hp}{h:Heap}{a:Addr}
theorem Ov{u:HO}(ok:HOk P w H h)(e:Rd H a u):ObjOk P w H h a u:=e.ok ok
theorem FF{kvs:List (Key×V)}(ok:HOk P w H h)(e:Rd H a (.dK kvs)):kvs.length<=sizeLine/\(a==sysModules)=false/\∃vs,KV kvs vs/\h.DictOf (Aw P w) a vs :=
 show ObjOk P w H h a (.dK kvs) from Ov ok e
theorem PP{kvs:List (Key×V)}(ok:HOk P w H h)(e:H a=some (.dK kvs)):kvs.length<=sizeLine/\(a==sysModules)=false/\∃vs,KV kvs vs/\h.DictOf (Aw P w) a vs:=FF ok (.inl e)
theorem E4{ks:List Key}(ok:HOk P w H h)(e:H a=some (.tup (ks.map kV))):(tupleKind (Aw P w)).is h ks a:=by
 obtain⟨_,its,r,o,h1,h2,n,h3,_⟩:=(show ObjOk P w H h a (.tup (ks.map kV)) from ok a _ e)
 exact⟨o,its.toArray,n,h1,h2,h3,by simpa using HE r⟩
theorem GJ{kvs:List (List Key×V)}(ok:HOk P w H h)(e:Rd H a (.dT kvs)):kvs.length<=sizeLine/\(a==sysModules)=false /\
  ∃xs,KT H kvs xs/\h.DictOfH (tupleKind (Aw P w)) a xs:=by
 obtain⟨z,y,xs,r,o,es,ep,h1,h2,h3,h4,h5⟩:=(show ObjOk P w H h a (.dT kvs) from Ov ok e)
 refine⟨z,y,xs,r,o,es,ep,h1,h2,h3,h4,fun x hx=>?_,h5⟩
 have all:∀{l:List (List Key×V)} {m:List (List Key×Addr×Value)},KT H l m->∀x∈m,(tupleKind (Aw P w)).is h x.1 x.2.1:=by
  intro l m q
  induction q with
  | nil=>intro x hx; exact nomatch hx
  | @cons p q ps qs hq t ih =>
   intro x hx
   rcases List.mem_cons.mp hx with e | hx
   ·subst e
    exact E4 ok (by rw [← hq.1]; exact hq.2.1)
   ·exact ih x hx
 exact all r x hx
theorem Ro{kvs:List (List Key×V)}(ok:HOk P w H h)(e:H a=some (.dT kvs)):kvs.length<=sizeLine/\(a==sysModules)=false /\
  ∃xs,KT H kvs xs/\h.DictOfH (tupleKind (Aw P w)) a xs:=GJ ok (.inl e)
end
def DGet(H:Hp)(a:Addr)(y:V)(r:Option V):Prop :=
 (∃kvs k,Rd H a (.dK kvs)/\y=kV k/\r=Cb kvs k)\/∃kvs k b,Rd H a (.dT kvs)/\y=.ref b/\H b=some (.tup (k.map kV))/\r=Cb kvs k
def DPut(H:Hp)(a:Addr)(y v:V)(H':Hp):Prop :=
 (∃kvs k,H a=some (.dK kvs)/\y=kV k/\kvs.length<sizeLine/\H'=A_ H a (.dK (putK kvs k v))) \/
 ∃kvs k b,H a=some (.dT kvs)/\y=.ref b/\H b=some (.tup (k.map kV))/\kvs.length<sizeLine/\H'=A_ H a (.dT (putK kvs k v))
theorem DGet.k{H:Hp}{a:Addr}{kvs:List (Key×V)}{k:Key}(e:H a=some (.dK kvs)):DGet H a (kV k) (Cb kvs k):=.inl ⟨kvs,k,.inl e,rfl,rfl⟩
theorem DPut.k{H:Hp}{a:Addr}{kvs:List (Key×V)}{k:Key}{v:V}(e:H a=some (.dK kvs))(hl:kvs.length<sizeLine):DPut H a (kV k) v (A_ H a (.dK (putK kvs k v))):=.inl ⟨kvs,k,e,rfl,hl,rfl⟩
section
variable {X:Cx}{pins:List (Addr×Obj)}{σ:St}{H:Hp}{s:Shared}{a:Addr}{y v:V}{u r:Value}{o:Option V}{A:Around}{E:Value->Shared->Prop}
theorem Inv.big(I:Inv X pins σ H s):sysModules<s.heap.objs.size:=by
 have h:mainGlobals<s.heap.objs.size:=(I.mod.glob.keeps I.bk).lt
 exact Nat.lt_trans (by decide) h
theorem MG{Q:Value->Shared->Prop}(hu:A.units+1<cLine)(I:Inv X pins σ H s)(g:DGet H a y (some v))(ry:RelV y u)(h:∀w' s',Inv X pins σ H s'->RelV v w'->Q w' s') :
  wpAny (model X.prog X.w) A (getItem (.ref a) u) Q E s:=by
 rcases g with ⟨kvs,k,e,ey,l⟩ | ⟨kvs,k,b,e,ey,eb,l⟩
 ·subst ey
  obtain⟨z,hd,vs,rel,dd⟩:=FF I.hok e
  obtain⟨w',hw,rw'⟩:=RelO.some_of (v:=v) (o:=valueAt vs k) (by rw [l]; exact rel.val k)
  exact wpAny_getItem_of (FE ry) dd.mapOf hw (h w' _ (I.tok _) rw')
 ·subst ey
  cases (show u=Value.ref b from ry)
  obtain⟨z,hd,xs,rel,dd⟩:=GJ I.hok e
  obtain⟨w',hw,rw'⟩:=RelO.some_of (v:=v) (o:=(atKey xs k).map (·.2)) (by rw [l]; exact rel.val k)
  obtain⟨p,hp,hp2⟩:=Option.map_eq_some_iff.mp hw
  refine wpAny_getItem_heap (tupleKind_room_in1 hu) (E4 I.hok eb) dd hp ?_
  rw [hp2]
  exact h w' _ (I.tok _) rw'
theorem Su{Q:Value->Shared->Prop}(hu:A.units+1<cLine)(I:Inv X pins σ H s)(g:DGet H a y o)(ry:RelV y u)(h:∀s',Inv X pins σ H s'->Q (.bool o.isSome) s') :
  wpAny (model X.prog X.w) A (compareOp .In u (.ref a)) Q E s:=by
 rcases g with ⟨kvs,k,e,ey,l⟩ | ⟨kvs,k,b,e,ey,eb,l⟩
 ·subst ey
  obtain⟨z,hd,vs,rel,dd⟩:=FF I.hok e
  refine wpAny_in_of (FE ry) hd dd.mapOf ?_
  rw [← (rel.val k).isSome_eq,← l]
  exact h _ (I.tok _)
 ·subst ey
  cases (show u=Value.ref b from ry)
  obtain⟨z,hd,xs,rel,dd⟩:=GJ I.hok e
  refine wpAny_in_heap (tupleKind_room_in1 hu) (E4 I.hok eb) hd dd ?_
  have q:=(rel.val k).isSome_eq
  rw [Option.isSome_map] at q
  rw [← q,← l]
  exact h _ (I.tok _)
theorem Og{Q:Value->Shared->Prop}(hu:A.units+1<cLine)(I:Inv X pins σ H s)(g:DGet H a y o)(ry:RelV y u)(h:∀s',Inv X pins σ H s'->Q (.bool (!o.isSome)) s') :
  wpAny (model X.prog X.w) A (compareOp .NotIn u (.ref a)) Q E s:=by
 rcases g with ⟨kvs,k,e,ey,l⟩ | ⟨kvs,k,b,e,ey,eb,l⟩
 ·subst ey
  obtain⟨z,hd,vs,rel,dd⟩:=FF I.hok e
  refine wpAny_notIn_of (FE ry) hd dd.mapOf ?_
  rw [← (rel.val k).isSome_eq,← l]
  exact h _ (I.tok _)
 ·subst ey
  cases (show u=Value.ref b from ry)
  obtain⟨z,hd,xs,rel,dd⟩:=GJ I.hok e
  refine wpAny_notIn_heap (tupleKind_room_in1 hu) (E4 I.hok eb) hd dd ?_
  have q:=(rel.val k).isSome_eq
  rw [Option.isSome_map] at q
  rw [← q,← l]
  exact h _ (I.tok _)
theorem IS{h':Heap}{t':Nat}{ob:HO}(I:Inv X pins σ H s)(mu:R8 (H a))(hs:Heap.SameBut a s.heap h')(he:∃q,h'.get? a=some q)(new:ObjOk X.prog X.w (A_ H a ob) h' a ob) :
  Inv X pins σ (A_ H a ob) { s with heap:=h',toks:=t' } :=
 I.write (x:=a) (e:=a) mu (.inl rfl) (fun b q hb z=>(hs.2 b hb).trans z) he new
theorem KG{P:Program}{w:World}{H':Hp}{h':Heap}{kvs:List (Key×V)}{vs:List (Key×Value)}(z:kvs.length<=sizeLine)(hd:(a==sysModules)=false)(rel:KV kvs vs)(dd:h'.DictOf (Aw P w) a vs) :
  ObjOk P w H' h' a (.dK kvs):=⟨z,hd,vs,rel,dd⟩
theorem MF{H':Hp}{Q:Unit->Shared->Prop}(hu:A.units+1<cLine)(I:Inv X pins σ H s)(g:DPut H a y v H')(ry:RelV y u)(rv:RelV v r)(h:∀s',Inv X pins σ H' s'->Q () s') :
  wpAny (model X.prog X.w) A (setItem (.ref a) u r) Q E s:=by
 rcases g with ⟨kvs,k,e,ey,l,eH⟩ | ⟨kvs,k,b,e,ey,eb,l,eH⟩
 ·subst ey eH
  obtain⟨z,hd,vs,rel,dd⟩:=PP I.hok e
  have hz:vs.length<=sizeLine:=by rw [← rel.length]; exact z
  have hl:(putK kvs k v).length<=sizeLine:=by have:=Df kvs k v; omega
  refine wpAny_setItem_pairs (hsz:=hz) (FE ry) dd fun h' dd' hs=>h _ ?_
  have he:∃q,h'.get? a=some q:=let ⟨q,_,_,hq,_⟩:=dd'; ⟨q,hq⟩
  exact IS I (by rw [e]; exact True.intro) hs he (KG hl hd (rel.put k rv) dd')
 ·subst ey eH
  cases (show u=Value.ref b from ry)
  obtain⟨z,hd,xs,rel,dd⟩:=Ro I.hok e
  have hz:xs.length<=sizeLine:=by rw [← Paired.length rel]; exact z
  have hl:(putK kvs k v).length<=sizeLine:=by have:=Df kvs k v; omega
  refine wpAny_setItem_heap (hsz:=hz) (tupleKind_room_in1 hu) (E4 I.hok eb) dd fun h' dd' hs=>h _ ?_
  obtain⟨q,es,ep,hq,h2,h3,h4,_,h5⟩:=dd'
  refine IS I (by rw [e]; exact True.intro) hs ⟨q,hq⟩ ⟨hl,hd,_,(rel.put k eb rv).keeps fun c ys ec=>?_,q,es,ep,hq,h2,h3,h4,h5⟩
  rw [AO (RX ec e (fun z=>nomatch z))]
  exact ec
end
section
variable {X:Cx}{pins:List (Addr×Obj)}{σ:St}{H:Hp}{s:Shared}{a:Addr}{kvs:List (Key×V)}{k:Key}{u:Value}{A:Around}{E:Value->Shared->Prop}
end
def Qq(i:Expr):Prop:=∀ov iv,subscripted i false ov iv=operate [ov,iv] (getItem ov iv)
theorem N8{prog:Program}{w:World}{A:Around}{E:Value->Shared->Prop}{s:Shared}{env:Env}{value slice:Expr}{pos:Pos}{T id:String}{Q:Value->Shared->Prop}
  (hl:typeLookup (.type T) "__getitem__"=pure (some (.builtin id))) (hs:Qq slice)
  (h:wpAny (model prog w) A (eval value env) (fun o s₁=>wpAny (model prog w) A (eval slice env) (fun i s₂=>s₂.TypeIs o T/\wpAny (model prog w) A (getItem o i) Q E s₂) E s₁) E s) :
  wpAny (model prog w) A (eval (.Subscript value slice pos) env) Q E s:=by
 refine Subscript_ (wpAny_mono h (fun o s₁ h₁=>wpAny_mono h₁ (fun i s₂ h₂=>?_) fun _ _ x=>x) fun _ _ x=>x)
 obtain⟨hT,h₂⟩:=h₂
 unfold subscriptTail
 refine wpAny_bind ?_
 rw [getitemInPython_of_ne hT.not_modules]
 refine wpAny_bind (wpAny_specialOf hT hl ?_)
 have fin:wpAny (model prog w) A (subscripted slice false o i) (fun r s₃=>wpAny (model prog w) A (letTemporaryGo value o r >>= fun _=>pure r) Q E s₃) E s₂:=by
  rw [hs o i]
  exact wpAny_operating (wpAny_mono h₂ (fun r s₃ h₃=>wpAny_bind (wpAny_letTemporaryGo (wpAny_pure h₃))) fun _ _ x=>x)
 first
  | exact wpAny_pure (wpAny_bind fin)
  | exact wpAny_bind (wpAny_pure (wpAny_bind fin))
  | exact wpAny_bind fin
theorem Ja{X:Cx}{pins:List (Addr×Obj)}{σ:St}{H:Hp}{s:Shared}{a:Addr}{y:V}{o:Option V}(I:Inv X pins σ H s)(g:DGet H a y o):s.TypeIs (.ref a) "dict":=by
 rcases g with ⟨kvs,k,e,_,_⟩ | ⟨kvs,k,b,e,_,_,_⟩
 ·obtain⟨_,_,vs,_,dd⟩:=FF I.hok e
  exact dd.typeIs
 ·obtain⟨_,_,xs,_,dd⟩:=GJ I.hok e
  exact dd.typeIs
def Q8(td ty:TE):TE:=fun σ H Q=>td σ H fun x H1=>ty σ H1 fun y H2=>∃a v,x=.ref a/\DGet H2 a y (some v)/\Q v H2
def RC(td ty tv:TE):TS:=fun D σ H=>tv σ H fun v H1=>td σ H1 fun x H2=>ty σ H2 fun y H3=>∃a H4,x=.ref a/\DPut H3 a y v H4/\D.nx σ H4
section
variable {X:Cx}{o i e value:Expr}{pos pos' tpos:Pos}{td ty tv:TE}
theorem Hs(hu:X.A.units+1<cLine)(ho:PE X o td)(hi:PE X i ty)(hs:Qq i):PE X (.Subscript o i pos) (Q8 td ty):=by
 intro pins s σ H Q I h
 refine N8 PySem.F.slot_dict_getitem.lookup hs (BL (ho pins s σ H _ I h) fun u s1 ⟨x,H1,I1,rx,q1⟩=>BL (hi pins s1 σ H1 _ I1 q1) fun iv s2 ⟨y,H2,I2,ry,a,v,ex,g,q2⟩=>?_)
 subst ex
 obtain rfl:u=Value.ref a:=rx
 exact⟨Ja I2 g,MG hu I2 g ry fun w' s3 I3 rw'=>⟨v,H2,I3,rw',q2⟩⟩
theorem FR(hu:X.A.units+1<cLine)(ho:PE X o td)(hi:PE X i ty)(hv:PE X value tv)(hs:swapsWith value (some (.Subscript o i pos')) pos.line X.env=pure false) :
  PS X (.Assign [.Subscript o i pos'] value pos) (RC td ty tv):=by
 intro pins s σ H D I h
 refine wpAny_Assign_Subscript (BL (hv pins s σ H _ I h) fun r s1 ⟨v,H1,I1,rv,q1⟩=>BL (ho pins s1 σ H1 _ I1 q1) fun u s2 ⟨x,H2,I2,rx,q2⟩=>BL (hi pins s2 σ H2 _ I2 q2) fun iv s3 ⟨y,H3,I3,ry,a,H4,ex,g,q3⟩=>?_) hs
 subst ex
 obtain rfl:u=Value.ref a:=rx
 exact MF hu I3 g ry rv fun s4 I4=>⟨σ,H4,I4,q3⟩
end
theorem JZ{P:Program}{w:World}{H:Hp}(h:Heap)(hb:sysModules<h.objs.size):ObjOk P w H (h.push { cls:=.type "dict",data:=.dict #[] }) h.objs.size (.dK []) :=
 ⟨Nat.zero_le _,beq_eq_false_iff_ne.mpr (Ne.symm (Nat.ne_of_lt hb)),[],.nil,Heap.DictOf.new h⟩
def Po:TE:=fun _ H Q=>∀p,H p=none->Q (.ref p) (A_ H p (.dK []))
section
variable {X:Cx}{pos:Pos}
theorem JG:PE X (.Dict [] [] pos) Po:=fun pins s σ H Q I h =>
 wpAny_Dict_empty ⟨.ref s.heap.objs.size,_,I.laid (a:=s.heap.objs.size) (o:=.dK []) (t':=s.toks) (fun _ _ q=>Heap.get?_push_of_some _ q) (Nat.le_refl _) (JZ s.heap I.big),rfl,h _ (I.hok.fresh (Nat.le_refl _))⟩
end
def Jp:List (TE×TE)->St->Hp->(List (V×V)->Hp->Prop)->Prop
 | [],_,H,Q=>Q [] H
 | (tk,tv)::r,σ,H,Q=>tk σ H fun x H1=>tv σ H1 fun y H2=>Jp r σ H2 fun ps H3=>Q ((x,y)::ps) H3
abbrev VV:List (V×V)->List (Value×Value)->Prop:=Paired fun p q=>RelV p.1 q.1/\RelV p.2 q.2
def SM(X:Cx)(pos:Pos)(keys:List (Option Expr))(values:List Expr)(trs:List (TE×TE)):Prop :=
 ∀(pins:List (Addr×Obj)) (s:Shared) (σ:St) (H:Hp) (Q:List (V×V)->Hp->Prop),Inv X pins σ H s->Jp trs σ H Q ->
  wpAny (model X.prog X.w) X.A (evalPairs (pairTrees keys values X.env pos)) (fun vs s'=>∃ps H',Inv X pins σ H' s'/\VV ps vs/\Q ps H') X.xe s
theorem OA{X:Cx}{pos:Pos}:SM X pos [] [] []:=fun pins s σ H Q I h=>pairTrees_nil_walk ⟨[],H,I,.nil,h⟩
theorem Mv{X:Cx}{pos:Pos}{k v:Expr}{ks:List (Option Expr)}{vs:List Expr}{tk tv:TE}{trs:List (TE×TE)}(hk:PE X k tk)(hv:PE X v tv)(hr:SM X pos ks vs trs) :
  SM X pos (some k::ks) (v::vs) ((tk,tv)::trs):=fun pins s σ H Q I h =>
 pairTrees_cons_walk (BL (hk pins s σ H _ I h) fun u s1 ⟨x,H1,I1,rx,q1⟩=>BL (hv pins s1 σ H1 _ I1 q1) fun w2 s2 ⟨y,H2,I2,ry,q2⟩ =>
  BL (hr pins s2 σ H2 _ I2 q2) fun ws s3 ⟨ps,H3,I3,rel,q3⟩=>⟨(x,y)::ps,H3,I3,.cons ⟨rx,ry⟩ rel,q3⟩)
def Fq(kvs more:List (Key×V)):List (Key×V):=more.foldl (fun acc kv=>putK acc kv.1 kv.2) kvs
theorem KV.merge:∀{more:List (Key×V)} {rs:List (Key×Value)} {kvs:List (Key×V)} {vs:List (Key×Value)},KV more rs->KV kvs vs->KV (Fq kvs more) (merged vs rs):=by
 intro more rs kvs vs r
 unfold KV at r
 induction r generalizing kvs vs with
 | nil=>intro q; exact q
 | @cons p q ps qs h t ih =>
  intro r0
  have e:KV (putK kvs p.1 p.2) (stored vs q.1 q.2):=by
   have:=r0.put p.1 h.2
   rw [← h.1]; exact this
  exact ih e
theorem D4:∀(more kvs:List (Key×V)),(Fq kvs more).length<=kvs.length+more.length
 | [],kvs=>by show kvs.length<=kvs.length+0; omega
 | p::r,kvs=>by
  have h1:=D4 r (putK kvs p.1 p.2)
  have h2:=Df kvs p.1 p.2
  show (Fq (putK kvs p.1 p.2) r).length<=_
  rw [List.length_cons]; omega
theorem GP{P:Program}{w:World}:∀{kvs:List (Key×V)} {ws:List (Value×Value)},VV (kvs.map fun kv=>(kV kv.1,kv.2)) ws->∃rs,Carries (Aw P w) ws rs/\KV kvs rs
 | [],_,r=>by rw [List.map_nil] at r; cases r; exact⟨[],True.intro,.nil⟩
 | p::kvs,_,r=>by
  rw [List.map_cons] at r
  cases r with
  | @cons a b as bs h t =>
   obtain⟨rs,c,q⟩:=GP (P:=P) (w:=w) t
   obtain⟨b1,b2⟩:=b
   exact⟨(p.1,b2)::rs,⟨FE h.1,rfl,c⟩,.cons ⟨rfl,h.2⟩ q⟩
def Q7(trs:List (TE×TE)):TE:=fun σ H Q=>∀p,H p=none->Jp trs σ (A_ H p (.dK [])) fun ps H2=>H2 p=some (.dK [])/\∃kvs:List (Key×V),ps=kvs.map (fun kv=>(kV kv.1,kv.2))/\kvs.length<=15/\Q (.ref p) (A_ H2 p (.dK (Fq [] kvs)))
theorem OC{X:Cx}{pos:Pos}{keys:List (Option Expr)}{values:List Expr}{trs:List (TE×TE)}(h:SM X pos keys values trs)(hall:keys.all (·.isSome)=true)(hl:keys.length=values.length)(h0:keys≠[])
  (h15:keys.length<=15):PE X (.Dict keys values pos) (Q7 trs):=by
 intro pins s σ H Q I q
 have hn:=I.hok.fresh (Nat.le_refl s.heap.objs.size)
 have I1:=I.laid (a:=s.heap.objs.size) (o:=.dK []) (h':=s.heap.push { cls:=.type "dict",data:=.dict #[] }) (t':=s.toks) (fun _ _ q=>Heap.get?_push_of_some _ q) (Nat.le_refl _) (JZ s.heap I.big)
 refine wpAny_Dict_walk (knd:=Aw X.prog X.w) hall hl h0 h15 (BL (h pins _ σ _ _ I1 (q _ hn)) fun ws s2 ⟨ps,H2,I2,rel,e,kvs,ep,lk,q2⟩=>?_)
 subst ep
 obtain⟨rs,c,rk⟩:=GP (P:=X.prog) (w:=X.w) rel
 obtain⟨z,hd,vs0,r0,dd⟩:=PP I2.hok e
 cases r0
 refine⟨rs,c,dd,fun h' dd' hs=>⟨.ref s.heap.objs.size,_,?_,rfl,q2⟩⟩
 have hz:(Fq [] kvs).length<=sizeLine:=by
  have h1:=D4 kvs []
  rw [List.length_nil] at h1
  rw [sizeLine_eq]; omega
 have he:∃q,h'.get? s.heap.objs.size=some q:=let ⟨q,_,_,hq,_⟩:=dd'; ⟨q,hq⟩
 exact IS I2 (by rw [e]; exact True.intro) hs he (KG hz hd (rk.merge .nil) dd')
structure M1 (X:Cx) (o:Expr) (m:Str) (apos:Pos) (e:Expr) (cpos:Pos):Prop where
 base:attributeBase o m X.env (eval o X.env)=eval o X.env
 few:((backTo cpos (starEach [e] X.env)).all (fun x=>!x.1)&&(backToKw cpos (keywordEach [] X.env)).all (fun x=>x.1.isSome)
  && decide (([e]:List Expr).length+([]:List Keyword).length+(if ([]:List Keyword).isEmpty then 0 else 1)<30))=true
 line:(apos.endLine==cpos.line)=true
 trees:backTo cpos (starEach [e] X.env)=[(false,eval e X.env)]
structure M2 (X:Cx) (o:Expr) (m:Str) (apos:Pos) (e f:Expr) (cpos:Pos):Prop where
 base:attributeBase o m X.env (eval o X.env)=eval o X.env
 few:((backTo cpos (starEach [e,f] X.env)).all (fun x=>!x.1)&&(backToKw cpos (keywordEach [] X.env)).all (fun x=>x.1.isSome)
  && decide (([e,f]:List Expr).length+([]:List Keyword).length+(if ([]:List Keyword).isEmpty then 0 else 1)<30))=true
 line:(apos.endLine==cpos.line)=true
 trees:backTo cpos (starEach [e,f] X.env)=[(false,eval e X.env),(false,eval f X.env)]
def S5(H:Hp)(a:Addr):Prop:=(∃kvs,Rd H a (.dK kvs))\/∃kvs,Rd H a (.dT kvs)
theorem NO{X:Cx}{pins:List (Addr×Obj)}{σ:St}{H:Hp}{s:Shared}{a:Addr}(I:Inv X pins σ H s)(d:S5 H a) :
  s.TypeIs (.ref a) "dict"/\(∀b,Value.ref a=.ref b->∃ob,s.heap.get? b=some ob/\ob.dict=none)/\(a==sysModules)=false:=by
 rcases d with ⟨kvs,e⟩ | ⟨kvs,e⟩
 ·obtain⟨_,hd,vs,_,dd⟩:=FF I.hok e
  refine⟨dd.typeIs,fun b q=>?_,hd⟩
  cases q
  obtain⟨ob,_,_,h1,h2,_⟩:=dd
  exact⟨ob,h1,h2.2.1⟩
 ·obtain⟨_,hd,xs,_,dd⟩:=GJ I.hok e
  refine⟨dd.typeIs,fun b q=>?_,hd⟩
  cases q
  obtain⟨ob,_,_,h1,h2,_⟩:=dd
  exact⟨ob,h1,h2.2.1⟩
section
variable {X:Cx}{pins:List (Addr×Obj)}{σ:St}{H:Hp}{s:Shared}{a:Addr}{y d:V}{u r:Value}{o:Option V}{A:Around}{E:Value->Shared->Prop}
theorem Qa{Q:Value->Shared->Prop}(hu:A.units+1<cLine)(I:Inv X pins σ H s)(g:DGet H a y o)(ry:RelV y u)(rd:RelV d r)(h:∀w' s',Inv X pins σ H s'->RelV (o.getD d) w'->Q w' s') :
  wpAny (model X.prog X.w) A (call (.builtin "dict.get") [.ref a,u,r]) Q E s:=by
 rcases g with ⟨kvs,k,e,ey,l⟩ | ⟨kvs,k,b,e,ey,eb,l⟩
 ·subst ey
  obtain⟨z,hd,vs,rel,dd⟩:=FF I.hok e
  refine call_meetsIn PySem.F.slot_dict_get dd.typeIs PySem.F.entry_dict_get (PySem.F.args_dict_get_3 _ _ _) (meets_dict_get_default (Aw X.prog X.w) a (FE ry) hd r) ⟨_,dd.mapOf,h _ _ (I.tok _) ?_⟩
  rw [l]
  exact(rel.val k).getD rd
 ·subst ey
  cases (show u=Value.ref b from ry)
  obtain⟨z,hd,xs,rel,dd⟩:=GJ I.hok e
  refine call_meetsIn PySem.F.slot_dict_get dd.typeIs PySem.F.entry_dict_get (PySem.F.args_dict_get_3 _ _ _) (meetsH_dict_get_default (tupleKind (Aw X.prog X.w)) a b hd r) ⟨tupleKind_room_in1 hu,k,xs,E4 I.hok eb,dd,h _ _ (I.tok _) ?_⟩
  rw [l]
  exact(rel.val k).getD rd
end
def Pp(td ty tx:TE):TE:=fun σ H Q=>td σ H fun x H1=>∃a,x=.ref a/\S5 H1 a/\ty σ H1 fun y H2=>tx σ H2 fun z H3=>∃o,DGet H3 a y o/\Q (o.getD z) H3
section
variable {X:Cx}{o e f:Expr}{apos cpos:Pos}{td ty tx:TE}
theorem M7(hu:X.A.units+1<cLine)(ho:PE X o td)(he:PE X e ty)(hf:PE X f tx)(m:M2 X o "get" apos e f cpos):PE X (.Call (.Attribute o "get" apos) [e,f] [] cpos) (Pp td ty tx):=by
 intro pins s σ H Q I h
 refine wpAny_Call_method m.base m.few m.line PySem.F.plainAttrs_dict PySem.F.slot_dict_get PySem.F.type_dict_get (BL (ho pins s σ H _ I h) fun u s1 ⟨x,H1,I1,rx,a,ex,d,q1⟩=>?_)
 subst ex
 obtain rfl:u=Value.ref a:=rx
 obtain⟨t1,t2,_⟩:=NO I1 d
 refine⟨t1,t2,?_⟩
 rw [m.trees]
 refine Calls.callWith_builtin rfl (Calls.evalArgs_plain (Calls.spliced_cons (BL (he pins s1 σ H1 _ I1 q1) fun iv s2 ⟨y,H2,I2,ry,q2⟩ =>
  Calls.spliced_cons (BL (hf pins s2 σ H2 _ I2 q2) fun fv s3 ⟨z,H3,I3,rz,ov,g,q3⟩=>Calls.spliced_nil ?_))))
 exact Qa hu I3 g ry rz fun w' s4 I4 rw'=>⟨_,H3,I4,rw',q3⟩
end
section
variable {X:Cx}{pins:List (Addr×Obj)}{σ:St}{H:Hp}{s:Shared}{a:Addr}{kvs:List (Key×V)}{A:Around}{E:Value->Shared->Prop}
end
section
variable {X:Cx}{pins:List (Addr×Obj)}{σ:St}{H:Hp}{s:Shared}{a:Addr}{y:V}{u:Value}{A:Around}{E:Value->Shared->Prop}
end
end L2
set_option maxHeartbeats 4000000
namespace L2
open PySem PySem.Spec PyProof.Rows
section
theorem KJ{env:Env}:∀(names:List (Str×NameKind)) (cs:List (Str×Addr)),(∀x,(x,NameKind.free)∈names->∃c,env.cells.lookup x=some c)->(∀x c,cs.lookup x=some c->env.cells.lookup x=some c) ->
  ∃cl,(forIn names cs fun(x:Str×NameKind) (r:List (Str×Addr))=>(if (x.2==NameKind.free)=true then do let a ← cellOf env x.1; pure (ForInStep.yield ((x.1,a)::r)) else pure (ForInStep.yield r):Sem (ForInStep (List (Str×Addr)))))=(pure cl:Sem _) /\
   (∀x c,cl.lookup x=some c->env.cells.lookup x=some c)/\(∀x,((x,NameKind.free)∈names\/∃c,cs.lookup x=some c)->∃c,cl.lookup x=some c):=by
 intro names
 induction names with
 | nil =>
  intro cs _ h2
  exact⟨cs,rfl,h2,fun x hx=>hx.elim (fun z=>absurd z (by simp)) fun z=>z⟩
 | cons p r ih =>
  intro cs h1 h2
  obtain⟨n,k⟩:=p
  by_cases hk:k=NameKind.free
  ·subst hk
   obtain⟨c,hc⟩:=h1 n List.mem_cons_self
   have hcell:cellOf env n=pure c:=by simp only [cellOf,hc]
   obtain⟨cl,e,a,b⟩:=ih ((n,c)::cs) (fun x hx=>h1 x (List.mem_cons_of_mem _ hx)) (fun x c' hx=>by
    rw [List.lookup_cons] at hx
    cases hb:x==n with
    | true =>
     rw [hb] at hx
     have hx':some c=some c':=hx
     cases hx'
     have:x=n:=by simpa using hb
     rw [this]; exact hc
    | false=>rw [hb] at hx; exact h2 x c' hx)
   refine⟨cl,?_,a,fun x hx=>b x ?_⟩
   ·rw [List.forIn_cons]
    simp only [beq_self_eq_true,if_true,hcell,pure_bind]
    exact e
   ·by_cases hxn:x=n
    ·subst hxn
     exact .inr ⟨c,by simp [List.lookup_cons]⟩
    ·rcases hx with hx | ⟨c',hx⟩
     ·rcases List.mem_cons.mp hx with hx | hx
      ·cases hx; exact absurd rfl hxn
      ·exact .inl hx
     ·refine .inr ⟨c',?_⟩
      have:(x==n)=false:=by simpa using hxn
      rw [List.lookup_cons,this]
      exact hx
  ·have hk':(k==NameKind.free)=false:=by simpa using hk
   obtain⟨cl,e,a,b⟩:=ih cs (fun x hx=>h1 x (List.mem_cons_of_mem _ hx)) h2
   refine⟨cl,?_,a,fun x hx=>b x ?_⟩
   ·rw [List.forIn_cons]
    simp only [hk',Bool.false_eq_true,if_false,pure_bind]
    exact e
   ·rcases hx with hx | hx
    ·rcases List.mem_cons.mp hx with hx | hx
     ·cases hx; exact absurd rfl hk
     ·exact .inl hx
    ·exact .inr hx
theorem KI{scope:Scope}{env:Env}(h:∀x,(x,NameKind.free)∈scope.names->∃c,env.cells.lookup x=some c) :
  ∃cl,closureFor scope env=pure cl/\(∀x c,cl.lookup x=some c->env.cells.lookup x=some c)/\(∀x,(x,NameKind.free)∈scope.names->∃c,cl.lookup x=some c):=by
 obtain⟨cl,e,a,b⟩:=KJ scope.names [] h (fun x c hx=>by simp at hx)
 refine⟨cl,?_,a,fun x hx=>b x (.inl hx)⟩
 simp only [closureFor]
 rw [e,pure_bind]
variable {prog:Program}{w:World}{A:Around}{E:Value->Shared->Prop}{R:Result->Shared->Prop}{s:Shared}
theorem IU{elt target iter:Expr}{ifs:List Expr}{scope:Scope}{pos:Pos}{it acc:Value}{env:Env}(I:Nat->Shared->Prop)
  (turn:∀n s,I n s->wpAny (model prog w) A (pyNext it) (fun r s₁=>match r with
   | none=>R (.ok .next) s₁
   | some v=>wpAny (model prog w) A (letOwnedTupleGo target it v) (fun _ s₁'=>wpAny (model prog w) A (assign target env v) (fun _ s₂ =>
     wpAny (model prog w) A (forIn ifs true fun c r=>if r=true then do let ok ← isTrue c env (eval c env); pure (ForInStep.yield ok) else pure (ForInStep.yield r)) (fun ok s₃ =>
      if ok=true then wpAny (model prog w) A (eval elt env) (fun x s₄ =>
       wpAny (model prog w) A (call (.builtin "list.append") [acc,x]) (fun _ s₅=>∃m,m<n/\I m s₅) (fun _ _=>False) s₄) (fun _ _=>False) s₃
      else ∃m,m<n/\I m s₃) (fun _ _=>False) s₂) (fun _ _=>False) s₁') (fun _ _=>False) s₁) (fun _ _=>False) s)
  (n:Nat) (h:I n s) :
  codeAny (model prog w) A (.compLoop (.ListComp elt [⟨target,iter,ifs,0⟩] scope pos) 0 it acc env) R s:=by
 refine codeAny_loop rfl I (fun n s hI=>?_) n h
 show wpAny _ A ((compTurn (.ListComp elt [⟨target,iter,ifs,0⟩] scope pos) 0 it acc env).onRaise (fun x=>do noteFrame x env; theTreesLotGoes x)) _ _ s
 refine wpAny_noted ?_
 rw [compTurn_list]
 refine wpAny_bind (wpAny_standAt (wpAny_bind (wpAny_mono (turn n s hI) (fun r s₁ h₁=>?_) fun _ _ h'=>h'.elim)))
 cases r with
 | none=>exact wpAny_pure h₁
 | some v =>
  refine wpAny_bind (wpAny_mono h₁ (fun _ s₁' h₁'=>?_) fun _ _ h'=>h'.elim)
  refine wpAny_bind (wpAny_mono h₁' (fun _ s₂ h₂=>wpAny_bind (wpAny_mono h₂ (fun ok s₃ h₃=>?_) fun _ _ h'=>h'.elim)) fun _ _ h'=>h'.elim)
  cases ok with
  | false=>exact wpAny_pure ⟨rfl,h₃⟩
  | true =>
   exact wpAny_bind (wpAny_bind (wpAny_mono h₃ (fun x s₄ h₄=>wpAny_bind (wpAny_mono h₄ (fun _ s₅ h₅=>wpAny_pure (wpAny_pure ⟨rfl,h₅⟩)) fun _ _ h'=>h'.elim)) fun _ _ h'=>h'.elim))
end
def BF(X:Cx)(sc:Scope)(N':List Str)(cl:List (Str×Addr))(C:Addr)(s:Shared)(H:Hp)(ex:List Addr):Cx where
 prog:=X.prog
 w:=X.w
 K:=X.K
 mg:=X.mg
 base:=X.base
 A:=X.A
 N:=N'
 s₀:=s
 H₀:=H
 env:=compEnvC sc cl C X.env
 outer:=X.stack
 stack:=X.stack
 ex:=ex
 fn:=fun _=>false
 calm:=true
 pn:=[]
 xe:=fun _ _=>False
def Cq(js:List (Option Nat))(σ:St):St:=js.map fun o=>match o with
 | some i=>(σ[i]?).getD none
 | none=>none
def OQ(o:Option NameKind):Bool:=match o with
 | some .cell=>true
 | some .free=>true
 | _=>false
theorem K0{o:Option NameKind}(h:OQ o=true):o=some .cell\/o=some .free:=by
 unfold OQ at h
 split at h
 ·exact .inl rfl
 ·exact .inr rfl
 ·cases h
def isFree(o:Option NameKind):Bool:=match o with
 | some .free=>true
 | _=>false
theorem L9{o:Option NameKind}(h:isFree o=true):o=some .free:=by
 unfold isFree at h
 split at h
 ·rfl
 ·cases h
def NL(o:Option NameKind):Bool:=match o with
 | some .local=>true
 | _=>false
theorem NK{o:Option NameKind}(h:NL o=true):o=some .local:=by
 unfold NL at h
 split at h
 ·rfl
 ·cases h
def NN(k:ScopeKind):Bool:=match k with
 | .function=>true
 | _=>false
theorem NM{k:ScopeKind}(h:NN k=true):k=.function:=by
 unfold NN at h
 split at h
 ·rfl
 ·cases h
def Sf(sc esc:Scope)(p:Str×NameKind):Bool:=match p.2 with
 | .cell=>false
 | .free=>OQ (esc.names.lookup p.1)
 | .local=>NL (sc.names.lookup p.1)
 | _=>true
def Ss(x:Option Str)(y:Str):Bool:=match x with
 | some z=>z==y
 | none=>false
theorem QV{x:Option Str}{y:Str}(h:Ss x y=true):x=some y:=by
 unfold Ss at h
 split at h
 ·exact congrArg some (by simpa using h)
 ·cases h
def Ej(sc esc:Scope)(N:List Str):List Str->List (Option Nat)->Bool
 | [],[]=>true
 | x::xs,some j::js=>isFree (sc.names.lookup x)&&Ss (N[j]?) x&&OQ (esc.names.lookup x)&&Ej sc esc N xs js
 | _::xs,none::js=>Ej sc esc N xs js
 | _,_=>false
def LH(sc esc:Scope)(N N':List Str)(js:List (Option Nat)):Bool:=NN sc.kind&&sc.names.all (Sf sc esc)&&Ej sc esc N N' js
theorem Ei{sc esc:Scope}{N:List Str}:∀{N':List Str} {js:List (Option Nat)},Ej sc esc N N' js=true->js.length=N'.length
 | [],[],_=>rfl
 | x::xs,some j::js,h=>by
  unfold Ej at h
  rw [Bool.and_eq_true] at h
  rw [List.length_cons,List.length_cons,Ei h.2]
 | x::xs,none::js,h=>by
  unfold Ej at h
  rw [List.length_cons,List.length_cons,Ei h]
 | [],some _::_,h=>by unfold Ej at h; cases h
 | [],none::_,h=>by unfold Ej at h; cases h
 | _::_,[],h=>by unfold Ej at h; cases h
theorem IV{sc esc:Scope}{N:List Str}:∀{N':List Str} {js:List (Option Nat)},Ej sc esc N N' js=true->∀{k:Nat} {x:Str} {j:Nat},N'[k]?=some x->js[k]?=some (some j) ->
  sc.names.lookup x=some .free/\N[j]?=some x/\(esc.names.lookup x=some .cell\/esc.names.lookup x=some .free)
 | [],_,_,k,x,j,h1,_=>by simp at h1
 | _::_,[],h,_,_,_,_,_=>by unfold Ej at h; cases h
 | y::ys,some i::js,h,k,x,j,h1,h2=>by
  unfold Ej at h
  rw [Bool.and_eq_true,Bool.and_eq_true,Bool.and_eq_true] at h
  cases k with
  | zero =>
   simp at h1 h2
   subst h1 h2
   exact⟨L9 h.1.1.1,QV h.1.1.2,K0 h.1.2⟩
  | succ k=>exact IV h.2 (k:=k) (by simpa using h1) (by simpa using h2)
 | y::ys,none::js,h,k,x,j,h1,h2=>by
  unfold Ej at h
  cases k with
  | zero=>simp at h2
  | succ k=>exact IV h (k:=k) (by simpa using h1) (by simpa using h2)
theorem Ly{js:List (Option Nat)}{σ:St}{k:Nat}{v:V}(h:(Cq js σ)[k]?=some (some v)):∃j,js[k]?=some (some j)/\σ[j]?=some (some v):=by
 unfold Cq at h
 rw [List.getElem?_map] at h
 cases e:js[k]? with
 | none=>rw [e] at h; cases h
 | some o =>
  rw [e] at h
  cases o with
  | none=>cases h
  | some j =>
   refine⟨j,rfl,?_⟩
   have h':some ((σ[j]?).getD none)=some (some v):=h
   have h2:=Option.some.inj h'
   cases q:σ[j]? with
   | none=>rw [q] at h2; cases h2
   | some w=>rw [q] at h2; exact congrArg some h2
theorem CV{env:Env}:∀{names:List (Str×NameKind)} {x:Str},names.lookup x=some .free ->
  (names.map fun(n,k)=>if (k==NameKind.free&&env.scope.kind==.function&&env.kindOf n==some .cell) then (n,NameKind.cell) else (n,k)).lookup x=some .cell \/
  (names.map fun(n,k)=>if (k==NameKind.free&&env.scope.kind==.function&&env.kindOf n==some .cell) then (n,NameKind.cell) else (n,k)).lookup x=some .free
 | [],_,h=>by simp at h
 | (n,k)::r,x,h=>by
  have ih:=@CV env r x
  show List.lookup x ((if (k==NameKind.free&&env.scope.kind==.function&&env.kindOf n==some .cell)=true then (n,NameKind.cell) else (n,k))::_)=_\/List.lookup x ((if (k==NameKind.free&&env.scope.kind==.function&&env.kindOf n==some .cell)=true then (n,NameKind.cell) else (n,k))::_)=_
  by_cases hc:(k==NameKind.free&&env.scope.kind==.function&&env.kindOf n==some .cell)=true
  ·rw [if_pos hc]
   cases hx:x==n with
   | true=>exact .inl (by simp only [List.lookup_cons,hx])
   | false =>
    simp only [List.lookup_cons,hx] at h ⊢
    exact ih h
  ·rw [if_neg hc]
   cases hx:x==n with
   | true =>
    simp only [List.lookup_cons,hx] at h ⊢
    exact .inr h
   | false =>
    simp only [List.lookup_cons,hx] at h ⊢
    exact ih h
theorem Jt{env:Env}{sc:Scope}(hcell:∀y∈sc.names,y.2≠.cell){x:Str}(h:(relabel sc env).names.lookup x=some .cell\/(relabel sc env).names.lookup x=some .free):(x,NameKind.free)∈sc.names:=by
 have hm:(x,NameKind.cell)∈(relabel sc env).names\/(x,NameKind.free)∈(relabel sc env).names:=h.elim (fun z=>.inl (PySem.mem_of_lookup z)) fun z=>.inr (PySem.mem_of_lookup z)
 have go:∀k:NameKind,(k=.cell\/k=.free)->(x,k)∈(relabel sc env).names->(x,NameKind.free)∈sc.names:=by
  intro k hk hmem
  unfold relabel at hmem
  obtain⟨⟨n,k0⟩,hn,e⟩:=List.mem_map.mp hmem
  by_cases hc:(k0==NameKind.free&&env.scope.kind==.function&&env.kindOf n==some .cell)=true
  ·have e':(n,NameKind.cell)=(x,k):=by
    have:=e
    simp only [hc,if_true] at this
    exact this
   have hk0:k0=.free:=by
    rw [Bool.and_eq_true,Bool.and_eq_true] at hc
    simpa using hc.1.1
   cases e'
   subst hk0
   exact hn
  ·have e':(n,k0)=(x,k):=by
    have:=e
    simp only [hc,if_false] at this
    exact this
   cases e'
   rcases hk with rfl | rfl
   ·exact absurd rfl (hcell _ hn)
   ·exact hn
 exact hm.elim (go _ (.inl rfl)) (go _ (.inr rfl))
section
variable {X:Cx}{pins:List (Addr×Obj)}{σ:St}{H:Hp}{s:Shared}
structure CompOk (X:Cx) (sc:Scope) (N':List Str) (js:List (Option Nat)):Prop where
 kind:sc.kind=.function
 cell:∀y∈sc.names,y.2≠.cell
 free:∀x,(x,NameKind.free)∈sc.names->X.env.scope.names.lookup x=some .cell\/X.env.scope.names.lookup x=some .free
 names:∀y∈sc.names,y.2=.local->sc.names.lookup y.1=some .local
 cap:Ej sc X.env.scope X.N N' js=true
theorem CompOk.of{sc:Scope}{N':List Str}{js:List (Option Nat)}(h:LH sc X.env.scope X.N N' js=true):CompOk X sc N' js:=by
 unfold LH at h
 rw [Bool.and_eq_true,Bool.and_eq_true,List.all_eq_true] at h
 obtain⟨⟨h1,h2⟩,h3⟩:=h
 refine⟨NM h1,fun y hy e=>?_,fun x hx=>?_,fun y hy e=>?_,h3⟩
 ·have q:=h2 y hy
  unfold Sf at q
  rw [e] at q
  cases q
 ·have q:=h2 _ hx
  exact K0 q
 ·have q:=h2 y hy
  unfold Sf at q
  rw [e] at q
  exact NK q
theorem NP{sc:Scope}{N':List Str}{js:List (Option Nat)}{cl:List (Str×Addr)}{fp:List Addr}{h₁:Heap}{tk:Nat}(I:Inv X pins σ H s)(hc:X.calm=true)(O:CompOk X sc N' js)
  (hcl:∀x c,cl.lookup x=some c->X.env.cells.lookup x=some c) (hcl2:∀x,(x,NameKind.free)∈sc.names->∃c,cl.lookup x=some c)
  (hf:∀b∈fp,E_ X pins H b) (ho:∀b∈fp,∃o,s.heap.get? b=some o)
  (hns:h₁.Ns (s.heap.objs.size+1) (fun _=>none)) (hk:∀b o,s.heap.get? b=some o->h₁.get? b=some o) (hD:∃n,h₁.get? s.heap.objs.size=some { cls:=.type "list",data:=.seq #[] n }) :
  Inv (BF X sc N' cl (s.heap.objs.size+1) s H fp) [] (Cq js σ) (A_ H s.heap.objs.size (.lst [])) { s with heap:=h₁,toks:=tk }:=by
 have fr:∀a,s.heap.objs.size<=a->H a=none:=fun a ha=>I.hok.fresh ha
 have cellLt:∀x c,cl.lookup x=some c->c<s.heap.objs.size:=fun x c e=>by
  obtain⟨v,q⟩:=I.cell x c (hcl x c e)
  exact q.lt
 have ok:(BF X sc N' cl (s.heap.objs.size+1) s H fp).Ok:=by
  refine⟨I.ok.mod,O.kind,I.ok.glob,I.ok.blt,Nat.le_succ _,fun x y c h1 h2=>I.ok.inj x y c (hcl x c h1) (hcl y c h2),fun x hx=>?_,fun x c hx=>?_,fun _=>I.ok.hd hc,I.ok.frames,.inl rfl,fun b hb=>⟨?_,fun x c e=>?_⟩,I.bs,Nat.le_trans I.ok.bsz I.sz,fun b o e hb=>?_,fun b hb hb2=>?_,I.stack,I.stkFree⟩
  ·exact hcl2 x (Jt (env:=X.env) O.cell hx)
  ·exact absurd (show false=true from hx) Bool.false_ne_true
  ·obtain⟨o,e⟩:=ho b hb
   exact Nat.ne_of_lt (Nat.lt_succ_of_lt (Heap.lt_size e))
  ·exact(hf b hb).2.2.2.2.1 x c (hcl x c e)
  ·rcases (hf b hb).2.2.2.1 with z | z
   ·exact I.ok.noex b o e z
   ·have h1:b<X.base.objs.size:=Heap.lt_size e
    exact absurd (Nat.lt_of_lt_of_le h1 (Nat.le_trans I.ok.bsz z)) (Nat.lt_irrefl _)
  ·rcases List.mem_cons.mp (I.stkSub b hb2) with z | z
   ·exact(hf b hb).2.1 z
   ·exact(hf b hb).2.2.1 z
 refine⟨ok,rfl,I.bare,?_,⟨_,hns,fun i x v h1 h2 h3=>?_⟩,fun x c e=>?_,?_,fun x c e=>?_,fun p hp=>absurd (show p∈([]:List (Addr×Obj)) from hp) (by simp),?_,?_⟩
 ·exact Un.laid hk (Nat.le_refl _) (fr _ (Nat.le_refl _))
 ·obtain⟨j,e1,e2⟩:=Ly h2
  obtain⟨c1,c2,c3⟩:=IV O.cap h1 e1
  obtain⟨m,_,hl⟩:=I.loc
  obtain⟨u,r,l⟩:=hl j x v c2 e2 (.inr c3)
  refine⟨u,r,.inr ⟨CV c1,?_⟩⟩
  rcases l with ⟨l1,_⟩ | ⟨_,c,l2,l3⟩
  ·have l1':X.env.scope.names.lookup x=some .local:=l1
   rcases c3 with c3 | c3 <;> (rw [l1'] at c3; cases c3)
  ·obtain⟨c',e'⟩:=hcl2 x (PySem.mem_of_lookup c1)
   have:c'=c:=Option.some.inj ((hcl x c' e').symm.trans l2)
   subst this
   obtain⟨oc,hoc,hocd⟩:=id l3
   exact⟨c',e',oc,hk _ _ hoc,hocd⟩
 ·obtain⟨v,oc,hoc,hocd⟩:=I.cell x c (hcl x c e)
  exact⟨v,oc,hk _ _ hoc,hocd⟩
 ·show A_ H s.heap.objs.size (.lst []) (s.heap.objs.size+1)=none
  rw [AO (Nat.succ_ne_self _)]
  exact fr _ (Nat.le_succ _)
 ·show A_ H s.heap.objs.size (.lst []) c=none
  rw [AO (Nat.ne_of_lt (cellLt x c e))]
  exact I.freeC x c (hcl x c e)
 ·refine I.hok.laid hk (Nat.le_refl _) ?_
  obtain⟨n,e⟩:=hD
  exact⟨Nat.zero_le _,[],n,.nil,e⟩
 ·unfold Cq
  show (js.map _).length=N'.length
  rw [List.length_map]
  exact Ei O.cap
theorem Un.but{fs ex:List Addr}{H H1:Hp}{h h1 h':Heap}{C:Addr}(u:Un fs ex H H1 h h1)(hC:h.get? C=none)(hs:∀b,b≠C->h'.get? b=h1.get? b):Un fs ex H H1 h h':=by
 have ne:∀{b:Addr} {o:Obj},h.get? b=some o->b≠C:=fun {b o} e z=>by rw [z,hC] at e; cases e
 refine⟨fun b o e n h1 h2=>(hs b (ne e)).trans (u.keep b o e n h1 h2),fun b o e n h1 h2=>?_,u.free,fun b o e h1=>?_,u.tups,u.frzs,u.tbls⟩
 ·obtain⟨sl,q⟩:=u.slot b o e n h1 h2
  exact⟨sl,(hs b (ne e)).trans q⟩
 ·obtain⟨o',q⟩:=u.there b o e h1
  exact⟨o',(hs b (ne e)).trans q⟩
theorem J9{sc:Scope}{N':List Str}{cl:List (Str×Addr)}{C:Addr}{fp:List Addr}{pins':List (Addr×Obj)}{σ':St}{H':Hp}{s':Shared}{h':Heap}(I:Inv X pins σ H s)(hf:∀b∈fp,E_ X pins H b)(hC:s.heap.objs.size<=C)
  (J:Inv (BF X sc N' cl C s H fp) pins' σ' H' s') (hs:∀b,b≠C->h'.get? b=s'.heap.get? b):Inv X pins σ H' { s' with heap:=h' }:=by
 have nC:s.heap.get? C=none:=by
  cases e:s.heap.get? C with
  | none=>rfl
  | some o=>exact absurd (Heap.lt_size e) (Nat.not_lt.mpr hC)
 have hC':H' C=none:=J.free
 refine I.call' (s':={ s' with heap:=h' }) (ch:=fp) J.os (Un.but J.base nC hs) (fun a o e=>?_) J.bare fun b hb=>?_
 ·exact(J.hok a o e).stay (fun b u hb q=>(hs b (fun z=>by
   rw [z] at hb
   rcases hb with z2 | z2
   ·rw [← z2,hC'] at e; cases e
   ·rw [hC'] at z2; cases z2)).trans q) (fun _ q=>q) fun _ _ q=>q
 ·obtain⟨f0,f1,f2,f3,f4,f5⟩:=hf b hb
  exact⟨f3,f1,f4,f5⟩
end
def SN(X:Cx)(ifs:List Expr)(t:TT):Prop :=
 ∀(pins:List (Addr×Obj)) (s:Shared) (σ:St) (H:Hp) (Q:Bool->Hp->Prop),Inv X pins σ H s->t σ H Q ->
  wpAny (model X.prog X.w) X.A (forIn ifs true fun c r=>if r=true then do let ok ← isTrue c X.env (eval c X.env); pure (ForInStep.yield ok) else pure (ForInStep.yield r)) (TP X pins σ Q) X.xe s
def ST:TT:=fun _ H Q=>Q true H
theorem OB{X:Cx}:SN X [] ST:=fun pins s σ H Q I h=>wpAny_tests_nil ⟨H,I,h⟩
def Q9(X:Cx)(sc:Scope)(N':List Str)(js:List (Option Nat))(tg elt:Expr)(ifs:List Expr)(wi:TI):TE:=fun σ H Q=>wi σ H fun J H1=>∀l,H1 l=none->X.K.lookup l=none->∀cl C s H0 fp,∃(g:TG) (tt:TT) (te:TE) (W:Nat->Nat->St->Hp->Prop),
 PG (BF X sc N' cl C s H0 fp) tg g/\SN (BF X sc N' cl C s H0 fp) ifs tt/\PE (BF X sc N' cl C s H0 fp) elt te/\(∃m,W 0 m (Cq js σ) (A_ H1 l (.lst [])))/\∀i m σ' H',W i m σ' H' ->
 (J.stop i H'/\Q (.ref l) H')\/(J.go i H'/\∀x H2,J.yld i H' x H2->g x σ' H2 fun σ3 H3=>tt σ3 H3 fun b H4=>if b=true then te σ3 H4 fun y H5=>∃ys,H5 l=some (.lst ys)/\ys.length<sizeLine/\∃m',m'<m/\W (i+1) m' σ3 (A_ H5 l (.lst (ys++[y]))) else ∃m',m'<m/\W (i+1) m' σ3 H4)
section
variable {X:Cx}{tg elt iter:Expr}{ifs:List Expr}{sc:Scope}{pos:Pos}{N':List Str}{js:List (Option Nat)}{wi:TI}{g:TG}{tt:TT}{te:TE}
theorem MI{pins:List (Addr×Obj)}{σ:St}{H:Hp}{s:Shared}{cl:List (Str×Addr)}{C l it:Addr}{fp:List Addr}{tn:Nat->Heap->Prop}{J:It}{s3:Shared}{Q:VK}{R:Result->Shared->Prop}{W:Nat->Nat->St->Hp->Prop}{m0:Nat}{σ0:St}{H0:Hp}
  (I:Inv X pins σ H s) (hf:∀b∈fp,E_ X pins H b) (hlt:∀b∈fp,b<s.heap.objs.size) (hC:s.heap.objs.size<=C)
  (T:Turn X.prog X.w X.K tg J fp it tn)
  (hg:PG (BF X sc N' cl C s H fp) tg g) (ht:SN (BF X sc N' cl C s H fp) ifs tt) (he:PE (BF X sc N' cl C s H fp) elt te)
  (hW:∀i m σ' H',W i m σ' H' ->
   (J.stop i H'/\Q (.ref l) H')\/(J.go i H'/\∀x H2,J.yld i H' x H2->g x σ' H2 fun σ3 H3=>tt σ3 H3 fun b H4=>if b=true then te σ3 H4 fun y H5=>∃ys,H5 l=some (.lst ys)/\ys.length<sizeLine/\∃m',m'<m/\W (i+1) m' σ3 (A_ H5 l (.lst (ys++[y]))) else ∃m',m'<m/\W (i+1) m' σ3 H4))
  (hR:∀σ' H' s',Inv (BF X sc N' cl C s H fp) [] σ' H' s'->Q (.ref l) H'->R (.ok .next) s')
  (I3:Inv (BF X sc N' cl C s H fp) [] σ0 H0 s3) (t3:tn 0 s3.heap) (f3:∀b∈fp,H0 b=none) (w0:W 0 m0 σ0 H0) :
  codeAny (model X.prog X.w) X.A (.compLoop (.ListComp elt [⟨tg,iter,ifs,0⟩] sc pos) 0 (.ref it) (.ref l) (compEnvC sc cl C X.env)) R s3:=by
 have stat:∀{H':Hp},(∀b∈fp,H' b=none)->∀b∈fp,E_ (BF X sc N' cl C s H fp) [] H' b:=fun hn b hb=>by
  have q:=I3.ok.exf b hb
  refine⟨hn b hb,q.1,I3.ok.exfs b hb,.inl hb,q.2,fun p hp=>absurd (show p∈([]:List (Addr×Obj)) from hp) (by simp)⟩
 refine IU (fun n s'=>∃i σ' H',Inv (BF X sc N' cl C s H fp) [] σ' H' s'/\tn i s'.heap/\(∀b∈fp,H' b=none)/\W i n σ' H') ?_ m0 ⟨0,σ0,H0,I3,t3,f3,w0⟩
 rintro n s4 ⟨i,σ4,H4,I4,st4,fr4,w4⟩
 rcases hW i n σ4 H4 w4 with ⟨stop,qn⟩ | ⟨go,step⟩
 ·refine BL (T.done (BF X sc N' cl C s H fp) rfl rfl rfl rfl i [] s4 σ4 H4 (fun _ _=>False) I4 (stat fr4) st4 stop) fun r s5 ⟨hr,I5⟩=>?_
  subst hr
  exact hR σ4 H4 s5 I5 qn
 ·refine BL (T.item (BF X sc N' cl C s H fp) rfl rfl rfl rfl i [] s4 σ4 H4 (fun _ _=>False) I4 (stat fr4) st4 go) fun r s5 ⟨u,hr,h5⟩=>?_
  subst hr
  refine BL h5 fun _ s6 ⟨x,H6,I6,r6,y6,st6,fr6⟩=>?_
  have I6':=I6.pinned (stat fr6) (T.obj _ _ st6)
  refine BL (hg _ s6 σ4 H6 x u _ I6' r6 (step x H6 y6)) fun _ s7 ⟨σ7,H7,I7,q7⟩=>?_
  have again:∀{σ9:St} {H9:Hp} {s9:Shared} {m':Nat},Inv (BF X sc N' cl C s H fp) ([]++Fj fp s6.heap) σ9 H9 s9->m'<n->W (i+1) m' σ9 H9->∃m,m<n/\∃i σ' H',Inv (BF X sc N' cl C s H fp) [] σ' H' s9/\tn i s9.heap/\(∀b∈fp,H' b=none)/\W i m σ' H':=fun {σ9 H9 s9 m'} I9 hm w9=>by
   refine⟨m',hm,i+1,σ9,H9,I9.unpinned,T.keep _ _ _ st6 fun b hb o e=>(I9.pin (b,o) (List.mem_append_right _ (List.mem_append_right _ (DC hb e)))).1,fun b hb=>?_,w9⟩
   obtain⟨o,e,d⟩:=T.obj _ _ st6 b hb
   exact(I9.pin (b,o) (List.mem_append_right _ (List.mem_append_right _ (DC hb e)))).2.1
  refine BL (ht _ s7 σ7 H7 _ I7 q7) fun ok s8 ⟨H8,I8,q8⟩=>?_
  cases ok with
  | false =>
   have q8':∃m',m'<n/\W (i+1) m' σ7 H8:=q8
   obtain⟨m',hm,w8⟩:=q8'
   show ∃m,m<n/\_
   exact again I8 hm w8
  | true =>
   refine BL (he _ s8 σ7 H8 _ I8 q8) fun y s9 ⟨yv,H9,I9,ry,q9⟩=>?_
   obtain⟨ys,hl,hz,m',hm,w9⟩:=q9
   refine BL (C_ (X:=BF X sc N' cl C s H fp) _ s9 σ7 H9 (.ref l) [yv] (.ref l) [y] (fun v H'=>v=.non/\H'=A_ H9 l (.lst (ys++[yv]))) I9 rfl (.cons ry .nil) ⟨l,ys,yv,rfl,rfl,hl,hz,rfl,rfl⟩) fun _ sa ⟨v,Ha,Ia,_,_,eH⟩=>?_
   subst eH
   exact again Ia hm w9
theorem OD(hc:X.calm=true)(N':List Str)(js:List (Option Nat))(hi:PI X tg iter wi)
  (hB:LH sc X.env.scope X.N N' js=true)
  (hs:∀x,foldedSetIterable iter X.env x=pure x:=by intro _; rfl) :
  PE X (.ListComp elt [⟨tg,iter,ifs,0⟩] sc pos) (Q9 X sc N' js tg elt ifs wi):=by
 intro pins s σ H Q I h
 have O:CompOk X sc N' js:=CompOk.of hB
 obtain⟨cl,hclos,hcl,hcl2⟩:=KI (scope:=sc) (env:=X.env) fun x hx=>I.ok.has x (O.free x hx)
 rw [eval_ListComp]
 refine wpAny_comprehension_free (use:=none) rfl hs hclos O.kind O.names (BL (hi pins s σ H _ I h) fun v s1 h1=>BL h1 fun itv s2 h2=>?_)
 obtain⟨it,fp,tn,J,H2,e,I2,T,st2,f2,hq⟩:=h2
 subst e
 have kfree:X.K.lookup s2.heap.objs.size=none:=by
  cases q:X.K.lookup s2.heap.objs.size with
  | none=>rfl
  | some o=>exact absurd (Heap.lt_size (I2.kIn _ _ q)) (Nat.lt_irrefl _)
 obtain⟨g,tt,te,W,hg,ht,he,⟨m0,w0⟩,hW⟩:=hq s2.heap.objs.size (I2.hok.fresh (Nat.le_refl _)) kfree cl (s2.heap.objs.size+1) s2 H2 fp
 refine wpAny_newObj_type (wpAny_newFunctionEnv O.cell (by intro y hy; simp at hy) (fun h₁ hns₁ hsb₁=>?_) O.kind)
 dsimp only at hns₁ hsb₁ ⊢
 generalize hH2:s2.heap.push { cls:=.type "list",dict:=none,data:=.seq ([]:List Value).toArray }=Hh at hns₁ hsb₁ ⊢
 have hCe:Hh.objs.size=s2.heap.objs.size+1:=by rw [← hH2,Heap.size_push]
 have hlt:∀b∈fp,b<s2.heap.objs.size:=fun b hb=>by
  obtain⟨o,e,_⟩:=T.obj _ _ st2 b hb
  exact Heap.lt_size e
 have old:∀b o,s2.heap.get? b=some o->h₁.get? b=some o:=fun b o e=>hsb₁.extBut b o (by rw [hCe]; exact Nat.ne_of_lt (Nat.lt_succ_of_lt (Heap.lt_size e))) (Heap.get?_push_of_some _ (hH2▸Heap.get?_push_of_some _ e))
 have hD:∃n,h₁.get? s2.heap.objs.size=some { cls:=.type "list",data:=.seq #[] n }:=⟨_,hsb₁.extBut _ _ (by rw [hCe]; exact Nat.ne_of_lt (Nat.lt_succ_self _)) (Heap.get?_push_of_some _ (hH2▸Heap.get?_push_size _ rfl))⟩
 have I3:∀tk,Inv (BF X sc N' cl (s2.heap.objs.size+1) s2 H2 fp) [] (Cq js σ) (A_ H2 s2.heap.objs.size (.lst [])) { s2 with heap:=h₁,toks:=tk }:=fun tk =>
  NP I2 hc O hcl hcl2 f2 (fun b hb=>let ⟨o,e,_⟩:=T.obj _ _ st2 b hb; ⟨o,e⟩) (by rw [← hCe]; exact hns₁) old hD
 have st3:tn 0 h₁:=T.keep _ _ _ st2 fun b hb o e=>old b o e
 have fr3:∀b∈fp,A_ H2 s2.heap.objs.size (.lst []) b=none:=fun b hb=>by
  rw [AO (Nat.ne_of_lt (hlt b hb))]
  exact(f2 b hb).1
 have loop:∀tk,codeAny (model X.prog X.w) X.A (.compLoop (.ListComp elt [⟨tg,iter,ifs,0⟩] sc pos) 0 (.ref it) (.ref s2.heap.objs.size) (compEnvC sc cl (s2.heap.objs.size+1) X.env))
   (compPost (model X.prog X.w) X.A X.xe none (EP X pins σ Q) (.ref s2.heap.objs.size) (s2.heap.objs.size+1)) { s2 with heap:=h₁,toks:=tk }:=fun tk=>by
  refine MI (W:=W) (m0:=m0) (Q:=Q) I2 f2 hlt (Nat.le_succ _) T hg ht he hW (fun σ' H' s' J' q'=>?_) (I3 tk) st3 fr3 w0
  obtain⟨m,hn,_⟩:=J'.loc
  exact⟨m,hn,fun h' hs'=>⟨.ref _,H',J9 I2 f2 (Nat.le_succ _) J' fun b hb=>hs'.2 b hb,rfl,q'⟩⟩
 rw [show (newEnv sc Hh.objs.size X.env.globals cl X.env.qual none .none (some X.env) builtinsNs).locals=s2.heap.objs.size+1 from hCe]
 show codeAny (model X.prog X.w) X.A (.compStart (.ListComp elt [⟨tg,iter,ifs,0⟩] sc pos) 0 (.ref it) (.ref s2.heap.objs.size) (compEnvC sc cl (s2.heap.objs.size+1) X.env)) _ _
 exact codeAny_compStart_list (loop _) (T.self _ 0 _ _ _ st3 (loop _))
end
end L2
namespace Dp
open PySem PySem.Spec PyProof.Rows L2
inductive D where
 | non | bl (b:Bool) | int (i:Int) | str (x:Str) | tup (xs:List D) | lst (xs:List D) | dic (ks:List Key) (xs:List D) | fdi (ks:List Key) (xs:List D)
 deriving Inhabited
def NdT(M:Addr->Prop)(H:Hp)(a:Addr)(vs:List V):Prop:=¬M a/\H a=some (.tup vs)
def NdL(M:Addr->Prop)(H:Hp)(a:Addr)(vs:List V):Prop:=¬M a/\H a=some (.lst vs)
def NdD(M:Addr->Prop)(H:Hp)(a:Addr)(ks:List Key)(vs:List V):Prop:=¬M a/\H a=some (.dK (ks.zip vs))
def NdF(M:Addr->Prop)(H:Hp)(a:Addr)(ks:List Key)(vs:List V):Prop:=∃o,¬M a/\H a=some (.frz o (.dK (ks.zip vs)))
mutual
def At(K:Frag)(M:Addr->Prop)(H:Hp):D->V->Prop
 | .non,v=>v=.non
 | .bl b,v=>v=.bl b
 | .int i,v=>v=.int i
 | .str x,v=>v=.str x/\x.length<=sizeLine
 | .tup ds,v=>∃a vs,v=.ref a/\NdT M H a vs/\Ats K M H ds vs
 | .lst ds,v=>∃a vs,v=.ref a/\NdL M H a vs/\Ats K M H ds vs
 | .dic ks ds,v=>∃a vs,v=.ref a/\NdD M H a ks vs/\ks.length=ds.length/\Ats K M H ds vs
 | .fdi ks ds,v=>∃a vs,v=.ref a/\NdF M H a ks vs/\ks.length=ds.length/\Ats K M H ds vs
def Ats(K:Frag)(M:Addr->Prop)(H:Hp):List D->List V->Prop
 | [],vs=>vs=[]
 | d::ds,vs=>∃v r,vs=v::r/\At K M H d v/\Ats K M H ds r
end
section
variable {K:Frag}{M M':Addr->Prop}{H H':Hp}{a:Addr}{vs:List V}{ks:List Key}
theorem NdT.sq(h:NdT M H a vs):SqT K H a vs:=.inl (.inl h.2)
theorem NdL.sq(h:NdL M H a vs):SqL K H a vs:=.inl (.inl h.2)
def Pres(M:Addr->Prop)(H:Hp)(M':Addr->Prop)(H':Hp):Prop:=(∀b o,H b=some o->¬M b->H' b=some o)/\∀b,M' b->M b\/H b=none
theorem Pres.nd{u:HO}(p:Pres M H M' H')(n:¬M a)(h:H a=some u):¬M' a/\H' a=some u:=by
 refine⟨fun z=>?_,p.1 _ _ h n⟩
 rcases p.2 a z with z | z
 ·exact n z
 ·rw [z] at h; cases h
theorem NdT.pres(p:Pres M H M' H')(h:NdT M H a vs):NdT M' H' a vs:=p.nd h.1 h.2
theorem NdL.pres(p:Pres M H M' H')(h:NdL M H a vs):NdL M' H' a vs:=p.nd h.1 h.2
theorem NdD.pres(p:Pres M H M' H')(h:NdD M H a ks vs):NdD M' H' a ks vs:=p.nd h.1 h.2
theorem NdF.pres(p:Pres M H M' H')(h:NdF M H a ks vs):NdF M' H' a ks vs:=let ⟨o,h1,h2⟩:=h; ⟨o,p.nd h1 h2⟩
mutual
theorem At.pres(p:Pres M H M' H'):∀{d:D} {v:V},At K M H d v->At K M' H' d v
 | .non,v,h=>h
 | .bl b,v,h=>h
 | .int i,v,h=>h
 | .str x,v,h=>h
 | .tup ds,v,h=>by
  obtain⟨a,vs,e,hn,hs⟩:=h
  exact⟨a,vs,e,hn.pres p,Ats.pres p hs⟩
 | .lst ds,v,h=>by
  obtain⟨a,vs,e,hn,hs⟩:=h
  exact⟨a,vs,e,hn.pres p,Ats.pres p hs⟩
 | .dic ks ds,v,h=>by
  obtain⟨a,vs,e,hn,hl,hs⟩:=h
  exact⟨a,vs,e,hn.pres p,hl,Ats.pres p hs⟩
 | .fdi ks ds,v,h=>by
  obtain⟨a,vs,e,hn,hl,hs⟩:=h
  exact⟨a,vs,e,hn.pres p,hl,Ats.pres p hs⟩
theorem Ats.pres(p:Pres M H M' H'):∀{ds:List D} {vs:List V},Ats K M H ds vs->Ats K M' H' ds vs
 | [],vs,h=>h
 | d::ds,vs,h=>by
  obtain⟨v,r,e,h1,h2⟩:=h
  exact⟨v,r,e,At.pres p h1,Ats.pres p h2⟩
end
theorem Pres.trans{M1 M2 M3:Addr->Prop}{H1 H2 H3:Hp}(p:Pres M1 H1 M2 H2)(q:Pres M2 H2 M3 H3):Pres M1 H1 M3 H3:=by
 refine⟨fun b o e n=>?_,fun b z=>?_⟩
 ·refine q.1 b o (p.1 b o e n) fun z=>?_
  rcases p.2 b z with z | z
  ·exact n z
  ·rw [z] at e; cases e
 ·rcases q.2 b z with z | z
  ·exact p.2 b z
  ·cases e:H1 b with
   | none=>exact .inr rfl
   | some o =>
    by_cases n:M1 b
    ·exact .inl n
    ·rw [p.1 b o e n] at z; cases z
theorem Pres.refl(M:Addr->Prop)(H:Hp):Pres M H M H:=⟨fun _ _ e _=>e,fun _ z=>.inl z⟩
theorem Pres.less(h:∀b,M' b->M b):Pres M H M' H:=⟨fun _ _ e _=>e,fun b z=>.inl (h b z)⟩
theorem Ats.length:∀{ds:List D} {vs:List V},Ats K M H ds vs->vs.length=ds.length
 | [],vs,h=>by cases h; rfl
 | d::ds,vs,h=>by
  obtain⟨v,r,e,h1,h2⟩:=h
  subst e
  rw [List.length_cons,List.length_cons,Ats.length h2]
theorem Ats.get:∀{ds:List D} {vs:List V} {i:Nat} {d:D},Ats K M H ds vs->ds[i]?=some d->∃v,vs[i]?=some v/\At K M H d v
 | [],vs,i,d,h,e=>by simp at e
 | d0::ds,vs,0,d,h,e=>by
  obtain⟨v,r,e1,h1,h2⟩:=h
  simp at e
  subst e e1
  exact⟨v,rfl,h1⟩
 | d0::ds,vs,i+1,d,h,e=>by
  obtain⟨v,r,e1,h1,h2⟩:=h
  subst e1
  obtain⟨u,e2,h3⟩:=Ats.get (i:=i) (d:=d) h2 (by simpa using e)
  exact⟨u,by simpa using e2,h3⟩
theorem Ats.append:∀{ds es:List D} {vs us:List V},Ats K M H ds vs->Ats K M H es us->Ats K M H (ds++es) (vs++us)
 | [],es,vs,us,h,g=>by cases h; exact g
 | d::ds,es,vs,us,h,g=>by
  obtain⟨v,r,e,h1,h2⟩:=h
  subst e
  exact⟨v,r++us,rfl,h1,Ats.append h2 g⟩
theorem Ats.drop:∀{ds:List D} {vs:List V} (n:Nat),Ats K M H ds vs->Ats K M H (ds.drop n) (vs.drop n)
 | ds,vs,0,h=>h
 | [],vs,n+1,h=>by cases h; exact rfl
 | d::ds,vs,n+1,h=>by
  obtain⟨v,r,e,h1,h2⟩:=h
  subst e
  exact Ats.drop n h2
theorem Ats.take:∀{ds:List D} {vs:List V} (n:Nat),Ats K M H ds vs->Ats K M H (ds.take n) (vs.take n)
 | ds,vs,0,h=>rfl
 | [],vs,n+1,h=>by cases h; exact rfl
 | d::ds,vs,n+1,h=>by
  obtain⟨v,r,e,h1,h2⟩:=h
  subst e
  exact⟨v,r.take n,rfl,h1,Ats.take n h2⟩
theorem Ats.one{d:D}{v:V}(h:At K M H d v):Ats K M H [d] [v]:=⟨v,[],rfl,h,rfl⟩
theorem Ats.eraseIdx:∀{ds:List D} {vs:List V} (i:Nat),Ats K M H ds vs->Ats K M H (ds.eraseIdx i) (vs.eraseIdx i)
 | [],vs,i,h=>by cases h; exact rfl
 | d0::ds,vs,0,h=>by
  obtain⟨u,r,e1,h1,h2⟩:=h
  subst e1
  exact h2
 | d0::ds,vs,i+1,h=>by
  obtain⟨u,r,e1,h1,h2⟩:=h
  subst e1
  exact⟨u,r.eraseIdx i,rfl,h1,Ats.eraseIdx i h2⟩
theorem Ats.reverse:∀{ds:List D} {vs:List V},Ats K M H ds vs->Ats K M H ds.reverse vs.reverse
 | [],vs,h=>by cases h; exact rfl
 | d::ds,vs,h=>by
  obtain⟨v,r,e,h1,h2⟩:=h
  subst e
  rw [List.reverse_cons,List.reverse_cons]
  exact Ats.append (Ats.reverse h2) (Ats.one h1)
end
inductive Kd where
 | sh | tp | fr
def Tops(K:Frag)(M:Addr->Prop)(H:Hp)(a:Addr):D->Prop
 | .lst ds=>∃vs,H a=some (.lst vs)/\Ats K M H ds vs
 | .dic ks ds=>∃vs,H a=some (.dK (ks.zip vs))/\ks.length=ds.length/\Ats K M H ds vs
 | _=>False
theorem Tops.pres{K:Frag}{M M':Addr->Prop}{H H':Hp}{a:Addr}{d:D}(h:Tops K M H a d)(p:Pres M H M' H')(e:∀o,H a=some o->H' a=some o):Tops K M' H' a d:=by
 cases d with
 | lst ds=>obtain⟨vs,h1,h2⟩:=h; exact⟨vs,e _ h1,h2.pres p⟩
 | dic ks ds=>obtain⟨vs,h1,h2,h3⟩:=h; exact⟨vs,e _ h1,h2,h3.pres p⟩
 | _=>exact(show False from h).elim
theorem Tops.at{K:Frag}{M:Addr->Prop}{H:Hp}{a:Addr}{d:D}(h:Tops K M H a d)(n:¬M a):At K M H d (.ref a):=by
 cases d with
 | lst ds=>obtain⟨vs,h1,h2⟩:=h; exact⟨a,vs,rfl,⟨n,h1⟩,h2⟩
 | dic ks ds=>obtain⟨vs,h1,h2,h3⟩:=h; exact⟨a,vs,rfl,⟨n,h1⟩,h2,h3⟩
 | _=>exact(show False from h).elim
def AtT(K:Frag)(U:Addr->Prop)(M:Addr->Prop)(H:Hp):D->V->Prop
 | .lst ds,v=>∃a vs,v=.ref a/\¬U a/\Rd H a (.lst vs)/\Ats K M H ds vs
 | .dic ks ds,v=>∃a vs,v=.ref a/\¬U a/\H a=some (.dK (ks.zip vs))/\ks.length=ds.length/\Ats K M H ds vs
 | d,v=>At K M H d v
theorem Tops.att{K:Frag}{U M:Addr->Prop}{H:Hp}{a:Addr}{d:D}(h:Tops K M H a d)(n:¬U a):AtT K U M H d (.ref a):=by
 cases d with
 | lst ds=>obtain⟨vs,h1,h2⟩:=h; exact⟨a,vs,rfl,n,.inl h1,h2⟩
 | dic ks ds=>obtain⟨vs,h1,h2,h3⟩:=h; exact⟨a,vs,rfl,n,h1,h2,h3⟩
 | _=>exact(show False from h).elim
def VR(K:Frag)(U:Addr->Prop)(M:Addr->Prop)(H H':Hp):Kd->V->D->Prop
 | .sh,v,d=>At K M H' d v
 | .tp,v,d=>AtT K U M H' d v
 | .fr,v,d=>∃a,v=.ref a/\H a=none/\Tops K (fun b=>M b\/b=a) H' a d
def FeedOk(K:Frag)(M:Addr->Prop)(H:Hp)(f:Addr×Addr)(n:Nat):Prop :=
 ∃(at_ rest:Int) (cells:List Int),H f.1=some (.lst [.ref f.2,.int at_,.int rest])/\f.2≠f.1/\NdL M H f.2 (cells.map V.int)/\cells.length<=63/\0<=at_/\at_+n<=2 ^ 60
def FeedC(K:Frag)(F:Option (Addr×Addr))(M:Addr->Prop)(H:Hp)(n:Nat):Prop:=∀f,F=some f->FeedOk K M H f n
def Ext(U:Addr->Prop)(H H':Hp):Prop:=∀b o,H b=some o->∃o',H' b=some o'/\(¬U b->o'=o)
theorem Ext.keep{U:Addr->Prop}{H H':Hp}(p:Ext U H H'){b:Addr}{o:HO}(e:H b=some o)(n:¬U b):H' b=some o:=by
 obtain⟨o',q,r⟩:=p b o e
 rw [q,r n]
theorem Ext.free{U:Addr->Prop}{H H':Hp}(p:Ext U H H'){b:Addr}(e:H' b=none):H b=none:=by
 cases q:H b with
 | none=>rfl
 | some o =>
  obtain⟨o',z,_⟩:=p b o q
  rw [e] at z; cases z
theorem Ext.refl(U:Addr->Prop)(H:Hp):Ext U H H:=fun _ o e=>⟨o,e,fun _=>rfl⟩
theorem Ext.trans{U:Addr->Prop}{H1 H2 H3:Hp}(p:Ext U H1 H2)(q:Ext U H2 H3):Ext U H1 H3:=fun b o e=>by
 obtain⟨o',e1,r1⟩:=p b o e
 obtain⟨o2,e2,r2⟩:=q b o' e1
 exact⟨o2,e2,fun n=>(r2 n).trans (r1 n)⟩
def Grow(H H':Hp):Prop:=H'=H\/∃p o,H p=none/\H'=A_ H p o
theorem Grow.all{H H':Hp}(g:Grow H H'):∀b o,H b=some o->H' b=some o:=by
 intro b o e
 rcases g with rfl | ⟨p,u,n,rfl⟩
 ·exact e
 ·rw [AO (A6 e n)]; exact e
theorem Grow.refl{H:Hp}:Grow H H:=.inl rfl
theorem Grow.ext{U:Addr->Prop}{H H':Hp}(g:Grow H H'):Ext U H H':=fun b o e=>⟨o,g.all b o e,fun _=>rfl⟩
theorem Grow.pres{M:Addr->Prop}{H H':Hp}(g:Grow H H'):Pres M H M H':=⟨fun b o e _=>g.all b o e,fun _ z=>.inl z⟩
theorem FeedOk.pres{K:Frag}{M M':Addr->Prop}{H H':Hp}{f:Addr×Addr}{n:Nat}(h:FeedOk K M H f n)(p:Pres M H M' H')(e:∀o,H f.1=some o->H' f.1=some o):FeedOk K M' H' f n:=by
 obtain⟨a,r,cs,h1,h2,h3,h4⟩:=h
 exact⟨a,r,cs,e _ h1,h2,h3.pres p,h4⟩
theorem FeedC.pres{K:Frag}{F:Option (Addr×Addr)}{M M':Addr->Prop}{H H':Hp}{n:Nat}(h:FeedC K F M H n)(p:Pres M H M' H')(e:∀f o,F=some f->H f.1=some o->H' f.1=some o):FeedC K F M' H' n:=fun f hf=>(h f hf).pres p fun o q=>e f o hf q
theorem FeedC.grow{K:Frag}{F:Option (Addr×Addr)}{M:Addr->Prop}{H H':Hp}{n:Nat}(h:FeedC K F M H n)(g:Grow H H'):FeedC K F M H' n:=h.pres g.pres fun f o _ e=>g.all f.1 o e
theorem FeedC.more{K:Frag}{F:Option (Addr×Addr)}{M:Addr->Prop}{H:Hp}{n:Nat}(h:FeedC K F M H n)(a:Addr)(ha:∀f,F=some f->f.2≠a):FeedC K F (fun b=>M b\/b=a) H n:=fun f hf=>by
 obtain⟨x,r,cs,h1,h2,h3,h4⟩:=h f hf
 exact⟨x,r,cs,h1,h2,⟨fun z=>z.elim h3.1 (ha f hf),h3.2⟩,h4⟩
inductive Slot where
 | no | sh (d:D) | br (d:D) | fd | ow (d:D) | lt (a:Addr) (d:D)
def Slot.owns:Slot->Bool
 | .ow _=>true
 | .lt _ _=>true
 | _=>false
def SlotOk(K:Frag)(F:Option (Addr×Addr))(U:Addr->Prop)(M:Addr->Prop)(H:Hp):Slot->Option V->Prop
 | .no,_=>True
 | .sh d,o=>∃v,o=some v/\At K M H d v
 | .br d,o=>∃v,o=some v/\AtT K U M H d v
 | .fd,o=>∃f,o=some (.ref f.1)/\F=some f
 | .ow d,o=>∃a,o=some (.ref a)/\M a/\¬U a/\Tops K M H a d
 | .lt a d,o=>o=some (.ref a)/\M a/\¬U a/\Tops K M H a d
structure Fm where
 M0:Addr->Prop
 F:Option (Addr×Addr)
 U:Addr->Prop
 V:Addr->Prop
 H0:Hp
 pins:List ((Addr->Prop)×Hp)
 kp:List (Addr×HO)
def Apart(ρ:List Slot)(σ:L2.St):Prop:=∀(i j:Nat) (s t:Slot) (a:Addr),ρ[i]?=some s->s.owns=true->ρ[j]?=some t->t.owns=true->(σ[i]?).getD none=some (.ref a)->(σ[j]?).getD none=some (.ref a)->i=j
structure Rel (K:Frag) (C:Fm) (M:Addr->Prop) (H:Hp) (n:Nat) (ρ:List Slot) (σ:L2.St):Prop where
 len:ρ.length=σ.length
 sub:∀a,C.M0 a->M a
 dom:∀a,M a->∃o,H a=some o
 ext:Ext C.U C.H0 H
 fU:∀f,C.F=some f->C.U f.1
 uV:∀a,C.U a->C.V a
 vM:∀a,C.V a->M a
 feed:FeedC K C.F M H n
 sl:∀(i:Nat) (s:Slot),ρ[i]?=some s->SlotOk K C.F C.V M H s ((σ[i]?).getD none)
 pin:∀p∈C.pins,Pres p.1 p.2 M H
 br0:∀(i:Nat) (d:D) (a:Addr),ρ[i]?=some (.br d)->(σ[i]?).getD none=some (.ref a)->∃o,C.H0 a=some o
 new:∀(i:Nat) (s:Slot) (a:Addr),ρ[i]?=some s->s.owns=true->(σ[i]?).getD none=some (.ref a)->¬C.M0 a/\C.H0 a=none
 two:Apart ρ σ
 kept:∀p∈C.kp,H p.1=some p.2/\M p.1/\¬C.V p.1/\∀(i:Nat) (d:D),ρ[i]?=some (.ow d)->(σ[i]?).getD none≠some (.ref p.1)
section
variable {K:Frag}{C:Fm}{M:Addr->Prop}{H H':Hp}{n n':Nat}{ρ:List Slot}{σ:L2.St}{d:D}{v:V}{κ:Kd}
theorem Rel.pres(R:Rel K C M H n ρ σ)(e:Ext C.U H H'):Pres M H M H':=⟨fun b o q nb=>e.keep q fun z=>nb (R.vM b (R.uV b z)),fun _ z=>.inl z⟩
theorem AtT.pres{U V':Addr->Prop}{M':Addr->Prop}(h:AtT K V' M H d v)(p:Pres M H M' H')(e:Ext U H H')(uV:∀a,U a->V' a):AtT K V' M' H' d v:=by
 cases d with
 | lst ds =>
  obtain⟨a,vs,e1,n1,hq,hs⟩:=h
  refine⟨a,vs,e1,n1,?_,hs.pres p⟩
  rcases hq with hq | ⟨o,hq⟩
  ·exact .inl (e.keep hq fun z=>n1 (uV a z))
  ·exact .inr ⟨o,e.keep hq fun z=>n1 (uV a z)⟩
 | dic ks ds =>
  obtain⟨a,vs,e1,n1,hq,hl,hs⟩:=h
  exact⟨a,vs,e1,n1,e.keep hq fun z=>n1 (uV a z),hl,hs.pres p⟩
 | non=>exact At.pres (K:=K) p (d:=.non) h
 | bl b=>exact At.pres (K:=K) p (d:=.bl b) h
 | int i=>exact At.pres (K:=K) p (d:=.int i) h
 | str x=>exact At.pres (K:=K) p (d:=.str x) h
 | tup ds=>exact At.pres (K:=K) p (d:=.tup ds) h
 | fdi ks ds=>exact At.pres (K:=K) p (d:=.fdi ks ds) h
theorem AtT.same{U V':Addr->Prop}{M':Addr->Prop}(h:AtT K U M H d v)(p:Pres M H M' H')(e:∀a o,v=.ref a->H a=some o->H' a=some o)(nv:∀a,v=.ref a->¬U a->¬V' a):AtT K V' M' H' d v:=by
 cases d with
 | lst ds =>
  obtain⟨a,vs,e1,n1,hq,hs⟩:=h
  refine⟨a,vs,e1,nv a e1 n1,?_,hs.pres p⟩
  rcases hq with hq | ⟨o,hq⟩
  ·exact .inl (e a _ e1 hq)
  ·exact .inr ⟨o,e a _ e1 hq⟩
 | dic ks ds =>
  obtain⟨a,vs,e1,n1,hq,hl,hs⟩:=h
  exact⟨a,vs,e1,nv a e1 n1,e a _ e1 hq,hl,hs.pres p⟩
 | non=>exact At.pres (K:=K) p (d:=.non) h
 | bl b=>exact At.pres (K:=K) p (d:=.bl b) h
 | int i=>exact At.pres (K:=K) p (d:=.int i) h
 | str x=>exact At.pres (K:=K) p (d:=.str x) h
 | tup ds=>exact At.pres (K:=K) p (d:=.tup ds) h
 | fdi ks ds=>exact At.pres (K:=K) p (d:=.fdi ks ds) h
theorem AtT.lies{U:Addr->Prop}{a:Addr}(h:AtT K U M H d (.ref a)):∃o,H a=some o:=by
 cases d with
 | lst ds =>
  obtain⟨b,vs,e,_,hq,_⟩:=h
  cases e
  rcases hq with hq | ⟨o,hq⟩
  ·exact⟨_,hq⟩
  ·exact⟨_,hq⟩
 | dic ks ds =>
  obtain⟨b,vs,e,_,hq,_⟩:=h
  cases e
  exact⟨_,hq⟩
 | non=>cases (show V.ref a=.non from h)
 | bl b=>cases (show V.ref a=.bl b from h)
 | int i=>cases (show V.ref a=.int i from h)
 | str x=>cases (show V.ref a=.str x/\_ from h).1
 | tup ds =>
  obtain⟨b,vs,e,hq,_⟩:=h
  cases e
  exact⟨_,hq.2⟩
 | fdi ks ds =>
  obtain⟨b,vs,e,⟨o,_,hq⟩,_⟩:=h
  cases e
  exact⟨_,hq⟩
theorem SlotOk.pres{F:Option (Addr×Addr)}{U V' M':Addr->Prop}{s:Slot}{o:Option V}(h:SlotOk K F V' M H s o)(p:Pres M H M' H')(m:∀a,M a->M' a)(e:Ext U H H')(uV:∀a,U a->V' a):SlotOk K F V' M' H' s o:=by
 cases s with
 | no=>trivial
 | sh d=>obtain⟨v,e1,h1⟩:=h; exact⟨v,e1,h1.pres p⟩
 | br d=>obtain⟨v,e1,h1⟩:=h; exact⟨v,e1,h1.pres p e uV⟩
 | fd=>exact h
 | ow d=>obtain⟨a,e1,h1,h2,h3⟩:=h; exact⟨a,e1,m a h1,h2,h3.pres p fun o q=>e.keep q fun z=>h2 (uV a z)⟩
 | lt a d=>obtain⟨e1,h1,h2,h3⟩:=h; exact⟨e1,m a h1,h2,h3.pres p fun o q=>e.keep q fun z=>h2 (uV a z)⟩
theorem Rel.step(R:Rel K C M H n ρ σ)(e:Ext C.U H H')(f:FeedC K C.F M H' n'):Rel K C M H' n' ρ σ:=by
 have p:=R.pres e
 refine⟨R.len,R.sub,fun a z=>?_,R.ext.trans e,R.fU,R.uV,R.vM,f,fun i s q=>(R.sl i s q).pres p (fun _ z=>z) e R.uV,fun q hq=>(R.pin q hq).trans p,R.br0,R.new,R.two,fun q hq=>?_⟩
 ·obtain⟨o,h1⟩:=R.dom a z
  obtain⟨o',h2,_⟩:=e a o h1
  exact⟨o',h2⟩
 ·obtain⟨h1,h2,h3,h4⟩:=R.kept q hq
  exact⟨e.keep h1 fun z=>h3 (R.uV _ z),h2,h3,h4⟩
theorem Rel.udom(R:Rel K C M H n ρ σ):∀a,C.U a->∃o,H a=some o:=fun a z=>R.dom a (R.vM a (R.uV a z))
theorem At.tp{U:Addr->Prop}(uM:∀a,U a->M a)(h:At K M H d v):AtT K U M H d v:=by
 cases d with
 | lst ds =>
  obtain⟨a,vs,e,hn,hs⟩:=h
  exact⟨a,vs,e,fun z=>hn.1 (uM a z),.inl hn.2,hs⟩
 | dic ks ds =>
  obtain⟨a,vs,e,hn,hl,hs⟩:=h
  exact⟨a,vs,e,fun z=>hn.1 (uM a z),hn.2,hl,hs⟩
 | non=>exact h
 | bl b=>exact h
 | int i=>exact h
 | str x=>exact h
 | tup ds=>exact h
 | fdi ks ds=>exact h
theorem VR.back{U V':Addr->Prop}{H1:Hp}(e:Ext U H H1)(h:VR K V' M H1 H' κ v d):VR K V' M H H' κ v d:=by
 cases κ with
 | sh=>exact h
 | tp=>exact h
 | fr =>
  obtain⟨a,e1,h1,h2⟩:=h
  exact⟨a,e1,e.free h1,h2⟩
theorem VR.shOf{U:Addr->Prop}(dom:∀a,M a->∃o,H a=some o)(h:VR K U M H H' κ v d)(hk:κ≠.tp):At K M H' d v:=by
 cases κ with
 | sh=>exact h
 | tp=>exact absurd rfl hk
 | fr =>
  obtain⟨a,rfl,h1,h2⟩:=h
  refine(h2.pres (Pres.less (M':=M) fun _ z=>.inl z) fun _ z=>z).at fun z=>?_
  obtain⟨o,q⟩:=dom a z
  rw [h1] at q; cases q
theorem VR.tpOf{U:Addr->Prop}(dom:∀a,M a->∃o,H a=some o)(uM:∀a,U a->M a)(h:VR K U M H H' κ v d):AtT K U M H' d v:=by
 cases κ with
 | sh=>exact At.tp uM h
 | tp=>exact h
 | fr=>exact At.tp uM (VR.shOf dom h (by intro z; cases z))
theorem Fb{α:Type}{l:List α}{i j:Nat}{x y:α}(h:(l.set i x)[j]?=some y):(j=i/\i<l.length/\y=x)\/(j≠i/\l[j]?=some y):=by
 rw [List.getElem?_set] at h
 by_cases e:i=j
 ·rw [if_pos e] at h
  by_cases hl:i<l.length
  ·rw [if_pos hl] at h
   exact .inl ⟨e.symm,hl,(Option.some.inj h).symm⟩
  ·rw [if_neg hl] at h; cases h
 ·rw [if_neg e] at h
  exact .inr ⟨fun z=>e z.symm,h⟩
theorem He{l:L2.St}{i j:Nat}{x:Option V}(h:j≠i):((l.set i x)[j]?).getD none=(l[j]?).getD none:=by
 rw [List.getElem?_set,if_neg (fun z=>h z.symm)]
theorem Mc{l:L2.St}{i:Nat}{x:Option V}(h:i<l.length):((l.set i x)[i]?).getD none=x:=by
 rw [List.getElem?_set,if_pos rfl,if_pos h]
 rfl
theorem Rel.set(R:Rel K C M H n ρ σ){i:Nat}(h:At K M H d v):Rel K C M H n (ρ.set i (.sh d)) (σ.set i (some v)):=by
 have two:∀(j:Nat) (s:Slot),(ρ.set i (.sh d))[j]?=some s->s.owns=true->ρ[j]?=some s/\((σ.set i (some v))[j]?).getD none=(σ[j]?).getD none:=fun j s q o=>by
  rcases Fb q with ⟨_,_,rfl⟩ | ⟨hj,q⟩
  ·cases o
  ·exact⟨q,He hj⟩
 refine⟨by rw [List.length_set,List.length_set]; exact R.len,R.sub,R.dom,R.ext,R.fU,R.uV,R.vM,R.feed,fun j s q=>?_,R.pin,fun j e a q q2=>?_,fun j s a q o q2=>?_,fun j k s t a q1 o1 q2 o2 z1 z2=>?_,fun p hp=>?_⟩
 ·rcases Fb q with ⟨rfl,hl,rfl⟩ | ⟨hj,q⟩
  ·rw [Mc (by rw [← R.len]; exact hl)]
   exact⟨v,rfl,h⟩
  ·rw [He hj]
   exact R.sl j s q
 ·rcases Fb q with ⟨_,_,e⟩ | ⟨hj,q⟩
  ·cases e
  ·rw [He hj] at q2
   exact R.br0 j e a q q2
 ·obtain⟨q1,e⟩:=two j s q o
  rw [e] at q2
  exact R.new j s a q1 o q2
 ·obtain⟨p1,e1⟩:=two j s q1 o1
  obtain⟨p2,e2⟩:=two k t q2 o2
  rw [e1] at z1
  rw [e2] at z2
  exact R.two j k s t a p1 o1 p2 o2 z1 z2
 ·obtain⟨h1,h2,h3,h4⟩:=R.kept p hp
  refine⟨h1,h2,h3,fun j e q=>?_⟩
  obtain⟨q1,e2⟩:=two j _ q rfl
  rw [e2]
  exact h4 j e q1
theorem Rel.owner(R:Rel K C M H n ρ σ){i:Nat}{s:Slot}(h:ρ[i]?=some s)(o:s.owns=true):∃a e,(σ[i]?).getD none=some (.ref a)/\M a/\¬C.V a/\Tops K M H a e/\¬C.M0 a/\C.H0 a=none:=by
 have q:=R.sl i s h
 cases s with
 | ow d=>obtain⟨a,e1,h1,h2,h3⟩:=q; exact⟨a,d,e1,h1,h2,h3,R.new i _ a h o e1⟩
 | lt a d=>obtain⟨e1,h1,h2,h3⟩:=q; exact⟨a,d,e1,h1,h2,h3,R.new i _ a h o e1⟩
 | _=>cases o
theorem Rel.setOw(R:Rel K C M H n ρ σ){i:Nat}{a:Addr}(e:Ext C.U H H')(f:FeedC K C.F M H' n')(ha:H a=none)(h:Tops K (fun b=>M b\/b=a) H' a d) :
  Rel K C (fun b=>M b\/b=a) H' n' (ρ.set i (.ow d)) (σ.set i (some (.ref a))):=by
 have R1:=R.step e f
 have ne:∀b,M b->b≠a:=fun b z q=>by
  obtain⟨o,w⟩:=R.dom b z
  rw [q,ha] at w; cases w
 have a0:¬C.M0 a/\C.H0 a=none:=⟨fun z=>ne a (R.sub a z) rfl,R.ext.free ha⟩
 have pr:Pres M H (fun b=>M b\/b=a) H':=⟨fun b o q nb=>e.keep q fun z=>nb (R.vM b (R.uV b z)),fun b z=>z.elim .inl fun z=>.inr (by rw [z]; exact ha)⟩
 have two:∀(j:Nat) (s:Slot),(ρ.set i (.ow d))[j]?=some s->(j=i/\s=.ow d/\((σ.set i (some (.ref a)))[j]?).getD none=some (.ref a))\/(j≠i/\ρ[j]?=some s/\((σ.set i (some (.ref a)))[j]?).getD none=(σ[j]?).getD none):=fun j s q=>by
  rcases Fb q with ⟨rfl,hl,rfl⟩ | ⟨hj,q⟩
  ·exact .inl ⟨rfl,rfl,Mc (by rw [← R.len]; exact hl)⟩
  ·exact .inr ⟨hj,q,He hj⟩
 have old:∀(j:Nat) (s:Slot) (b:Addr),ρ[j]?=some s->s.owns=true->(σ[j]?).getD none=some (.ref b)->b≠a:=fun j s b q o z=>by
  obtain⟨c,_,e1,m,_⟩:=R.owner q o
  rw [e1] at z
  cases z
  exact ne _ m
 have hd:∃o,H' a=some o:=by
  cases d with
  | lst ds=>obtain⟨vs,q,_⟩:=h; exact⟨_,q⟩
  | dic ks ds=>obtain⟨vs,q,_⟩:=h; exact⟨_,q⟩
  | _=>exact(show False from h).elim
 refine⟨by rw [List.length_set,List.length_set]; exact R.len,fun b z=>.inl (R.sub b z),fun b z=>?_,R1.ext,R.fU,R.uV,fun b z=>.inl (R.vM b z),f.more a fun g hg q=>?_,fun j s q=>?_,fun q hq=>(R.pin q hq).trans pr,fun j e2 b q q2=>?_,fun j s b q o q2=>?_,fun j k s t b q1 o1 q2 o2 z1 z2=>?_,fun p hp=>?_⟩
 ·rcases z with z | z
  ·exact R1.dom b z
  ·rw [z]; exact hd
 ·obtain⟨_,_,_,_,_,h3,_⟩:=R.feed g hg
  have:=h3.2
  rw [q,ha] at this; cases this
 ·rcases two j s q with ⟨rfl,rfl,e1⟩ | ⟨hj,q1,e1⟩
  ·rw [e1]
   exact⟨a,rfl,.inr rfl,fun z=>ne a (R.vM a z) rfl,h⟩
  ·rw [e1]
   exact(R.sl j s q1).pres pr (fun _ z=>.inl z) e R.uV
 ·rcases two j _ q with ⟨_,e1,_⟩ | ⟨hj,q1,e1⟩
  ·cases e1
  ·rw [e1] at q2
   exact R.br0 j e2 b q1 q2
 ·rcases two j s q with ⟨_,_,e1⟩ | ⟨hj,q1,e1⟩
  ·rw [e1] at q2
   cases q2
   exact a0
  ·rw [e1] at q2
   exact R.new j s b q1 o q2
 ·rcases two j s q1 with ⟨rfl,_,e1⟩ | ⟨hj,p1,e1⟩
  ·rw [e1] at z1
   cases z1
   rcases two k t q2 with ⟨rfl,_,_⟩ | ⟨hk,p2,e2⟩
   ·rfl
   ·rw [e2] at z2
    exact absurd rfl (old k t a p2 o2 z2)
  ·rw [e1] at z1
   rcases two k t q2 with ⟨rfl,_,e2⟩ | ⟨hk,p2,e2⟩
   ·rw [e2] at z2
    cases z2
    exact absurd rfl (old j s a p1 o1 z1)
   ·rw [e2] at z2
    exact R.two j k s t b p1 o1 p2 o2 z1 z2
 ·obtain⟨h1,h2,h3,h4⟩:=R1.kept p hp
  refine⟨h1,.inl h2,h3,fun j e2 q=>?_⟩
  rcases two j _ q with ⟨_,_,e1⟩ | ⟨hj,q1,e1⟩
  ·rw [e1]
   intro z
   cases z
   exact ne _ h2 rfl
  ·rw [e1]
   exact h4 j e2 q1
theorem Rel.mut(R:Rel K C M H n ρ σ){i:Nat}{a:Addr}{e:D}{o:HO}(hi:ρ[i]?=some (.ow d))(ha:(σ[i]?).getD none=some (.ref a))(h:Tops K M (A_ H a o) a e) :
  Rel K C M (A_ H a o) n (ρ.set i (.ow e)) σ:=by
 obtain⟨b,_,e1,m,nv,t,n0,h0⟩:=R.owner hi rfl
 rw [ha] at e1
 cases e1
 have pr:Pres M H M (A_ H a o):=⟨fun b o' q nb=>by rw [AO (fun z=>nb (by rw [z]; exact m))]; exact q,fun _ z=>.inl z⟩
 have old:∀(j:Nat) (s:Slot),(ρ.set i (.ow e))[j]?=some s->(j=i/\s=.ow e)\/(j≠i/\ρ[j]?=some s):=fun j s q=>by
  rcases Fb q with ⟨rfl,hl,rfl⟩ | ⟨hj,q⟩
  ·exact .inl ⟨rfl,rfl⟩
  ·exact .inr ⟨hj,q⟩
 have far:∀(j:Nat) (s:Slot) (b:Addr),j≠i->ρ[j]?=some s->s.owns=true->(σ[j]?).getD none=some (.ref b)->b≠a:=fun j s b hj q o z w=>by
  subst w
  exact hj (R.two j i s _ b q o hi rfl z ha)
 refine⟨by rw [List.length_set]; exact R.len,R.sub,fun b z=>?_,fun b o' q=>?_,R.fU,R.uV,R.vM,R.feed.pres pr fun f o' hf q=>?_,fun j s q=>?_,fun q hq=>(R.pin q hq).trans pr,fun j e2 b q q2=>?_,fun j s b q o2 q2=>?_,fun j k s t b q1 o1 q2 o2 z1 z2=>?_,fun p hp=>?_⟩
 ·by_cases hb:b=a
  ·exact⟨o,by rw [hb,AX]⟩
  ·obtain⟨o',q⟩:=R.dom b z
   exact⟨o',by rw [AO hb]; exact q⟩
 ·obtain⟨o2,q2,r⟩:=R.ext b o' q
  have hb:b≠a:=fun z=>by rw [z,h0] at q; cases q
  exact⟨o2,by rw [AO hb]; exact q2,r⟩
 ·have hb:f.1≠a:=fun z=>nv (by rw [← z]; exact R.uV _ (R.fU f hf))
  rw [AO hb]; exact q
 ·rcases old j s q with ⟨rfl,rfl⟩ | ⟨hj,q1⟩
  ·rw [ha]
   exact⟨a,rfl,m,nv,h⟩
  ·have q2:=R.sl j s q1
   cases s with
   | no=>trivial
   | sh d=>obtain⟨v,e1,h1⟩:=q2; exact⟨v,e1,h1.pres pr⟩
   | br d =>
    obtain⟨v,e1,h1⟩:=q2
    refine⟨v,e1,h1.same pr (fun b o' z q=>?_) fun _ _ z=>z⟩
    subst z
    obtain⟨o3,w⟩:=R.br0 j d b q1 e1
    rw [AO (fun z=>by rw [z,h0] at w; cases w)]
    exact q
   | fd=>exact q2
   | ow d =>
    obtain⟨b,e1,h1,h2,h3⟩:=q2
    exact⟨b,e1,h1,h2,h3.pres pr fun o' w=>by rw [AO (far j _ b hj q1 rfl e1)]; exact w⟩
   | lt b d =>
    obtain⟨e1,h1,h2,h3⟩:=q2
    exact⟨e1,h1,h2,h3.pres pr fun o' w=>by rw [AO (far j _ b hj q1 rfl e1)]; exact w⟩
 ·rcases old j _ q with ⟨_,e1⟩ | ⟨hj,q1⟩
  ·cases e1
  ·exact R.br0 j e2 b q1 q2
 ·rcases old j s q with ⟨rfl,_⟩ | ⟨hj,q1⟩
  ·exact R.new j _ b hi rfl q2
  ·exact R.new j s b q1 o2 q2
 ·rcases old j s q1 with ⟨rfl,rfl⟩ | ⟨hj,p1⟩
  ·rcases old k t q2 with ⟨rfl,_⟩ | ⟨hk,p2⟩
   ·rfl
   ·exact R.two j k _ t b hi rfl p2 o2 z1 z2
  ·rcases old k t q2 with ⟨rfl,rfl⟩ | ⟨hk,p2⟩
   ·exact R.two j k s _ b p1 o1 hi rfl z1 z2
   ·exact R.two j k s t b p1 o1 p2 o2 z1 z2
 ·obtain⟨h1,h2,h3,h4⟩:=R.kept p hp
  have hb:p.1≠a:=fun z=>h4 i d hi (by rw [ha,z])
  refine⟨by rw [AO hb]; exact h1,h2,h3,fun j e2 q=>?_⟩
  rcases old j _ q with ⟨rfl,_⟩ | ⟨hj,q1⟩
  ·exact h4 j d hi
  ·exact h4 j e2 q1
end
abbrev DW:=Nat->List Slot->(D->Nat->Prop)->Prop
abbrev Gc:=Nat->List Slot->(Bool->Nat->Prop)->Prop
abbrev EJ:=Nat->List Slot->(List D->Nat->Prop)->Prop
abbrev Qv:=Nat->List Slot->(List Slot->Nat->Prop)->Prop
section
variable (X:Cx)
def DE(e:Expr)(κ:Kd)(w:DW):Prop:=∃t,PE X e t/\∀(C:Fm) (M:Addr->Prop) (H:Hp) (n:Nat) (ρ:List Slot) (σ:L2.St) (P:D->Nat->Prop) (Q:VK),Rel X.K C M H n ρ σ->w n ρ P ->
 (∀v H' d n',Ext C.U H H'->FeedC X.K C.F M H' n'->VR X.K C.V M H H' κ v d->P d n'->Q v H')->t σ H Q
def DT(e:Expr)(w:Gc):Prop:=∃t,PT X e t/\∀(C:Fm) (M:Addr->Prop) (H:Hp) (n:Nat) (ρ:List Slot) (σ:L2.St) (P:Bool->Nat->Prop) (Q:Bool->Hp->Prop),Rel X.K C M H n ρ σ->w n ρ P ->
 (∀b H' n',Ext C.U H H'->FeedC X.K C.F M H' n'->P b n'->Q b H')->t σ H Q
def DTW(e:Expr)(w:Gc):Prop:=∃t,PW X e t/\∀(C:Fm) (M:Addr->Prop) (H:Hp) (n:Nat) (ρ:List Slot) (σ:L2.St) (P:Bool->Nat->Prop) (Q:Bool->Hp->Prop),Rel X.K C M H n ρ σ->w n ρ P ->
 (∀b H' n',Ext C.U H H'->FeedC X.K C.F M H' n'->P b n'->Q b H')->t σ H Q
def Om(es:List Expr)(w:EJ):Prop:=∃t,PA X es t/\∀(C:Fm) (M:Addr->Prop) (H:Hp) (n:Nat) (ρ:List Slot) (σ:L2.St) (P:List D->Nat->Prop) (Q:List V->Hp->Prop),Rel X.K C M H n ρ σ->w n ρ P ->
 (∀vs H' ds n',Ext C.U H H'->FeedC X.K C.F M H' n'->Paired (fun v d=>AtT X.K C.V M H' d v) vs ds->P ds n'->Q vs H')->t σ H Q
def Qz(es:List Expr)(w:EJ):Prop:=∃t,PA X es t/\∀(C:Fm) (M:Addr->Prop) (H:Hp) (n:Nat) (ρ:List Slot) (σ:L2.St) (P:List D->Nat->Prop) (Q:List V->Hp->Prop),Rel X.K C M H n ρ σ->w n ρ P ->
 (∀vs H' ds n',Ext C.U H H'->FeedC X.K C.F M H' n'->Ats X.K M H' ds vs->P ds n'->Q vs H')->t σ H Q
def HW(K:Frag)(F:Option (Addr×Addr))(V' M:Addr->Prop)(H:Hp)(v:V)(s:Slot):Prop:=SlotOk K F V' M H s (some v)/\s.owns=false
def SQ(e:Expr)(w:Nat->List Slot->(Slot->Nat->Prop)->Prop):Prop:=∃t,PE X e t/\∀(C:Fm) (M:Addr->Prop) (H:Hp) (n:Nat) (ρ:List Slot) (σ:L2.St) (P:Slot->Nat->Prop) (Q:VK),Rel X.K C M H n ρ σ->w n ρ P ->
 (∀v H' s n',Ext C.U H H'->FeedC X.K C.F M H' n'->HW X.K C.F C.V M H' v s->P s n'->Q v H')->t σ H Q
def SA(es:List Expr)(w:Qv):Prop:=∃t,PA X es t/\∀(C:Fm) (M:Addr->Prop) (H:Hp) (n:Nat) (ρ:List Slot) (σ:L2.St) (P:List Slot->Nat->Prop) (Q:List V->Hp->Prop),Rel X.K C M H n ρ σ->w n ρ P ->
 (∀vs H' ss n',Ext C.U H H'->FeedC X.K C.F M H' n'->Paired (HW X.K C.F C.V M H') vs ss->P ss n'->Q vs H')->t σ H Q
end
def AC(i:Nat):DW:=fun n ρ P=>match ρ[i]? with
 | some (.sh d)=>P d n
 | _=>False
def A1(i:Nat):DW:=fun n ρ P=>match ρ[i]? with
 | some (.sh d)=>P d n
 | some (.br d)=>P d n
 | some (.ow d)=>P d n
 | some (.lt _ d)=>P d n
 | _=>False
def wC(d:D):DW:=fun n _ P=>P d n
section
variable {X:Cx}{a b c e:Expr}{κ κa κb:Kd}{wa wb wc:DW}{pos:Pos}
theorem getD_some{σ:L2.St}{i:Nat}{v:V}(h:(σ[i]?).getD none=some v):σ[i]?=some (some v):=by
 cases q:σ[i]? with
 | none=>rw [q] at h; cases h
 | some o=>rw [q] at h; exact congrArg some h
theorem Oe{i:Nat}(h:PE X e (Bu i)):DE X e .sh (AC i):=by
 refine⟨_,h,fun C M H n ρ σ P Q R w q=>?_⟩
 unfold AC at w
 split at w
 ·rename_i d hd
  obtain⟨v,e1,h1⟩:=R.sl i _ hd
  exact⟨v,getD_some e1,q v H d n (Ext.refl _ _) R.feed h1 w⟩
 ·exact w.elim
theorem Nb{i:Nat}(h:PE X e (Bu i)):DE X e .tp (A1 i):=by
 refine⟨_,h,fun C M H n ρ σ P Q R w q=>?_⟩
 unfold A1 at w
 split at w
 ·rename_i d hd
  obtain⟨v,e1,h1⟩:=R.sl i _ hd
  exact⟨v,getD_some e1,q v H d n (Ext.refl _ _) R.feed (At.tp R.vM h1) w⟩
 ·rename_i d hd
  obtain⟨v,e1,h1⟩:=R.sl i _ hd
  exact⟨v,getD_some e1,q v H d n (Ext.refl _ _) R.feed h1 w⟩
 ·rename_i d hd
  obtain⟨a,e1,_,h2,h3⟩:=R.sl i _ hd
  exact⟨.ref a,getD_some e1,q _ H d n (Ext.refl _ _) R.feed (h3.att h2) w⟩
 ·rename_i a d hd
  obtain⟨e1,_,h2,h3⟩:=R.sl i _ hd
  exact⟨.ref a,getD_some e1,q _ H d n (Ext.refl _ _) R.feed (h3.att h2) w⟩
 ·exact w.elim
theorem dv(i:Nat){x:Str}{pos:Pos}(hN:X.N[i]?=some x:=by rfl)(hv:Qy X.env.scope x:=by first | exact Or.inl rfl | exact Or.inr (Or.inl rfl) | exact Or.inr (Or.inr rfl))(hd:(x==("__debug__" : Str))=false:=by decide)
  (hcd:(x==("__classdict__" : Str))=false:=by decide):DE X (.Name x pos) .sh (AC i):=Oe (Hr hN hv hd hcd)
theorem Ii(i:Nat){x:Str}{pos:Pos}(hN:X.N[i]?=some x:=by rfl)(hv:Qy X.env.scope x:=by first | exact Or.inl rfl | exact Or.inr (Or.inl rfl) | exact Or.inr (Or.inr rfl))(hd:(x==("__debug__" : Str))=false:=by decide)
  (hcd:(x==("__classdict__" : Str))=false:=by decide):DE X (.Name x pos) .tp (A1 i):=Nb (Hr hN hv hd hcd)
theorem Ef{d:D}{v:V}(h:PE X e (tC v))(hd:∀M H,At X.K M H d v):DE X e .sh (wC d) :=
 ⟨_,h,fun C M H n ρ σ P Q R w q=>q v H d n (Ext.refl _ _) R.feed (hd M H) w⟩
theorem AE{i:Int}{j pos}:DE X (.Constant (.int i) j pos) .sh (wC (.int i)):=Ef Aq fun _ _=>rfl
theorem CC{b:Bool}{j pos}:DE X (.Constant (.bool b) j pos) .sh (wC (.bl b)):=Ef RU fun _ _=>rfl
theorem IR{j pos}:DE X (.Constant .none j pos) .sh (wC .non):=Ef QA fun _ _=>rfl
theorem BI{x:Str}{j pos}(hx:decide (x.length<=1000)=true:=by rfl):DE X (.Constant (.str x) j pos) .sh (wC (.str x)) :=
 Ef P7 fun _ _=>⟨rfl,Nat.le_trans (of_decide_eq_true hx) (by rw [sizeLine_eq]; decide)⟩
theorem DE.sh(h:DE X e κ wa)(hk:κ≠.tp:=by intro z; cases z):DE X e .sh wa:=by
 obtain⟨t,h1,h2⟩:=h
 exact⟨t,h1,fun C M H n ρ σ P Q R w q=>h2 C M H n ρ σ P Q R w fun v H' d n' e f r p=>q v H' d n' e f (r.shOf R.dom hk) p⟩
def Dw(K:Frag)(κ:Kd)(r:R2)(f:D->D->(D->Prop)->Prop):Prop:=∀(U:Addr->Prop) (M:Addr->Prop) (H:Hp) (d e:D) (x y:V) (P:D->Prop) (Q:VK),(∀a,M a->∃o,H a=some o)->(∀a,U a->M a) ->
 AtT K U M H d x->AtT K U M H e y->f d e P->(∀v H' z,Grow H H'->VR K U M H H' κ v z->P z->Q v H')->r x y H Q
def AT(f:D->D->(D->Prop)->Prop)(wa wb:DW):DW:=fun n ρ P=>wa n ρ fun x n1=>wb n1 ρ fun y n2=>f x y fun z=>P z n2
theorem GR{r:R2}{f:D->D->(D->Prop)->Prop}(hA:Dw X.K κ r f){ta tb:TE}(ha:∀(C:Fm) (M:Addr->Prop) (H:Hp) (n:Nat) (ρ:List Slot) (σ:L2.St) (P:D->Nat->Prop) (Q:VK),Rel X.K C M H n ρ σ->wa n ρ P ->
   (∀v H' d n',Ext C.U H H'->FeedC X.K C.F M H' n'->VR X.K C.V M H H' κa v d->P d n'->Q v H')->ta σ H Q)
  (hb:∀(C:Fm) (M:Addr->Prop) (H:Hp) (n:Nat) (ρ:List Slot) (σ:L2.St) (P:D->Nat->Prop) (Q:VK),Rel X.K C M H n ρ σ->wb n ρ P ->
   (∀v H' d n',Ext C.U H H'->FeedC X.K C.F M H' n'->VR X.K C.V M H H' κb v d->P d n'->Q v H')->tb σ H Q)
  (C:Fm) (M:Addr->Prop) (H:Hp) (n:Nat) (ρ:List Slot) (σ:L2.St) (P:D->Nat->Prop) (Q:VK) (R:Rel X.K C M H n ρ σ) (w:AT f wa wb n ρ P)
  (q:∀v H' d n',Ext C.U H H'->FeedC X.K C.F M H' n'->VR X.K C.V M H H' κ v d->P d n'->Q v H'):C8 r ta tb σ H Q:=by
 refine ha C M H n ρ σ _ _ R w fun x H1 d n1 e1 f1 r1 w1=>?_
 have R1:=R.step e1 f1
 refine hb C M H1 n1 ρ σ _ _ R1 w1 fun y H2 e n2 e2 f2 r2 w2=>?_
 have R2':=R1.step e2 f2
 refine hA C.V M H2 d e x y _ _ R2'.dom R2'.vM ((r1.tpOf R.dom R.vM).pres (R1.pres e2) e2 R.uV) (r2.tpOf R1.dom R1.vM) w2 fun v H3 z g vr p=>?_
 exact q v H3 z n2 ((e1.trans e2).trans g.ext) (f2.grow g) (VR.back (e1.trans e2) vr) p
theorem AU{op:Operator}{r:R2}{f:D->D->(D->Prop)->Prop}(ho:OpR X (binaryOp op) r)(hA:Dw X.K κ r f)(ha:DE X a κa wa)(hb:DE X b κb wb):DE X (.BinOp a op b pos) κ (AT f wa wb):=by
 obtain⟨ta,ha1,ha2⟩:=ha
 obtain⟨tb,hb1,hb2⟩:=hb
 exact⟨_,Bk ho ha1 hb1,fun C M H n ρ σ P Q R w q=>GR hA ha2 hb2 C M H n ρ σ P Q R w q⟩
theorem Ao{r:R2}{f:D->D->(D->Prop)->Prop}(ho:IxR X r)(hA:Dw X.K κ r f)(ha:DE X a κa wa)(hb:DE X b κb wb)(hs:LQ b:=by intro _ _; rfl):DE X (.Subscript a b pos) κ (AT f wa wb):=by
 obtain⟨ta,ha1,ha2⟩:=ha
 obtain⟨tb,hb1,hb2⟩:=hb
 exact⟨_,DN ho ha1 hb1 hs,fun C M H n ρ σ P Q R w q=>GR hA ha2 hb2 C M H n ρ σ P Q R w q⟩
theorem DH{op:CmpOp}{r:R2}{f:D->D->(D->Prop)->Prop}(ho:OpR X (compareOp op) r)(hA:Dw X.K .sh r f)(ha:DE X a κa wa)(hb:DE X b κb wb)(hm:behindInMarks op b=false):DE X (.Compare a [op] [b] pos) .sh (AT f wa wb):=by
 obtain⟨ta,ha1,ha2⟩:=ha
 obtain⟨tb,hb1,hb2⟩:=hb
 exact⟨_,OE ho ha1 hb1 hm,fun C M H n ρ σ P Q R w q=>GR hA ha2 hb2 C M H n ρ σ P Q R w q⟩
def Al(w:DW):Gc:=fun n ρ P=>w n ρ fun d n1=>match d with
 | .bl b=>P b n1
 | _=>False
theorem FQ{U:Addr->Prop}{K:Frag}{M:Addr->Prop}{H H':Hp}{v:V}{b:Bool}(h:VR K U M H H' κ v (.bl b)):v=.bl b:=by
 cases κ with
 | sh=>exact h
 | tp=>exact h
 | fr=>obtain⟨a,_,_,t⟩:=h; exact(show False from t).elim
theorem A0{op:CmpOp}{r:R2}{f:D->D->(D->Prop)->Prop}(ho:OpR X (compareOp op) r)(hA:Dw X.K .sh r f)(ha:DE X a κa wa)(hb:DE X b κb wb)(hm:behindInMarks op b=false):DT X (.Compare a [op] [b] pos) (Al (AT f wa wb)):=by
 obtain⟨ta,ha1,ha2⟩:=ha
 obtain⟨tb,hb1,hb2⟩:=hb
 refine⟨_,ET ho ha1 hb1 hm,fun C M H n ρ σ P Q R w q=>?_⟩
 refine GR hA ha2 hb2 C M H n ρ σ _ _ R w fun v H' d n' e f r p=>?_
 cases d with
 | bl b=>exact⟨b,FQ r,q b H' n' e f p⟩
 | _=>exact p.elim
theorem Ct(h:DE X e κ wa)(he:∀whole,isTrue e X.env whole=(do let v ← whole; standAt e.pos; holding [v] (truthy v)):=by intro _; rfl):DT X e (Al wa):=by
 obtain⟨t,h1,h2⟩:=h
 refine⟨_,P2 h1 he,fun C M H n ρ σ P Q R w q=>?_⟩
 refine h2 C M H n ρ σ _ _ R w fun v H' d n' e f r p=>?_
 cases d with
 | bl b=>exact⟨b,FQ r,q b H' n' e f p⟩
 | _=>exact p.elim
def Jm(f g:D->D->(D->Prop)->Prop)(wa wb wc:DW):DW:=fun n ρ P=>wa n ρ fun x n1=>wb n1 ρ fun y n2=>f x y fun z=>match z with
 | .bl true=>wc n2 ρ fun u n3=>g y u fun r=>P r n3
 | .bl false=>P (.bl false) n2
 | _=>False
theorem Ng{r r':R2}{f g:D->D->(D->Prop)->Prop}(hA:Dw X.K .sh r f)(hB:Dw X.K .sh r' g){ta tb tc:TE}{κc:Kd}(ha:∀(C:Fm) (M:Addr->Prop) (H:Hp) (n:Nat) (ρ:List Slot) (σ:L2.St) (P:D->Nat->Prop) (Q:VK),Rel X.K C M H n ρ σ->wa n ρ P ->
   (∀v H' d n',Ext C.U H H'->FeedC X.K C.F M H' n'->VR X.K C.V M H H' κa v d->P d n'->Q v H')->ta σ H Q)
  (hb:∀(C:Fm) (M:Addr->Prop) (H:Hp) (n:Nat) (ρ:List Slot) (σ:L2.St) (P:D->Nat->Prop) (Q:VK),Rel X.K C M H n ρ σ->wb n ρ P ->
   (∀v H' d n',Ext C.U H H'->FeedC X.K C.F M H' n'->VR X.K C.V M H H' κb v d->P d n'->Q v H')->tb σ H Q)
  (hc:∀(C:Fm) (M:Addr->Prop) (H:Hp) (n:Nat) (ρ:List Slot) (σ:L2.St) (P:D->Nat->Prop) (Q:VK),Rel X.K C M H n ρ σ->wc n ρ P ->
   (∀v H' d n',Ext C.U H H'->FeedC X.K C.F M H' n'->VR X.K C.V M H H' κc v d->P d n'->Q v H')->tc σ H Q)
  (C:Fm) (M:Addr->Prop) (H:Hp) (n:Nat) (ρ:List Slot) (σ:L2.St) (P:D->Nat->Prop) (Q:VK) (R:Rel X.K C M H n ρ σ) (w:Jm f g wa wb wc n ρ P)
  (q:∀v H' d n',Ext C.U H H'->FeedC X.K C.F M H' n'->VR X.K C.V M H H' .sh v d->P d n'->Q v H'):MW r r' ta tb tc σ H Q:=by
 refine ha C M H n ρ σ _ _ R w fun x H1 d n1 e1 f1 r1 w1=>?_
 have R1:=R.step e1 f1
 refine hb C M H1 n1 ρ σ _ _ R1 w1 fun y H2 e n2 e2 f2 r2 w2=>?_
 have R2':=R1.step e2 f2
 have ty:AtT X.K C.V M H2 e y:=r2.tpOf R1.dom R1.vM
 refine hA C.V M H2 d e x y _ _ R2'.dom R2'.vM ((r1.tpOf R.dom R.vM).pres (R1.pres e2) e2 R.uV) ty w2 fun v H3 z gr vr p=>?_
 have R3:=R2'.step gr.ext (f2.grow gr)
 cases z with
 | bl k =>
  refine⟨k,vr,?_⟩
  cases k with
  | false=>exact q _ H3 (.bl false) n2 ((e1.trans e2).trans gr.ext) (f2.grow gr) (show VR X.K C.V M H H3 .sh (.bl false) (.bl false) from rfl) p
  | true =>
   show tc σ H3 _
   refine hc C M H3 n2 ρ σ _ _ R3 p fun u H4 d4 n4 e4 f4 r4 w4=>?_
   have R4:=R3.step e4 f4
   refine hB C.V M H4 e d4 y u _ _ R4.dom R4.vM ((ty.pres gr.pres (gr.ext (U:=C.U)) R.uV).pres (R3.pres e4) e4 R.uV) (r4.tpOf R3.dom R3.vM) w4 fun v5 H5 z5 g5 vr5 p5=>?_
   exact q v5 H5 z5 n4 ((((e1.trans e2).trans gr.ext).trans e4).trans g5.ext) (f4.grow g5) vr5 p5
 | _=>exact p.elim
theorem Nc{op op':CmpOp}{r r':R2}{f g:D->D->(D->Prop)->Prop}{κc:Kd}(ho:OpR X (compareOp op) r)(hA:Dw X.K .sh r f)(ho':OpR X (compareOp op') r')(hB:Dw X.K .sh r' g)(ha:DE X a κa wa)(hb:DE X b κb wb)(hc:DE X c κc wc)
  (hm:lastMarks [op,op'] [b,c]=false:=by with_unfolding_all rfl):DE X (.Compare a [op,op'] [b,c] pos) .sh (Jm f g wa wb wc):=by
 obtain⟨ta,ha1,ha2⟩:=ha
 obtain⟨tb,hb1,hb2⟩:=hb
 obtain⟨tc,hc1,hc2⟩:=hc
 exact⟨_,M8 ho ho' ha1 hb1 hc1 hm,fun C M H n ρ σ P Q R w q=>Ng hA hB ha2 hb2 hc2 C M H n ρ σ P Q R w q⟩
def Ip(u v:Gc):Gc:=fun n ρ P=>u n ρ fun c n1=>if c=true then v n1 ρ P else P false n1
def Im(u v:Gc):Gc:=fun n ρ P=>u n ρ fun c n1=>if c=true then P true n1 else v n1 ρ P
def G7(u:Gc):Gc:=fun n ρ P=>u n ρ fun c n1=>P (!c) n1
variable {wA wB:Gc}{rest:List Expr}
theorem IL(h:DT X a wA):DTW X (.BoolOp .And [a] pos) wA:=by
 obtain⟨t,h1,h2⟩:=h
 exact⟨t,Kh h1,h2⟩
theorem GI(h:DT X a wA):DTW X (.BoolOp .Or [a] pos) wA:=by
 obtain⟨t,h1,h2⟩:=h
 exact⟨t,P1 h1,h2⟩
theorem KC(ha:DT X a wA)(hb:DTW X (.BoolOp .And (b::rest) pos) wB):DTW X (.BoolOp .And (a::b::rest) pos) (Ip wA wB):=by
 obtain⟨t,h1,h2⟩:=ha
 obtain⟨u,g1,g2⟩:=hb
 refine⟨_,Mo h1 g1,fun C M H n ρ σ P Q R w q=>?_⟩
 refine h2 C M H n ρ σ _ _ R w fun c H1 n1 e1 f1 p=>?_
 cases c with
 | false=>exact q false H1 n1 e1 f1 p
 | true=>exact g2 C M H1 n1 ρ σ P Q (R.step e1 f1) p fun b H2 n2 e2 f2 p2=>q b H2 n2 (e1.trans e2) f2 p2
theorem Eb(ha:DT X a wA)(hb:DTW X (.BoolOp .Or (b::rest) pos) wB):DTW X (.BoolOp .Or (a::b::rest) pos) (Im wA wB):=by
 obtain⟨t,h1,h2⟩:=ha
 obtain⟨u,g1,g2⟩:=hb
 refine⟨_,RS h1 g1,fun C M H n ρ σ P Q R w q=>?_⟩
 refine h2 C M H n ρ σ _ _ R w fun c H1 n1 e1 f1 p=>?_
 cases c with
 | true=>exact q true H1 n1 e1 f1 p
 | false=>exact g2 C M H1 n1 ρ σ P Q (R.step e1 f1) p fun b H2 n2 e2 f2 p2=>q b H2 n2 (e1.trans e2) f2 p2
theorem DTW.dt(h:DTW X e wA):DT X e wA:=by
 obtain⟨t,h1,h2⟩:=h
 exact⟨t,h1.pt,h2⟩
theorem E6(ha:DT X a wA):DT X (.UnaryOp .Not a pos) (G7 wA):=by
 obtain⟨t,h1,h2⟩:=ha
 refine⟨_,P4 h1,fun C M H n ρ σ P Q R w q=>?_⟩
 exact h2 C M H n ρ σ _ _ R w fun c H1 n1 e1 f1 p=>q (!c) H1 n1 e1 f1 p
def Ge(u v:DW):DW:=fun n ρ P=>u n ρ fun c n1=>match c with
 | .bl true=>v n1 ρ P
 | .bl false=>P (.bl false) n1
 | _=>False
def Pf(u:DW):DW:=fun n ρ P=>u n ρ fun c n1=>match c with
 | .bl b=>P (.bl (!b)) n1
 | _=>False
theorem EH{op}(h:DE X a κ wa):DE X (.BoolOp op [a] pos) κ wa:=by
 obtain⟨t,h1,h2⟩:=h
 exact⟨t,P9 h1,h2⟩
theorem DJ(ha:DE X a κa wa)(hb:DE X (.BoolOp .And (b::rest) pos) .sh wb):DE X (.BoolOp .And (a::b::rest) pos) .sh (Ge wa wb):=by
 obtain⟨t,h1,h2⟩:=ha
 obtain⟨u,g1,g2⟩:=hb
 refine⟨_,QC h1 g1,fun C M H n ρ σ P Q R w q=>?_⟩
 refine h2 C M H n ρ σ _ _ R w fun c H1 d n1 e1 f1 r1 p=>?_
 cases d with
 | bl k =>
  refine⟨k,FQ r1,?_⟩
  cases k with
  | false=>exact q _ H1 _ n1 e1 f1 (show VR X.K C.V M H H1 .sh (.bl false) (.bl false) from rfl) p
  | true =>
   show u σ H1 Q
   exact g2 C M H1 n1 ρ σ P Q (R.step e1 f1) p fun v H2 d n2 e2 f2 r2 p2=>q v H2 d n2 (e1.trans e2) f2 r2 p2
 | _=>exact p.elim
theorem Na(ha:DE X a κa wa):DE X (.UnaryOp .Not a pos) .sh (Pf wa):=by
 obtain⟨t,h1,h2⟩:=ha
 refine⟨_,P_ h1,fun C M H n ρ σ P Q R w q=>?_⟩
 refine h2 C M H n ρ σ _ _ R w fun c H1 d n1 e1 f1 r1 p=>?_
 cases d with
 | bl k=>exact⟨k,FQ r1,q _ H1 _ n1 e1 f1 (show VR X.K C.V M H H1 .sh (.bl (!k)) (.bl (!k)) from rfl) p⟩
 | _=>exact p.elim
def SD(t:Gc)(u v:DW):DW:=fun n ρ P=>t n ρ fun c n1=>if c=true then u n1 ρ P else v n1 ρ P
theorem LD(hc:DT X c wA)(ha:DE X a κ wa)(hb:DE X b κ wb):DE X (.IfExp c a b pos) κ (SD wA wa wb):=by
 obtain⟨t,h1,h2⟩:=hc
 obtain⟨u,g1,g2⟩:=ha
 obtain⟨u',k1,k2⟩:=hb
 refine⟨_,JF h1 g1 k1,fun C M H n ρ σ P Q R w q=>?_⟩
 refine h2 C M H n ρ σ _ _ R w fun c H1 n1 e1 f1 p=>?_
 cases c with
 | true=>exact g2 C M H1 n1 ρ σ P Q (R.step e1 f1) p fun v H2 d n2 e2 f2 r2 p2=>q v H2 d n2 (e1.trans e2) f2 (VR.back e1 r2) p2
 | false=>exact k2 C M H1 n1 ρ σ P Q (R.step e1 f1) p fun v H2 d n2 e2 f2 r2 p2=>q v H2 d n2 (e1.trans e2) f2 (VR.back e1 r2) p2
def AQ:EJ:=fun n _ P=>P [] n
def AD(w:DW)(ws:EJ):EJ:=fun n ρ P=>w n ρ fun d n1=>ws n1 ρ fun ds n2=>P (d::ds) n2
variable {es:List Expr}{ws:EJ}
theorem AM:Om X [] AQ:=⟨_,CS,fun C M H n ρ σ P Q R w q=>q [] H [] n (Ext.refl _ _) R.feed .nil w⟩
theorem AS:Qz X [] AQ:=⟨_,CS,fun C M H n ρ σ P Q R w q=>q [] H [] n (Ext.refl _ _) R.feed rfl w⟩
theorem AI(ha:DE X e κ wa)(hr:Om X es ws)(hs:starEach (e::es) X.env=(false,eval e X.env)::starEach es X.env:=by rfl):Om X (e::es) (AD wa ws):=by
 obtain⟨t,h1,h2⟩:=ha
 obtain⟨u,g1,g2⟩:=hr
 refine⟨_,BN h1 g1 hs,fun C M H n ρ σ P Q R w q=>?_⟩
 refine h2 C M H n ρ σ _ _ R w fun v H1 d n1 e1 f1 r1 p=>?_
 have R1:=R.step e1 f1
 refine g2 C M H1 n1 ρ σ _ _ R1 p fun vs H2 ds n2 e2 f2 r2 p2=>?_
 exact q (v::vs) H2 (d::ds) n2 (e1.trans e2) f2 (.cons ((r1.tpOf R.dom R.vM).pres (R1.pres e2) e2 R.uV) r2) p2
theorem AB(ha:DE X e κ wa)(hr:Qz X es ws)(hk:κ≠.tp:=by intro z; cases z)(hs:starEach (e::es) X.env=(false,eval e X.env)::starEach es X.env:=by rfl):Qz X (e::es) (AD wa ws):=by
 obtain⟨t,h1,h2⟩:=ha
 obtain⟨u,g1,g2⟩:=hr
 refine⟨_,BN h1 g1 hs,fun C M H n ρ σ P Q R w q=>?_⟩
 refine h2 C M H n ρ σ _ _ R w fun v H1 d n1 e1 f1 r1 p=>?_
 have R1:=R.step e1 f1
 refine g2 C M H1 n1 ρ σ _ _ R1 p fun vs H2 ds n2 e2 f2 r2 p2=>?_
 exact q (v::vs) H2 (d::ds) n2 (e1.trans e2) f2 ⟨v,vs,rfl,(r1.shOf R.dom hk).pres (R1.pres e2),r2⟩ p2
def CF(ws:EJ):DW:=fun n ρ P=>ws n ρ fun ds n1=>ds.length<=sizeLine/\P (.tup ds) n1
def C9(ws:EJ):DW:=fun n ρ P=>ws n ρ fun ds n1=>ds.length<=sizeLine/\P (.lst ds) n1
theorem ED{M:Addr->Prop}{H:Hp}{p:Addr}{o:HO}(h:H p=none):Pres M H (fun b=>M b\/b=p) (A_ H p o):=⟨fun b u e _=>by rw [AO (A6 e h)]; exact e,fun b z=>z.elim .inl fun z=>.inr (by rw [z]; exact h)⟩
theorem Av{H:Hp}{p:Addr}{o:HO}(h:H p=none):Grow H (A_ H p o):=.inr ⟨p,o,h,rfl⟩
theorem BE{x1}(h:Qz X es ws):DE X (.Tuple es x1 pos) .sh (CF ws):=by
 obtain⟨t,h1,h2⟩:=h
 refine⟨_,M6 h1,fun C M H n ρ σ P Q R w q=>?_⟩
 refine h2 C M H n ρ σ _ _ R w fun vs H1 ds n1 e1 f1 r1 p=>?_
 refine⟨by rw [r1.length]; exact p.1,fun a ha=>?_⟩
 have g:Grow H1 (A_ H1 a (.tup vs)):=Av ha
 refine q _ _ (.tup ds) n1 (e1.trans g.ext) (f1.grow g) ⟨a,vs,rfl,⟨fun z=>?_,AX⟩,r1.pres g.pres⟩ p.2
 obtain⟨o,z⟩:=(R.step e1 f1).dom a z
 rw [ha] at z; cases z
theorem Bm(h:Qz X es ws):DE X (.List es pos) .fr (C9 ws):=by
 obtain⟨t,h1,h2⟩:=h
 refine⟨_,J0 h1,fun C M H n ρ σ P Q R w q=>?_⟩
 refine h2 C M H n ρ σ _ _ R w fun vs H1 ds n1 e1 f1 r1 p=>?_
 refine⟨by rw [r1.length]; exact p.1,fun a ha=>?_⟩
 have g:Grow H1 (A_ H1 a (.lst vs)):=Av ha
 exact q _ _ (.lst ds) n1 (e1.trans g.ext) (f1.grow g) (VR.back e1 ⟨a,rfl,ha,vs,AX,r1.pres (ED ha)⟩) p.2
def C3(K:Frag)(κ:Kd)(r:List V->Hp->VK->Prop)(f:List D->(D->Prop)->Prop):Prop:=∀(U:Addr->Prop) (M:Addr->Prop) (H:Hp) (ds:List D) (vs:List V) (P:D->Prop) (Q:VK),(∀a,M a->∃o,H a=some o)->(∀a,U a->M a) ->
 Paired (fun v d=>AtT K U M H d v) vs ds->f ds P->(∀v H' z,Grow H H'->VR K U M H H' κ v z->P z->Q v H')->r vs H Q
def Cj(f:List D->(D->Prop)->Prop)(ws:EJ):DW:=fun n ρ P=>ws n ρ fun ds n1=>f ds fun z=>P z n1
theorem PR{r:List V->Hp->VK->Prop}{f:List D->(D->Prop)->Prop}{t:TA}(hA:C3 X.K κ r f)(h2:∀(C:Fm) (M:Addr->Prop) (H:Hp) (n:Nat) (ρ:List Slot) (σ:L2.St) (P:List D->Nat->Prop) (Q:List V->Hp->Prop),Rel X.K C M H n ρ σ->ws n ρ P ->
   (∀vs H' ds n',Ext C.U H H'->FeedC X.K C.F M H' n'->Paired (fun v d=>AtT X.K C.V M H' d v) vs ds->P ds n'->Q vs H')->t σ H Q)
  (C:Fm) (M:Addr->Prop) (H:Hp) (n:Nat) (ρ:List Slot) (σ:L2.St) (P:D->Nat->Prop) (Q:VK) (R:Rel X.K C M H n ρ σ) (w:Cj f ws n ρ P)
  (q:∀v H' d n',Ext C.U H H'->FeedC X.K C.F M H' n'->VR X.K C.V M H H' κ v d->P d n'->Q v H'):SF r t σ H Q:=by
 refine h2 C M H n ρ σ _ _ R w fun vs H1 ds n1 e1 f1 r1 p=>?_
 have R1:=R.step e1 f1
 refine hA C.V M H1 ds vs _ _ R1.dom R1.vM r1 p fun v H2 z g vr pz=>?_
 exact q v H2 z n1 (e1.trans g.ext) (f1.grow g) (VR.back e1 vr) pz
theorem Ac{x:Str}{id:String}{p:Pos}{r:List V->Hp->VK->Prop}{f:List D->(D->Prop)->Prop}(hc:CD X (.builtin id) r)(hA:C3 X.K κ r f)(hg:Gl X x)(hm:X.mg x=none)(hv:bootBuiltins x=some (.builtin id))(ha:Om X (e::es) ws)
  (hn:x ≠ "__name__":=by decide) (hdb:(x==("__debug__" : Str))=false:=by decide)
  (he:starEach (e::es) X.env=(false,eval e X.env)::starEach es X.env:=by rfl) (hpl:(backTo pos (starEach es X.env)).any (·.1)=false:=by rfl):DE X (.Call (.Name x p) (e::es) [] pos) κ (Cj f ws):=by
 obtain⟨t,h1,h2⟩:=ha
 exact⟨_,Dc hc hg hm hv h1 hn hdb he hpl,fun C M H n ρ σ P Q R w q=>PR hA h2 C M H n ρ σ P Q R w q⟩
theorem A5{x:Str}{T:String}{p:Pos}{r:List V->Hp->VK->Prop}{f:List D->(D->Prop)->Prop}(hc:CD X (.type T) r)(hA:C3 X.K κ r f)(hg:Gl X x)(hm:X.mg x=none)(hv:bootBuiltins x=some (.type T))(ha:Om X (e::es) ws)
  (hn:x ≠ "__name__":=by decide) (hdb:(x==("__debug__" : Str))=false:=by decide)
  (he:starEach (e::es) X.env=(false,eval e X.env)::starEach es X.env:=by rfl) (hpl:(backTo pos (starEach es X.env)).any (·.1)=false:=by rfl):DE X (.Call (.Name x p) (e::es) [] pos) κ (Cj f ws):=by
 obtain⟨t,h1,h2⟩:=ha
 exact⟨_,G_ hc hg hm hv h1 hn hdb he hpl,fun C M H n ρ σ P Q R w q=>PR hA h2 C M H n ρ σ P Q R w q⟩
end
end Dp
namespace L2
open PySem PySem.Spec PyProof.Rows
def S2(z:Str):It:=⟨fun i _=>i<z.cps.size,fun i H x H'=>H'=H/\∃c,z.cps[i]?=some c/\x=.str ⟨#[c]⟩,fun i _=>z.cps.size<=i⟩
theorem Ir{P:Program}{w:World}{K:Frag}{tg:Expr}(it:Addr)(z:Str)(t:Tok)(ty:String)(hty:ty = "str_ascii_iterator"\/ty = "str_iterator")
  (W:∀A':Around,A'.handled=none->Walks P w A' it [it] [it] z.cps.size (SignAt z) (fun i h=>h.IsStrIter it ty z t i)):Turn P w K tg (S2 z) [it] it (fun i h=>h.IsStrIter it ty z t i) where
 mem:=by simp
 obj:=fun i h st b hb=>by
  have e:b=it:=by simpa using hb
  subst e
  obtain⟨o,e,c,d⟩:=st
  exact⟨o,e,fun v z=>by rw [d] at z; cases z⟩
 keep:=fun i h h' st k=>let ⟨o,ho,r⟩:=st; ⟨o,k it (by simp) o ho,r⟩
 item:=by
  intro X hP hw hK hc i pins s σ H E I hf st hg
  subst hP hw hK
  obtain⟨f0,f1,f2,f3,f4,f5⟩:=hf it (by simp)
  refine(W X.A (I.ok.hd hc)).item i s _ _ hg st fun v h' tk hv st' kk=>?_
  obtain⟨c,u,hcu,rfl⟩:=hv
  have I1:Inv X pins σ H { s with heap:=h',toks:=tk }:=I.turned (fun b o hb e=>kk b o (by simpa using hb) e) f0 f1 f3 f4 f5
  obtain⟨o,e,cc,d⟩:=id st'
  exact⟨_,rfl,K3 (s:={ s with heap:=h',toks:=tk }) e cc d (by rcases hty with rfl | rfl <;> decide) ⟨.str ⟨#[c]⟩,H,I1,⟨_,rfl⟩,⟨rfl,c,hcu,rfl⟩,st',fun b hb=>(hf b hb).1⟩⟩
 done:=by
  intro X hP hw hK hc i pins s σ H E I hf st hg
  subst hP hw hK
  obtain⟨f0,f1,f2,f3,f4,f5⟩:=hf it (by simp)
  have hx:z.cps[i]?=none:=by
   have:z.cps.size<=i:=hg
   simp [this]
  rcases hty with rfl | rfl
  ·exact wpAny_pyNext_ascii_end (I.ok.hd hc) st hx fun h' eb=>⟨rfl,I.turned (t':=s.toks) (fun b o hb e=>eb b o hb e) f0 f1 f3 f4 f5⟩
  ·exact wpAny_pyNext_wide_end (I.ok.hd hc) st hx fun h' eb=>⟨rfl,I.turned (t':=s.toks) (fun b o hb e=>eb b o hb e) f0 f1 f3 f4 f5⟩
 self:=fun A i s Q E st h=>by
  rcases hty with rfl | rfl
  ·exact wpAny_pyIter_striter_ascii st h
  ·exact wpAny_pyIter_striter_wide st h
section
variable {X:Cx}{tg:Expr}
def Sm(K:Frag)(tl:TE):TI:=fun σ H R=>tl σ H fun x H1 =>
 (∃a,x=.ref a/\(∃xs,SqL K H1 a xs)/\R (S3 K a) H1)\/(∃a,x=.ref a/\(∃xs,SqT K H1 a xs)/\R (Qu K a) H1)\/∃z,x=.str z/\R (S2 z) H1
theorem Jy{l:Expr}{tl:TE}(hl:PE X l tl):PI X tg l (Sm X.K tl):=by
 intro pins s σ H R I h
 refine BL (hl pins s σ H _ I h) fun v s1 ⟨x,H1,I1,r1,q1⟩=>?_
 have hne:∀b,b∈[s1.heap.objs.size]->E_ X pins H1 b:=fun b hb=>by
  have e:b=s1.heap.objs.size:=by simpa using hb
  subst e
  exact I1.fpOk (Nat.le_refl _) (I1.hok.fresh (Nat.le_refl _))
 rcases q1 with ⟨a,e,⟨xs,hq⟩,q⟩ | ⟨a,e,⟨xs,hq⟩,q⟩ | ⟨z,e,q⟩
 ·subst e
  cases r1
  obtain⟨its,rv,p,hz⟩:=I1.list hq
  refine wpAny_pyIter_list p.isList ?_
  exact⟨s1.heap.objs.size,[s1.heap.objs.size],_,_,H1,rfl,I1.kept (t':=s1.toks) fun b o e=>Heap.get?_push_of_some _ e,LT a _,⟨_,Heap.get?_push_size _ rfl,rfl,rfl⟩,hne,q⟩
 ·subst e
  cases r1
  obtain⟨its,rv,p,hz⟩:=I1.tuple hq
  refine wpAny_pyIter_tuple (show s1.heap.IsTuple a its.toArray from p) ?_
  exact⟨s1.heap.objs.size,[s1.heap.objs.size],_,_,H1,rfl,I1.kept (t':=s1.toks) fun b o e=>Heap.get?_push_of_some _ e,FY a _,⟨_,Heap.get?_push_size _ rfl,rfl,rfl⟩,hne,q⟩
 ·subst e
  obtain⟨t,rfl⟩:=r1
  cases ha:z.cps.all (·<128)
  ·refine wpAny_pyIter_wide ha ?_
   exact⟨s1.heap.objs.size,[s1.heap.objs.size],_,_,H1,rfl,I1.kept (t':=s1.toks) fun b o e=>Heap.get?_push_of_some _ e,Ir _ z t "str_iterator" (.inr rfl) (fun A' hA=>Walks.strWide hA _ z t),⟨_,Heap.get?_push_size _ rfl,rfl,rfl⟩,hne,q⟩
  ·refine wpAny_pyIter_ascii ha ?_
   exact⟨s1.heap.objs.size,[s1.heap.objs.size],_,_,H1,rfl,I1.kept (t':=s1.toks) fun b o e=>Heap.get?_push_of_some _ e,Ir _ z t "str_ascii_iterator" (.inl rfl) (fun A' hA=>Walks.strAscii hA _ z t),⟨_,Heap.get?_push_size _ rfl,rfl,rfl⟩,hne,q⟩
end
section
variable {X:Cx}
theorem Gq(bs:List Bool):((List.range bs.length).all fun i=>(bs[i]?).getD true)=bs.all id:=by
 induction bs with
 | nil=>rfl
 | cons b r ih =>
  rw [List.length_cons,List.range_succ_eq_map,List.all_cons,List.all_map,List.all_cons]
  simp only [List.getElem?_cons_zero,Option.getD_some,id_eq]
  congr 1
theorem Je(hc:X.calm=true):CD X (.builtin "all") (fun xs H Q=>∃(p:Addr) (bs:List Bool),xs=[.ref p]/\SqL X.K H p (bs.map V.bl)/\Q (.bl (bs.all id)) H):=by
 intro pins s σ H xs us Q I r h
 obtain⟨p,bs,rfl,hq,q⟩:=h
 obtain⟨u,rfl,rx⟩:=vals1 r
 cases rx
 obtain⟨its,r',pl,hz⟩:=I.list hq
 have hlen:=r'.length
 have hl:s.heap.IsList p its.toArray:=pl.isList
 have hlt:p<s.heap.objs.size:=by obtain⟨_,e,_⟩:=id hl; exact Heap.lt_size e
 refine call_all_walk (wpAny_pyIter_list hl ?_)
 refine⟨s.heap.objs.size,[s.heap.objs.size,p],[s.heap.objs.size],its.toArray.size,_,_,fun i=>(bs[i]?).getD true,rfl,Walks.list (A:=X.A.in1) (I.ok.hd hc) _ p (Nat.ne_of_lt hlt) its.toArray,
  ⟨⟨_,Heap.get?_push_size _ rfl,rfl,rfl⟩,hl.push _⟩,fun i v s' Q' E' hP hQ=>?_,fun h' tk hk=>?_⟩
 ·have hv:its[i]?=some v:=by simpa using hP
  have hb:∃b,bs[i]?=some b:=by
   have hi:i<its.length:=(List.getElem?_eq_some_iff.mp hv).1
   rw [List.length_map] at hlen
   exact⟨bs[i]'(by omega),List.getElem?_eq_getElem (by omega)⟩
  obtain⟨b,eb⟩:=hb
  obtain⟨u,eu,ru⟩:=r'.get (i:=i) (x:=.bl b) (by rw [List.getElem?_map,eb]; rfl)
  rw [hv] at eu
  cases eu
  cases ru
  simp only [eb,Option.getD_some] at hQ
  exact wpAny_truthy_bool hQ
 ·have e:((List.range its.toArray.size).all fun i=>(bs[i]?).getD true)=bs.all id:=by
   rw [List.size_toArray,← hlen,List.length_map]; exact Gq bs
  rw [e]
  exact⟨.bl _,H,I.kept (t':=tk) fun b x e=>hk b x (fun hm=>by rw [List.mem_singleton.mp hm] at e; exact Nat.lt_irrefl _ (Heap.lt_size e)) (Heap.get?_push_of_some _ e),rfl,q⟩
theorem Jd:CD X (.builtin "isinstance") (fun xs H Q=>∃x T t b,xs=[x,.ty T]/\Dy X.K H x t/\PySem.W.kitOne X.K t (.type T)=some b/\Q (.bl b) H):=by
 intro pins s σ H xs us Q I r h
 obtain⟨x,T,t,b,rfl,ty,e,q⟩:=h
 obtain⟨u,w',rfl,rx,rt⟩:=vals2 r
 cases rt
 exact L8 I rx ty e fun tk=>⟨.bl b,H,I.tok _,rfl,q⟩
theorem Lk:OpR X (compareOp .LtE) (fun x y H Q=>∃i j,x=.str i/\y=.str j/\Q (.bl (!(j.cps.toList<i.cps.toList))) H):=by
 intro pins s σ H x y v u Q I rx ry h
 obtain⟨i,j,rfl,rfl,q⟩:=h
 obtain⟨t,rfl⟩:=rx
 obtain⟨t',rfl⟩:=ry
 exact PySem.P.le_str ⟨.bl _,H,I,rfl,q⟩
theorem Fa{ys:List Str}:∀{us:List Value},Vals (ys.map V.str) us->StrsAre us ys:=by
 induction ys with
 | nil=>intro us r; rw [List.map_nil] at r; cases r; exact .nil
 | cons n ns ih =>
  intro us r
  rw [List.map_cons] at r
  cases r with
  | cons r1 r2 =>
   obtain⟨t,e⟩:=r1
   subst e
   exact .cons n t (ih r2)
theorem OK:Qs X "str.join" (fun x xs H Q=>∃(z:Str) (p:Addr) (ys:List Str),x=.str z/\xs=[.ref p]/\SqL X.K H p (ys.map V.str)/\(ys.map (·.length)).sum+ys.length*z.length<=16777216/\Q (.str (Txt.join z ys)) H):=by
 intro pins s σ H x xs v us Q I rx rv h
 obtain⟨z,p,ys,rfl,rfl,hq,hz,q⟩:=h
 obtain⟨t,rfl⟩:=rx
 obtain⟨u,rfl,ru⟩:=vals1 rv
 cases ru
 obtain⟨its,r',pl,_⟩:=I.list hq
 exact join_list pl.isList (Fa r') hz fun t' k=>⟨.str _,H,I.tok _,⟨_,rfl⟩,q⟩
theorem Pq:SlR X (fun x lo hi H Q=>∃z,x=.str z/\z.length<=sizeLine/\Q (.str (Txt.slice z lo hi)) H):=by
 intro pins s σ H x v vl vu lo hi sl Q I rx hs pl pu h
 obtain⟨z,rfl,hz,q⟩:=h
 obtain⟨t,rfl⟩:=rx
 refine⟨"str",_,F.slot_str_getitem.lookup,typeIs_str _ _ _,?_⟩
 have fin:∀t' k,EP X pins σ Q (.str (Txt.slice z lo hi) t') { s with toks:=k }:=fun t' k=>⟨.str _,H,I.tok _,⟨_,rfl⟩,q⟩
 cases pl with
 | none =>
  cases pu with
  | none=>exact wpAny_getItem_str_slice (l:=none) (u:=none) (st:=none) hs rfl (post_val_or_str ⟨Nat.le_trans (Txt.slice_le z _ _) hz,fun t' k=>fin t' k⟩)
  | int j tj=>exact wpAny_getItem_str_slice (l:=none) (u:=some (j,tj)) (st:=none) hs rfl (post_val_or_str ⟨Nat.le_trans (Txt.slice_le z _ _) hz,fun t' k=>fin t' k⟩)
 | int i ti =>
  cases pu with
  | none=>exact wpAny_getItem_str_slice (l:=some (i,ti)) (u:=none) (st:=none) hs rfl (post_val_or_str ⟨Nat.le_trans (Txt.slice_le z _ _) hz,fun t' k=>fin t' k⟩)
  | int j tj=>exact wpAny_getItem_str_slice (l:=some (i,ti)) (u:=some (j,tj)) (st:=none) hs rfl (post_val_or_str ⟨Nat.le_trans (Txt.slice_le z _ _) hz,fun t' k=>fin t' k⟩)
theorem Li(hu:X.A.units<cLine):OpR X (compareOp .NotEq) (fun x y H Q=>∃a b xs,x=.ref a/\y=.ref b/\SqL X.K H a xs/\SqL X.K H b []/\Q (.bl (!xs.isEmpty)) H):=by
 intro pins s σ H x y v u Q I rx ry h
 obtain⟨a,b,xs,rfl,rfl,ha,hb,q⟩:=h
 cases rx
 cases ry
 obtain⟨its,r1,p1,_⟩:=I.list ha
 obtain⟨its2,r2,p2,_⟩:=I.list hb
 cases r2
 cases r1 with
 | nil=>exact SeqAt.RcNeAt.lists (e:=fun _=>true) p1.isList p2.isList rfl hu (fun j h1 h2=>absurd h1 (by simp)) X.prog X.w X.xe _ ⟨.bl _,H,I,rfl,q⟩
 | cons r1 r2=>exact SeqAt.RcNeAt.lists_lengths p1.isList p2.isList (by simp) hu X.prog X.w X.xe _ ⟨.bl _,H,I,rfl,q⟩
end
end L2
namespace Dp
open PySem PySem.Spec PyProof.Rows L2
def R0(K:Frag)(F:Option (Addr×Addr))(U V' M:Addr->Prop)(H:Hp)(n:Nat)(ss:List Slot)(vs:List V):Prop :=
 (∀a,M a->∃o,H a=some o)/\(∀f,F=some f->U f.1)/\(∀a,U a->V' a)/\(∀a,V' a->M a)/\FeedC K F M H n/\Paired (HW K F V' M H) vs ss
abbrev W2:=List Slot->Nat->(D->Nat->Prop)->Prop
def FK(K:Frag)(κ:Kd)(W:W2)(np:Nat):Sp:=fun vs H Q _=>vs.length=np/\∃(F:Option (Addr×Addr)) (U V' M:Addr->Prop) (n:Nat) (ss:List Slot) (P:D->Nat->Prop),R0 K F U V' M H n ss vs/\W ss n P /\
 ∀v H' d n',Ext U H H'->FeedC K F M H' n'->VR K V' M H H' κ v d->P d n'->Q v H'
def AN(w:DW):Nat->List Slot->(Slot->Nat->Prop)->Prop:=fun n ρ P=>w n ρ fun d n1=>P (.sh d) n1
def FX(w:DW):Nat->List Slot->(Slot->Nat->Prop)->Prop:=fun n ρ P=>w n ρ fun d n1=>P (.br d) n1
def Ap(i:Nat):Nat->List Slot->(Slot->Nat->Prop)->Prop:=fun n ρ P=>match ρ[i]? with
 | some .fd=>P .fd n
 | _=>False
def AZ:Qv:=fun n _ P=>P [] n
def AF(w:Nat->List Slot->(Slot->Nat->Prop)->Prop)(ws:Qv):Qv:=fun n ρ P=>w n ρ fun s n1=>ws n1 ρ fun ss n2=>P (s::ss) n2
def AY(W:W2)(was:Qv):DW:=fun n ρ P=>was n ρ fun ss n1=>W ss n1 P
section
variable {X:Cx}{a b c e:Expr}{es:List Expr}{κ κa κb:Kd}{wa wb wc:DW}{pos:Pos}{w1:Nat->List Slot->(Slot->Nat->Prop)->Prop}{was:Qv}{ws:EJ}
theorem AR(h:DE X e κ wa)(hk:κ≠.tp:=by intro z; cases z):SQ X e (AN wa):=by
 obtain⟨t,h1,h2⟩:=h
 refine⟨t,h1,fun C M H n ρ σ P Q R w q=>h2 C M H n ρ σ _ _ R w fun v H' d n' e f r p=>?_⟩
 exact q v H' (.sh d) n' e f ⟨⟨v,rfl,r.shOf R.dom hk⟩,rfl⟩ p
theorem LF(h:DE X e κ wa):SQ X e (FX wa):=by
 obtain⟨t,h1,h2⟩:=h
 refine⟨t,h1,fun C M H n ρ σ P Q R w q=>h2 C M H n ρ σ _ _ R w fun v H' d n' e f r p=>?_⟩
 exact q v H' (.br d) n' e f ⟨⟨v,rfl,r.tpOf R.dom R.vM⟩,rfl⟩ p
theorem Ay(i:Nat){x:Str}{pos:Pos}(hN:X.N[i]?=some x:=by rfl)(hv:Qy X.env.scope x:=by first | exact Or.inl rfl | exact Or.inr (Or.inl rfl) | exact Or.inr (Or.inr rfl))(hd:(x==("__debug__" : Str))=false:=by decide)
  (hcd:(x==("__classdict__" : Str))=false:=by decide):SQ X (.Name x pos) (Ap i):=by
 refine⟨_,Hr hN hv hd hcd,fun C M H n ρ σ P Q R w q=>?_⟩
 unfold Ap at w
 split at w
 ·rename_i hd
  obtain⟨f,e1,h1⟩:=R.sl i _ hd
  exact⟨.ref f.1,getD_some e1,q _ H .fd n (Ext.refl _ _) R.feed ⟨⟨f,rfl,h1⟩,rfl⟩ w⟩
 ·exact w.elim
theorem AK:SA X [] AZ:=⟨_,CS,fun C M H n ρ σ P Q R w q=>q [] H [] n (Ext.refl _ _) R.feed .nil w⟩
theorem AA(ha:SQ X e w1)(hr:SA X es was)(hs:starEach (e::es) X.env=(false,eval e X.env)::starEach es X.env:=by rfl):SA X (e::es) (AF w1 was):=by
 obtain⟨t,h1,h2⟩:=ha
 obtain⟨u,g1,g2⟩:=hr
 refine⟨_,BN h1 g1 hs,fun C M H n ρ σ P Q R w q=>?_⟩
 refine h2 C M H n ρ σ _ _ R w fun v H1 d n1 e1 f1 r1 p=>?_
 have R1:=R.step e1 f1
 refine g2 C M H1 n1 ρ σ _ _ R1 p fun vs H2 ds n2 e2 f2 r2 p2=>?_
 exact q (v::vs) H2 (d::ds) n2 (e1.trans e2) f2 (.cons ⟨r1.1.pres (R1.pres e2) (fun _ z=>z) e2 R.uV,r1.2⟩ r2) p2
theorem Of{k:Nat}{f:Addr}{fd:FuncData}{ps:List Str}{W:W2}{x:Str}{p:Pos}(G:Bh X.prog X.w X.K X.mg X.base DR k f fd ps (FK X.K κ W ps.length))(hW:∀ss n P,W ss n P->ss.length=ps.length)
  (hr:Room k X.A) (hg:Gl X x) (hm:X.mg x=some (.ref f)) (hk:keepIn X.K (.ref f)=true) (hb:Binds X.K fd ps []) (ha:SA X (e::es) was)
  (hdb:(x==("__debug__" : Str))=false:=by decide) (he:starEach (e::es) X.env=(false,eval e X.env)::starEach es X.env:=by rfl) (hpl:(backTo pos (starEach es X.env)).any (·.1)=false:=by rfl) :
  DE X (.Call (.Name x p) (e::es) [] pos) κ (AY W was):=by
 obtain⟨t,h1,h2⟩:=ha
 refine⟨_,Kp G hr hg hm hk hb .nil PC h1 hdb he hpl,fun C M H n ρ σ P Q R w q=>?_⟩
 refine h2 C M H n ρ σ _ _ R w fun vs H1 ss n1 e1 f1 r1 p=>?_
 have R1:=R.step e1 f1
 show FK X.K κ W ps.length (vs++[]) H1 Q E0
 rw [List.append_nil]
 refine⟨(Paired.length r1).trans (hW _ _ _ p),C.F,C.U,C.V,M,n1,ss,P,⟨R1.dom,R1.fU,R1.uV,R1.vM,f1,r1⟩,p,fun v H2 d n2 e2 f2 r2 p2=>?_⟩
 exact q v H2 d n2 (e1.trans e2) f2 (VR.back e1 r2) p2
def S0(K:Frag)(κ:Kd)(T:String)(r:V->List V->Hp->VK->Prop)(f:D->List D->(D->Prop)->Prop):Prop:=∀(U:Addr->Prop) (M:Addr->Prop) (H:Hp) (d:D) (ds:List D) (x:V) (vs:List V) (P:D->Prop) (Q:VK),(∀a,M a->∃o,H a=some o)->(∀a,U a->M a) ->
 AtT K U M H d x->Paired (fun v d=>AtT K U M H d v) vs ds->f d ds P->(∀v H' z,Grow H H'->VR K U M H H' κ v z->P z->Q v H')->r x vs H Q
def Sk(T:String)(d:D):Prop:=match d with
 | .str _=>T = "str"
 | .int _=>T = "int"
 | .lst _=>T = "list"
 | _=>False
def SR(T:String)(f:D->List D->(D->Prop)->Prop)(wo:DW)(ws:EJ):DW:=fun n ρ P=>wo n ρ fun d n1=>Sk T d/\ws n1 ρ fun ds n2=>f d ds fun z=>P z n2
theorem NJ{T:String}{K:Frag}{U:Addr->Prop}{M:Addr->Prop}{H:Hp}{d:D}{x:V}(h:Sk T d)(hx:AtT K U M H d x):SS K T x H:=by
 cases d with
 | str z=>obtain⟨e,_⟩:=hx; subst e; exact h
 | int i=>cases (show x=.int i from hx); exact h
 | lst ds=>obtain⟨a,vs,e,_,hq,_⟩:=hx; subst e; exact .inl ⟨h,vs,.inl hq⟩
 | _=>exact(show False from h).elim
theorem Rp{name:Str}{apos cpos:Pos}{T id:String}{r:V->List V->Hp->VK->Prop}{f:D->List D->(D->Prop)->Prop}(pa:PlainAttrs T)(slot:PySem.Slot T name id)(hty:typeOf (.builtin id)=pure (.type "method_descriptor"))(hm:Qs X id r)
  (hA:S0 X.K κ T r f) (ho:DE X a κa wa) (ha:Om X (e::es) ws)
  (hbase:attributeBase a name X.env (eval a X.env)=eval a X.env:=by rfl)
  (hfew:((backTo cpos (starEach (e::es) X.env)).all (fun x=>!x.1)&&(backToKw cpos (keywordEach [] X.env)).all (fun x=>x.1.isSome)
   && decide ((e::es).length+([]:List Keyword).length+(if ([]:List Keyword).isEmpty then 0 else 1)<30))=true:=by rfl)
  (hline:(apos.endLine==cpos.line)=true:=by rfl) (hs:starEach (e::es) X.env=(false,eval e X.env)::starEach es X.env:=by rfl) (hplain:(backTo cpos (starEach es X.env)).any (·.1)=false:=by rfl) :
  DE X (.Call (.Attribute a name apos) (e::es) [] cpos) κ (SR T f wa ws):=by
 obtain⟨t,h1,h2⟩:=ho
 obtain⟨u,g1,g2⟩:=ha
 refine⟨_,PB pa slot hty hm h1 g1 hbase hfew hline hs hplain,fun C M H n ρ σ P Q R w q=>?_⟩
 refine h2 C M H n ρ σ _ _ R w fun x H1 d n1 e1 f1 r1 p=>?_
 have R1:=R.step e1 f1
 have tx:=r1.tpOf R.dom R.vM
 refine⟨NJ p.1 tx,?_⟩
 refine g2 C M H1 n1 ρ σ _ _ R1 p.2 fun vs H2 ds n2 e2 f2 r2 p2=>?_
 have R2':=R1.step e2 f2
 refine hA C.V M H2 d ds x vs _ _ R2'.dom R2'.vM (tx.pres (R1.pres e2) e2 R.uV) r2 p2 fun v H3 z g vr pz=>?_
 exact q v H3 z n2 ((e1.trans e2).trans g.ext) (f2.grow g) (VR.back (e1.trans e2) vr) pz
def DO(X:Cx)(e:Option Expr)(w:Nat->List Slot->(Option Int->Nat->Prop)->Prop):Prop:=∃t,PO X e t/\∀(C:Fm) (M:Addr->Prop) (H:Hp) (n:Nat) (ρ:List Slot) (σ:L2.St) (P:Option Int->Nat->Prop) (Q:Option Int->Hp->Prop),Rel X.K C M H n ρ σ->w n ρ P ->
 (∀o H' n',Ext C.U H H'->FeedC X.K C.F M H' n'->P o n'->Q o H')->t σ H Q
def BK:Nat->List Slot->(Option Int->Nat->Prop)->Prop:=fun n _ P=>P none n
def Bb(w:DW):Nat->List Slot->(Option Int->Nat->Prop)->Prop:=fun n ρ P=>w n ρ fun d n1=>match d with
 | .int i=>P (some i) n1
 | _=>False
theorem Bc:DO X none BK:=⟨_,Km,fun C M H n ρ σ P Q R w q=>q none H n (Ext.refl _ _) R.feed w⟩
theorem J_{U:Addr->Prop}{K:Frag}{M:Addr->Prop}{H H':Hp}{v:V}{i:Int}(h:VR K U M H H' κ v (.int i)):v=.int i:=by
 cases κ with
 | sh=>exact h
 | tp=>exact h
 | fr=>obtain⟨a,_,_,t⟩:=h; exact(show False from t).elim
theorem BB(h:DE X e κ wa):DO X (some e) (Bb wa):=by
 obtain⟨t,h1,h2⟩:=h
 refine⟨_,Kl h1,fun C M H n ρ σ P Q R w q=>?_⟩
 refine h2 C M H n ρ σ _ _ R w fun v H1 d n1 e1 f1 r1 p=>?_
 cases d with
 | int i=>exact⟨i,J_ r1,q _ H1 n1 e1 f1 p⟩
 | _=>exact p.elim
def TC(K:Frag)(κ:Kd)(r:V->Option Int->Option Int->Hp->VK->Prop)(f:D->Option Int->Option Int->(D->Prop)->Prop):Prop:=∀(U:Addr->Prop) (M:Addr->Prop) (H:Hp) (d:D) (x:V) (lo hi:Option Int) (P:D->Prop) (Q:VK),(∀a,M a->∃o,H a=some o)->(∀a,U a->M a) ->
 AtT K U M H d x->f d lo hi P->(∀v H' z,Grow H H'->VR K U M H H' κ v z->P z->Q v H')->r x lo hi H Q
def G6(f:D->Option Int->Option Int->(D->Prop)->Prop)(w:DW)(wl wh:Nat->List Slot->(Option Int->Nat->Prop)->Prop):DW:=fun n ρ P=>w n ρ fun d n1=>wl n1 ρ fun lo n2=>wh n2 ρ fun hi n3=>f d lo hi fun z=>P z n3
theorem CW{lo hi:Option Expr}{p2:Pos}{r:V->Option Int->Option Int->Hp->VK->Prop}{f:D->Option Int->Option Int->(D->Prop)->Prop}{wl wh:Nat->List Slot->(Option Int->Nat->Prop)->Prop}(hr:SlR X r)(hA:TC X.K κ r f)(he:DE X e κa wa)(hl:DO X lo wl)(hh:DO X hi wh) :
  DE X (.Subscript e (.Slice lo hi none p2) pos) κ (G6 f wa wl wh):=by
 obtain⟨t,h1,h2⟩:=he
 obtain⟨u,g1,g2⟩:=hl
 obtain⟨u',k1,k2⟩:=hh
 refine⟨_,JE hr h1 g1 k1,fun C M H n ρ σ P Q R w q=>?_⟩
 refine h2 C M H n ρ σ _ _ R w fun v H1 d n1 e1 f1 r1 p=>?_
 have R1:=R.step e1 f1
 have tv:=r1.tpOf R.dom R.vM
 refine g2 C M H1 n1 ρ σ _ _ R1 p fun lo H2 n2 e2 f2 p2=>?_
 have R2':=R1.step e2 f2
 refine k2 C M H2 n2 ρ σ _ _ R2' p2 fun hi H3 n3 e3 f3 p3=>?_
 have R3:=R2'.step e3 f3
 refine hA C.V M H3 d v lo hi _ _ R3.dom R3.vM ((tv.pres (R1.pres e2) e2 R.uV).pres (R2'.pres e3) e3 R.uV) p3 fun v H4 z g vr pz=>?_
 exact q v H4 z n3 (((e1.trans e2).trans e3).trans g.ext) (f3.grow g) (VR.back ((e1.trans e2).trans e3) vr) pz
end
structure E2 where
 nx:Nat->List Slot->Prop
 rt:D->Nat->Prop
 bk:Nat->List Slot->Prop:=fun _ _=>False
 ct:Nat->List Slot->Prop:=fun _ _=>False
abbrev Ak:=E2->Nat->List Slot->Prop
structure Nv (K:Frag) (C:Fm) (κ:Kd) (D2:E2) (E:Ends):Prop where
 nx:∀M H n ρ σ,Rel K C M H n ρ σ->D2.nx n ρ->E.nx σ H
 rt:∀v H d n,Ext C.U C.H0 H->FeedC K C.F C.M0 H n->VR K C.V C.M0 C.H0 H κ v d->D2.rt d n->E.rt v H
 bk:∀M H n ρ σ,Rel K C M H n ρ σ->D2.bk n ρ->E.bk σ H
 ct:∀M H n ρ σ,Rel K C M H n ρ σ->D2.ct n ρ->E.ct σ H
def DS(X:Cx)(κ:Kd)(st:Stmt)(w:Ak):Prop:=∃t,PS X st t/\∀(C:Fm) (M:Addr->Prop) (H:Hp) (n:Nat) (ρ:List Slot) (σ:L2.St) (D2:E2) (E:Ends),Rel X.K C M H n ρ σ->Nv X.K C κ D2 E->w D2 n ρ->t E σ H
def Nw(X:Cx)(κ:Kd)(st:List Stmt)(w:Ak):Prop:=∃t,PSs X st t/\∀(C:Fm) (M:Addr->Prop) (H:Hp) (n:Nat) (ρ:List Slot) (σ:L2.St) (D2:E2) (E:Ends),Rel X.K C M H n ρ σ->Nv X.K C κ D2 E->w D2 n ρ->t E σ H
def BO:Ak:=fun D2 n ρ=>D2.nx n ρ
def Aa(u v:Ak):Ak:=fun D2 n ρ=>u { D2 with nx:=v D2 } n ρ
def Ba(w:DW):Ak:=fun D2 n ρ=>w n ρ fun d n1=>D2.rt d n1
def B9(t:Gc)(u v:Ak):Ak:=fun D2 n ρ=>t n ρ fun c n1=>if c=true then u D2 n1 ρ else v D2 n1 ρ
def Az(i:Nat)(w:DW):Ak:=fun D2 n ρ=>w n ρ fun d n1=>D2.nx n1 (ρ.set i (.sh d))
section
variable {X:Cx}{κ κe:Kd}{st:Stmt}{rest:List Stmt}{u v:Ak}{wa:DW}{wA:Gc}{e c:Expr}{pos:Pos}
theorem A4:Nw X κ [] BO:=⟨_,Ho,fun C M H n ρ σ D2 E R L w=>L.nx M H n ρ σ R w⟩
theorem AG(h1:DS X κ st u)(h2:Nw X κ rest v):Nw X κ (st::rest) (Aa u v):=by
 obtain⟨t,a1,a2⟩:=h1
 obtain⟨t',b1,b2⟩:=h2
 refine⟨_,BA a1 b1,fun C M H n ρ σ D2 E R L w=>?_⟩
 exact a2 C M H n ρ σ { D2 with nx:=v D2 } { E with nx:=t' E } R ⟨fun M H n ρ σ R w=>b2 C M H n ρ σ D2 E R L w,L.rt,L.bk,L.ct⟩ w
theorem AL(h1:DS X κ st u):Nw X κ [st] u:=by
 obtain⟨t,a1,a2⟩:=h1
 exact⟨t,Cy a1,a2⟩
theorem Pu{K:Frag}{C:Fm}{M:Addr->Prop}{H H':Hp}{n n':Nat}{ρ:List Slot}{σ:L2.St}{D2:E2}{E:Ends}{d:D}{v:V}(R:Rel K C M H n ρ σ)(L:Nv K C κ D2 E)(e:Ext C.U H H')(f:FeedC K C.F M H' n')(r:VR K C.V M H H' κ v d)(hk:κ≠.tp)(p:D2.rt d n'):E.rt v H':=by
 have less:Pres M H' C.M0 H':=Pres.less R.sub
 refine L.rt v H' d n' (R.ext.trans e) (f.pres less fun _ _ _ z=>z) ?_ p
 cases κ with
 | sh=>exact At.pres less r
 | tp=>exact absurd rfl hk
 | fr =>
  have r':=VR.back (κ:=.fr) R.ext r
  obtain⟨a,e1,h1,h2⟩:=r'
  exact⟨a,e1,h1,h2.pres (Pres.less fun b z=>z.imp (R.sub b) id) fun _ z=>z⟩
theorem Ar(h:DE X e κ wa)(hk:κ≠.tp:=by intro z; cases z):DS X κ (.Return (some e) pos) (Ba wa):=by
 obtain⟨t,a1,a2⟩:=h
 refine⟨_,EA a1,fun C M H n ρ σ D2 E R L w=>?_⟩
 exact a2 C M H n ρ σ _ _ R w fun v H' d n' e1 f1 r1 p=>Pu R L e1 f1 r1 hk p
theorem Bx{a b:List Stmt}(hc:DT X c wA)(ha:Nw X κ a u)(hb:Nw X κ b v):DS X κ (.If c a b pos) (B9 wA u v):=by
 obtain⟨t,a1,a2⟩:=hc
 obtain⟨t',b1,b2⟩:=ha
 obtain⟨t'',c1,c2⟩:=hb
 refine⟨_,Mt a1 b1 c1,fun C M H n ρ σ D2 E R L w=>?_⟩
 refine a2 C M H n ρ σ _ _ R w fun b H1 n1 e1 f1 p=>?_
 cases b with
 | true=>exact b2 C M H1 n1 ρ σ D2 E (R.step e1 f1) L p
 | false=>exact c2 C M H1 n1 ρ σ D2 E (R.step e1 f1) L p
theorem Ad{i:Nat}{x:Str}{pos':Pos}(hN:X.N.Nodup)(hi:X.N[i]?=some x)(hx:Loc X.env.scope x)(he:DE X e κe wa)(hk:κe≠.tp:=by intro z; cases z)(hs:swapsWith e (some (.Name x pos')) pos.line X.env=pure false:=by rfl)
  (hf:X.fn x=true\/X.env.scope.names.lookup x=some .local:=by first | exact .inl rfl | exact .inr rfl | assumption):DS X κ (.Assign [.Name x pos'] e pos) (Az i wa):=by
 obtain⟨t,a1,a2⟩:=he
 refine⟨_,DZ hN hi hx a1 hs hf,fun C M H n ρ σ D2 E R L w=>?_⟩
 refine a2 C M H n ρ σ _ _ R w fun v H' d n' e1 f1 r1 p=>?_
 exact L.nx M H' n' _ _ ((R.step e1 f1).set (r1.shOf R.dom hk)) p
end
section
variable {X:Cx}{κ κe:Kd}{e:Expr}{wa:DW}{pos:Pos}
def DV(i:Nat)(w:DW):Ak:=fun D2 n ρ=>w n ρ fun d n1=>D2.nx n1 (ρ.set i (.ow d))
theorem C2{i:Nat}{x:Str}{pos':Pos}(hN:X.N.Nodup)(hi:X.N[i]?=some x)(hx:Loc X.env.scope x)(he:DE X e .fr wa)(hs:swapsWith e (some (.Name x pos')) pos.line X.env=pure false:=by rfl)
  (hf:X.fn x=true\/X.env.scope.names.lookup x=some .local:=by first | exact .inl rfl | exact .inr rfl | assumption):DS X κ (.Assign [.Name x pos'] e pos) (DV i wa):=by
 obtain⟨t,a1,a2⟩:=he
 refine⟨_,DZ hN hi hx a1 hs hf,fun C M H n ρ σ D2 E R L w=>?_⟩
 refine a2 C M H n ρ σ _ _ R w fun v H' d n' e1 f1 r1 p=>?_
 obtain⟨a,rfl,h1,h2⟩:=r1
 exact L.nx _ H' n' _ _ (R.setOw e1 f1 h1 h2) p
def Il(i:Nat):Ak:=fun D2 n ρ=>∃d,ρ[i]?=some (.ow d)/\D2.rt d n
theorem LA{x:Str}{p:Pos}(i:Nat)(h:PE X (.Name x p) (Bu i)):DS X .fr (.Return (some (.Name x p)) pos) (Il i):=by
 refine⟨_,EA h,fun C M H n ρ σ D2 E R L ⟨d,hd,hw⟩=>?_⟩
 obtain⟨a,e1,m,nv,t⟩:=R.sl i _ hd
 refine⟨.ref a,getD_some e1,L.rt _ H d n R.ext (R.feed.pres (Pres.less R.sub) fun _ _ _ z=>z) ⟨a,rfl,(R.new i _ a hd rfl e1).2,?_⟩ hw⟩
 exact t.pres (Pres.less fun b z=>z.elim (R.sub b) fun z=>by rw [z]; exact m) fun _ z=>z
def Qr(K:Frag)(r:V->List V->Hp->VK->Prop)(f:D->List D->(D->D->Prop)->Prop):Prop:=∀(M:Addr->Prop) (H:Hp) (a:Addr) (d:D) (ds:List D) (vs:List V) (P:D->D->Prop) (Q:VK),M a->Tops K M H a d->Ats K M H ds vs->f d ds P ->
 (∀o e z v,Tops K M (A_ H a o) a e->At K M (A_ H a o) z v->P e z->Q v (A_ H a o))->r (.ref a) vs H Q
def N0(i:Nat)(T:String)(f:D->List D->(D->D->Prop)->Prop)(ws:EJ):Ak:=fun D2 n ρ=>∃d,ρ[i]?=some (.ow d)/\Sk T d/\ws n ρ fun ds n1=>f d ds fun e _=>D2.nx n1 (ρ.set i (.ow e))
theorem FS{M:Addr->Prop}{H:Hp}{a:Addr}{o:HO}(m:M a):Pres M H M (A_ H a o):=⟨fun b o' q nb=>by rw [AO (fun z=>nb (by rw [z]; exact m))]; exact q,fun _ z=>.inl z⟩
theorem JX{x name:Str}{p apos cpos:Pos}{T id:String}{r:V->List V->Hp->VK->Prop}{f:D->List D->(D->D->Prop)->Prop}{es:List Expr}{ws:EJ}(i:Nat)(pa:PlainAttrs T)(slot:PySem.Slot T name id)(hty:typeOf (.builtin id)=pure (.type "method_descriptor"))
  (hm:Qs X id r) (hA:Qr X.K r f) (h:PE X (.Name x p) (Bu i)) (ha:Qz X (e::es) ws)
  (hbase:attributeBase (.Name x p) name X.env (eval (.Name x p) X.env)=eval (.Name x p) X.env:=by rfl)
  (hfew:((backTo cpos (starEach (e::es) X.env)).all (fun x=>!x.1)&&(backToKw cpos (keywordEach [] X.env)).all (fun x=>x.1.isSome)
   && decide ((e::es).length+([]:List Keyword).length+(if ([]:List Keyword).isEmpty then 0 else 1)<30))=true:=by rfl)
  (hline:(apos.endLine==cpos.line)=true:=by rfl) (hs:starEach (e::es) X.env=(false,eval e X.env)::starEach es X.env:=by rfl) (hplain:(backTo cpos (starEach es X.env)).any (·.1)=false:=by rfl)
  (hsw:swapsWith (.Call (.Attribute (.Name x p) name apos) (e::es) [] cpos) none pos.line X.env=pure false:=by rfl) :
  DS X κ (.Expr (.Call (.Attribute (.Name x p) name apos) (e::es) [] cpos) pos) (N0 i T f ws):=by
 obtain⟨t,a1,a2⟩:=ha
 refine⟨_,N_ (PB pa slot hty hm h a1 hbase hfew hline hs hplain) hsw,fun C M H n ρ σ D2 E R L ⟨d,hd,hT,hw⟩=>?_⟩
 obtain⟨a,e1,m,nv,tt⟩:=R.sl i _ hd
 refine⟨.ref a,getD_some e1,NJ hT (tt.att nv),?_⟩
 refine a2 C M H n ρ σ _ _ R hw fun vs H1 ds n1 ee f1 r1 p=>?_
 have R1:=R.step ee f1
 obtain⟨a',e1',m',nv',tt'⟩:=R1.sl i _ hd
 rw [e1] at e1'
 cases e1'
 exact hA M H1 a d ds vs _ _ m' tt' r1 p fun o d' z v t2 hz pp=>L.nx M _ n1 _ σ (R1.mut hd e1 t2) pp
def JU(d:D)(ds:List D)(P:D->D->Prop):Prop:=∃xs y,d=.lst xs/\ds=[y]/\xs.length<sizeLine/\P (.lst (xs++[y])) .non
theorem LO{K:Frag}:Qr K Kg JU:=by
 intro M H a d ds vs P Q m t hv w q
 obtain⟨xs,y,rfl,rfl,hl,w⟩:=w
 obtain⟨us,h1,h2⟩:=t
 obtain⟨u,r,rfl,hu,hr⟩:=hv
 cases (show r=[] from hr)
 refine⟨a,us,u,rfl,rfl,h1,by rw [h2.length]; exact hl,q _ (.lst (xs++[y])) .non _ ⟨us++[u],AX,?_⟩ rfl w⟩
 exact(h2.append (Ats.one hu)).pres (FS m)
end
def Yields(K:Frag)(M:Addr->Prop)(H:Hp)(J:It)(ds:List D):Prop:=∀(i:Nat) (M':Addr->Prop) (H':Hp),Pres M H M' H'->(∀a,M' a->∃o,H' a=some o) ->
 (∀d,ds[i]?=some d->J.go i H'/\∀x H2,J.yld i H' x H2->Grow H' H2/\At K M' H2 d x)/\(ds.length<=i->J.stop i H')
def LP(K:Frag)(U M:Addr->Prop)(H:Hp)(J:It)(ds:List D):Prop:=∀(i:Nat) (M':Addr->Prop) (H':Hp),Pres M H M' H'->Ext U H H'->(∀a,M' a->∃o,H' a=some o) ->
 (∀d,ds[i]?=some d->J.go i H'/\∀x H2,J.yld i H' x H2->Grow H' H2/\At K M' H2 d x)/\(ds.length<=i->J.stop i H')
theorem Yields.e{K:Frag}{U M:Addr->Prop}{H:Hp}{J:It}{ds:List D}(h:Yields K M H J ds):LP K U M H J ds:=fun i M' H' p _ d=>h i M' H' p d
def S6(X:Cx)(tg iter:Expr)(w:EJ):Prop:=∃wi,PI X tg iter wi/\∀(C:Fm) (M:Addr->Prop) (H:Hp) (n:Nat) (ρ:List Slot) (σ:L2.St) (P:List D->Nat->Prop) (R:It->Hp->Prop),Rel X.K C M H n ρ σ->w n ρ P ->
 (∀J H' ds n',Ext C.U H H'->FeedC X.K C.F M H' n'->LP X.K C.U M H' J ds->P ds n'->R J H')->wi σ H R
def DI(X:Cx)(tg iter:Expr)(w:EJ):Prop:=∃wi,PI X tg iter wi/\∀(C:Fm) (M:Addr->Prop) (H:Hp) (n:Nat) (ρ:List Slot) (σ:L2.St) (P:List D->Nat->Prop) (R:It->Hp->Prop),Rel X.K C M H n ρ σ->w n ρ P ->
 (∀J H' ds n',Ext C.U H H'->FeedC X.K C.F M H' n'->Yields X.K M H' J ds->P ds n'->R J H')->wi σ H R
def signs(x:Str):List D:=x.cps.toList.map fun c=>.str ⟨#[c]⟩
def Bi(w:DW):EJ:=fun n ρ P=>w n ρ fun d n1=>match d with
 | .lst ds=>P ds n1
 | .tup ds=>P ds n1
 | .str x=>P (signs x) n1
 | _=>False
theorem Ik{K:Frag}{M:Addr->Prop}{H:Hp}{a:Addr}{vs:List V}{ds:List D}(h:NdL M H a vs)(hs:Ats K M H ds vs):Yields K M H (S3 K a) ds:=by
 intro i M' H' p _
 have hq:SqL K H' a vs:=(h.pres p).sq
 refine⟨fun d hd=>?_,fun hl=>⟨vs,hq,by rw [hs.length]; exact hl⟩⟩
 obtain⟨v,e,hv⟩:=(hs.pres p).get hd
 refine⟨⟨vs,v,hq,e⟩,fun x H2 y=>?_⟩
 obtain⟨e2,y⟩:=y
 subst e2
 have:some v=some x:=e.symm.trans (y vs hq)
 cases this
 exact⟨.refl,hv⟩
theorem FW{K:Frag}{M:Addr->Prop}{H:Hp}{a:Addr}{vs:List V}{ds:List D}(h:NdT M H a vs)(hs:Ats K M H ds vs):Yields K M H (Qu K a) ds:=by
 intro i M' H' p _
 have hq:SqT K H' a vs:=(h.pres p).sq
 refine⟨fun d hd=>?_,fun hl=>⟨vs,hq,by rw [hs.length]; exact hl⟩⟩
 obtain⟨v,e,hv⟩:=(hs.pres p).get hd
 refine⟨⟨vs,v,hq,e⟩,fun x H2 y=>?_⟩
 obtain⟨e2,y⟩:=y
 subst e2
 have:some v=some x:=e.symm.trans (y vs hq)
 cases this
 exact⟨.refl,hv⟩
theorem yields_str{K:Frag}{M:Addr->Prop}{H:Hp}{z:Str}:Yields K M H (S2 z) (signs z):=by
 intro i M' H' p _
 refine⟨fun d hd=>?_,fun hl=>?_⟩
 ·unfold signs at hd
  rw [List.getElem?_map] at hd
  have hi:i<z.cps.size:=by
   cases q:z.cps.toList[i]? with
   | none=>rw [q] at hd; cases hd
   | some c=>simpa using (List.getElem?_eq_some_iff.mp q).1
  refine⟨hi,fun x H2 y=>?_⟩
  obtain⟨e2,c,hc,rfl⟩:=y
  subst e2
  have:z.cps.toList[i]?=some c:=by simpa using hc
  rw [this] at hd
  have hd':D.str ⟨#[c]⟩=d:=Option.some.inj hd
  subst hd'
  exact⟨.refl,rfl,by rw [sizeLine_eq]; show 1<=16777216; decide⟩
 ·show z.cps.size<=i
  unfold signs at hl
  simpa using hl
def CB(lo:Int)(n:Nat):List D:=(List.range n).map fun(i:Nat)=>.int (lo+(i:Int))
theorem EM{K:Frag}{M:Addr->Prop}{H:Hp}{lo:Int}{m:Nat}:Yields K M H (R9 lo m) (CB lo m):=by
 intro i M' H' p _
 refine⟨fun d hd=>?_,fun hl=>?_⟩
 ·unfold CB at hd
  rw [List.getElem?_map] at hd
  have hi:i<m:=by
   cases q:(List.range m)[i]? with
   | none=>rw [q] at hd; cases hd
   | some c=>simpa using (List.getElem?_eq_some_iff.mp q).1
  rw [List.getElem?_range hi] at hd
  have hd':D.int (lo+i)=d:=Option.some.inj hd
  subst hd'
  refine⟨hi,fun x H2 y=>?_⟩
  obtain⟨e2,e3⟩:=y
  subst e2
  exact⟨.refl,e3⟩
 ·show m<=i
  unfold CB at hl
  simpa using hl
section
variable {X:Cx}{tg e e2:Expr}{es:List Expr}{κ:Kd}{wa:DW}{ws:EJ}{p pos:Pos}
theorem GL(h:DE X e κ wa)(hk:κ≠.tp:=by intro z; cases z):DI X tg e (Bi wa):=by
 obtain⟨t,a1,a2⟩:=h
 refine⟨_,Jy a1,fun C M H n ρ σ P Rr R w q=>?_⟩
 refine a2 C M H n ρ σ _ _ R w fun v H1 d n1 e1 f1 r1 p=>?_
 have hv:=r1.shOf R.dom hk
 cases d with
 | lst ds =>
  obtain⟨a,vs,e,hn,hs⟩:=hv
  exact .inl ⟨a,e,⟨vs,hn.sq⟩,q _ H1 ds n1 e1 f1 (Ik hn hs) p⟩
 | tup ds =>
  obtain⟨a,vs,e,hn,hs⟩:=hv
  exact .inr (.inl ⟨a,e,⟨vs,hn.sq⟩,q _ H1 ds n1 e1 f1 (FW hn hs) p⟩)
 | str z=>exact .inr (.inr ⟨z,hv.1,q _ H1 _ n1 e1 f1 yields_str p⟩)
 | _=>exact p.elim
def DM(ws:EJ):EJ:=fun n ρ P=>ws n ρ fun ds n1=>∃j:Int,ds=[.int j]/\(-(2 ^ 62)<=j/\j<2 ^ 62)/\P (CB 0 j.toNat) n1
theorem CL(hg:Gl X "range")(hm:X.mg "range"=none)(ha:Om X [e] ws)(hs:starEach [e] X.env=[(false,eval e X.env)]:=by rfl):DI X tg (.Call (.Name "range" p) [e] [] pos) (DM ws):=by
 obtain⟨t,a1,a2⟩:=ha
 refine⟨_,Lg hg hm a1 hs,fun C M H n ρ σ P Rr R w q=>?_⟩
 refine a2 C M H n ρ σ _ _ R w fun vs H1 ds n1 e1 f1 r1 p=>?_
 obtain⟨j,rfl,hj,p⟩:=p
 cases r1 with
 | cons r rr =>
  cases rr
  have hv:_=V.int j:=r
  exact⟨j,by rw [hv],hj.1,hj.2,q _ H1 _ n1 e1 f1 EM p⟩
theorem DI.c(h:DI X tg e ws):S6 X tg e ws:=by
 obtain⟨wi,a1,a2⟩:=h
 exact⟨wi,a1,fun C M H n ρ σ P Rr R w q=>a2 C M H n ρ σ P Rr R w fun J H' ds n' e1 f1 y p=>q J H' ds n' e1 f1 y.e p⟩
theorem Cd(h:DE X e κ wa):S6 X tg e (Bi wa):=by
 obtain⟨t,a1,a2⟩:=h
 refine⟨_,Jy a1,fun C M H n ρ σ P Rr R w q=>?_⟩
 refine a2 C M H n ρ σ _ _ R w fun v H1 d n1 e1 f1 r1 p=>?_
 have hv:AtT X.K C.V M H1 d v:=r1.tpOf R.dom R.vM
 cases d with
 | lst ds =>
  obtain⟨a,vs,e,nv,hr,hs⟩:=hv
  refine .inl ⟨a,e,⟨vs,.inl hr⟩,q _ H1 ds n1 e1 f1 (fun i M' H' pr ex _=>?_) p⟩
  have hq:SqL X.K H' a vs:=by
   rcases hr with hr | ⟨o,hr⟩
   ·exact .inl (.inl (ex.keep hr fun z=>nv (R.uV a z)))
   ·exact .inl (.inr ⟨o,ex.keep hr fun z=>nv (R.uV a z)⟩)
  refine⟨fun d hd=>?_,fun hl=>⟨vs,hq,by rw [hs.length]; exact hl⟩⟩
  obtain⟨v,e,hv⟩:=(hs.pres pr).get hd
  refine⟨⟨vs,v,hq,e⟩,fun x H2 y=>?_⟩
  obtain⟨e2,y⟩:=y
  subst e2
  have:some v=some x:=e.symm.trans (y vs hq)
  cases this
  exact⟨.refl,hv⟩
 | tup ds =>
  obtain⟨a,vs,e,hn,hs⟩:=hv
  exact .inr (.inl ⟨a,e,⟨vs,hn.sq⟩,q _ H1 ds n1 e1 f1 (FW hn hs).e p⟩)
 | str z=>exact .inr (.inr ⟨z,hv.1,q _ H1 _ n1 e1 f1 yields_str.e p⟩)
 | _=>exact p.elim
end
abbrev BW:=D->List Slot->(List Slot->Prop)->Prop
def DG(X:Cx)(tg:Expr)(b:BW):Prop:=∃g,PG X tg g/\∀(C:Fm) (M:Addr->Prop) (H:Hp) (n:Nat) (ρ:List Slot) (σ:L2.St) (d:D) (v:V) (P:List Slot->Prop) (Q:L2.St->Hp->Prop),Rel X.K C M H n ρ σ->At X.K M H d v->b d ρ P ->
 (∀ρ' σ',Rel X.K C M H n ρ' σ'->P ρ'->Q σ' H)->g v σ H Q
def Ai(i:Nat):BW:=fun d ρ P=>P (ρ.set i (.sh d))
theorem Af{X:Cx}{i:Nat}{x:Str}{pos:Pos}(hN:X.N.Nodup)(hi:X.N[i]?=some x)(hx:Loc X.env.scope x)(hf:X.fn x=true\/X.env.scope.names.lookup x=some .local:=by first | exact .inl rfl | exact .inr rfl | assumption):DG X (.Name x pos) (Ai i) :=
 ⟨_,EV hN hi hx hf,fun C M H n ρ σ d v P Q R h w q=>q _ _ (R.set h) w⟩
def Bl(b:BW)(body:Ak)(D2:E2):List D->Nat->List Slot->Prop
 | [],n,ρ=>D2.nx n ρ
 | d::ds,n,ρ=>b d ρ fun ρ1=>body { D2 with nx:=Bl b body D2 ds,ct:=Bl b body D2 ds,bk:=D2.nx } n ρ1
def Er(src:EJ)(b:BW)(body:Ak):Ak:=fun D2 n ρ=>src n ρ fun ds n1=>Bl b body D2 ds n1 ρ
theorem Rel.unpin{K:Frag}{C:Fm}{p:(Addr->Prop)×Hp}{M:Addr->Prop}{H:Hp}{n:Nat}{ρ:List Slot}{σ:L2.St}(R:Rel K { C with pins:=p::C.pins } M H n ρ σ):Rel K C M H n ρ σ :=
 ⟨R.len,R.sub,R.dom,R.ext,R.fU,R.uV,R.vM,R.feed,R.sl,fun q hq=>R.pin q (List.mem_cons_of_mem _ hq),R.br0,R.new,R.two,R.kept⟩
theorem Rel.pinned{K:Frag}{C:Fm}{M:Addr->Prop}{H:Hp}{n:Nat}{ρ:List Slot}{σ:L2.St}(R:Rel K C M H n ρ σ):Rel K { C with pins:=(M,H)::C.pins } M H n ρ σ :=
 ⟨R.len,R.sub,R.dom,R.ext,R.fU,R.uV,R.vM,R.feed,R.sl,fun q hq=>(List.mem_cons.mp hq).elim (fun e=>e▸Pres.refl M H) (R.pin q),R.br0,R.new,R.two,R.kept⟩
section
variable {X:Cx}{κ:Kd}{tg iter:Expr}{body:List Stmt}{src:EJ}{b:BW}{wb:Ak}{pos:Pos}
theorem DF(hp:PassesOwn (model X.prog X.w) X.A X.env X.xe)(hc:X.calm=true)(hi:DI X tg iter src)(hg:DG X tg b)(hb:Nw X κ body wb)
  (hs:∀x,foldedSetIterable iter X.env x=pure x:=by intro _; rfl):DS X κ (.For tg iter body [] pos) (Er src b wb):=by
 obtain⟨wi,a1,a2⟩:=hi
 obtain⟨g,g1,g2⟩:=hg
 obtain⟨tb,b1,b2⟩:=hb
 refine⟨_,Hq hp hc a1 g1 b1 hs,fun C M H n ρ σ D2 E R L w=>?_⟩
 refine a2 C M H n ρ σ _ _ R w fun J H1 ds n1 e1 f1 y w1=>?_
 have R1:=R.step e1 f1
 refine⟨fun i m σ' H'=>m=ds.length - i/\i<=ds.length/\∃M' n' ρ',Rel X.K { C with pins:=(M,H1)::C.pins } M' H' n' ρ' σ'/\Bl b wb D2 (ds.drop i) n' ρ',⟨ds.length,by simp,Nat.zero_le _,M,n1,ρ,R1.pinned,w1⟩,?_⟩
 rintro i m σ' H' ⟨rfl,hi,M',n',ρ',R',w'⟩
 have pr:Pres M H1 M' H':=R'.pin (M,H1) List.mem_cons_self
 by_cases hlt:i<ds.length
 ·have ed:ds.drop i=ds[i]::ds.drop (i+1):=List.drop_eq_getElem_cons hlt
  rw [ed] at w'
  obtain⟨go,yl⟩:=(y i M' H' pr R'.dom).1 ds[i] (List.getElem?_eq_getElem hlt)
  refine .inr ⟨go,fun σ2 H2=>∃M2 n2 ρ2,Rel X.K { C with pins:=(M,H1)::C.pins } M2 H2 n2 ρ2 σ2/\Bl b wb D2 (ds.drop (i+1)) n2 ρ2,fun σ2 H2 ⟨M2,n2,ρ2,R2',w2⟩=>⟨ds.length - (i+1),by omega,rfl,hlt,M2,n2,ρ2,R2',w2⟩,fun x H2 hy=>?_⟩
  obtain⟨gr,hx⟩:=yl x H2 hy
  have R2':=R'.step gr.ext (R'.feed.grow gr)
  refine g2 _ M' H2 n' ρ' σ' ds[i] x _ _ R2' hx w' fun ρ3 σ3 R3 w3=>?_
  refine b2 _ M' H2 n' ρ3 σ3 { D2 with nx:=Bl b wb D2 (ds.drop (i+1)),ct:=Bl b wb D2 (ds.drop (i+1)),bk:=D2.nx } _ R3 ⟨fun M4 H4 n4 ρ4 σ4 R4 w4=>⟨M4,n4,ρ4,R4,w4⟩,L.rt,fun M4 H4 n4 ρ4 σ4 R4 w4=>L.nx M4 H4 n4 ρ4 σ4 R4.unpin w4,fun M4 H4 n4 ρ4 σ4 R4 w4=>⟨M4,n4,ρ4,R4,w4⟩⟩ w3
 ·have e:i=ds.length:=by omega
  subst e
  rw [List.drop_length] at w'
  exact .inl ⟨(y _ M' H' pr R'.dom).2 (Nat.le_refl _),L.nx M' H' n' ρ' σ' R'.unpin w'⟩
end
def Dd(b:BW)(tt:Gc)(te:DW)(P:List D->Nat->Prop):List D->List D->Nat->List Slot->Prop
 | [],acc,n,_=>P acc n
 | d::ds,acc,n,ρ=>b d ρ fun ρ1=>tt n ρ1 fun c n1=>if c=true then te n1 ρ1 fun y n2=>Dd b tt te P ds (acc++[y]) n2 ρ1 else Dd b tt te P ds acc n1 ρ1
def Lw:Slot->Slot
 | .ow d=>.br d
 | .lt _ d=>.br d
 | s=>s
theorem Lv(s:Slot):(Lw s).owns=false:=by cases s <;> rfl
theorem Fs{js:List (Option Nat)}{ρ:List Slot}{i:Nat}{s:Slot}(h:(js.map fun o=>match o with | some i=>Lw ((ρ[i]?).getD .no) | none=>Slot.no)[i]?=some s):s.owns=false:=by
 rw [List.getElem?_map] at h
 cases q:js[i]? with
 | none=>rw [q] at h; cases h
 | some o =>
  rw [q] at h
  cases o with
  | none =>
   have e:Slot.no=s:=Option.some.inj h
   rw [← e]; rfl
  | some j =>
   have e:Lw ((ρ[j]?).getD .no)=s:=Option.some.inj h
   rw [← e]; exact Lv _
def Ft(js:List (Option Nat))(ρ:List Slot):List Slot:=js.map fun o=>match o with
 | some i=>Lw ((ρ[i]?).getD .no)
 | none=>.no
def CO(js:List (Option Nat))(src:EJ)(b:BW)(tt:Gc)(te:DW):DW:=fun n ρ P=>src n ρ fun ds n1=>ds.length<=10000000/\Dd b tt te (fun acc n2=>P (.lst acc) n2) ds [] n1 (Ft js ρ)
def TH(X:Cx)(ifs:List Expr)(w:Gc):Prop:=∃t,SN X ifs t/\∀(C:Fm) (M:Addr->Prop) (H:Hp) (n:Nat) (ρ:List Slot) (σ:L2.St) (P:Bool->Nat->Prop) (Q:Bool->Hp->Prop),Rel X.K C M H n ρ σ->w n ρ P ->
 (∀b H' n',Ext C.U H H'->FeedC X.K C.F M H' n'->P b n'->Q b H')->t σ H Q
def CZ:Gc:=fun n _ P=>P true n
theorem Bd{X:Cx}:TH X [] CZ:=⟨_,OB,fun C M H n ρ σ P Q R w q=>q true H n (Ext.refl _ _) R.feed w⟩
theorem HA{js:List (Option Nat)}{ρ:List Slot}{σ:L2.St}{i:Nat}{s:Slot}(hs:(Ft js ρ)[i]?=some s):s=.no\/∃(j:Nat) (s':Slot),ρ[j]?=some s'/\s=Lw s'/\((Cq js σ)[i]?).getD none=(σ[j]?).getD none:=by
 unfold Ft at hs
 unfold Cq
 rw [List.getElem?_map] at hs ⊢
 cases q:js[i]? with
 | none=>rw [q] at hs; cases hs
 | some o =>
  rw [q] at hs
  cases o with
  | none=>exact .inl (Option.some.inj hs).symm
  | some j =>
   have e:Lw ((ρ[j]?).getD .no)=s:=Option.some.inj hs
   cases q2:ρ[j]? with
   | none=>rw [q2] at e; exact .inl e.symm
   | some s' =>
    rw [q2] at e
    exact .inr ⟨j,s',q2,e.symm,rfl⟩
theorem NE{K:Frag}{F:Option (Addr×Addr)}{U U' M M':Addr->Prop}{H H':Hp}{js:List (Option Nat)}{ρ:List Slot}{σ:L2.St}(hsl:∀(i:Nat) (s:Slot),ρ[i]?=some s->SlotOk K F U M H s ((σ[i]?).getD none))
  (pr:Pres M H M' H') (br:∀d v,AtT K U M H d v->AtT K U' M' H' d v):∀(i:Nat) (s:Slot),(Ft js ρ)[i]?=some s->SlotOk K F U' M' H' s (((Cq js σ)[i]?).getD none):=by
 intro i s hs
 rcases HA (σ:=σ) hs with rfl | ⟨j,s',q,rfl,e⟩
 ·trivial
 ·rw [e]
  have h1:=hsl j s' q
  cases s' with
  | no=>trivial
  | sh d=>obtain⟨v,e1,h2⟩:=h1; exact⟨v,e1,h2.pres pr⟩
  | br d=>obtain⟨v,e1,h2⟩:=h1; exact⟨v,e1,br d v h2⟩
  | fd=>exact h1
  | ow d=>obtain⟨a,e1,_,nv,t⟩:=h1; exact⟨.ref a,e1,br d _ (t.att nv)⟩
  | lt a d=>obtain⟨e1,_,nv,t⟩:=h1; exact⟨.ref a,e1,br d _ (t.att nv)⟩
theorem OL{K:Frag}{F:Option (Addr×Addr)}{U M:Addr->Prop}{H:Hp}{js:List (Option Nat)}{ρ:List Slot}{σ:L2.St}(hsl:∀(i:Nat) (s:Slot),ρ[i]?=some s->SlotOk K F U M H s ((σ[i]?).getD none)){i:Nat}{d:D}{a:Addr}
  (hs:(Ft js ρ)[i]?=some (.br d)) (ha:((Cq js σ)[i]?).getD none=some (.ref a)):∃o,H a=some o:=by
 rcases HA (σ:=σ) hs with z | ⟨j,s',q,z,e⟩
 ·cases z
 ·rw [e] at ha
  have h1:=hsl j s' q
  rw [ha] at h1
  cases s' with
  | br d=>obtain⟨v,e1,h2⟩:=h1; cases e1; exact h2.lies
  | ow d=>obtain⟨b,e1,_,nv,t⟩:=h1; cases e1; exact(t.att nv).lies
  | lt b d=>obtain⟨e1,_,nv,t⟩:=h1; cases e1; exact(t.att nv).lies
  | no=>cases z
  | sh d=>cases z
  | fd=>cases z
section
variable {X:Cx}{κe:Kd}{tg elt iter:Expr}{ifs:List Expr}{sc:Scope}{pos:Pos}{src:EJ}{b:BW}{tt:Gc}{te:DW}
theorem Be(hc:X.calm=true)(N':List Str)(js:List (Option Nat))(hi:S6 X tg iter src)(hg:∀cl C s H fp,DG (BF X sc N' cl C s H fp) tg b)(ht:∀cl C s H fp,TH (BF X sc N' cl C s H fp) ifs tt)(he:∀cl C s H fp,DE (BF X sc N' cl C s H fp) elt κe te)
  (hB:LH sc X.env.scope X.N N' js=true) (hk:κe≠.tp:=by intro z; cases z)
  (hs:∀x,foldedSetIterable iter X.env x=pure x:=by intro _; rfl):DE X (.ListComp elt [⟨tg,iter,ifs,0⟩] sc pos) .fr (CO js src b tt te):=by
 obtain⟨wi,a1,a2⟩:=hi
 refine⟨_,OD hc N' js a1 hB hs,fun C M H n ρ σ P Q R w q=>?_⟩
 refine a2 C M H n ρ σ _ _ R w fun J H1 ds n1 e1 f1 y w1=>?_
 obtain⟨hlen,w1⟩:=w1
 have R1:=R.step e1 f1
 intro l hl hkl cl Ca s0 H0 fp
 obtain⟨g,g1,g2⟩:=hg cl Ca s0 H0 fp
 obtain⟨tc,c1,c2⟩:=ht cl Ca s0 H0 fp
 obtain⟨tx,x1,x2⟩:=he cl Ca s0 H0 fp
 have noU:¬C.U l:=fun z=>by
  obtain⟨o,z⟩:=R1.udom l z
  rw [hl] at z; cases z
 generalize hM':(fun b=>M b\/b=l)=M'
 have M'l:M' l:=by rw [← hM']; exact .inr rfl
 have M'of:∀b,M b->M' b:=fun b z=>by rw [← hM']; exact .inl z
 have ofM':∀b,M' b->M b\/b=l:=fun b z=>by rw [← hM'] at z; exact z
 have inV:∀b,C.V b\/b=l->M' b:=fun b z=>z.elim (fun z=>M'of b (R1.vM b z)) fun z=>by rw [z]; exact M'l
 have lenj:js.length=N'.length:=Ei (CompOk.of hB).cap
 refine⟨g,tc,tx,fun i m σ' H'=>m=ds.length - i/\i<=ds.length/\∃n' ρ' acc vs,Rel X.K ⟨M',C.F,C.U,fun b=>C.V b\/b=l,H1,[],[]⟩ M' H' n' ρ' σ'/\H' l=some (.lst vs)/\Ats X.K M' H' acc vs/\acc.length<=i/\Pres M H1 M' H' /\
   Dd b tt te (fun acc n2=>P (.lst acc) n2) (ds.drop i) acc n' ρ',g1,c1,x1,⟨ds.length,by simp,Nat.zero_le _,n1,Ft js ρ,[],[],?_⟩,?_⟩
 ·have gr:Grow H1 (A_ H1 l (.lst [])):=Av hl
  have pr:Pres M H1 M' (A_ H1 l (.lst [])):=⟨fun b o e _=>gr.all b o e,fun b z=>(ofM' b z).elim .inl fun z=>.inr (by rw [z]; exact hl)⟩
  refine⟨⟨?_,fun a z=>z,fun a z=>?_,gr.ext,R1.fU,fun a z=>.inl (R1.uV a z),inV,f1.pres pr fun f o _ e=>gr.all f.1 o e,?_,fun p hp=>absurd hp (by simp),fun i d a q z=>OL R1.sl q z,fun i s a q o _=>absurd o (by rw [Fs q]; decide),fun i j s t a q o _ _ _ _=>absurd o (by rw [Fs q]; decide),fun p hp=>absurd hp (by simp)⟩,AX,rfl,Nat.zero_le _,pr,w1⟩
  ·unfold Ft Cq
   rw [List.length_map,List.length_map]
  ·rcases ofM' a z with z | z
   ·obtain⟨o,z⟩:=R1.dom a z
    exact⟨o,gr.all a o z⟩
   ·subst z
    exact⟨_,AX⟩
  ·refine NE R1.sl pr fun d v h=>h.same pr (fun a o _ e=>gr.all a o e) fun a e n1 z=>z.elim n1 fun z=>?_
   subst e
   obtain⟨o,w⟩:=h.lies
   rw [z,hl] at w
   cases w
 ·rintro i m σ' H' ⟨rfl,hi,n',ρ',acc,vs,R',hlv,hac,hal,pr,w'⟩
  by_cases hlt:i<ds.length
  ·have ed:ds.drop i=ds[i]::ds.drop (i+1):=List.drop_eq_getElem_cons hlt
   rw [ed] at w'
   obtain⟨go,yl⟩:=(y i M' H' pr R'.ext R'.dom).1 ds[i] (List.getElem?_eq_getElem hlt)
   refine .inr ⟨go,fun x H2 hy=>?_⟩
   obtain⟨gr,hx⟩:=yl x H2 hy
   have R2':=R'.step gr.ext (R'.feed.grow gr)
   refine g2 _ M' H2 n' ρ' σ' ds[i] x _ _ R2' hx w' fun ρ3 σ3 R3 w3=>?_
   refine c2 _ M' H2 n' ρ3 σ3 _ _ R3 w3 fun c H4 n4 e4 f4 w4=>?_
   have R4:=R3.step e4 f4
   have p4:Pres M' H' M' H4:=gr.pres.trans (R3.pres e4)
   have l4:H4 l=some (.lst vs):=e4.keep (gr.all _ _ hlv) noU
   cases c with
   | false=>exact⟨ds.length - (i+1),by omega,rfl,hlt,n4,ρ3,acc,vs,R4,l4,hac.pres p4,by omega,pr.trans p4,w4⟩
   | true =>
    refine x2 _ M' H4 n4 ρ3 σ3 _ _ R4 w4 fun yv H5 d5 n5 e5 f5 r5 w5=>?_
    have R5:=R4.step e5 f5
    have p5:Pres M' H4 M' H5:=R4.pres e5
    have l5:H5 l=some (.lst vs):=e5.keep l4 noU
    have hy5:=r5.shOf R4.dom hk
    have a5:=(hac.pres p4).pres p5
    have pu:Pres M' H5 M' (A_ H5 l (.lst (vs++[yv]))):=⟨fun b o e nb=>by rw [AO (fun z=>nb (by rw [z]; exact M'l))]; exact e,fun _ z=>.inl z⟩
    have hvl:vs.length=acc.length:=hac.length
    refine⟨vs,l5,by rw [sizeLine_eq]; omega,ds.length - (i+1),by omega,rfl,hlt,n5,ρ3,acc++[d5],vs++[yv],?_,AX,(a5.append (Ats.one hy5)).pres pu,by rw [List.length_append,List.length_singleton]; omega,(pr.trans p4).trans (p5.trans pu),w5⟩
    refine⟨R5.len,R5.sub,fun a z=>?_,fun b o e=>?_,R5.fU,R5.uV,R5.vM,?_,fun j s hs=>?_,fun p hp=>absurd hp (by simp),R5.br0,R5.new,R5.two,fun p hp=>absurd hp (by simp)⟩
    ·by_cases ha:a=l
     ·subst ha; exact⟨_,AX⟩
     ·rw [AO ha]; exact R5.dom a z
    ·obtain⟨o',q1,q2⟩:=R5.ext b o e
     by_cases hb:b=l
     ·subst hb
      have e':H1 b=some o:=e
      rw [hl] at e'; cases e'
     ·exact⟨o',by rw [AO hb]; exact q1,q2⟩
    ·refine f5.pres pu fun f o hf e=>?_
     rw [AO (fun z=>noU (by rw [← z]; exact R1.fU f hf))]
     exact e
    ·have hs5:=R5.sl j s hs
     cases s with
     | no=>trivial
     | sh d=>obtain⟨v,e1,h2⟩:=hs5; exact⟨v,e1,h2.pres pu⟩
     | br d =>
      obtain⟨v,e1,h2⟩:=hs5
      refine⟨v,e1,h2.same pu (fun a o z e=>?_) fun _ _ z=>z⟩
      subst z
      obtain⟨o3,w⟩:=R5.br0 j d a hs e1
      have hal:a≠l:=fun z=>by
       have w':H1 a=some o3:=w
       rw [z,hl] at w'; cases w'
      rw [AO hal]; exact e
     | ow d =>
      obtain⟨a,e1,h2,_⟩:=hs5
      exact absurd h2 (R5.new j _ a hs rfl e1).1
     | lt a d =>
      obtain⟨e1,h2,_⟩:=hs5
      exact absurd h2 (R5.new j _ a hs rfl e1).1
     | fd=>exact hs5
  ·have e:i=ds.length:=by omega
   subst e
   rw [List.drop_length] at w'
   refine .inl ⟨(y _ M' H' pr R'.ext R'.dom).2 (Nat.le_refl _),?_⟩
   have eb:Ext C.U H1 H':=R'.ext
   have less:Pres M' H' M H':=Pres.less M'of
   refine q _ H' (.lst acc) n' (e1.trans eb) (R'.feed.pres less fun _ _ _ z=>z) (VR.back e1 ?_) w'
   exact⟨l,rfl,hl,vs,hlv,by rw [hM']; exact hac⟩
end
theorem LZ{K:Frag}{F:Option (Addr×Addr)}{U V' M:Addr->Prop}{H:Hp}{n:Nat}{ss:List Slot}{vs:List V}{N:List Str}(h:R0 K F U V' M H n ss vs)(hl:vs.length<=N.length) :
  Rel K ⟨M,F,U,V',H,[],[]⟩ M H n (ss++List.replicate (N.length - ss.length) .no) (L2.start N vs):=by
 obtain⟨dom,fU,uV,vM,fd,pa⟩:=h
 have el:vs.length=ss.length:=Paired.length pa
 have go:∀{vs:List V} {ss:List Slot} {i:Nat} {s:Slot},Paired (HW K F V' M H) vs ss->ss[i]?=some s->∃v,vs[i]?=some v/\HW K F V' M H v s:=by
  intro vs ss i s pa
  induction pa generalizing i with
  | nil=>intro e; simp at e
  | cons r t ih =>
   intro e
   cases i with
   | zero=>simp at e; subst e; exact⟨_,rfl,r⟩
   | succ i =>
    obtain⟨v,e1,h1⟩:=ih (i:=i) (by simpa using e)
    exact⟨v,by simpa using e1,h1⟩
 have at_:∀(i:Nat) (s:Slot),(ss++List.replicate (N.length - ss.length) Slot.no)[i]?=some s->s=.no\/∃v,((L2.start N vs)[i]?).getD none=some v/\HW K F V' M H v s:=by
  intro i s hs
  by_cases hi:i<ss.length
  ·rw [List.getElem?_append_left hi] at hs
   obtain⟨v,e1,h1⟩:=go pa hs
   refine .inr ⟨v,?_,h1⟩
   unfold L2.start
   rw [List.getElem?_append_left (by rw [List.length_map,el]; exact hi),List.getElem?_map,e1]
   rfl
  ·rw [List.getElem?_append_right (by omega),List.getElem?_replicate] at hs
   split at hs
   ·exact .inl (Option.some.inj hs).symm
   ·cases hs
 refine⟨?_,fun a z=>z,dom,Ext.refl _ _,fU,uV,vM,fd,fun i s hs=>?_,fun p hp=>absurd hp (by simp),fun i d a hs ha=>?_,fun i s a hs o _=>?_,fun i j s t a hs o _ _ _ _=>?_,fun p hp=>absurd hp (by simp)⟩
 ·unfold L2.start
  simp only [List.length_append,List.length_map,List.length_replicate]
  omega
 ·rcases at_ i s hs with rfl | ⟨v,e,h⟩
  ·trivial
  ·rw [e]; exact h.1
 ·rcases at_ i _ hs with z | ⟨v,e,h⟩
  ·cases z
  ·rw [e] at ha
   cases ha
   obtain⟨v,e1,h1⟩:=h.1
   cases e1
   exact h1.lies
 ·rcases at_ i s hs with rfl | ⟨v,e,h⟩
  ·cases o
  ·rw [h.2] at o; cases o
 ·rcases at_ i s hs with rfl | ⟨v,e,h⟩
  ·cases o
  ·rw [h.2] at o; cases o
theorem IE{P:Program}{w:World}{K:Frag}{mg:Str->Option Value}{base:Heap}{x qual:Str}{st:Stmt}{f:Addr}{fd:FuncData}{N ps:List Str}{k:Nat}{κ:Kd}{W:W2}{wb:Ak}(F:Fun K x qual st f fd)(S:An N ps (AH st))(hNp:ps.length<=N.length)
  (hb:∀(cdv:Value) (A:Around) (outer:List Env) (s:Shared) (H:Hp) (E:XK),Room k (A.deeper (envOfC qual (AH st) s.heap.objs.size f cdv))->Nw (IT DR P w K mg base N qual (AH st) f cdv A outer s H E).nox κ (Ah st) wb)
  (hW:∀ss n Pd,ss.length=ps.length->W ss n Pd->wb { nx:=fun n _=>κ=.sh/\Pd .non n,rt:=Pd } n (ss++List.replicate (N.length - ps.length) .no)) :
  Bh P w K mg base DR (k+1) f fd ps (FK K κ W ps.length):=by
 refine F.ok S (fun vs H Q E h=>h.1) (fun cdv A outer s H vs Q E hr h=>?_)
 obtain⟨hl,F0,U,V',M,n,ss,Pd,ra,hw,q⟩:=h
 obtain⟨t,t1,t2⟩:=hb cdv A outer s H E hr
 refine⟨t,t1,?_⟩
 have el:vs.length=ss.length:=Paired.length ra.2.2.2.2.2
 have R:=LZ (N:=N) ra (by omega)
 refine t2 ⟨M,F0,U,V',H,[],[]⟩ M H n _ _ { nx:=fun n _=>κ=.sh/\Pd .non n,rt:=Pd } _ R ⟨fun M1 H1 n1 ρ1 σ1 R1 p=>?_,fun v H1 d n1 e1 f1 r1 p=>q v H1 d n1 e1 f1 r1 p,fun _ _ _ _ _ _ z=>z.elim,fun _ _ _ _ _ _ z=>z.elim⟩ ?_
 ·obtain⟨hk,p⟩:=p
  subst hk
  exact q .non H1 .non n1 R1.ext (R1.feed.pres (Pres.less R1.sub) fun _ _ _ z=>z) rfl p
 ·have e:ss.length=ps.length:=by omega
  have h1:=hW ss n Pd e hw
  rw [← e] at h1
  exact h1
end Dp
namespace L2
open PySem PySem.Spec PyProof.Rows
section
variable {X:Cx}
theorem Inv.rdl{pins:List (Addr×Obj)}{σ:L2.St}{H:Hp}{s:Shared}{l:Addr}{xs:List V}(I:Inv X pins σ H s)(h:Rd H l (.lst xs)):xs.length<=sizeLine/\∃(its:List Value) (n:Nat),Vals xs its/\xs.length=its.length/\s.heap.get? l=some { cls:=.type "list",data:=.seq its.toArray n }:=by
 obtain⟨z,its,n,r,e⟩:=h.ok I.hok
 exact⟨z,its,n,r,r.length,e⟩
theorem Hw:OpR X (binaryOp .Add) (fun x y H Q=>∃l b xs zs,x=.ref l/\y=.ref b/\Rd H l (.lst xs)/\Rd H b (.lst zs)/\xs.length+zs.length<=sizeLine/\∀p,H p=none->Q (.ref p) (A_ H p (.lst (xs++zs)))):=by
 intro pins s σ H x y v u Q I rx ry h
 obtain⟨l,b,xs,zs,rfl,rfl,hH,hB,hz,q⟩:=h
 cases rx
 cases ry
 obtain⟨z,its,n,r,hl,e⟩:=I.rdl hH
 obtain⟨z2,its2,n2,r2,hl2,e2⟩:=I.rdl hB
 refine PySem.P.add_list e e2 ?_ (by rw [List.size_toArray,List.size_toArray]; omega)
 have ea:its.toArray++its2.toArray=(its++its2).toArray:=by simp
 rw [ea]
 exact⟨.ref _,_,I.lnew (t':=s.toks) (r.append r2) (by rw [List.length_append]; omega),rfl,q _ I.fresh⟩
end
end L2
namespace Dp
open PySem PySem.Spec PyProof.Rows L2
section
variable {K:Frag}
theorem AtT.int{U M:Addr->Prop}{H:Hp}{i:Int}{v:V}(h:AtT K U M H (.int i) v):v=.int i:=h
theorem AtT.bl{U M:Addr->Prop}{H:Hp}{i:Bool}{v:V}(h:AtT K U M H (.bl i) v):v=.bl i:=h
theorem AtT.str{U M:Addr->Prop}{H:Hp}{x:Str}{v:V}(h:AtT K U M H (.str x) v):v=.str x/\x.length<=sizeLine:=h
theorem AtT.tup{U M:Addr->Prop}{H:Hp}{ds:List D}{v:V}(h:AtT K U M H (.tup ds) v):∃a vs,v=.ref a/\NdT M H a vs/\Ats K M H ds vs:=h
def SL(g:Int->Int->(D->Prop)->Prop)(d e:D)(P:D->Prop):Prop:=match d,e with
 | .int i,.int j=>g i j P
 | _,_=>False
theorem IH{g:Int->Int->(D->Prop)->Prop}{d e:D}{P:D->Prop}(w:SL g d e P):∃i j,d=.int i/\e=.int j/\g i j P:=by
 unfold SL at w
 split at w
 ·exact⟨_,_,rfl,rfl,w⟩
 ·exact w.elim
def f2(g:Int->Int->D):D->D->(D->Prop)->Prop:=SL fun i j P=>P (g i j)
def II(C:Int->Int->Prop)(g:Int->Int->D):D->D->(D->Prop)->Prop:=SL fun i j P=>C i j/\P (g i j)
theorem Nn{g:Int->Int->Int}:Dw K .sh (FA fun i j=>.int (g i j)) (f2 fun i j=>.int (g i j)):=by
 intro U M H d e x y P Q dom vM hx hy w q
 obtain⟨i,j,rfl,rfl,w⟩:=IH w
 exact⟨i,j,hx,hy,q _ H (.int (g i j)) .refl rfl w⟩
theorem Ic{g:Int->Int->Bool}:Dw K .sh (FA fun i j=>.bl (g i j)) (f2 fun i j=>.bl (g i j)):=by
 intro U M H d e x y P Q dom vM hx hy w q
 obtain⟨i,j,rfl,rfl,w⟩:=IH w
 exact⟨i,j,hx,hy,q _ H (.bl (g i j)) .refl rfl w⟩
theorem B3{C:Int->Int->Prop}{g:Int->Int->Int}:Dw K .sh (rI C fun i j=>.int (g i j)) (II C fun i j=>.int (g i j)):=by
 intro U M H d e x y P Q dom vM hx hy w q
 obtain⟨i,j,rfl,rfl,w⟩:=IH w
 exact⟨i,j,hx,hy,w.1,q _ H (.int (g i j)) .refl rfl w.2⟩
def SJ(g:Str->Str->(D->Prop)->Prop)(d e:D)(P:D->Prop):Prop:=match d,e with
 | .str i,.str j=>g i j P
 | _,_=>False
theorem K6{g:Str->Str->(D->Prop)->Prop}{d e:D}{P:D->Prop}(w:SJ g d e P):∃i j,d=.str i/\e=.str j/\g i j P:=by
 unfold SJ at w
 split at w
 ·exact⟨_,_,rfl,rfl,w⟩
 ·exact w.elim
theorem Nk{g:Str->Str->Bool}:Dw K .sh (fun x y H Q=>∃i j,x=.str i/\y=.str j/\Q (.bl (g i j)) H) (SJ fun i j P=>P (.bl (g i j))):=by
 intro U M H d e x y P Q dom vM hx hy w q
 obtain⟨i,j,rfl,rfl,w⟩:=K6 w
 exact⟨i,j,hx.1,hy.1,q _ H (.bl (g i j)) .refl rfl w⟩
theorem MM:Dw K .sh (fun x y H Q=>∃i j,x=.str i/\y=.str j/\i.length+j.length<=sizeLine/\Q (.str (i++j)) H) (SJ fun i j P=>i.length+j.length<=sizeLine/\P (.str (i++j))):=by
 intro U M H d e x y P Q dom vM hx hy w q
 obtain⟨i,j,rfl,rfl,w⟩:=K6 w
 exact⟨i,j,hx.1,hy.1,w.1,q _ H (.str (i++j)) .refl ⟨rfl,by rw [show (i++j).length=i.length+j.length from Str.length_append i j]; exact w.1⟩ w.2⟩
def Sr(g:List D->List D->(D->Prop)->Prop)(d e:D)(P:D->Prop):Prop:=match d,e with
 | .tup i,.tup j=>g i j P
 | _,_=>False
def SK(g:List D->List D->(D->Prop)->Prop)(d e:D)(P:D->Prop):Prop:=match d,e with
 | .lst i,.lst j=>g i j P
 | _,_=>False
theorem OS{g:List D->List D->(D->Prop)->Prop}{d e:D}{P:D->Prop}(w:Sr g d e P):∃i j,d=.tup i/\e=.tup j/\g i j P:=by
 unfold Sr at w
 split at w
 ·exact⟨_,_,rfl,rfl,w⟩
 ·exact w.elim
theorem OT{g:List D->List D->(D->Prop)->Prop}{d e:D}{P:D->Prop}(w:SK g d e P):∃i j,d=.lst i/\e=.lst j/\g i j P:=by
 unfold SK at w
 split at w
 ·exact⟨_,_,rfl,rfl,w⟩
 ·exact w.elim
theorem Dh{M:Addr->Prop}{H:Hp}{p:Addr}{vs:List V}{ds:List D}(dom:∀a,M a->∃o,H a=some o)(hp:H p=none)(h:Ats K M H ds vs):At K M (A_ H p (.tup vs)) (.tup ds) (.ref p):=by
 refine⟨p,vs,rfl,⟨fun z=>?_,AX⟩,h.pres (Av hp).pres⟩
 obtain⟨o,z⟩:=dom p z
 rw [hp] at z; cases z
theorem DA{U M:Addr->Prop}{H:Hp}{p:Addr}{vs:List V}{ds:List D}(hp:H p=none)(h:Ats K M H ds vs):VR K U M H (A_ H p (.lst vs)) .fr (.ref p) (.lst ds) :=
 ⟨p,rfl,hp,vs,AX,h.pres (ED hp)⟩
theorem ML:Dw K .sh (Mm K) (Sr fun i j P=>i≠[]/\i.length+j.length<=sizeLine/\P (.tup (i++j))):=by
 intro U M H d e x y P Q dom vM hx hy w q
 obtain⟨i,j,rfl,rfl,w⟩:=OS w
 obtain⟨a,vs,rfl,ha,hs⟩:=hx.tup
 obtain⟨b,us,rfl,hb,ht⟩:=hy.tup
 have l1:=hs.length
 have l2:=ht.length
 refine⟨a,b,vs,us,rfl,rfl,ha.sq,hb.sq,fun z=>w.1 ?_,by rw [l1,l2]; exact w.2.1,fun z=>?_,fun z p hp=>?_⟩
 ·rw [z] at l1; exact List.length_eq_zero_iff.mp l1.symm
 ·rw [z] at l2
  have:j=[]:=List.length_eq_zero_iff.mp l2.symm
  subst this
  exact q _ H (.tup i) .refl ⟨a,vs,rfl,ha,hs⟩ (by have:=w.2.2; rw [List.append_nil] at this; exact this)
 ·exact q _ _ (.tup (i++j)) (Av hp) (Dh dom hp (hs.append ht)) w.2.2
theorem E8:Dw K .fr (fun x y H Q=>∃l b xs zs,x=.ref l/\y=.ref b/\Rd H l (.lst xs)/\Rd H b (.lst zs)/\xs.length+zs.length<=sizeLine/\∀p,H p=none->Q (.ref p) (A_ H p (.lst (xs++zs)))) (SK fun i j P=>i.length+j.length<=sizeLine/\P (.lst (i++j))):=by
 intro U M H d e x y P Q dom vM hx hy w q
 obtain⟨i,j,rfl,rfl,w⟩:=OT w
 obtain⟨a,vs,rfl,_,ha,hs⟩:=hx
 obtain⟨b,us,rfl,_,hb,ht⟩:=hy
 exact⟨a,b,vs,us,rfl,rfl,ha,hb,by rw [hs.length,ht.length]; exact w.1,fun p hp=>q _ _ (.lst (i++j)) (Av hp) (DA hp (hs.append ht)) w.2⟩
def G0(neg:Bool)(d e:D)(P:D->Prop):Prop:=match d,e with
 | .bl i,.bl j=>P (.bl (if neg then !(i==j) else i==j))
 | .int i,.int j=>P (.bl (if neg then !(i==j) else i==j))
 | .str i,.str j=>P (.bl (if neg then !(i==j) else i==j))
 | _,_=>False
theorem K8{neg:Bool}{d e:D}{P:D->Prop}(w:G0 neg d e P):(∃i j,d=.bl i/\e=.bl j/\P (.bl (if neg then !(i==j) else i==j)))\/(∃i j,d=.int i/\e=.int j/\P (.bl (if neg then !(i==j) else i==j)))\/∃i j,d=.str i/\e=.str j/\P (.bl (if neg then !(i==j) else i==j)):=by
 unfold G0 at w
 split at w
 ·exact .inl ⟨_,_,rfl,rfl,w⟩
 ·exact .inr (.inl ⟨_,_,rfl,rfl,w⟩)
 ·exact .inr (.inr ⟨_,_,rfl,rfl,w⟩)
 ·exact w.elim
theorem Dn:Dw K .sh S_ (G0 false):=by
 intro U M H d e x y P Q dom vM hx hy w q
 rcases K8 w with ⟨i,j,rfl,rfl,w⟩ | ⟨i,j,rfl,rfl,w⟩ | ⟨i,j,rfl,rfl,w⟩
 ·rw [hx.bl,hy.bl]; exact⟨rfl,q _ H _ .refl (by rw [IP]; rfl) w⟩
 ·rw [hx.int,hy.int]; exact⟨rfl,q _ H _ .refl (by rw [FV]; rfl) w⟩
 ·rw [hx.str.1,hy.str.1]; exact⟨rfl,q _ H _ .refl (by rw [FU]; rfl) w⟩
theorem Rv:Dw K .sh S7 (G0 true):=by
 intro U M H d e x y P Q dom vM hx hy w q
 rcases K8 w with ⟨i,j,rfl,rfl,w⟩ | ⟨i,j,rfl,rfl,w⟩ | ⟨i,j,rfl,rfl,w⟩
 ·rw [hx.bl,hy.bl]; exact⟨rfl,q _ H _ .refl (by rw [IP]; rfl) w⟩
 ·rw [hx.int,hy.int]; exact⟨rfl,q _ H _ .refl (by rw [FV]; rfl) w⟩
 ·rw [hx.str.1,hy.str.1]; exact⟨rfl,q _ H _ .refl (by rw [FU]; rfl) w⟩
def CK(d e:D)(P:D->Prop):Prop:=match d,e with
 | .lst ds,.int i=>∃z,atI ds i=some z/\P z
 | .tup ds,.int i=>∃z,atI ds i=some z/\P z
 | .str x,.int i=>∃c,atI x.cps.toList i=some c/\P (.str ⟨#[c]⟩)
 | _,_=>False
theorem OU{d e:D}{P:D->Prop}(w:CK d e P):(∃ds i z,d=.lst ds/\e=.int i/\atI ds i=some z/\P z)\/(∃ds i z,d=.tup ds/\e=.int i/\atI ds i=some z/\P z)\/∃x i c,d=.str x/\e=.int i/\atI x.cps.toList i=some c/\P (.str ⟨#[c]⟩):=by
 unfold CK at w
 split at w
 ·obtain⟨z,h1,h2⟩:=w; exact .inl ⟨_,_,z,rfl,rfl,h1,h2⟩
 ·obtain⟨z,h1,h2⟩:=w; exact .inr (.inl ⟨_,_,z,rfl,rfl,h1,h2⟩)
 ·obtain⟨z,h1,h2⟩:=w; exact .inr (.inr ⟨_,_,z,rfl,rfl,h1,h2⟩)
 ·exact w.elim
theorem Ats.atI{M:Addr->Prop}{H:Hp}{ds:List D}{vs:List V}{i:Int}{z:D}(h:Ats K M H ds vs)(e:atI ds i=some z):∃v,L2.atI vs i=some v/\At K M H z v:=by
 unfold L2.atI at e ⊢
 rw [h.length]
 cases q:PJ ds.length i with
 | none=>rw [q] at e; cases e
 | some j =>
  rw [q] at e
  exact h.get e
theorem BH:Dw K .sh (S8 K) CK:=by
 intro U M H d e x y P Q dom vM hx hy w q
 rcases OU w with ⟨ds,i,z,rfl,rfl,hz,w⟩ | ⟨ds,i,z,rfl,rfl,hz,w⟩ | ⟨x,i,c,rfl,rfl,hc,w⟩
 ·obtain⟨a,vs,rfl,_,ha,hs⟩:=hx
  obtain⟨v,hv,hAt⟩:=hs.atI hz
  exact .inl ⟨a,vs,i,v,rfl,hy,.inl ha,hv,q v H z .refl hAt w⟩
 ·obtain⟨a,vs,rfl,ha,hs⟩:=hx.tup
  obtain⟨v,hv,hAt⟩:=hs.atI hz
  exact .inr (.inl ⟨a,vs,i,v,rfl,hy,ha.sq,hv,q v H z .refl hAt w⟩)
 ·exact .inr (.inr ⟨x,i,c,hx.str.1,hy,hx.str.2,hc,q _ H (.str ⟨#[c]⟩) .refl ⟨rfl,by rw [sizeLine_eq]; show 1<=16777216; decide⟩ w⟩)
def cutD{α:Type}(xs:List α)(lo hi:Option Int):List α:=(xs.drop (HT.sIx xs.length 0 lo)).take (HT.sIx xs.length xs.length hi - HT.sIx xs.length 0 lo)
theorem Cz{R:V->D->Prop}{vs:List V}{d:D}(h:Paired R vs [d]):∃v,vs=[v]/\R v d:=by
 cases h with
 | cons r t=>cases t; exact⟨_,rfl,r⟩
def Sh:D->Option Nat
 | .str x=>some x.length
 | .tup xs=>some xs.length
 | .lst xs=>some xs.length
 | _=>none
def EG(ds:List D)(P:D->Prop):Prop:=∃d n,ds=[d]/\Sh d=some n/\P (.int (n:Int))
theorem Cw:C3 K .sh (fun xs H Q=>∃x n,xs=[x]/\Qt K x H n/\Q (.int n) H) EG:=by
 intro U M H ds vs P Q dom vM hp w q
 obtain⟨d,n,rfl,hn,w⟩:=w
 obtain⟨v,rfl,hx⟩:=Cz hp
 refine⟨v,n,rfl,?_,q _ H (.int (n:Int)) .refl rfl w⟩
 cases d with
 | str z=>cases hn; rw [hx.str.1]; exact⟨hx.str.2,rfl⟩
 | tup xs =>
  cases hn
  obtain⟨a,us,rfl,ha,hs⟩:=hx.tup
  exact .inr ⟨us,ha.sq,hs.length.symm⟩
 | lst xs =>
  cases hn
  obtain⟨a,us,rfl,_,ha,hs⟩:=hx
  exact .inl ⟨us,.inl ha,hs.length.symm⟩
 | _=>cases hn
def allB:List D->Option (List Bool)
 | []=>some []
 | .bl b::r=>(allB r).map (b::·)
 | _::_=>none
theorem LK{M:Addr->Prop}{H:Hp}:∀{ds:List D} {vs:List V} {bs:List Bool},allB ds=some bs->Ats K M H ds vs->vs=bs.map V.bl
 | [],vs,bs,e,h=>by cases e; exact h
 | .bl b::r,vs,bs,e,h=>by
  obtain⟨v,r',e1,h1,h2⟩:=h
  unfold allB at e
  obtain⟨bs',e2,rfl⟩:=Option.map_eq_some_iff.mp e
  rw [e1,LK e2 h2,show v=.bl b from h1]
  rfl
 | .non::r,vs,bs,e,h=>by unfold allB at e; cases e
 | .int _::r,vs,bs,e,h=>by unfold allB at e; cases e
 | .str _::r,vs,bs,e,h=>by unfold allB at e; cases e
 | .tup _::r,vs,bs,e,h=>by unfold allB at e; cases e
 | .lst _::r,vs,bs,e,h=>by unfold allB at e; cases e
 | .dic _ _::r,vs,bs,e,h=>by unfold allB at e; cases e
 | .fdi _ _::r,vs,bs,e,h=>by unfold allB at e; cases e
def OW(ds:List D)(P:D->Prop):Prop:=∃xs bs,ds=[.lst xs]/\allB xs=some bs/\P (.bl (bs.all id))
theorem PZ:C3 K .sh (fun xs H Q=>∃(p:Addr) (bs:List Bool),xs=[.ref p]/\SqL K H p (bs.map V.bl)/\Q (.bl (bs.all id)) H) OW:=by
 intro U M H ds vs P Q dom vM hp w q
 obtain⟨xs,bs,rfl,e,w⟩:=w
 obtain⟨v,rfl,hx⟩:=Cz hp
 obtain⟨a,us,rfl,_,ha,hs⟩:=hx
 have:=LK e hs
 subst this
 exact⟨a,bs,rfl,.inl ha,q _ H (.bl (bs.all id)) .refl rfl w⟩
def Cu:List D->Option (List Str)
 | []=>some []
 | .str b::r=>(Cu r).map (b::·)
 | _::_=>none
theorem Ib{M:Addr->Prop}{H:Hp}:∀{ds:List D} {vs:List V} {bs:List Str},Cu ds=some bs->Ats K M H ds vs->vs=bs.map V.str
 | [],vs,bs,e,h=>by cases e; exact h
 | .str b::r,vs,bs,e,h=>by
  obtain⟨v,r',e1,h1,h2⟩:=h
  unfold Cu at e
  obtain⟨bs',e2,rfl⟩:=Option.map_eq_some_iff.mp e
  rw [e1,Ib e2 h2,h1.1]
  rfl
 | .non::r,vs,bs,e,h=>by unfold Cu at e; cases e
 | .int _::r,vs,bs,e,h=>by unfold Cu at e; cases e
 | .bl _::r,vs,bs,e,h=>by unfold Cu at e; cases e
 | .tup _::r,vs,bs,e,h=>by unfold Cu at e; cases e
 | .lst _::r,vs,bs,e,h=>by unfold Cu at e; cases e
 | .dic _ _::r,vs,bs,e,h=>by unfold Cu at e; cases e
 | .fdi _ _::r,vs,bs,e,h=>by unfold Cu at e; cases e
def NU(d:D)(ds:List D)(P:D->Prop):Prop:=∃(z:Str) (xs:List D) (ys:List Str),d=.str z/\ds=[.lst xs]/\Cu xs=some ys/\(ys.map (·.length)).sum+ys.length*z.length<=16777216/\(Txt.join z ys).length<=16777216/\P (.str (Txt.join z ys))
theorem Qk:S0 K .sh "str" (fun x xs H Q=>∃(z:Str) (p:Addr) (ys:List Str),x=.str z/\xs=[.ref p]/\SqL K H p (ys.map V.str)/\(ys.map (·.length)).sum+ys.length*z.length<=16777216/\Q (.str (Txt.join z ys)) H) NU:=by
 intro U M H d ds x vs P Q dom vM hx hp w q
 obtain⟨z,xs,ys,rfl,rfl,e,h1,h2,w⟩:=w
 obtain⟨v,rfl,hy⟩:=Cz hp
 obtain⟨a,us,rfl,_,ha,hs⟩:=hy
 have:=Ib e hs
 subst this
 exact⟨z,a,ys,hx.str.1,rfl,.inl ha,h1,q _ H (.str (Txt.join z ys)) .refl ⟨rfl,by rw [sizeLine_eq]; exact h2⟩ w⟩
def IG(ds:List D)(P:D->Prop):Prop:=match ds with
 | [.lst xs]=>P (.lst xs)
 | [.tup xs]=>P (.lst xs)
 | _=>False
theorem LM:C3 K .fr (fun xs H Q=>∃p ys,xs=[.ref p]/\(SqL K H p ys\/SqT K H p ys)/\∀l,H l=none->Q (.ref l) (A_ H l (.lst ys))) IG:=by
 intro U M H ds vs P Q dom vM hp w q
 unfold IG at w
 split at w
 ·obtain⟨v,rfl,hx⟩:=Cz hp
  obtain⟨a,us,rfl,_,ha,hs⟩:=hx
  exact⟨a,us,rfl,.inl (.inl ha),fun l hl=>q _ _ _ (Av hl) (DA hl hs) w⟩
 ·obtain⟨v,rfl,hx⟩:=Cz hp
  obtain⟨a,us,rfl,ha,hs⟩:=hx.tup
  exact⟨a,us,rfl,.inr ha.sq,fun l hl=>q _ _ _ (Av hl) (DA hl hs) w⟩
 ·exact w.elim
end
def Ny:D->String
 | .non => "NoneType"
 | .bl _ => "bool"
 | .int _ => "int"
 | .str _ => "str"
 | .tup _ => "tuple"
 | .lst _ => "list"
 | .dic _ _ => "dict"
 | .fdi _ _ => "dict"
def IC(t T:String):Bool:=t==T||(t == "bool"&&T == "int")
def Gd(T:String)(wa:DW):DW:=fun n ρ P=>wa n ρ fun d n1=>P (.bl (IC (Ny d) T)) n1
structure Ih (K:Frag) (T:String):Prop where
 ans:∀t∈["NoneType","bool","int","str","tuple","list","dict"],PySem.W.kitOne K (.type t) (.type T)=some (IC t T)
theorem KU{K:Frag}{M U:Addr->Prop}{H:Hp}{d:D}{x:V}(h:AtT K U M H d x):Dy K H x (.type (Ny d)):=by
 cases d with
 | non=>cases (show x=.non from h); exact .non
 | bl b=>cases h.bl; exact .bl b
 | int i=>cases h.int; exact .int i
 | str z=>cases h.str.1; exact .str z
 | tup ds =>
  obtain⟨a,vs,rfl,ha,hs⟩:=h.tup
  exact .tup ha.2
 | lst ds =>
  obtain⟨a,vs,rfl,_,ha,hs⟩:=h
  rcases ha with ha | ⟨o,ha⟩
  ·exact .lst ha
  ·exact .frz ha
 | dic ks ds =>
  obtain⟨a,vs,rfl,_,ha,_⟩:=h
  exact .dK ha
 | fdi ks ds =>
  obtain⟨a,vs,rfl,⟨o,_,ha⟩,_⟩:=h
  exact .dF ha
theorem KW(d:D):Ny d∈["NoneType","bool","int","str","tuple","list","dict"]:=by cases d <;> simp [Ny]
theorem C6{X:Cx}{a:Expr}{κ:Kd}{wa:DW}{T:String}{Tn:Str}{p p2 pos:Pos}(kt:Ih X.K T)(ha:DE X a κ wa)(hg:Gl X "isinstance")(hm:X.mg "isinstance"=none)(hgT:Gl X Tn)(hmT:X.mg Tn=none)(hvT:bootBuiltins Tn=some (.type T))
  (hnT:Tn ≠ "__name__":=by decide) (hdT:(Tn==("__debug__" : Str))=false:=by decide)
  (he:starEach [a,.Name Tn p2] X.env=(false,eval a X.env)::starEach [.Name Tn p2] X.env:=by rfl) (he2:starEach [.Name Tn p2] X.env=[(false,eval (.Name Tn p2) X.env)]:=by rfl)
  (hpl:(backTo pos (starEach [.Name Tn p2] X.env)).any (·.1)=false:=by rfl):DE X (.Call (.Name "isinstance" p) [a,.Name Tn p2] [] pos) .sh (Gd T wa):=by
 obtain⟨t,h1,h2⟩:=ha
 have pT:PE X (.Name Tn p2) (tC (.ty T)):=Ht hgT hmT hvT (v:=.ty T) rfl hnT hdT
 refine⟨_,Dc Jd hg hm (by decide +kernel) (BN h1 (BN pT CS he2) he) (by decide) (by decide) he hpl,fun C M H n ρ σ P Q R w q=>?_⟩
 refine h2 C M H n ρ σ _ _ R w fun v H1 d n1 e1 f1 r1 p=>?_
 exact⟨v,T,_,_,rfl,KU (r1.tpOf R.dom R.vM),kt.ans _ (KW d),q _ H1 (.bl (IC (Ny d) T)) n1 e1 f1 rfl p⟩
section
variable {K:Frag}{X:Cx}
def PN(d e:D)(P:D->Prop):Prop:=match d,e with
 | .int i,.int j=>P (.int (i+j))
 | .str i,.str j=>i.length+j.length<=sizeLine/\P (.str (i++j))
 | .tup i,.tup j=>i≠[]/\i.length+j.length<=sizeLine/\P (.tup (i++j))
 | .lst i,.lst j=>i.length+j.length<=sizeLine/\P (.lst (i++j))
 | _,_=>False
def O8:R2:=fun x y H Q=>∃l b xs zs,x=.ref l/\y=.ref b/\Rd H l (.lst xs)/\Rd H b (.lst zs)/\xs.length+zs.length<=sizeLine/\∀p,H p=none->Q (.ref p) (A_ H p (.lst (xs++zs)))
def O7:R2:=fun x y H Q=>∃i j,x=.str i/\y=.str j/\i.length+j.length<=sizeLine/\Q (.str (i++j)) H
def Ox(g:Str->Str->Bool):R2:=fun x y H Q=>∃i j,x=.str i/\y=.str j/\Q (.bl (g i j)) H
def Mn(K:Frag):R2:=fun x y H Q=>(FA fun i j=>.int (i+j)) x y H Q\/O7 x y H Q\/Mm K x y H Q\/O8 x y H Q
theorem op_addU:OpR X (binaryOp .Add) (Mn X.K):=op_add.or ((show OpR X (binaryOp .Add) O7 from J1).or (op_catT.or (show OpR X (binaryOp .Add) O8 from Hw)))
theorem Id:Dw X.K .sh (Mn X.K) PN:=fun U M H d e x y P Q dom vM hx hy w q=>by
 unfold PN at w
 split at w
 ·exact .inl (Nn (K:=X.K) (g:=fun i j=>i+j) U M H (.int _) (.int _) x y P Q dom vM hx hy w q)
 ·exact .inr (.inl (MM (K:=X.K) U M H (.str _) (.str _) x y P Q dom vM hx hy w q))
 ·exact .inr (.inr (.inl (ML (K:=X.K) U M H (.tup _) (.tup _) x y P Q dom vM hx hy w q)))
 ·exact .inr (.inr (.inr (E8 (K:=X.K) U M H (.lst _) (.lst _) x y P Q dom vM hx hy w fun v H' z g r p=>q v H' z g (r.shOf dom (by intro z; cases z)) p)))
 ·exact w.elim
def Rl(d e:D)(P:D->Prop):Prop:=match d,e with
 | .int i,.int j=>P (.bl (decide (i<j)))
 | .str i,.str j=>P (.bl (decide (i.cps.toList<j.cps.toList)))
 | _,_=>False
def Py:R2:=fun x y H Q=>(FA fun i j=>.bl (decide (i<j))) x y H Q\/Ox (fun i j=>decide (i.cps.toList<j.cps.toList)) x y H Q
theorem op_ltU:OpR X (compareOp .Lt) Py:=op_lt.or Lj
theorem PU:Dw X.K .sh Py Rl:=fun U M H d e x y P Q dom vM hx hy w q=>by
 unfold Rl at w
 split at w
 ·exact .inl (Ic (K:=X.K) (g:=fun i j=>decide (i<j)) U M H (.int _) (.int _) x y P Q dom vM hx hy w q)
 ·exact .inr (Nk (K:=X.K) (g:=fun i j=>decide (i.cps.toList<j.cps.toList)) U M H (.str _) (.str _) x y P Q dom vM hx hy w q)
 ·exact w.elim
def MD(d e:D)(P:D->Prop):Prop:=match d,e with
 | .int i,.int j=>P (.bl (decide (i<=j)))
 | .str i,.str j=>P (.bl (!(decide (j.cps.toList<i.cps.toList))))
 | _,_=>False
def RK:R2:=fun x y H Q=>(FA fun i j=>.bl (decide (i<=j))) x y H Q\/Ox (fun i j=>!(decide (j.cps.toList<i.cps.toList))) x y H Q
theorem Hu:OpR X (compareOp .LtE) RK:=op_le.or Lk
theorem LN:Dw X.K .sh RK MD:=fun U M H d e x y P Q dom vM hx hy w q=>by
 unfold MD at w
 split at w
 ·exact .inl (Ic (K:=X.K) (g:=fun i j=>decide (i<=j)) U M H (.int _) (.int _) x y P Q dom vM hx hy w q)
 ·exact .inr (Nk (K:=X.K) (g:=fun i j=>!(decide (j.cps.toList<i.cps.toList))) U M H (.str _) (.str _) x y P Q dom vM hx hy w q)
 ·exact w.elim
def RO:R2:=FA fun i j=>.bl (decide (j<i))
theorem M9:OpR X (compareOp .Gt) RO:=PF
theorem PX:Dw X.K .sh RO (f2 fun i j=>.bl (decide (j<i))):=Ic
def RP:R2:=FA fun i j=>.bl (decide (j<=i))
theorem QG:OpR X (compareOp .GtE) RP:=PH
theorem Rx:Dw X.K .sh RP (f2 fun i j=>.bl (decide (j<=i))):=Ic
def RE:V->Option Int->Option Int->Hp->VK->Prop:=fun x lo hi H Q=>∃z,x=.str z/\z.length<=sizeLine/\Q (.str (Txt.slice z lo hi)) H
theorem sl_U:SlR X RE:=Pq
def N3(w:DW):DW:=fun n ρ P=>w n ρ fun d n1=>∃i,d=.int i/\P (.int (-i)) n1
theorem KH{a:Expr}{κ:Kd}{wa:DW}{pos:Pos}(h:DE X a κ wa):DE X (.UnaryOp .USub a pos) .sh (N3 wa):=by
 obtain⟨t,h1,h2⟩:=h
 refine⟨_,RT Pi h1,fun C M H n ρ σ P Q R w q=>?_⟩
 refine h2 C M H n ρ σ _ _ R w fun v H1 d n1 e1 f1 r1 p=>?_
 obtain⟨i,rfl,p⟩:=p
 exact⟨i,J_ r1,q _ H1 (.int (-i)) n1 e1 f1 rfl p⟩
def Got(P:Program)(w:World)(K:Frag)(mg:Str->Option Value)(base:Heap)(x:Str)(k:Nat)(ps:List Str)(κ:Kd)(W:W2):Prop :=
 ∃f fd,Bh P w K mg base DR k f fd ps (FK K κ W ps.length)/\mg x=some (.ref f)/\keepIn K (.ref f)=true/\Binds K fd ps []/\∀ss n P,W ss n P->ss.length=ps.length
theorem AJ{e:Expr}{es:List Expr}{k:Nat}{ps:List Str}{κ:Kd}{W:W2}{x:Str}{p pos:Pos}{was:Qv}(G:Got X.prog X.w X.K X.mg X.base x k ps κ W)
  (hr:Room k X.A) (hg:Gl X x) (ha:SA X (e::es) was)
  (hdb:(x==("__debug__" : Str))=false:=by decide) (he:starEach (e::es) X.env=(false,eval e X.env)::starEach es X.env:=by rfl) (hpl:(backTo pos (starEach es X.env)).any (·.1)=false:=by rfl) :
  DE X (.Call (.Name x p) (e::es) [] pos) κ (AY W was):=by
 obtain⟨f,fd,G,hm,hk,hb,hW⟩:=G
 exact Of G hW hr hg hm hk hb ha hdb he hpl
def O_(np:Nat)(g:List D->D):W2:=fun ss n P=>∃ds:List D,ds.length=np/\ss=ds.map .sh/\P (g ds) n
theorem Lc{np:Nat}{g:List D->D}{ss:List Slot}{n:Nat}{P:D->Nat->Prop}(h:O_ np g ss n P):ss.length=np:=by
 obtain⟨ds,e,rfl,_⟩:=h
 rw [List.length_map]; exact e
theorem IA:Ih K "int":=⟨fun t ht=>by
 simp only [List.mem_cons,List.not_mem_nil,or_false] at ht
 rcases ht with rfl | rfl | rfl | rfl | rfl | rfl | rfl <;> kernel_rfl⟩
theorem Fx:Ih K "bool":=⟨fun t ht=>by
 simp only [List.mem_cons,List.not_mem_nil,or_false] at ht
 rcases ht with rfl | rfl | rfl | rfl | rfl | rfl | rfl <;> kernel_rfl⟩
theorem kit_tuple:Ih K "tuple":=⟨fun t ht=>by
 simp only [List.mem_cons,List.not_mem_nil,or_false] at ht
 rcases ht with rfl | rfl | rfl | rfl | rfl | rfl | rfl <;> kernel_rfl⟩
theorem Dg:Ih K "list":=⟨fun t ht=>by
 simp only [List.mem_cons,List.not_mem_nil,or_false] at ht
 rcases ht with rfl | rfl | rfl | rfl | rfl | rfl | rfl <;> kernel_rfl⟩
end
theorem EC{i:Nat}{te:DW}{P:List D->Nat->Prop}{g:D->D}(I:List Slot->Prop)(hI:∀d ρ,I ρ->I (ρ.set i (.sh d))) :
  ∀(ds acc:List D) (n:Nat) (ρ:List Slot),(∀d∈ds,∀ρ n P',I ρ->P' (g d) n->te n (ρ.set i (.sh d)) P')->I ρ->P (acc++ds.map g) n->Dd (Ai i) CZ te P ds acc n ρ
 | [],acc,n,ρ,_,_,h=>by
  rw [List.map_nil,List.append_nil] at h
  exact h
 | d::ds,acc,n,ρ,ht,hρ,h=>by
  refine ht d List.mem_cons_self ρ n _ hρ ?_
  refine EC I hI ds (acc++[g d]) n _ (fun d hd=>ht d (List.mem_cons_of_mem _ hd)) (hI d ρ hρ) ?_
  rw [List.append_assoc]
  exact h
theorem Jg{α:Type}(p:α->Bool):∀l:List α,allB (l.map fun c=>.bl (p c))=some (l.map p)
 | []=>rfl
 | a::l=>by
  rw [List.map_cons,List.map_cons]
  unfold allB
  rw [Jg p l]
  rfl
theorem Nh{b1 b2:Bool}{P:D->Nat->Prop}{n:Nat}{k:(D->Nat->Prop)->Prop}(hk:b1=true->P (.bl b2) n->k P)(h:P (.bl (b1&&b2)) n):(match (.bl b1:D) with | .bl true=>k P | .bl false=>P (.bl false) n | _=>False):=by
 cases b1 with
 | false=>exact h
 | true=>exact hk rfl h
theorem BC{P:Program}{w:World}{K:Frag}{mg:Str->Option Value}{base:Heap}{x:Str}{st:Stmt}{f:Addr}{fd:FuncData}{k:Nat}{ps:List Str}{κ:Kd}{W:W2}(F:Fun K x x st f fd)(m:mg x=some (.ref f))(b:Binds K fd ps [])
  (hW:∀ss n P,W ss n P->ss.length=ps.length) (ok:Bh P w K mg base DR k f fd ps (FK K κ W ps.length)):Got P w K mg base x k ps κ W:=⟨f,fd,ok,m,F.kp,b,hW⟩
def I0(K:Frag):Sp:=fun vs H Q _=>∃a ns,vs=[V.ref a]/\(List.length (α:=Int) ns<=63/\SqL K H a (ns.map V.int))/\∀H',Q (.bl true) H'
def HZ(K:Frag):Sp:=fun vs H Q _=>∃a ns,vs=[V.ref a]/\(List.length (α:=Int) ns<=63/\SqL K H a (ns.map V.int)) /\
 ∀(c f:Addr) (H':Hp),c≠f->H' c=some (.lst (ns.map V.int))->H' f=some (.lst [.ref c,.int 0,.int 0])->Q (.ref f) H'
theorem Rq{ns:List Int}(h:ns.length<=63):G1 (ns.map V.int) none (some 63)=ns.map V.int:=by
 have e:HT.sIx (ns.map V.int).length (ns.map V.int).length (some 63)=ns.length:=by
  rw [show (63:Int)=((63:Nat):Int) from rfl,HT.sIx_nat,List.length_map,Nat.min_eq_right h]
 unfold G1
 rw [e,HT.sIx_none,List.drop_zero,Nat.sub_zero]
 exact List.take_of_length_le (by rw [List.length_map]; exact Nat.le_refl _)
theorem Ds{b:BW}{body:Ak}{D2:E2}(I:Nat->Nat->List Slot->Prop)(hend:∀n ρ,I 0 n ρ->D2.nx n ρ) :
  ∀(ds:List D) (n:Nat) (ρ:List Slot) (_:∀(k:Nat) (d:D) (n:Nat) (ρ:List Slot) (nx:Nat->List Slot->Prop),d∈ds->I (k+1) n ρ->(∀n' ρ',I k n' ρ'->nx n' ρ')->b d ρ fun ρ1=>body { D2 with nx:=nx,ct:=nx,bk:=D2.nx } n ρ1),
   I ds.length n ρ->Bl b body D2 ds n ρ
 | [],n,ρ,_,h=>hend n ρ h
 | d::ds,n,ρ,hs,h=>hs ds.length d n ρ (Bl b body D2 ds) List.mem_cons_self h fun n' ρ' h'=>Ds I hend ds n' ρ' (fun k d n ρ nx hm=>hs k d n ρ nx (List.mem_cons_of_mem _ hm)) h'
theorem Ri{P:Program}{w:World}{K:Frag}{mg:Str->Option Value}{base:Heap}{st s1:Stmt}{rest:List Stmt}{f:Addr}{fd:FuncData}{Nr:List Str}{k n0:Nat}{wb:Ak}(F:Fun K "law" "law" st f fd)
  (S:An ("_law_script" :: "_law_feed_here"::Nr) ["_law_script"] (AH st)) (hbd:Ah st=s1::rest) (hn0:n0<=2 ^ 60)
  (h1:∀(cdv:Value) (A:Around) (outer:List Env) (s:Shared) (H:Hp) (E:XK),Room k (A.deeper (envOfC "law" (AH st) s.heap.objs.size f cdv)) ->
   PS (IT DR P w K mg base ("_law_script" :: "_law_feed_here"::Nr) "law" (AH st) f cdv A outer s H E).nox s1 (Jq (MX (HZ K) [] E0 (KZ (Bu 0) N7)) (HG 1)))
  (h2:∀(cdv:Value) (A:Around) (outer:List Env) (s:Shared) (H:Hp) (E:XK),Room k (A.deeper (envOfC "law" (AH st) s.heap.objs.size f cdv)) ->
   Nw (IT DR P w K mg base ("_law_script" :: "_law_feed_here"::Nr) "law" (AH st) f cdv A outer s H E).nox .sh rest wb)
  (hW:wb { nx:=fun _ _=>False,rt:=fun d _=>d=.bl true } n0 (.no::.fd::List.replicate Nr.length .no)):Bh P w K mg base DR (k+1) f fd ["_law_script"] (I0 K):=by
 refine F.ok S (fun vs H Q E h=>?_) (fun cdv A outer s H vs Q E hr h=>?_)
 ·obtain⟨a,ns,rfl,_⟩:=h
  rfl
 ·obtain⟨a,ns,rfl,⟨hl,hS⟩,q⟩:=h
  obtain⟨t,t1,t2⟩:=h2 cdv A outer s H E hr
  refine⟨LV (Jq (MX (HZ K) [] E0 (KZ (Bu 0) N7)) (HG 1)) t,by rw [hbd]; exact BA (h1 cdv A outer s H E hr) t1,?_⟩
  refine⟨_,rfl,a,ns,rfl,⟨hl,hS⟩,fun c g H' hcg hc hg=>?_⟩
  have at_:∀(i:Nat) (sl:Slot),(Slot.no::Slot.fd::List.replicate Nr.length Slot.no)[i]?=some sl->Slot.no=sl\/(Slot.fd=sl/\i=1):=by
   intro i sl hs
   match i,hs with
   | 0,hs=>exact .inl (Option.some.inj hs)
   | 1,hs=>exact .inr ⟨Option.some.inj hs,rfl⟩
   | i+2,hs =>
    rw [List.getElem?_cons_succ,List.getElem?_cons_succ,List.getElem?_replicate] at hs
    split at hs
    ·exact .inl (Option.some.inj hs)
    ·cases hs
  have R:Rel K ⟨fun b=>b=g,some (g,c),fun b=>b=g,fun b=>b=g,H',[],[]⟩ (fun b=>b=g) H' n0 (.no::.fd::List.replicate Nr.length .no) ((start ("_law_script" :: "_law_feed_here"::Nr) [V.ref a]).set 1 (some (.ref g))):=by
   refine⟨by simp [L2.start],fun _ z=>z,fun b z=>⟨_,(congrArg H' z).trans hg⟩,Ext.refl _ _,fun b z=>by rw [← Option.some.inj z],fun _ z=>z,fun _ z=>z,fun b z=>?_,fun i sl hs=>?_,fun p hp=>absurd hp (by simp),fun i d b hs _=>?_,fun i sl b hs o _=>?_,fun i j sl t b hs o _ _ _ _=>?_,fun p hp=>absurd hp (by simp)⟩
   ·have e:(g,c)=b:=Option.some.inj z
    subst e
    exact⟨0,0,ns,hg,hcg,⟨hcg,hc⟩,hl,by decide,by omega⟩
   ·rcases at_ i sl hs with e | ⟨e,rfl⟩
    ·rw [← e]; trivial
    ·rw [← e]
     exact⟨(g,c),by simp [L2.start],rfl⟩
   ·rcases at_ i _ hs with e | ⟨e,_⟩ <;> cases e
   ·rcases at_ i sl hs with e | ⟨e,_⟩ <;> (rw [← e] at o; cases o)
   ·rcases at_ i sl hs with e | ⟨e,_⟩ <;> (rw [← e] at o; cases o)
  refine t2 _ _ H' n0 _ _ { nx:=fun _ _=>False,rt:=fun d _=>d=.bl true } _ R ⟨fun _ _ _ _ _ _ z=>z.elim,fun v H2 d n' _ _ r p=>?_,fun _ _ _ _ _ _ z=>z.elim,fun _ _ _ _ _ _ z=>z.elim⟩ hW
  have e:d=.bl true:=p
  subst e
  have e2:v=.bl true:=r
  subst e2
  exact q H2
end Dp
namespace L2
open PySem PySem.Spec PyProof.Rows
section
variable {X:Cx}
theorem EO:∀{us:List Value} {ys:List Str},StrsAre us ys->Vals (ys.map V.str) us
 | _,_,.nil=>.nil
 | _,_,.cons x t r=>.cons ⟨t,rfl⟩ (EO r)
def Mi(K:Frag):List V->Hp->VK->Prop:=fun xs H Q=>∃(p:Addr) (ss:List Str),xs=[.ref p]/\SqL K H p (ss.map V.str)/\ss.length<64/\∀(ss':List Str) (l:Addr),ss'.Perm ss->sortedS ss'=true->H l=none->Q (.ref l) (A_ H l (.lst (ss'.map V.str)))
theorem GQ:CD X (.builtin "sorted") (Mi X.K):=by
 intro pins s σ H xs us Q I r h
 obtain⟨p,ss,rfl,hq,h64,q⟩:=h
 obtain⟨u,rfl,rx⟩:=vals1 r
 cases rx
 obtain⟨its,r',pl,hz⟩:=I.list hq
 have hlen:=r'.length
 rw [List.length_map] at hlen
 refine sorted_strs pl.isList (Fa r') (by omega) fun out ss' a1 a2 a3=>?_
 obtain⟨e,he⟩:=sortedAll_at s.heap its out
 have hl':ss'.length=ss.length:=a2.length_eq
 have hn:H (s.heap.objs.size+1)=none:=I.hok.fresh (Nat.le_succ _)
 refine⟨.ref (s.heap.objs.size+1),_,I.laid (t':=s.toks) (fun b o z=>sortedAll_old z) (Nat.le_succ _) (show ObjOk X.prog X.w _ _ _ (.lst (ss'.map V.str)) from⟨?_,out.toList,e,EO a1,?_⟩),rfl,q ss' _ a2 a3 hn⟩
 ·rw [List.length_map,sizeLine_eq]; omega
 ·exact he
def O2:R2:=fun x y H Q=>∃z k,x=.str z/\y=.int k/\MulOk z k/\Q (.str (Txt.mul z k)) H
theorem OF:OpR X (binaryOp .Mult) O2:=by
 intro pins s σ H x y v u Q I rx ry h
 obtain⟨z,k,rfl,rfl,hm,q⟩:=h
 obtain⟨t,rfl⟩:=rx
 obtain⟨t',rfl⟩:=ry
 exact SB.mul hm fun t' k=>⟨.str _,H,I.tok _,⟨_,rfl⟩,q⟩
end
end L2
namespace Dp
open PySem PySem.Spec PyProof.Rows L2
section
variable {K:Frag}
def B0(ds:List D)(P:D->Prop):Prop:=match ds with
 | [.lst xs]=>P (.tup xs)
 | [.tup xs]=>P (.tup xs)
 | _=>False
theorem By:C3 K .sh (fun xs H Q=>∃p ys,xs=[.ref p]/\((SqL K H p ys/\∀l,H l=none->Q (.ref l) (A_ H l (.tup ys)))\/(SqT K H p ys/\Q (.ref p) H))) B0:=by
 intro U M H ds vs P Q dom vM hp w q
 unfold B0 at w
 split at w
 ·obtain⟨v,rfl,hx⟩:=Cz hp
  obtain⟨a,us,rfl,_,ha,hs⟩:=hx
  exact⟨a,us,rfl,.inl ⟨.inl ha,fun l hl=>q _ _ (.tup _) (Av hl) (Dh dom hl hs) w⟩⟩
 ·obtain⟨v,rfl,hx⟩:=Cz hp
  obtain⟨a,us,rfl,ha,hs⟩:=hx.tup
  exact⟨a,us,rfl,.inr ⟨ha.sq,q _ H (.tup _) .refl ⟨a,us,rfl,ha,hs⟩ w⟩⟩
 ·exact w.elim
theorem Ats.strs{M:Addr->Prop}{H:Hp}:∀{ss:List Str},(∀x∈ss,x.length<=sizeLine)->Ats K M H (ss.map D.str) (ss.map V.str)
 | [],_=>rfl
 | x::r,h=>⟨.str x,r.map V.str,rfl,⟨rfl,h x List.mem_cons_self⟩,Ats.strs fun y hy=>h y (List.mem_cons_of_mem _ hy)⟩
theorem Ats.strs_le{M:Addr->Prop}{H:Hp}:∀{ss:List Str} {vs:List V},Ats K M H (ss.map D.str) vs->∀x∈ss,x.length<=sizeLine
 | [],_,_=>fun x hx=>by cases hx
 | y::r,vs,h=>fun x hx=>by
  obtain⟨v,t,e,h1,h2⟩:=h
  rcases List.mem_cons.mp hx with rfl | hx
  ·exact h1.2
  ·exact Ats.strs_le h2 x hx
def GD(ds:List D)(P:D->Prop):Prop:=∃(xs:List D) (ss:List Str),ds=[.lst xs]/\Cu xs=some ss/\ss.length<64/\∀ss':List Str,ss'.Perm ss->sortedS ss'=true->P (.lst (ss'.map .str))
theorem LJ:∀{xs:List D} {ss:List Str},Cu xs=some ss->xs=ss.map .str
 | [],ss,h=>by cases h; rfl
 | .str b::r,ss,h=>by
  unfold Cu at h
  obtain⟨t,e,rfl⟩:=Option.map_eq_some_iff.mp h
  rw [List.map_cons,← LJ e]
 | .non::r,ss,h=>by unfold Cu at h; cases h
 | .int _::r,ss,h=>by unfold Cu at h; cases h
 | .bl _::r,ss,h=>by unfold Cu at h; cases h
 | .tup _::r,ss,h=>by unfold Cu at h; cases h
 | .lst _::r,ss,h=>by unfold Cu at h; cases h
 | .dic _ _::r,ss,h=>by unfold Cu at h; cases h
 | .fdi _ _::r,ss,h=>by unfold Cu at h; cases h
theorem LL:C3 K .fr (Mi K) GD:=by
 intro U M H ds vs P Q dom vM hp w q
 obtain⟨xs,ss,rfl,e,h64,w⟩:=w
 obtain⟨v,rfl,hx⟩:=Cz hp
 obtain⟨a,us,rfl,_,ha,hs⟩:=hx
 have:=Ib e hs
 subst this
 have e2:=LJ e
 subst e2
 refine⟨a,ss,rfl,.inl ha,h64,fun ss' l h1 h2 hl=>?_⟩
 exact q _ _ _ (Av hl) (DA hl (Ats.strs fun x hx=>hs.strs_le x (h1.mem_iff.mp hx))) (w ss' h1 h2)
def HJ(d e:D)(P:D->Prop):Prop:=match d,e with
 | .int i,.int j=>CMul i j/\P (.int (i*j))
 | .str z,.int k=>MulOk z k/\(Txt.mul z k).length<=sizeLine/\P (.str (Txt.mul z k))
 | _,_=>False
def O3:R2:=fun x y H Q=>(rI CMul fun i j=>.int (i*j)) x y H Q\/O2 x y H Q
theorem Kq{X:Cx}:OpR X (binaryOp .Mult) O3:=op_mul.or OF
theorem Nl:Dw K .sh O3 HJ:=fun U M H d e x y P Q dom vM hx hy w q=>by
 unfold HJ at w
 split at w
 ·exact .inl (B3 (K:=K) (C:=CMul) (g:=fun i j=>i*j) U M H (.int _) (.int _) x y P Q dom vM hx hy w q)
 ·rename_i z k
  exact .inr ⟨z,k,hx.1,hy,w.1,q _ H (.str _) .refl ⟨rfl,w.2.1⟩ w.2.2⟩
 ·exact w.elim
end
section
variable {X:Cx}{tg e e2:Expr}{es:List Expr}{ws:EJ}{p pos:Pos}
def Oq(ws:EJ):EJ:=fun n ρ P=>ws n ρ fun ds n1=>∃i j:Int,ds=[.int i,.int j]/\(-(2 ^ 62)<=i/\i<2 ^ 62/\-(2 ^ 62)<=j/\j<2 ^ 62)/\P (CB i (j - i).toNat) n1
theorem ME(hg:Gl X "range")(hm:X.mg "range"=none)(ha:Om X [e,e2] ws)(hs:starEach [e,e2] X.env=[(false,eval e X.env),(false,eval e2 X.env)]:=by rfl)(hs2:starEach [e2] X.env=[(false,eval e2 X.env)]:=by rfl):DI X tg (.Call (.Name "range" p) [e,e2] [] pos) (Oq ws):=by
 obtain⟨t,a1,a2⟩:=ha
 refine⟨_,Lf hg hm a1 hs hs2,fun C M H n ρ σ P Rr R w q=>?_⟩
 refine a2 C M H n ρ σ _ _ R w fun vs H1 ds n1 e1 f1 r1 p=>?_
 obtain⟨i,j,rfl,hj,p⟩:=p
 cases r1 with
 | cons r rr =>
  cases rr with
  | cons r' rr =>
   cases rr
   have hv:_=V.int i:=r
   have hv':_=V.int j:=r'
   exact⟨i,j,by rw [hv,hv'],hj,q _ H1 _ n1 e1 f1 EM p⟩
def SO(X:Cx)(ts:List Expr)(b:List D->List Slot->(List Slot->Prop)->Prop):Prop:=∃g,R7 X ts g/\∀(C:Fm) (M:Addr->Prop) (H:Hp) (n:Nat) (ρ:List Slot) (σ:L2.St) (ds:List D) (vs:List V) (P:List Slot->Prop) (Q:L2.St->Hp->Prop),Rel X.K C M H n ρ σ->Ats X.K M H ds vs->b ds ρ P ->
 (∀ρ' σ',Rel X.K C M H n ρ' σ'->P ρ'->Q σ' H)->g vs σ H Q
def D6:List D->List Slot->(List Slot->Prop)->Prop:=fun ds ρ P=>ds=[]/\P ρ
def A8(b:BW)(bs:List D->List Slot->(List Slot->Prop)->Prop):List D->List Slot->(List Slot->Prop)->Prop:=fun ds ρ P=>match ds with
 | d::r=>b d ρ fun ρ1=>bs r ρ1 P
 | []=>False
theorem Ee:SO X [] D6:=⟨_,Ko,fun C M H n ρ σ ds vs P Q R h w q=>by
 obtain⟨rfl,w⟩:=w
 exact⟨h,q ρ σ R w⟩⟩
theorem BR{b:BW}{bs:List D->List Slot->(List Slot->Prop)->Prop}(h1:DG X e b)(h2:SO X es bs)(hs:(assignEach (e::es) X.env).map (·.2)=assign e X.env::(assignEach es X.env).map (·.2):=by rfl):SO X (e::es) (A8 b bs):=by
 obtain⟨g,a1,a2⟩:=h1
 obtain⟨g',b1,b2⟩:=h2
 refine⟨_,EU a1 b1 hs,fun C M H n ρ σ ds vs P Q R h w q=>?_⟩
 cases ds with
 | nil=>exact w.elim
 | cons d r =>
  obtain⟨v,vr,e,hv,hr⟩:=h
  exact⟨v,vr,e,a2 C M H n ρ σ d v _ _ R hv w fun ρ' σ' R' w'=>b2 C M H n ρ' σ' r vr _ _ R' hr w' q⟩
def G3(k:Nat)(bs:List D->List Slot->(List Slot->Prop)->Prop):BW:=fun d ρ P=>match d with
 | .tup ds=>ds.length=k/\bs ds ρ P
 | _=>False
theorem GN{bs:List D->List Slot->(List Slot->Prop)->Prop}{k:Nat}{j:Nat}(hc:X.calm=true)(h:SO X es bs)(hn:(assignEach es X.env).length=k:=by rfl)(hst:(assignEach es X.env).findIdx? (·.1)=none:=by rfl):DG X (.Tuple es j pos) (G3 k bs):=by
 obtain⟨g,a1,a2⟩:=h
 refine⟨_,M5 hc a1 hn hst,fun C M H n ρ σ d v P Q R h w q=>?_⟩
 cases d with
 | tup ds =>
  obtain⟨a,vs,rfl,hq,hs⟩:=h
  exact⟨a,vs,rfl,hq.sq,by rw [hs.length]; exact w.1,a2 C M H n ρ σ ds vs P Q R hs w.2 q⟩
 | _=>exact w.elim
end
end Dp
namespace L2
open PySem PySem.Spec PyProof.Rows
mutual
def RV(H:Hp):PyData->V->Prop
 | .none,v=>v=.non
 | .bool b,v=>v=.bl b
 | .int i,v=>v=.int i
 | .str x,v=>v=.str x
 | .tuple xs,v=>∃a vs,v=.ref a/\H a=some (.tup vs)/\RVs H xs vs
 | .list xs,v=>∃a vs,v=.ref a/\Rd H a (.lst vs)/\RVs H xs vs
 | .dict _,_=>False
def RVs(H:Hp):List PyData->List V->Prop
 | [],vs=>vs=[]
 | x::xs,vs=>∃v r,vs=v::r/\RV H x v/\RVs H xs r
end
section
variable {X:Cx}{pins:List (Addr×Obj)}{σ:L2.St}{H:Hp}{s:Shared}
mutual
theorem RV.reads(I:Inv X pins σ H s):∀{d:PyData} {v:V} {u:Value},RV H d v->RelV v u->∃as,Reads s.heap u d as
 | .none,v,u,h,r=>by
  cases (show v=.non from h)
  cases (show u=Value.none from r)
  exact⟨_,.none⟩
 | .bool b,v,u,h,r=>by
  cases (show v=.bl b from h)
  cases (show u=Value.bool b from r)
  exact⟨_,.bool b⟩
 | .int i,v,u,h,r=>by
  cases (show v=.int i from h)
  obtain⟨t,rfl⟩:=r
  exact⟨_,.int i t⟩
 | .str x,v,u,h,r=>by
  cases (show v=.str x from h)
  obtain⟨t,rfl⟩:=r
  exact⟨_,.str x t⟩
 | .tuple xs,v,u,h,r=>by
  obtain⟨a,vs,rfl,hq,hs⟩:=h
  cases r
  obtain⟨its,rv,⟨o,e,c,n,d⟩,_⟩:=I.tuple (X:=X) (xs:=vs) (.inl (.inl hq))
  obtain⟨as,ra⟩:=RVs.reads I hs rv
  exact⟨_,.tuple e c d ra⟩
 | .list xs,v,u,h,r=>by
  obtain⟨a,vs,rfl,hq,hs⟩:=h
  cases r
  obtain⟨its,rv,pl,_⟩:=I.list (X:=X) (xs:=vs) (.inl hq)
  obtain⟨o,e,c,n,d⟩:=pl.isList
  obtain⟨as,ra⟩:=RVs.reads I hs rv
  exact⟨_,.list e c d ra⟩
 | .dict _,v,u,h,r=>h.elim
theorem RVs.reads(I:Inv X pins σ H s):∀{ds:List PyData} {vs:List V} {us:List Value},RVs H ds vs->Vals vs us->∃as,ReadsAll s.heap us ds as
 | [],vs,us,h,r=>by
  cases (show vs=[] from h)
  cases r
  exact⟨_,.nil⟩
 | d::ds,vs,us,h,r=>by
  obtain⟨v,w,rfl,h1,h2⟩:=h
  cases r with
  | cons r1 r2 =>
   obtain⟨as,a1⟩:=RV.reads I h1 r1
   obtain⟨bs,a2⟩:=RVs.reads I h2 r2
   exact⟨_,.cons a1 a2⟩
end
end
theorem RV.noDict{H:Hp}:∀(d:PyData) (v:V),RV H d v->d.hasDict=false
 | d,v,h=>by
  have go:∀(n:Nat),(∀(d:PyData) (v:V),sizeOf d<=n->RV H d v->d.hasDict=false)/\∀(ds:List PyData) (vs:List V),sizeOf ds<=n->RVs H ds vs->PyData.hasDictAll ds=false:=by
   intro n
   induction n with
   | zero =>
    refine⟨fun d v h _=>?_,fun ds vs h _=>?_⟩
    ·cases d <;> simp at h
    ·cases ds <;> simp at h
   | succ n ih =>
    refine⟨fun d v h hr=>?_,fun ds vs h hr=>?_⟩
    ·cases d with
     | tuple xs =>
      obtain⟨a,vs,_,_,hs⟩:=hr
      simp only [PyData.hasDict]
      exact ih.2 xs vs (by simp at h; omega) hs
     | list xs =>
      obtain⟨a,vs,_,_,hs⟩:=hr
      simp only [PyData.hasDict]
      exact ih.2 xs vs (by simp at h; omega) hs
     | dict kvs=>exact(show False from hr).elim
     | none=>simp only [PyData.hasDict]
     | bool b=>simp only [PyData.hasDict]
     | int i=>simp only [PyData.hasDict]
     | str x=>simp only [PyData.hasDict]
    ·cases ds with
     | nil=>simp only [PyData.hasDictAll]
     | cons x xs =>
      obtain⟨v,w,_,h1,h2⟩:=hr
      simp only [PyData.hasDictAll,ih.1 x v (by simp at h; omega) h1,ih.2 xs w (by simp at h; omega) h2,Bool.or_false]
  exact(go (sizeOf d)).1 d v (Nat.le_refl _) h
section
variable {X:Cx}
def O1:List V->Hp->VK->Prop:=fun xs H Q=>∃x d,xs=[x]/\RV H d x/\d.showable=true/\d.depth<=100/\d.shown.length<=sizeLine/\Q (.str d.shown) H
theorem Ci{k:Nat}(hr:Room k X.A):CD X (.builtin "repr") O1:=by
 intro pins s σ H xs us Q I r h
 obtain⟨x,d,rfl,hx,hs,hd,hz,q⟩:=h
 obtain⟨u,rfl,rx⟩:=vals1 r
 have hu:=hr.un
 cases d with
 | none =>
  cases (show x=.non from hx)
  cases (show u=Value.none from rx)
  exact PySem.P.repr_of_none ⟨.str _,H,I.tok _,⟨_,rfl⟩,q⟩
 | bool b =>
  cases (show x=.bl b from hx)
  cases (show u=Value.bool b from rx)
  refine PySem.P.repr_of_bool ⟨.str _,H,I.tok _,⟨_,rfl⟩,?_⟩
  have e:PyData.shown (.bool b)=if b then ("True" : Str) else "False":=by cases b <;> rfl
  rw [e] at q
  exact q
 | int i =>
  cases (show x=.int i from hx)
  obtain⟨t,rfl⟩:=rx
  refine PySem.P.repr_of_int (by simpa [PyData.showable] using hs) ⟨.str _,H,I.tok _,⟨_,rfl⟩,q⟩
 | str z =>
  cases (show x=.str z from hx)
  obtain⟨t,rfl⟩:=rx
  exact PySem.P.repr_of_str ⟨.str _,H,I.tok _,⟨_,rfl⟩,q⟩ hz
 | tuple ds =>
  obtain⟨as,ra⟩:=RV.reads I hx rx
  obtain⟨a,vs,rfl,_⟩:=id hx
  cases rx
  refine repr_of_reads' ra hs (PyData.noDict_hsm (RV.noDict _ _ hx)) hr.gd (by omega) (fun _ _ e=>e) (fun h' u tk hk=>⟨.str _,H,I.kept (t':=tk) hk,⟨_,rfl⟩,q⟩) hz
 | list ds =>
  obtain⟨as,ra⟩:=RV.reads I hx rx
  obtain⟨a,vs,rfl,_⟩:=id hx
  cases rx
  refine repr_of_reads' ra hs (PyData.noDict_hsm (RV.noDict _ _ hx)) hr.gd (by omega) (fun _ _ e=>e) (fun h' u tk hk=>⟨.str _,H,I.kept (t':=tk) hk,⟨_,rfl⟩,q⟩) hz
 | dict _=>exact(show False from hx).elim
def RQ:R2:=fun x y H Q=>∃d e,RV H d x/\RV H e y/\d.canLay0=true/\e.canLay0=true/\d.depth<=100/\Q (.bl (PyData.eqv d e)) H
theorem QH{k:Nat}(hr:Room k X.A):OpR X (compareOp .Eq) RQ:=by
 intro pins s σ H x y v u Q I rx ry h
 obtain⟨d,e,hx,hy,h1,h2,hd,q⟩:=h
 obtain⟨as,ra⟩:=RV.reads I hx rx
 obtain⟨bs,rb⟩:=RV.reads I hy ry
 have hu:=hr.un
 have hm:min d.depth e.depth<=d.depth:=Nat.min_le_left _ _
 exact PySem.SeqAt.compareEq_reads ra rb h1 h2 (by omega) ⟨.bl _,H,I,rfl,q⟩
def RN(neg:Bool):R2:=fun x y H Q=>∃d es,RV H d x/\(RV H (.list es) y\/RV H (.tuple es) y)/\d.canLay0=true/\PyData.canLayAll0 es=true/\d.depth<=100/\Q (.bl (if neg then !(es.any fun y=>PyData.eqv y d) else es.any fun y=>PyData.eqv y d)) H
theorem QF{k:Nat}(hr:Room k X.A):OpR X (compareOp .In) (RN false):=by
 intro pins s σ H x y v u Q I rx ry h
 obtain⟨d,es,hx,hy,h1,h2,hd,q⟩:=h
 obtain⟨as,ra⟩:=RV.reads I hx rx
 have hu:=hr.un
 have hm:min (PyData.depthAll es) d.depth<=d.depth:=Nat.min_le_right _ _
 rcases hy with hy | hy
 ·obtain⟨bs,rb⟩:=RV.reads I hy ry
  exact PySem.SeqAt.in_list_reads rb ra h2 h1 (by omega) ⟨.bl _,H,I,rfl,q⟩
 ·obtain⟨bs,rb⟩:=RV.reads I hy ry
  exact PySem.SeqAt.in_tuple_reads rb ra h2 h1 (by omega) ⟨.bl _,H,I,rfl,q⟩
end
end L2
namespace Dp
open PySem PySem.Spec PyProof.Rows L2
mutual
def toPy:D->PyData
 | .non=>.none
 | .bl b=>.bool b
 | .int i=>.int i
 | .str x=>.str x
 | .tup ds=>.tuple (A3 ds)
 | .lst ds=>.list (A3 ds)
 | .dic _ _=>.dict []
 | .fdi _ _=>.dict []
def A3:List D->List PyData
 | []=>[]
 | d::ds=>toPy d::A3 ds
end
mutual
def FD:D->Bool
 | .tup ds=>Cp ds
 | .lst ds=>Cp ds
 | .dic _ _=>false
 | .fdi _ _=>false
 | _=>true
def Cp:List D->Bool
 | []=>true
 | d::ds=>FD d&&Cp ds
end
theorem Cf(ds:List D):A3 ds=ds.map toPy:=by
 induction ds with
 | nil=>rfl
 | cons d r ih=>rw [A3,ih,List.map_cons]
section
variable {K:Frag}{M:Addr->Prop}{H:Hp}
mutual
theorem At.rv:∀{d:D} {v:V},At K M H d v->FD d=true->RV H (toPy d) v
 | .non,v,h,_=>h
 | .bl b,v,h,_=>h
 | .int i,v,h,_=>h
 | .str x,v,h,_=>h.1
 | .tup ds,v,h,n=>by
  obtain⟨a,vs,e,hn,hs⟩:=h
  exact⟨a,vs,e,hn.2,Ats.rv hs n⟩
 | .lst ds,v,h,n=>by
  obtain⟨a,vs,e,hn,hs⟩:=h
  exact⟨a,vs,e,.inl hn.2,Ats.rv hs n⟩
 | .dic ks ds,v,h,n=>by cases n
 | .fdi ks ds,v,h,n=>by cases n
theorem Ats.rv:∀{ds:List D} {vs:List V},Ats K M H ds vs->Cp ds=true->RVs H (A3 ds) vs
 | [],vs,h,_=>h
 | d::ds,vs,h,n=>by
  obtain⟨v,r,e,h1,h2⟩:=h
  have n':(FD d&&Cp ds)=true:=n
  rw [Bool.and_eq_true] at n'
  exact⟨v,r,e,At.rv h1 n'.1,Ats.rv h2 n'.2⟩
end
theorem AtT.rv{U:Addr->Prop}{d:D}{v:V}(h:AtT K U M H d v)(n:FD d=true):RV H (toPy d) v:=by
 cases d with
 | lst ds =>
  obtain⟨a,vs,e,_,hq,hs⟩:=h
  exact⟨a,vs,e,hq,Ats.rv hs n⟩
 | dic ks ds=>cases n
 | fdi ks ds=>cases n
 | non=>exact h
 | bl b=>exact h
 | int i=>exact h
 | str x=>exact h.1
 | tup ds=>exact At.rv (K:=K) (M:=M) (d:=.tup ds) h n
def I_(d:D):Prop:=FD d=true/\(toPy d).showable=true/\(toPy d).depth<=100/\(toPy d).shown.length<=sizeLine
def Hc(d:D):Str:=(toPy d).shown
def GE(ds:List D)(P:D->Prop):Prop:=∃d,ds=[d]/\I_ d/\P (.str (Hc d))
theorem E7:C3 K .sh O1 GE:=by
 intro U M H ds vs P Q dom vM hp w q
 obtain⟨d,rfl,hd,w⟩:=w
 obtain⟨v,rfl,hx⟩:=Cz hp
 exact⟨v,toPy d,rfl,hx.rv hd.1,hd.2.1,hd.2.2.1,hd.2.2.2,q _ H (.str (Hc d)) .refl ⟨rfl,hd.2.2.2⟩ w⟩
def DD(d:D):Prop:=FD d=true/\(toPy d).canLay0=true/\(toPy d).depth<=100
def K_(d e:D):Bool:=PyData.eqv (toPy d) (toPy e)
def Rm(d e:D)(P:D->Prop):Prop:=DD d/\DD e/\P (.bl (K_ d e))
theorem Ry:Dw K .sh RQ Rm:=fun U M H d e x y P Q dom vM hx hy w q =>
 ⟨toPy d,toPy e,hx.rv w.1.1,hy.rv w.2.1.1,w.1.2.1,w.2.1.2.1,w.1.2.2,q _ H (.bl (K_ d e)) .refl rfl w.2.2⟩
def Pr:D->Option (List D)
 | .lst ds=>some ds
 | .tup ds=>some ds
 | _=>none
def QT(neg:Bool)(d e:D)(P:D->Prop):Prop:=DD d/\DD e/\∃es,Pr e=some es/\P (.bl (if neg then !(es.any fun y=>K_ y d) else es.any fun y=>K_ y d))
theorem Rw{neg:Bool}:Dw K .sh (RN neg) (QT neg):=fun U M H d e x y P Q dom vM hx hy w q=>by
 obtain⟨h1,h2,es,he,w⟩:=w
 have any_eq:∀es:List D,(es.map toPy).any (fun y=>PyData.eqv y (toPy d))=es.any fun y=>K_ y d:=fun es=>by rw [List.any_map]; rfl
 cases e with
 | lst ds =>
  cases he
  refine⟨toPy d,A3 es,hx.rv h1.1,.inl (hy.rv h2.1),h1.2.1,by simpa [toPy,PyData.canLay0] using h2.2.1,h1.2.2,?_⟩
  rw [Cf,any_eq]
  exact q _ H (.bl _) .refl rfl w
 | tup ds =>
  cases he
  refine⟨toPy d,A3 es,hx.rv h1.1,.inr (hy.rv h2.1),h1.2.1,by simpa [toPy,PyData.canLay0] using h2.2.1,h1.2.2,?_⟩
  rw [Cf,any_eq]
  exact q _ H (.bl _) .refl rfl w
 | _=>cases he
end
end Dp
namespace L2
open PySem PySem.Spec PyProof.Rows
end L2
namespace Dp
open PySem PySem.Spec PyProof.Rows L2
end Dp
namespace L2
open PySem PySem.Spec PyProof.Rows
def kOf:Key->V
 | .inl i=>.int i
 | .inr x=>.str x
def Sg:Key->Key->Bool
 | .inl i,.inl j=>decide (i<j)
 | .inr x,.inr y=>decide (x.cps.toList<y.cps.toList)
 | _,_=>false
def Kb:Key->Key->Bool
 | .inl _,.inl _=>true
 | .inr _,.inr _=>true
 | _,_=>false
def E1:List Key->List Key->Bool
 | [],[]=>false
 | [],_::_=>true
 | _::_,[]=>false
 | x::xs,y::ys=>if x=y then E1 xs ys else Sg x y
def Ck:List Key->List Key->Bool
 | x::xs,y::ys=>Kb x y&&Ck xs ys
 | _,_=>true
theorem NW{A:Around}{s:Shared}{x y:Key}{u v:Value}(rx:RelV (kOf x) u)(ry:RelV (kOf y) v):∃e,SeqAt.EqAt A s u v e/\(e=true↔x=y):=by
 cases x with
 | inl i =>
  cases y with
  | inl j=>exact⟨_,IJ rx ry rfl rfl,by simp [kOf,Rn]⟩
  | inr z=>exact⟨_,IJ rx ry rfl rfl,by simp [kOf,Rn]⟩
 | inr z =>
  cases y with
  | inl j=>exact⟨_,IJ rx ry rfl rfl,by simp [kOf,Rn]⟩
  | inr z'=>exact⟨_,IJ rx ry rfl rfl,by simp [kOf,Rn]⟩
theorem Mh(A:Around)(s:Shared){x y:Key}{u v:Value}(rx:RelV (kOf x) u)(ry:RelV (kOf y) v)(hs:Kb x y=true)(prog:Program)(w:World)(E:Value->Shared->Prop)(Q:Value->Shared->Prop)(h:Q (.bool (Sg x y)) s) :
  wpAny (model prog w) A (richCompare .Lt u v) Q E s:=by
 cases x with
 | inl i =>
  cases y with
  | inl j =>
   obtain⟨t,rfl⟩:=rx
   obtain⟨t',rfl⟩:=ry
   exact(PyProof.Rows.lt_int h:wpAny (model prog w) A (compareOp .Lt (.int i t) (.int j t')) Q E s)
  | inr z=>cases hs
 | inr z =>
  cases y with
  | inl j=>cases hs
  | inr z' =>
   obtain⟨t,rfl⟩:=rx
   obtain⟨t',rfl⟩:=ry
   exact(PySem.P.lt_str h:wpAny (model prog w) A (compareOp .Lt (.str z t) (.str z' t')) Q E s)
section
open PySem.SeqAt
open PySem.AutoSeq1 (wpAny_loadPart')
open PySem.MeetsSeq PySem.MeetsSeq2 PySem.MeetsSeq3
theorem Dz(l b:Addr)(items items2:Array Value)(n n2:Nat)(dd dd2:Option Addr)(sl sl2:Array (Option Value))(ns ms:List Key)(hi:Vals (ns.map kOf) items.toList)(hj:Vals (ms.map kOf) items2.toList)(hsame:Ck ns ms=true) :
  Meets (Builtin.«tuple.__lt__» ⟨[.ref l,.ref b],[]⟩)
   (fun _ R s=>s.heap.get? l=some { cls:=.type "tuple",dict:=dd,data:=.seq items n,slots:=sl }/\s.heap.get? b=some { cls:=.type "tuple",dict:=dd2,data:=.seq items2 n2,slots:=sl2 } /\
    R (.ok (.ret (.bool (E1 ns ms)))) s) :=
 .of_wp fun prog w A R s h=>by
  obtain⟨hp,g,d,tk,os⟩:=s; obtain⟨hl,hb,h⟩:=h
  have f2:=AutoSeq1.sub_tuple_tuple
  have z1:items.size=ns.length:=by have:=hi.length; rw [List.length_map] at this; rw [this]; simp
  have z2:items2.size=ms.length:=by have:=hj.length; rw [List.length_map] at this; rw [this]; simp
  wp_walk using wpAny_loadPart' hl,wpAny_loadPart' hb,wpAny_forIn_list _ (fun rest b s'=>b.1=none/\s'=⟨hp,g,d,tk,os⟩/\∃(vs ws:List Value) (ns' ms':List Key),rest=vs.zip ws /\
   Vals (ns'.map kOf) vs/\Vals (ms'.map kOf) ws/\Ck ns' ms'=true/\ns'.length+items2.size=ms'.length+items.size/\R (.ok (.ret (.bool (E1 ns' ms')))) ⟨hp,g,d,tk,os⟩) _
  case turn =>
   rintro ⟨y,x⟩ rest b s' ⟨hb',rfl,vs,ws,ns',ms',hz,hvi,hwi,hsm,hlen,hR⟩
   cases ns' with
   | nil=>cases hvi; rw [List.zip_nil_left] at hz; cases hz
   | cons a ns' =>
    cases ms' with
    | nil=>cases hwi; rw [List.zip_nil_right] at hz; cases hz
    | cons c ms' =>
     rw [List.map_cons] at hvi hwi
     cases hvi with
     | cons ra hvi' =>
      cases hwi with
      | cons rc hwi' =>
       rw [List.zip_cons_cons] at hz
       injection hz with hyx hrest
       injection hyx with hy hx
       subst hy hx
       have hR':R (.ok (.ret (.bool (if a=c then E1 ns' ms' else Sg a c)))) ⟨hp,g,d,tk,os⟩:=hR
       have hsm':(Kb a c&&Ck ns' ms')=true:=hsm
       rw [Bool.and_eq_true] at hsm'
       simp only [List.length_cons] at hlen
       obtain⟨e,he,hiff⟩:=NW (A:=A.in1) (s:=⟨hp,g,d,tk,os⟩) ra rc
       refine wpAny_bind (he prog w _ _ ?_)
       cases e with
       | true =>
        rw [if_pos (hiff.mp rfl)] at hR'
        wp_walk
        exact⟨rfl,rfl,_,_,_,_,hrest,hvi',hwi',hsm'.2,by omega,hR'⟩
       | false =>
        rw [if_neg (fun q=>absurd (hiff.mpr q) Bool.false_ne_true)] at hR'
        have hri:=Mh A.in1 ⟨hp,g,d,tk,os⟩ ra rc hsm'.1 prog w
        wp_walk using hri
        exact⟨_,rfl,by simpa using hR'⟩
  case fin =>
   rintro ⟨b1,b2⟩ s' ⟨hb',rfl,vs,ws,ns',ms',hz,hvi,hwi,hsm,hlen,hR⟩
   simp only at hb'
   subst hb'
   have hv:E1 ns' ms'=decide (items.size<items2.size):=by
    cases ns' with
    | nil =>
     cases ms' with
     | nil =>
      simp only [List.length_nil] at hlen
      exact(decide_eq_false (by omega)).symm
     | cons c u =>
      simp only [List.length_nil,List.length_cons] at hlen
      exact(decide_eq_true (by omega)).symm
    | cons a t =>
     cases ms' with
     | nil =>
      simp only [List.length_nil,List.length_cons] at hlen
      exact(decide_eq_false (by omega)).symm
     | cons c u =>
      rw [List.map_cons] at hvi hwi
      cases hvi
      cases hwi
      rw [List.zip_cons_cons] at hz
      cases hz
   rw [hv] at hR
   wp_walk
   exact⟨_,rfl,by simpa [Builtin.Tuple.tupleCompareSizes] using hR⟩
  case h =>
   exact⟨rfl,rfl,items.toList,items2.toList,ns,ms,rfl,hi,hj,hsame,by omega,h⟩
end
section
variable {X:Cx}
def RI(K:Frag):R2:=fun x y H Q=>∃a b ns ms,x=.ref a/\y=.ref b/\SqT K H a (ns.map kOf)/\SqT K H b (ms.map kOf)/\Ck ns ms=true/\Q (.bl (E1 ns ms)) H
theorem QD(hu:X.A.units<cLine):OpR X (compareOp .Lt) (RI X.K):=by
 intro pins s σ H x y v u Q I rx ry h
 obtain⟨a,b,ns,ms,rfl,rfl,ha,hb,hsm,q⟩:=h
 cases rx
 cases ry
 obtain⟨its,r1,p1,_⟩:=I.tuple ha
 obtain⟨its2,r2,p2,_⟩:=I.tuple hb
 obtain⟨⟨cls,dd,data,sl⟩,ho,hc,n,hd⟩:=id p1
 obtain⟨⟨cls2,dd2,data2,sl2⟩,ho2,hc2,n2,hd2⟩:=id p2
 simp only at hc hd hc2 hd2
 subst hc hd hc2 hd2
 exact richCompare_meets_room (op:=.Lt) ⟨_,ho,rfl⟩ ⟨_,ho2,rfl⟩ PySem.F.slot_tuple_lt PySem.F.entry_tuple_lt (PySem.F.args_tuple_lt_2 _ _) (Dz a b its.toArray its2.toArray n n2 dd dd2 sl sl2 ns ms r1 r2 hsm)
  ⟨ho,ho2,show Value.bool (E1 ns ms)≠Value.notImplemented/\EP X pins σ Q (.bool (E1 ns ms)) s from⟨(fun x=>nomatch x),⟨.bl _,H,I,rfl,q⟩⟩⟩ hu
end
def R_(κ:Bool)(h:Heap)(it l:Addr)(k:Nat):Prop:=match κ with
 | true=>h.IsListIter it l k
 | false=>h.IsTupleIter it l k
section
variable {κ:Bool}{h h':Heap}{it l b:Addr}{k:Nat}{items:Array Value}
end
section
variable {prog:Program}{w:World}{A:Around}{E:Value->Shared->Prop}{s:Shared}
structure TZ (z TI TO i1 i2 l1 l2:Addr):Prop where
 TIz:TI≠z
 TOz:TO≠z
 i1z:i1≠z
 i2z:i2≠z
 TOi1:TO≠i1
 TOi2:TO≠i2
 i12:i1≠i2
 l1z:l1≠z
 l1TO:l1≠TO
 l1i1:l1≠i1
 l1i2:l1≠i2
 l2z:l2≠z
 l2TO:l2≠TO
 l2i1:l2≠i1
 l2i2:l2≠i2
end
section
variable {prog:Program}{w:World}{A:Around}{E:Value->Shared->Prop}{s:Shared}
end
section
variable {X:Cx}{pins:List (Addr×Obj)}{σ:L2.St}{H:Hp}{s:Shared}{h':Heap}
theorem Inv.turnedL{t':Nat}{ch:List Addr}(I:Inv X pins σ H s)(hf:∀b∈ch,E_ X pins H b)(k:∀b o,b∉ch->s.heap.get? b=some o->h'.get? b=some o):Inv X pins σ H { s with heap:=h',toks:=t' }:=by
 have nit:∀b u,H b=some u->b∉ch:=fun b u e z=>by rw [(hf b z).1] at e; cases e
 refine I.step (g':=s.gens) (d':=s.drawn) (ch:=ch) (fun b hb=>?_) (fun b o _ _ hc e _=>k b o hc e) (fun b o _ _ hc e _=>⟨o.slots,k b o hc e⟩) (fun _ _ _ _ n=>n) (fun b o hc e=>⟨o,k b o hc e⟩) (fun _ _ e=>e) (fun _ _ _ e=>e) (fun b ps e=>⟨#[],by rw [e]; simp⟩) (fun m hm=>?_) (fun b u e=>?_) I.bare
 ·obtain⟨f0,f1,f2,f3,f4,f5⟩:=hf b hb
  exact⟨f3,f1,f4,f5⟩
 ·obtain⟨o,es,ep,ho,r⟩:=hm
  exact⟨o,es,ep,k _ o (fun z=>(hf _ z).2.1 rfl) ho,r⟩
 ·exact(I.hok b u e).stay (fun c v hc q=>k c v (hc.elim (fun z=>by rw [z]; exact nit b u e) fun z=>nit c _ z) q) (fun _ q=>q) fun _ _ q=>q
theorem Inv.turnLaid{t':Nat}{ch:List Addr}{a:Addr}{o:HO}(I:Inv X pins σ H s)(hf:∀b∈ch,E_ X pins H b)(k:∀b o,b∉ch->s.heap.get? b=some o->h'.get? b=some o)(ha:s.heap.objs.size<=a)(new:ObjOk X.prog X.w (A_ H a o) h' a o) :
  Inv X pins σ (A_ H a o) { s with heap:=h',toks:=t' }:=by
 have nit:∀b u,H b=some u->b∉ch:=fun b u e z=>by rw [(hf b z).1] at e; cases e
 have hn:H a=none:=I.hok.fresh ha
 have up:∀b u,H b=some u->A_ H a o b=some u:=fun b u e=>by rw [AO (A6 e hn)]; exact e
 refine I.step (g':=s.gens) (d':=s.drawn) (ch:=ch) (fun b hb=>?_) (fun b o _ _ hc e _=>k b o hc e) (fun b o _ _ hc e _=>⟨o.slots,k b o hc e⟩) (fun b u _ e n=>?_) (fun b o hc e=>⟨o,k b o hc e⟩) (fun b xs e=>up _ _ e) (fun b o u e=>up _ _ e) (fun b ps e=>⟨#[],by rw [up _ _ e]; simp⟩) (fun m hm=>?_) (fun b u e=>?_) I.bare
 ·obtain⟨f0,f1,f2,f3,f4,f5⟩:=hf b hb
  exact⟨f3,f1,f4,f5⟩
 ·rw [AO (Nat.ne_of_lt (Nat.lt_of_lt_of_le (Heap.lt_size e) ha))]; exact n
 ·obtain⟨o,es,ep,ho,r⟩:=hm
  exact⟨o,es,ep,k _ o (fun z=>(hf _ z).2.1 rfl) ho,r⟩
 ·by_cases hb:b=a
  ·subst hb; rw [AX] at e; cases e; exact new
  ·rw [AO hb] at e
   exact(I.hok b u e).stay (fun c v hc q=>k c v (hc.elim (fun z=>by rw [z]; exact nit b u e) fun z=>nit c _ z) q) (fun c q=>up _ _ q) fun c xs q=>up _ _ q
end
structure TB (κ1 κ2:Bool) (z TI TO i1 i2 a b:Addr) (k:Nat) (h:Heap):Prop where
 z:IsZip h z TI TO .none
 ti:IsPair h TI (.ref i1) (.ref i2)
 to:∃a b,IsPair h TO a b
 i1:R_ κ1 h i1 a k
 i2:R_ κ2 h i2 b k
section
variable {X:Cx}
end
end L2
namespace Dp
open PySem PySem.Spec PyProof.Rows L2
def LR(ds es:List D):List D:=List.zipWith (fun d e=>.tup [d,e]) ds es
section
variable {K:Frag}
end
section
variable {X:Cx}{e1 e2:Expr}{es:List Expr}{j:Nat}{tpos p pos:Pos}{ws:EJ}
def Sj:D->Option Key
 | .int i=>some (.inl i)
 | .str x=>some (.inr x)
 | _=>none
def Fy:List D->Option (List Key)
 | []=>some []
 | d::ds=>match Sj d,Fy ds with
  | some k,some ks=>some (k::ks)
  | _,_=>none
theorem EX{K:Frag}{M:Addr->Prop}{H:Hp}:∀{ds:List D} {vs:List V} {ks:List Key},Fy ds=some ks->Ats K M H ds vs->vs=ks.map kOf
 | [],vs,ks,e,h=>by cases e; exact h
 | d::ds,vs,ks,e,h=>by
  obtain⟨v,r,e1,h1,h2⟩:=h
  unfold Fy at e
  split at e
  ·rename_i k ks' hk hks
   cases e
   rw [e1,EX hks h2,List.map_cons]
   congr 1
   cases d with
   | int i=>cases hk; exact h1
   | str x=>cases hk; exact h1.1
   | _=>cases hk
  ·cases e
def GF(d e:D)(P:D->Prop):Prop:=match d,e with
 | .int i,.int j=>P (.bl (decide (i<j)))
 | .str i,.str j=>P (.bl (decide (i.cps.toList<j.cps.toList)))
 | .tup xs,.tup ys=>∃ks ls,Fy xs=some ks/\Fy ys=some ls/\Ck ks ls=true/\P (.bl (E1 ks ls))
 | _,_=>False
def RJ(K:Frag):R2:=fun x y H Q=>Py x y H Q\/RI K x y H Q
theorem Fk{k:Nat}(hr:Room k X.A):OpR X (compareOp .Lt) (RJ X.K):=op_ltU.or (QD hr.units0)
theorem Jh:Dw X.K .sh (RJ X.K) GF:=fun U M H d e x y P Q dom vM hx hy w q=>by
 unfold GF at w
 split at w
 ·exact .inl (PU (X:=X) U M H (.int _) (.int _) x y P Q dom vM hx hy w q)
 ·exact .inl (PU (X:=X) U M H (.str _) (.str _) x y P Q dom vM hx hy w q)
 ·obtain⟨ks,ls,h1,h2,h3,w⟩:=w
  obtain⟨a,vs,rfl,ha,hs⟩:=hx.tup
  obtain⟨b,us,rfl,hb,ht⟩:=hy.tup
  have e1:=EX h1 hs
  have e2:=EX h2 ht
  subst e1 e2
  exact .inr ⟨a,b,ks,ls,rfl,rfl,ha.sq,hb.sq,h3,q _ H (.bl _) .refl rfl w⟩
 ·exact w.elim
end
end Dp
namespace L2
open PySem PySem.Spec PyProof.Rows
section
variable {prog:Program}{w:World}{A:Around}{E:Value->Shared->Prop}{s:Shared}
theorem Iu{t sl:Addr}{items:Array Value}{vl vu:Value}{lo hi:Option Int}{Q:Value->Shared->Prop}(ht:IsTup s.heap t items)(hs:s.heap.IsSliceOf sl vl vu .none)(pl:IsPart vl lo)(pu:IsPart vu hi)
  (hw:HT.sIx items.size 0 lo=0/\HT.sIx items.size items.size hi=items.size) (h:Q (.ref t) s):wpAny (model prog w) A (getItem (.ref t) (.ref sl)) Q E s:=by
 obtain⟨os,hos,hcs,hds⟩:=id hs
 have hTs:s.TypeIs (.ref sl) "slice":=⟨os,hos,hcs⟩
 unfold getItem
 (try with_reducible refine wpAny_holding ?_); (first | refine wpAny_bind (wpAny_pure ?_) | skip)
 refine wpAny_bind (wpAny_sequenceKey ht.typeIs (by decide) (wpAny_bind (wpAny_callSpecial?_slot (name:=Str.ofString "__getitem__") ht.typeIs PyProof.Rows.slot_tuple_getitem (wpAny_call_entry PyProof.Rows.slot_tuple_getitem ht.typeIs entry_tuple_getitem ?_ (args_tuple_getitem _ _)))))
 show wpAny (model prog w) _ (Builtin.Tuple.tupleItemsOf (.ref t) >>= _) _ _ s
 refine wpAny_bind (tupleItemsOf_ ht (wpAny_bind (wpAny_typeOf hTs ?_))); rw [if_pos (by decide)]
 refine wpAny_bind (HT.sliceApplied_gen hs pl pu ?_)
 have hyes:(((HT.sIx items.size 0 lo:Nat):Int)==0&&(1:Int)==1&&(HT.sIx items.size items.size hi - HT.sIx items.size 0 lo)==items.size)=true:=by rw [hw.1,hw.2]; simp
 show wpAny (model prog w) _ (if (((HT.sIx items.size 0 lo:Nat):Int)==0&&(1:Int)==1&&(HT.sIx items.size items.size hi - HT.sIx items.size 0 lo)==items.size)=true then _ else _) _ _ s
 rw [if_pos hyes]
 refine wpAny_bind (m:=Builtin.Tuple.tupleIsExact _) ?_
 unfold Builtin.Tuple.tupleIsExact
 refine wpAny_bind (wpAny_typeOf ht.typeIs (wpAny_pure ?_))
 show wpAny (model prog w) _ (if ((Value.type "tuple"==Value.type "tuple")=true) then _ else _) _ _ s
 rw [if_pos (by decide)]
 first
  | exact wpAny_bind (wpAny_rule (wpAny_bind (wpAny_pure (wpAny_pure ⟨_,rfl,wpAny_pure h⟩))))
  | exact wpAny_bind (wpAny_rule (wpAny_pure ⟨_,rfl,wpAny_pure h⟩))
  | exact wpAny_bind (wpAny_bind (wpAny_rule (wpAny_pure (wpAny_pure ⟨_,rfl,wpAny_pure h⟩))))
theorem GB{α β:Type}{f g:α->Option β}:∀{l:List α},(∀a∈l,f a=g a)->l.filterMap f=l.filterMap g
 | [],_=>rfl
 | a::l,h=>by
  have ih:=GB (f:=f) (g:=g) (l:=l) fun x hx=>h x (List.mem_cons_of_mem _ hx)
  rw [List.filterMap_cons,List.filterMap_cons,h a List.mem_cons_self,ih]
theorem Me(l:List Value):∀(n:Nat),n<=l.length->((List.range n).filterMap fun(k:Nat)=>l[n - 1 - k]?)=(l.take n).reverse:=by
 intro n
 induction n with
 | zero=>intro _; simp
 | succ n ih =>
  intro h
  have hlt:n<l.length:=h
  rw [List.range_succ_eq_map,List.filterMap_cons]
  have e0:l[n+1 - 1 - 0]?=some l[n]:=by rw [show n+1 - 1 - 0=n by omega,List.getElem?_eq_getElem hlt]
  simp only [e0]
  rw [List.filterMap_map]
  have e1:((fun(k:Nat)=>l[n+1 - 1 - k]?)∘Nat.succ)=fun(k:Nat)=>l[n - 1 - k]?:=by
   funext k
   show l[n+1 - 1 - (k+1)]?=l[n - 1 - k]?
   rw [show n+1 - 1 - (k+1)=n - 1 - k by omega]
  rw [e1,ih (by omega),List.take_add_one,List.getElem?_eq_getElem hlt,List.reverse_append]
  rfl
theorem ES(xs:Array Value):((List.range xs.size).filterMap fun(k:Nat)=>xs[(((xs.size:Int) - 1)+(k:Int)*(-1)).toNat]?).toArray=xs.toList.reverse.toArray:=by
 have h:=Me xs.toList xs.toList.length (Nat.le_refl _)
 rw [List.take_length] at h
 have e:(List.range xs.size).filterMap (fun(k:Nat)=>xs[(((xs.size:Int) - 1)+(k:Int)*(-1)).toNat]?)=(List.range xs.toList.length).filterMap fun(k:Nat)=>xs.toList[xs.toList.length - 1 - k]?:=by
  rw [show xs.toList.length=xs.size from Array.length_toList]
  refine GB fun k hk=>?_
  have hk:=List.mem_range.mp hk
  rw [show (((xs.size:Int) - 1)+(k:Int)*(-1)).toNat=xs.size - 1 - k by omega]
  simp
 rw [e,h]
theorem Jf{sl:Addr}{t:Tok}{n:Nat}{Q:Int×Int×Nat->Shared->Prop}(hs:s.heap.IsSliceOf sl .none .none (.int (-1) t))(h:Q ((n:Int) - 1,-1,n) s):wpAny (model prog w) A (Builtin.Slice.sliceApplied (.ref sl) (pure (n:Int))) Q E s:=by
 obtain⟨os,hos,hcs,hds⟩:=id hs
 unfold Builtin.Slice.sliceApplied Builtin.Slice.sliceFields
 refine wpAny_bind (wpAny_bind (wpAny_field hos hds (x:=.none) rfl (wpAny_bind (wpAny_field hos hds (x:=.none) rfl (wpAny_bind (wpAny_field hos hds (x:=.int (-1) t) rfl (wpAny_pure ?_)))))))
 refine wpAny_bind (HT.slicePart_ (IsPart.int (-1) t) ?_)
 show wpAny (model prog w) _ (if ((-1:Int)==0)=true then _ else _) _ _ s
 rw [if_neg (by decide)]
 refine wpAny_bind (HT.slicePart_ IsPart.none (wpAny_bind (HT.slicePart_ IsPart.none (wpAny_bind (wpAny_pure ?_)))))
 show wpAny (model prog w) _ (match Builtin.Slice.sliceAdjust none none (-1) (n:Int) with | (lo,hi)=>pure (lo,(-1:Int),Builtin.Slice.slicePlaces lo hi (-1))) _ _ s
 have e1:Builtin.Slice.sliceAdjust none none (-1) (n:Int)=((n:Int) - 1,-1):=rfl
 rw [e1]
 have e2:Builtin.Slice.slicePlaces ((n:Int) - 1) (-1) (-1)=n:=by
  unfold Builtin.Slice.slicePlaces
  rw [if_neg (by decide)]
  by_cases hn:(n:Int) - 1 > -1
  ·rw [if_pos hn]
   simp
  ·rw [if_neg hn]
   omega
 show wpAny (model prog w) _ (pure ((n:Int) - 1,(-1:Int),Builtin.Slice.slicePlaces ((n:Int) - 1) (-1) (-1))) _ _ s
 rw [e2]
 exact wpAny_pure h
theorem LU{t sl:Addr}{items:Array Value}{tk:Tok}{Q:Value->Shared->Prop}(ht:IsTup s.heap t items)(hs:s.heap.IsSliceOf sl .none .none (.int (-1) tk))(hsz:items.size<=sizeLine)
  (h:Q (.ref s.heap.objs.size) { s with heap:=s.heap.push { cls:=.type "tuple",data:=.seq items.toList.reverse.toArray } }):wpAny (model prog w) A (getItem (.ref t) (.ref sl)) Q E s:=by
 obtain⟨os,hos,hcs,hds⟩:=id hs
 have hTs:s.TypeIs (.ref sl) "slice":=⟨os,hos,hcs⟩
 have htake:sizeOk (.seq items.toList.reverse.toArray):=by
  show items.toList.reverse.toArray.size<=sizeLine
  simpa using hsz
 unfold getItem
 (try with_reducible refine wpAny_holding ?_); (first | refine wpAny_bind (wpAny_pure ?_) | skip)
 refine wpAny_bind (wpAny_sequenceKey ht.typeIs (by decide) (wpAny_bind (wpAny_callSpecial?_slot (name:=Str.ofString "__getitem__") ht.typeIs PyProof.Rows.slot_tuple_getitem (wpAny_call_entry PyProof.Rows.slot_tuple_getitem ht.typeIs entry_tuple_getitem ?_ (args_tuple_getitem _ _)))))
 show wpAny (model prog w) _ (Builtin.Tuple.tupleItemsOf (.ref t) >>= _) _ _ s
 refine wpAny_bind (tupleItemsOf_ ht (wpAny_bind (wpAny_typeOf hTs ?_))); rw [if_pos (by decide)]
 refine wpAny_bind (Jf hs ?_)
 have hno:¬(((items.size:Int) - 1==0&&(-1:Int)==1&&items.size==items.size)=true):=by simp
 show wpAny (model prog w) _ (if ((items.size:Int) - 1==0&&(-1:Int)==1&&items.size==items.size)=true then _ else _) _ _ s
 rw [if_neg hno,ES]
 first
  | exact wpAny_bind (m:=Builtin.Tuple.tupleExact _) (wpAny_newObj_type (wpAny_pure ⟨_,rfl,wpAny_pure h⟩) htake)
  | exact wpAny_bind (m:=Builtin.Tuple.tupleExact _) (wpAny_newObj_type (wpAny_bind (wpAny_pure (wpAny_pure ⟨_,rfl,wpAny_pure h⟩))) htake)
  | exact wpAny_bind (wpAny_bind (m:=Builtin.Tuple.tupleExact _) (wpAny_newObj_type (wpAny_pure (wpAny_pure ⟨_,rfl,wpAny_pure h⟩)) htake))
  | exact wpAny_bind (wpAny_bind (m:=Builtin.Tuple.tupleExact _) (wpAny_newObj_type (wpAny_pure ⟨_,rfl,wpAny_pure h⟩) htake))
theorem Gy(items:Array Value):slicePick items none none (some (-1))=items.toList.reverse.toArray:=by
 unfold slicePick
 have e1:sliceBounds none none (some (-1)) items.size=((items.size:Int) - 1,-1,-1):=rfl
 rw [e1]
 simp only [sliceRange]
 rw [← ES,List.filterMap_map]
 congr 1
 have e2:(if (-1:Int) > 0 then if (items.size:Int) - 1 < -1 then (-1 - ((items.size:Int) - 1)+-1 - 1) / -1 else 0 else if (items.size:Int) - 1 > -1 then ((items.size:Int) - 1 - -1 - -1 - 1) / - -1 else 0).toNat=items.size:=by
  rw [if_neg (by decide)]
  by_cases hn:(items.size:Int) - 1 > -1
  ·rw [if_pos hn]
   have:- -1=(1:Int):=rfl
   rw [this,Int.ediv_one]
   omega
  ·rw [if_neg hn]
   omega
 rw [e2]
 refine GB fun k _=>?_
 show items[((items.size:Int) - 1+-1*(k:Int)).toNat]?=items[((items.size:Int) - 1+(k:Int)*(-1)).toNat]?
 rw [Int.mul_comm]
end
section
variable {X:Cx}{e st:Expr}{te tst:TE}{pos p2:Pos}
def Sb(K:Frag):V->Hp->VK->Prop:=fun x H Q=>(∃a xs,x=.ref a/\SqL K H a xs/\∀p,H p=none->Q (.ref p) (A_ H p (.lst xs.reverse)))\/∃a xs,x=.ref a/\SqT K H a xs/\∀p,H p=none->Q (.ref p) (A_ H p (.tup xs.reverse))
def SW(K:Frag)(te tst:TE):TE:=fun σ H Q=>te σ H fun x H1=>tst σ H1 fun i H2=>i=.int (-1)/\Sb K x H2 Q
theorem P8(he:PE X e te)(hst:PE X st tst):PE X (.Subscript e (.Slice none none (some st) p2) pos) (SW X.K te tst):=by
 intro pins s σ H Q I h
 refine Subscript_ (BL (he pins s σ H _ I h) fun v s1 ⟨x,H1,I1,r1,q1⟩=>?_)
 refine wpAny_Slice ?_
 rw [evalPart_none,evalPart_some]
 refine wpAny_pure (wpAny_pure (BL (hst pins s1 σ H1 _ I1 q1) fun vs s3 ⟨i,H3,I3,r3,q3⟩=>?_))
 obtain⟨rfl,q3⟩:=q3
 obtain⟨t,rfl⟩:=r3
 have I4:Inv X pins σ H3 { s3 with heap:=s3.heap.push { cls:=.type "slice",data:=.fields #[.none,.none,.int (-1) t] } }:=I3.kept (t':=s3.toks) fun b ob q=>Heap.get?_push_of_some _ q
 have hs:({ s3 with heap:=s3.heap.push { cls:=.type "slice",data:=.fields #[.none,.none,.int (-1) t] } }:Shared).heap.IsSliceOf s3.heap.objs.size .none .none (.int (-1) t):=Heap.IsSliceOf.new ..
 show wpAny (model X.prog X.w) X.A (subscriptTail e (.Slice none none (some st) p2) v (.ref s3.heap.objs.size)) (EP X pins σ Q) X.xe { s3 with heap:=s3.heap.push { cls:=.type "slice",data:=.fields #[.none,.none,.int (-1) t] } }
 rcases q3 with ⟨a,xs,rfl,hq,q⟩ | ⟨a,xs,rfl,hq,q⟩
 ·cases r1
  obtain⟨its,r,ht,hz⟩:=I4.list hq
  have hlen:=r.length
  refine tail_any (ops:=[.ref a,.ref s3.heap.objs.size]) ht.isList.typeIs slot_list_getitem.lookup ?_ (by with_unfolding_all rfl)
  refine wpAny_getItem_list_slice ht.isList hs .none .none (.int (-1) t) (by decide) ?_ (by rw [List.size_toArray]; omega)
  rw [Gy]
  refine⟨.ref _,_,I4.laid (t':=s3.toks) (o:=.lst xs.reverse) (fun b ob q=>Heap.get?_push_of_some _ q) (Nat.le_refl _) ?_,rfl,q _ (I4.hok.fresh (Nat.le_refl _))⟩
  exact⟨by rw [List.length_reverse]; exact hz,_,0,r.reverse,Heap.get?_push_size _ rfl⟩
 ·cases r1
  obtain⟨its,r,ht,hz⟩:=I4.tuple hq
  have hlen:=r.length
  refine tail_any (ops:=[.ref a,.ref s3.heap.objs.size]) ht.typeIs PyProof.Rows.slot_tuple_getitem.lookup ?_ (by with_unfolding_all rfl)
  refine LU ht hs (by rw [List.size_toArray]; omega) ?_
  refine⟨.ref _,_,I4.laid (t':=s3.toks) (o:=.tup xs.reverse) (fun b ob q=>Heap.get?_push_of_some _ q) (Nat.le_refl _) ?_,rfl,q _ (I4.hok.fresh (Nat.le_refl _))⟩
  exact⟨by rw [List.length_reverse]; exact hz,_,r.reverse,IsTupN.new _ _⟩
def Oz(K:Frag):V->Option Int->Option Int->Hp->VK->Prop:=fun x lo hi H Q=>∃a xs,x=.ref a/\SqT K H a xs/\(HT.sIx xs.length 0 lo=0/\HT.sIx xs.length xs.length hi=xs.length)/\Q (.ref a) H
theorem N9:SlR X (Oz X.K):=by
 intro pins s σ H x v vl vu lo hi sl Q I rx hs pl pu h
 obtain⟨a,xs,rfl,hx,hw,q⟩:=h
 cases rx
 obtain⟨its,r,ht,hz⟩:=I.tuple hx
 have hlen:its.toArray.size=xs.length:=by rw [List.size_toArray]; exact r.length.symm
 exact⟨"tuple",_,PyProof.Rows.slot_tuple_getitem.lookup,ht.typeIs,Iu ht hs pl pu (by rw [hlen]; exact hw) ⟨.ref a,H,I,rfl,q⟩⟩
end
section
variable {X:Cx}
def Ml(K:Frag):R2:=fun x y H Q=>∃a b ys,x=.ref a/\y=.ref b/\SqT K H a []/\SqT K H b ys/\Q (.ref b) H
theorem NA:OpR X (binaryOp .Add) (Ml X.K):=by
 intro pins s σ H x y v u Q I rx ry h
 obtain⟨a,b,ys,rfl,rfl,ha,hb,q⟩:=h
 cases rx
 cases ry
 obtain⟨its,r1,p1,_⟩:=I.tuple ha
 obtain⟨its2,r2,p2,_⟩:=I.tuple hb
 cases r1
 obtain⟨⟨cls,dd,data,sl⟩,ho,hc,n,hd⟩:=id p1
 obtain⟨⟨cls2,dd2,data2,sl2⟩,ho2,hc2,n2,hd2⟩:=id p2
 simp only at hc hd hc2 hd2
 subst hc hd hc2 hd2
 exact concat_meets ⟨_,ho,rfl⟩ ⟨_,ho2,rfl⟩ noFill_tuple_add seq_tuple_add PySem.F.slot_tuple_add PySem.F.entry_tuple_add (PySem.F.args_tuple_add_2 _ _) (tuple_addW0 a b _ its2.toArray n n2 dd dd2 sl sl2 (by simp)) ⟨ho,ho2,⟨.ref b,H,I,rfl,q⟩⟩
def bI(b:Bool):Int:=if b=true then 1 else 0
def SG(g:Int->Int->Int):R2:=fun x y H Q=>∃k j,x=.bl k/\y=.int j/\Q (.int (g (bI k) j)) H
def S9(g:Int->Int->Int):R2:=fun x y H Q=>∃i k,x=.int i/\y=.bl k/\Q (.int (g i (bI k))) H
theorem op_add_bi:OpR X (binaryOp .Add) (SG fun i j=>i+j):=by
 intro pins s σ H x y v u Q I rx ry h
 obtain⟨k,j,rfl,rfl,q⟩:=h
 cases rx
 obtain⟨t,rfl⟩:=ry
 exact PySem.IntBool.add_bool_int ⟨.int _,H,I.tok _,⟨_,rfl⟩,q⟩
theorem op_sub_bi:OpR X (binaryOp .Sub) (SG fun i j=>i - j):=by
 intro pins s σ H x y v u Q I rx ry h
 obtain⟨k,j,rfl,rfl,q⟩:=h
 cases rx
 obtain⟨t,rfl⟩:=ry
 exact PySem.IntBool.sub_bool_int ⟨.int _,H,I.tok _,⟨_,rfl⟩,q⟩
theorem Lh:OpR X (binaryOp .Sub) (S9 fun i j=>i - j):=by
 intro pins s σ H x y v u Q I rx ry h
 obtain⟨i,k,rfl,rfl,q⟩:=h
 obtain⟨t,rfl⟩:=rx
 cases ry
 exact PySem.IntBool.sub_int_bool ⟨.int _,H,I.tok _,⟨_,rfl⟩,q⟩
def P0(neg:Bool):R2:=fun x y H Q=>∃a b,x=.bl a/\y=.bl b/\Q (.bl (if neg then !(a==b) else a==b)) H
theorem QE:OpR X (compareOp .Is) (P0 false):=by
 intro pins s σ H x y v u Q I rx ry h
 obtain⟨a,b,rfl,rfl,q⟩:=h
 cases rx
 cases ry
 exact is_bool ⟨.bl _,H,I,rfl,q⟩
theorem Ll:OpR X (compareOp .IsNot) (P0 true):=by
 intro pins s σ H x y v u Q I rx ry h
 obtain⟨a,b,rfl,rfl,q⟩:=h
 cases rx
 cases ry
 exact isnot_bool ⟨.bl _,H,I,rfl,q⟩
def Oy:List V->Hp->VK->Prop:=fun xs H Q=>(∃i,xs=[.int i]/\i.natAbs.log2<1920/\Q (.str (toString i)) H)\/∃b,xs=[.bl b]/\Q (.str (if b then "True" else "False")) H
theorem MJ:CD X (.type "str") Oy:=by
 intro pins s σ H xs us Q I r h
 rcases h with h | ⟨b,rfl,q⟩
 ·exact IW pins s σ H xs us Q I r h
 ·obtain⟨u,rfl,rx⟩:=vals1 r
  cases rx
  exact PySem.P.str_of_bool ⟨.str _,H,I.tok _,⟨_,rfl⟩,q⟩
theorem MU:∀{Ts:List String} {its:List Value},Vals (Ts.map V.ty) its->its=Ts.map Value.type
 | [],its,rv=>by cases rv; rfl
 | T::r,its,rv=>by
  rw [List.map_cons] at rv
  cases rv with
  | cons r1 r2 =>
   rw [List.map_cons,← MU r2]
   congr 1
theorem IX:CD X (.builtin "isinstance") (fun xs H Q=>∃(x:V) (t:String) (p:Addr) (Ts:List String) (b:Bool),xs=[x,.ref p]/\Dy X.K H x (.type t)/\t∈["NoneType","bool","int","str","tuple","list"]/\H p=some (.tup (Ts.map V.ty))/\PySem.W.kitAny X.K (.type t) (Ts.map Value.type)=some b/\Q (.bl b) H):=by
 intro pins s σ H xs us Q I r h
 obtain⟨x,t,p,Ts,b,rfl,ty,ht,hp,e,q⟩:=h
 obtain⟨u,w',rfl,rx,rt⟩:=vals2 r
 cases rt
 obtain⟨_,its,rv,⟨⟨cls,dd,data,sl⟩,ho,hc,n,hd,_⟩⟩:=(show ObjOk X.prog X.w H s.heap p (.tup (Ts.map V.ty)) from I.hok p _ hp)
 simp only at hc hd
 subst hc hd
 have ev:its=Ts.map Value.type:=MU rv
 subst ev
 have fin:∀tk,EP X pins σ Q (.bool b) { s with toks:=tk }:=fun tk=>⟨.bl b,H,I.tok _,rfl,q⟩
 cases ty with
 | non=>cases (show u=Value.none from rx); exact PySem.W.kia_tup PySem.W.kitx_none I.kIn True.intro ho e (fun z=>nomatch z) fin
 | bl y=>cases (show u=Value.bool y from rx); exact PySem.W.kia_tup PySem.W.kitx_bool I.kIn True.intro ho e (fun z=>nomatch z) fin
 | int i=>obtain⟨t,q⟩:=(show ∃t,u=Value.int i t from rx); cases q; exact PySem.W.kia_tup PySem.W.kitx_int I.kIn True.intro ho e (fun z=>nomatch z) fin
 | str y=>obtain⟨t,q⟩:=(show ∃t,u=Value.str y t from rx); cases q; exact PySem.W.kia_tup PySem.W.kitx_str I.kIn True.intro ho e (fun z=>nomatch z) fin
 | flt y=>simp at ht
 | @lst a xs ea =>
  cases (show u=Value.ref a from rx)
  obtain⟨_,_,n,_,h1⟩:=(show ObjOk X.prog X.w H s.heap a (.lst xs) from I.hok a _ ea)
  exact PySem.W.kia_tup PySem.W.kitx_list I.kIn ⟨_,h1,rfl⟩ ho e (fun z=>nomatch z) fin
 | @frz a ob xs ea =>
  cases (show u=Value.ref a from rx)
  obtain⟨_,_,_,n,_,h1⟩:=(show ObjOk X.prog X.w H s.heap a (.frz ob (.lst xs)) from I.hok a _ ea)
  exact PySem.W.kia_tup PySem.W.kitx_list I.kIn ⟨_,h1,rfl⟩ ho e (fun z=>nomatch z) fin
 | @tup a xs ea =>
  cases (show u=Value.ref a from rx)
  obtain⟨_,_,_,p⟩:=(show ObjOk X.prog X.w H s.heap a (.tup xs) from I.hok a _ ea)
  obtain⟨o,h1,h2,_⟩:=p
  exact PySem.W.kia_tup PySem.W.kitx_tuple I.kIn ⟨o,h1,h2⟩ ho e (fun z=>nomatch z) fin
 | dK ea=>simp at ht
 | dF ea=>simp at ht
 | dT ea=>simp at ht
end
end L2
namespace Dp
open PySem PySem.Spec PyProof.Rows L2
section
variable {K:Frag}{X:Cx}
def Ae(d e:D)(P:D->Prop):Prop:=match d,e with
 | .int i,.int j=>P (.int (i+j))
 | .bl k,.int j=>P (.int (bI k+j))
 | .str i,.str j=>i.length+j.length<=sizeLine/\P (.str (i++j))
 | .tup i,.tup j=>i.length+j.length<=sizeLine/\P (.tup (i++j))
 | .lst i,.lst j=>i.length+j.length<=sizeLine/\P (.lst (i++j))
 | _,_=>False
def O9(K:Frag):R2:=fun x y H Q=>Mn K x y H Q\/(SG fun i j=>i+j) x y H Q\/Ml K x y H Q
theorem AW:OpR X (binaryOp .Add) (O9 X.K):=op_addU.or (op_add_bi.or NA)
theorem Ag:Dw X.K .sh (O9 X.K) Ae:=fun U M H d e x y P Q dom vM hx hy w q=>by
 unfold Ae at w
 split at w
 ·exact .inl (Id (X:=X) U M H (.int _) (.int _) x y P Q dom vM hx hy w q)
 ·rename_i k j
  exact .inr (.inl ⟨k,j,hx,hy,q _ H (.int _) .refl rfl w⟩)
 ·exact .inl (Id (X:=X) U M H (.str _) (.str _) x y P Q dom vM hx hy w q)
 ·rename_i i j
  cases i with
  | nil =>
   obtain⟨a,vs,rfl,ha,hs⟩:=hx.tup
   obtain⟨b,us,rfl,hb,ht⟩:=hy.tup
   cases (show vs=[] from hs)
   exact .inr (.inr ⟨a,b,us,rfl,rfl,ha.sq,hb.sq,q _ H (.tup j) .refl ⟨b,us,rfl,hb,ht⟩ (by have:=w.2; rw [List.nil_append] at this; exact this)⟩)
  | cons i0 i=>exact .inl (Id (X:=X) U M H (.tup (i0::i)) (.tup j) x y P Q dom vM hx hy ⟨(by intro z; cases z),w⟩ q)
 ·exact .inl (Id (X:=X) U M H (.lst _) (.lst _) x y P Q dom vM hx hy w q)
 ·exact w.elim
def C1(d e:D)(P:D->Prop):Prop:=match d,e with
 | .int i,.int j=>P (.int (i - j))
 | .bl k,.int j=>P (.int (bI k - j))
 | .int i,.bl k=>P (.int (i - bI k))
 | _,_=>False
def Ow:R2:=fun x y H Q=>(FA fun i j=>.int (i - j)) x y H Q\/(SG fun i j=>i - j) x y H Q\/(S9 fun i j=>i - j) x y H Q
theorem B_:OpR X (binaryOp .Sub) Ow:=op_sub.or (op_sub_bi.or Lh)
theorem Cv:Dw K .sh Ow C1:=fun U M H d e x y P Q dom vM hx hy w q=>by
 unfold C1 at w
 split at w
 ·exact .inl (Nn (K:=K) (g:=fun i j=>i - j) U M H (.int _) (.int _) x y P Q dom vM hx hy w q)
 ·rename_i k j
  exact .inr (.inl ⟨k,j,hx,hy,q _ H (.int _) .refl rfl w⟩)
 ·rename_i i k
  exact .inr (.inr ⟨i,k,hx,hy,q _ H (.int _) .refl rfl w⟩)
 ·exact w.elim
def OV(neg:Bool)(d e:D)(P:D->Prop):Prop:=match d,e with
 | .bl a,.bl b=>P (.bl (if neg then !(a==b) else a==b))
 | _,_=>False
theorem PV{neg:Bool}:Dw K .sh (P0 neg) (OV neg):=fun U M H d e x y P Q dom vM hx hy w q=>by
 unfold OV at w
 split at w
 ·rename_i a b
  exact⟨a,b,hx,hy,q _ H (.bl _) .refl rfl w⟩
 ·exact w.elim
def NT(ds:List D)(P:D->Prop):Prop:=match ds with
 | [.int i]=>i.natAbs.log2<1920/\(Str.ofString (toString i)).length<=sizeLine/\P (.str (toString i))
 | [.bl b]=>P (.str (if b then "True" else "False"))
 | _=>False
theorem Qi:C3 K .sh Oy NT:=by
 intro U M H ds vs P Q dom vM hp w q
 unfold NT at w
 split at w
 ·rename_i i
  obtain⟨v,rfl,hx⟩:=Cz hp
  rw [hx.int]
  exact .inl ⟨i,rfl,w.1,q _ H (.str _) .refl ⟨rfl,w.2.1⟩ w.2.2⟩
 ·rename_i b
  obtain⟨v,rfl,hx⟩:=Cz hp
  rw [hx.bl]
  refine .inr ⟨b,rfl,q _ H (.str _) .refl ⟨rfl,?_⟩ w⟩
  cases b <;> (rw [sizeLine_eq]; decide)
 ·exact w.elim
def C5(d:D)(lo hi:Option Int)(P:D->Prop):Prop:=match d with
 | .str z=>P (.str (Txt.slice z lo hi))
 | .lst xs=>P (.lst (cutD xs lo hi))
 | .tup xs=>P (.tup (cutD xs lo hi))
 | _=>False
def RH(K:Frag):V->Option Int->Option Int->Hp->VK->Prop:=fun x lo hi H Q=>RE x lo hi H Q\/RG K x lo hi H Q\/RF K x lo hi H Q\/Oz K x lo hi H Q
theorem Dx:SlR X (RH X.K):=sl_U.or (sl_list.or (sl_tup.or N9))
theorem LG{M:Addr->Prop}{H:Hp}{ds:List D}{vs:List V}(lo hi:Option Int)(h:Ats K M H ds vs):Ats K M H (cutD ds lo hi) (G1 vs lo hi):=by
 unfold cutD G1
 rw [h.length]
 exact(h.drop _).take _
theorem CY:TC K .sh (RH K) C5:=by
 intro U M H d x lo hi P Q dom vM hx w q
 unfold C5 at w
 split at w
 ·rename_i z
  exact .inl ⟨z,hx.str.1,hx.str.2,q _ H (.str (Txt.slice z lo hi)) .refl ⟨rfl,Nat.le_trans (Txt.slice_le z lo hi) hx.str.2⟩ w⟩
 ·rename_i xs
  obtain⟨a,vs,rfl,_,ha,hs⟩:=hx
  exact .inr (.inl ⟨a,vs,rfl,.inl ha,fun p hp=>q _ _ (.lst _) (Av hp) ((DA (U:=U) hp (LG lo hi hs)).shOf dom (by intro z; cases z)) w⟩)
 ·rename_i xs
  obtain⟨a,vs,rfl,ha,hs⟩:=hx.tup
  by_cases hw:HT.sIx vs.length 0 lo=0/\HT.sIx vs.length vs.length hi=vs.length
  ·refine .inr (.inr (.inr ⟨a,vs,rfl,ha.sq,hw,?_⟩))
   have e:cutD xs lo hi=xs:=by
    unfold cutD
    rw [← hs.length,hw.1,hw.2,List.drop_zero,Nat.sub_zero,hs.length,List.take_length]
   rw [e] at w
   exact q _ H (.tup xs) .refl ⟨a,vs,rfl,ha,hs⟩ w
  ·exact .inr (.inr (.inl ⟨a,vs,rfl,ha.sq,hw,fun p hp=>q _ _ (.tup _) (Av hp) (Dh dom hp (LG lo hi hs)) w⟩))
 ·exact w.elim
def Q0(wa wst:DW):DW:=fun n ρ P=>wa n ρ fun d n1=>wst n1 ρ fun i n2=>i=.int (-1)/\match d with
 | .lst xs=>P (.lst xs.reverse) n2
 | .tup xs=>P (.tup xs.reverse) n2
 | _=>False
theorem QZ{a st:Expr}{κa κs:Kd}{wa wst:DW}{pos p2:Pos}(ha:DE X a κa wa)(hst:DE X st κs wst):DE X (.Subscript a (.Slice none none (some st) p2) pos) .sh (Q0 wa wst):=by
 obtain⟨t,h1,h2⟩:=ha
 obtain⟨u,g1,g2⟩:=hst
 refine⟨_,P8 h1 g1,fun C M H n ρ σ P Q R w q=>?_⟩
 refine h2 C M H n ρ σ _ _ R w fun v H1 d n1 e1 f1 r1 p=>?_
 have R1:=R.step e1 f1
 have tv:=r1.tpOf R.dom R.vM
 refine g2 C M H1 n1 ρ σ _ _ R1 p fun i H2 z n2 e2 f2 r2 p2=>?_
 have R2':=R1.step e2 f2
 have tv2:=tv.pres (R1.pres e2) e2 R.uV
 obtain⟨rfl,p2⟩:=p2
 refine⟨J_ r2,?_⟩
 cases d with
 | lst xs =>
  obtain⟨a,vs,rfl,_,ha,hs⟩:=tv2
  refine .inl ⟨a,vs,rfl,.inl ha,fun p hp=>?_⟩
  have g:Grow H2 (A_ H2 p (.lst vs.reverse)):=Av hp
  exact q _ _ (.lst xs.reverse) n2 ((e1.trans e2).trans g.ext) (f2.grow g) ((DA (U:=C.V) hp hs.reverse).shOf R2'.dom (by intro z; cases z)) p2
 | tup xs =>
  obtain⟨a,vs,rfl,ha,hs⟩:=tv2.tup
  refine .inr ⟨a,vs,rfl,ha.sq,fun p hp=>?_⟩
  have g:Grow H2 (A_ H2 p (.tup vs.reverse)):=Av hp
  exact q _ _ (.tup xs.reverse) n2 ((e1.trans e2).trans g.ext) (f2.grow g) (Dh R2'.dom hp hs.reverse) p2
 | _=>exact p2.elim
def P5(d:D):Prop:=match d with
 | .dic _ _=>False
 | .fdi _ _=>False
 | _=>True
def MR(T1 T2:String)(wa:DW):DW:=fun n ρ P=>wa n ρ fun d n1=>P5 d/\P (.bl (IC (Ny d) T1||IC (Ny d) T2)) n1
theorem L3{T1 T2 t:String}(k1:Ih K T1)(k2:Ih K T2)(ht:t∈["NoneType","bool","int","str","tuple","list","dict"]):PySem.W.kitAny K (.type t) [.type T1,.type T2]=some (IC t T1||IC t T2):=by
 unfold PySem.W.kitAny
 rw [k1.ans t ht]
 cases IC t T1 with
 | true=>rfl
 | false =>
  show PySem.W.kitAny K (.type t) [.type T2]=_
  unfold PySem.W.kitAny
  rw [k2.ans t ht]
  cases IC t T2 <;> rfl
theorem IQ{a:Expr}{κ:Kd}{wa:DW}{T1 T2:String}{N1 N2:Str}{j:Nat}{p p1 p2 p3 pos:Pos}(k1:Ih X.K T1)(k2:Ih X.K T2)(ha:DE X a κ wa)(hg:Gl X "isinstance")(hm:X.mg "isinstance"=none)(hg1:Gl X N1)(hm1:X.mg N1=none)(hv1:bootBuiltins N1=some (.type T1))
  (hg2:Gl X N2) (hm2:X.mg N2=none) (hv2:bootBuiltins N2=some (.type T2))
  (hn1:N1 ≠ "__name__":=by decide) (hd1:(N1==("__debug__" : Str))=false:=by decide) (hn2:N2 ≠ "__name__":=by decide) (hd2:(N2==("__debug__" : Str))=false:=by decide)
  (he:starEach [a,.Tuple [.Name N1 p1,.Name N2 p2] j p3] X.env=(false,eval a X.env)::starEach [.Tuple [.Name N1 p1,.Name N2 p2] j p3] X.env:=by rfl)
  (he2:starEach [.Tuple [.Name N1 p1,.Name N2 p2] j p3] X.env=[(false,eval (.Tuple [.Name N1 p1,.Name N2 p2] j p3) X.env)]:=by rfl)
  (ht1:starEach [.Name N1 p1,.Name N2 p2] X.env=(false,eval (.Name N1 p1) X.env)::starEach [.Name N2 p2] X.env:=by rfl) (ht2:starEach [.Name N2 p2] X.env=[(false,eval (.Name N2 p2) X.env)]:=by rfl)
  (hpl:(backTo pos (starEach [.Tuple [.Name N1 p1,.Name N2 p2] j p3] X.env)).any (·.1)=false:=by rfl):DE X (.Call (.Name "isinstance" p) [a,.Tuple [.Name N1 p1,.Name N2 p2] j p3] [] pos) .sh (MR T1 T2 wa):=by
 obtain⟨t,h1,h2⟩:=ha
 have pT1:PE X (.Name N1 p1) (tC (.ty T1)):=Ht hg1 hm1 hv1 (v:=.ty T1) rfl hn1 hd1
 have pT2:PE X (.Name N2 p2) (tC (.ty T2)):=Ht hg2 hm2 hv2 (v:=.ty T2) rfl hn2 hd2
 refine⟨_,Dc IX hg hm (by decide +kernel) (BN h1 (BN (M6 (BN pT1 (BN pT2 CS ht2) ht1)) CS he2) he) (by decide) (by decide) he hpl,fun C M H n ρ σ P Q R w q=>?_⟩
 refine h2 C M H n ρ σ _ _ R w fun v H1 d n1 e1 f1 r1 p=>?_
 refine⟨(by decide:2<=sizeLine),fun tp htp=>?_⟩
 have R1:=R.step e1 f1
 have g:Grow H1 (A_ H1 tp (.tup [.ty T1,.ty T2])):=Av htp
 have tv:AtT X.K C.V M (A_ H1 tp (.tup [.ty T1,.ty T2])) d v:=(r1.tpOf R.dom R.vM).pres g.pres (g.ext (U:=C.U)) R.uV
 obtain⟨hk,p⟩:=p
 have hmem:Ny d∈["NoneType","bool","int","str","tuple","list"]:=by cases d <;> first | exact hk.elim | simp [Ny]
 refine⟨v,Ny d,tp,[T1,T2],_,rfl,KU tv,hmem,AX,L3 k1 k2 (KW d),?_⟩
 exact q _ _ (.bl _) n1 (e1.trans g.ext) (f1.grow g) rfl p
def PM:D->D->(D->Prop)->Prop:=SK fun i j P=>i.length+j.length<=sizeLine/\P (.lst (i++j))
end
end Dp
namespace Nt
open PySem PySem.Spec PyProof.Rows L2 Dp
def Ax:W2:=fun ss n P=>∃m:Int,ss=[.fd,.sh (.int m)]/\1<=m/\m<1073741824/\1<=n/\∀r:Int,0<=r->r<m->P (.int r) (n - 1)
def Jj:W2:=fun ss n P=>∃s:Int,ss=[.fd,.sh (.int s)]/\1<=n/\∀r:Int,1<=r->r<=1000000->P (.int r) (n - 1)
def D9:Ak:=(Aa (B9 (Al (AT (G0 false) (AC 1) (wC (D.int 0)))) (Ba (AT Ae (wC (D.int 1)) (AY Ax (AF (Ap 0) (AF (AN (wC (D.int 3))) AZ))))) BO)
 (Aa (B9 (Al (AT (G0 false) (AC 1) (wC (D.int 1)))) (Ba (AT Ae (wC (D.int 1)) (AY Ax (AF (Ap 0) (AF (AN (wC (D.int 12))) AZ))))) BO)
 (Ba (SD (Al (AT (G0 false) (AC 1) (wC (D.int 2)))) (AT C1 (AT (II Ep fun i j=>D.int (i ^ j.toNat)) (wC (D.int 10)) (wC (D.int 6))) (AY Ax (AF (Ap 0) (AF (AN (wC (D.int 5))) AZ)))) (AT Ae (wC (D.int 1)) (AY Ax (AF (Ap 0) (AF (AN (AT (II Ep fun i j=>D.int (i ^ j.toNat)) (wC (D.int 10)) (wC (D.int 6)))) AZ))))))))
def D8:Ak:=(Aa (Az 2 (AY Ax (AF (Ap 0) (AF (AN (wC (D.int 3))) AZ))))
 (Aa (Az 3 (C9 (AD (wC (D.str "a")) (AD (wC (D.str "aa")) (AD (wC (D.str "ab")) (AD (wC (D.str "b")) (AD (wC (D.str "far")) (AD (wC (D.str "in")) (AD (wC (D.str "near")) (AD (wC (D.str "out")) (AD (wC (D.str "place")) (AD (wC (D.str "tie")) (AD (wC (D.str "ties")) (AD (wC (D.str "way")) AQ))))))))))))))
 (Aa (B9 (Ip (Al (AT (G0 false) (AC 2) (wC (D.int 0)))) (Al (AT GF (AC 1) (wC (D.int 13))))) (Aa (Az 4 (AY Ax (AF (Ap 0) (AF (AN (wC (D.int 12))) AZ))))
 (Ba (Cj GD (AD (CO [some 3,some 4,none] (DM (AD (AC 1) AQ)) (Ai 2) CZ (AT CK (AC 0) (AT (II (fun _ j=>0<j) fun i j=>D.int (i % j)) (AT Ae (AC 1) (AC 2)) (wC (D.int 12))))) AQ)))) BO)
 (Aa (Az 5 (wC (D.str "abcdefghijklmnopqrstuvwxyz")))
 (Aa (Az 6 (SR "str" NU (wC (D.str "")) (AD (CO [some 5,some 0,none] (DM (AD (wC (D.int 8)) AQ)) (Ai 2) CZ (AT CK (AC 0) (AY Ax (AF (Ap 1) (AF (AN (wC (D.int 26))) AZ))))) AQ)))
 (Aa (B9 (Ip (Al (AT (G0 false) (AC 2) (wC (D.int 1)))) (Al (AT GF (AC 1) (wC (D.int 9))))) (Ba (CO [some 6,none] (DM (AD (AC 1) AQ)) (Ai 1) CZ (G6 C5 (AC 0) BK (Bb (AT Ae (wC (D.int 1)) (AC 1)))))) BO)
 (Aa (Az 7 (AY Ax (AF (Ap 0) (AF (AN (wC (D.int 7))) AZ))))
 (Aa (Az 4 (AY Ax (AF (Ap 0) (AF (AN (wC (D.int 26))) AZ))))
 (Aa (DV 8 (C9 AQ))
 (Aa (Er (DM (AD (AC 1) AQ)) (Ai 9) (Aa (Az 10 (AT CK (AC 5) (AT (II (fun _ j=>0<j) fun i j=>D.int (i % j)) (AT Ae (AC 4) (AC 9)) (wC (D.int 26)))))
 (N0 8 "list" JU (AD (AT Ae (AT Ae (AT Ae (G6 C5 (AC 6) BK (Bb (AC 7))) (AC 10)) (G6 C5 (AC 6) (Bb (AT Ae (AC 7) (wC (D.int 1)))) (Bb (wC (D.int 7))))) (AT HJ (wC (D.str "z")) (AT (II (fun _ j=>0<j) fun i j=>D.int (i % j)) (AC 9) (wC (D.int 2))))) AQ))))
 (Ba (Cj GD (AD (A1 8) AQ)))))))))))))
def cs(x:Str):List Nat:=x.cps.toList
theorem C7(x:Str):(cs x).length=x.length:=Array.length_toList
theorem Qe{x y:Str}(h:cs x=cs y):x=y:=by
 obtain⟨a⟩:=x
 obtain⟨b⟩:=y
 unfold cs at h
 exact congrArg Str.mk (Array.ext' h)
theorem GO(x y:Str):cs (x++y)=cs x++cs y:=PySem.W.KT.app_list x y
theorem PQ{x:Str}{j:Int}(h0:0<=j)(h1:j<=(x.length:Int)):cs (Txt.slice x none (some j))=(cs x).take j.toNat:=by
 have e:(x.cps.toList.length:Int)=(x.length:Int):=by rw [show x.cps.toList.length=x.length from C7 x]
 have h:=eq_of_beq (slice_closes_to (x:=x) (j:=j) ⟨h0,by omega⟩)
 rw [h]
 show ((x.cps.toList.drop (0:Int).toNat).take (j - 0).toNat)=(x.cps.toList).take j.toNat
 rw [Int.sub_zero]
 rfl
theorem Qd{x:Str}{i j:Int}(h0:0<=i)(h1:i<=j)(h2:j<=(x.length:Int)):cs (Txt.slice x (some i) (some j))=((cs x).drop i.toNat).take (j - i).toNat:=by
 have e:(x.cps.toList.length:Int)=(x.length:Int):=by rw [show x.cps.toList.length=x.length from C7 x]
 have h:=eq_of_beq (slice_closes (x:=x) (i:=i) (j:=j) ⟨h0,h1,by omega⟩)
 rw [h]
 rfl
def OP(x:Str):Prop:=1<=x.length/\x.length<=8/\∀c∈cs x,97<=c/\c<=122
def rising(xs:List Str):Prop:=xs.Pairwise fun x y=>cs x<cs y
theorem ND(a b:List Nat):ltCps a b=decide (a<b):=ltCps_eq a b
theorem FC:∀(l:List Str) (p:Str),risingS p l=true->(p::l).Pairwise fun a b=>¬cs b<cs a
 | [],p,_=>List.pairwise_singleton _ _
 | x::r,p,h=>by
  have h':(!ltCps x.cps.toList p.cps.toList&&risingS x r)=true:=h
  rw [Bool.and_eq_true,Bool.not_eq_true',ND,decide_eq_false_iff_not] at h'
  have ih:=FC r x h'.2
  refine List.pairwise_cons.mpr ⟨fun y hy=>?_,ih⟩
  rcases List.mem_cons.mp hy with rfl | hy
  ·exact h'.1
  ·have h2:=(List.pairwise_cons.mp ih).1 y hy
   exact List.le_trans (l₁:=cs p) (l₂:=cs x) (l₃:=cs y) h'.1 h2
theorem D1{l:List Str}(h:sortedS l=true)(nd:l.Nodup):rising l:=by
 have hp:l.Pairwise fun a b=>¬cs b<cs a:=by
  cases l with
  | nil=>exact List.Pairwise.nil
  | cons x r=>exact FC r x h
 refine(hp.and nd).imp fun {a b} ⟨h1,h2⟩=>?_
 exact Classical.byContradiction fun h3=>h2 (Qe (List.le_antisymm (as:=cs a) (bs:=cs b) h1 h3))
theorem KY:∀(l:List Nat) (i j:Nat),i<j->i<l.length->l.take i<l.take j
 | [],_,_,_,h=>absurd h (Nat.not_lt_zero _)
 | c::r,0,j+1,_,_=>List.nil_lt_cons _ _
 | c::r,i+1,j+1,h1,h2=>by
  rw [List.take_succ_cons,List.take_succ_cons]
  exact List.cons_lt_cons_iff.mpr (.inr ⟨rfl,KY r i j (by omega) (by simpa using h2)⟩)
theorem Ey{b:BW}{te:DW}{P:List D->Nat->Prop}(I:Nat->Nat->List D->List Slot->Prop)(hend:∀n acc ρ,I 0 n acc ρ->P acc n)
  (hstep:∀(k:Nat) (d:D) (n:Nat) (acc:List D) (ρ:List Slot) (nx:List D->Nat->List Slot->Prop),I (k+1) n acc ρ->(∀acc' n' ρ',I k n' acc' ρ'->nx acc' n' ρ')->b d ρ fun ρ1=>te n ρ1 fun y n2=>nx (acc++[y]) n2 ρ1) :
  ∀(ds acc:List D) (n:Nat) (ρ:List Slot),I ds.length n acc ρ->Dd b CZ te P ds acc n ρ
 | [],acc,n,ρ,h=>hend n acc ρ h
 | d::ds,acc,n,ρ,h=>hstep ds.length d n acc ρ (fun acc n ρ=>Dd b CZ te P ds acc n ρ) h fun acc' n' ρ' h'=>Ey I hend hstep ds acc' n' ρ' h'
theorem Bv(lo:Int)(n:Nat):(CB lo n).length=n:=by unfold CB; rw [List.length_map,List.length_range]
theorem Fe{lo:Int}{n:Nat}{d:D}(h:d∈CB lo n):∃k:Nat,k<n/\d=.int (lo+k):=by
 unfold CB at h
 obtain⟨k,hk,rfl⟩:=List.mem_map.mp h
 exact⟨k,List.mem_range.mp hk,rfl⟩
theorem Lb{ss:List Slot}{n:Nat}{Pd:D->Nat->Prop}(h:Jj ss n Pd):D9 { nx:=fun n _=>Kd.sh=.sh/\Pd .non n,rt:=Pd } n (ss++List.replicate 0 .no):=by
 obtain⟨s,rfl,hn,p⟩:=h
 unfold D9
 refine Cc (fun _=>⟨3,rfl,by decide,by decide,by omega,fun r h0 h1=>p _ (by omega) (by omega)⟩) fun _=>?_
 refine Cc (fun _=>⟨12,rfl,by decide,by decide,by omega,fun r h0 h1=>p _ (by omega) (by omega)⟩) fun _=>?_
 refine Cc (fun _=>⟨⟨by decide,by decide,by decide⟩,5,rfl,by decide,by decide,by omega,fun r h0 h1=>?_⟩) fun _=>⟨⟨by decide,by decide,by decide⟩,_,rfl,by decide,by decide,by omega,fun r h0 h1=>?_⟩
 ·have e:((10:Int) ^ (6:Int).toNat)=1000000:=by decide
  exact p _ (by rw [e]; omega) (by rw [e]; omega)
 ·have e:((10:Int) ^ (6:Int).toNat)=1000000:=by decide
  rw [e] at h1
  exact p _ (by omega) (by omega)
end Nt
namespace K07
open PySem PySem.Spec PyProof.Rows L2 Dp Nt
def top(i:Nat):Stmt:=PySem.Challenge.pw_thinnet_k07_prices.main.body.getD i (.Pass ⟨0,0,0,0⟩)
abbrev CH:Stmt:=top 1
abbrev BV:Stmt:=top 2
abbrev CG:Stmt:=top 3
abbrev Bn:Stmt:=top 5
abbrev Bo:Stmt:=top 6
abbrev Bp:Stmt:=top 8
abbrev B4:Stmt:=top 9
abbrev Cg:Stmt:=top 10
abbrev BU:Stmt:=top 11
abbrev B6:Stmt:=top 13
abbrev Bj:Stmt:=top 14
abbrev Bq:Stmt:=top 15
abbrev BX:Stmt:=top 16
abbrev BY:Stmt:=top 17
abbrev CJ:Stmt:=top 18
abbrev CI:Stmt:=top 19
abbrev B7:Stmt:=top 20
abbrev Br:Stmt:=top 21
abbrev BQ:Stmt:=top 22
abbrev Bs:Stmt:=top 23
abbrev B5:Stmt:=top 24
abbrev ER:Stmt:=top 25
structure Txt (K:Frag) (mg:Str->Option Value):Prop where
 n_abs:mg "abs"=none
 n_all:mg "all"=none
 n_bool:mg "bool"=none
 n_dict:mg "dict"=none
 n_int:mg "int"=none
 n_isinstance:mg "isinstance"=none
 n_len:mg "len"=none
 n_list:mg "list"=none
 n_min:mg "min"=none
 n_range:mg "range"=none
 n_repr:mg "repr"=none
 n_sorted:mg "sorted"=none
 n_str:mg "str"=none
 n_tuple:mg "tuple"=none
section
variable {P:Program}{w:World}{K:Frag}{mg:Str->Option Value}{base:Heap}
theorem sc__law_next:An ["_law_feed_here","_law_many","_law_digit","_law_at","_law_cell","_law_first"] ["_law_feed_here","_law_many"] (AH Bj):=⟨rfl,rfl,rfl,by decide +kernel,rfl,by decide +kernel,by decide +kernel⟩
theorem OH{f:Addr}{fd:FuncData}(F:Fun K "_law_next" "_law_next" Bj f fd)(ml:mg "len"=none):Bh P w K mg base DR 1 f fd ["_law_feed_here","_law_many"] (FK K .sh Ax 2):=by
 refine F.ok sc__law_next (fun vs H Q E h=>h.1) (fun cdv A outer s H vs Q E hr h=>?_)
 obtain⟨hl,F0,U,V',M,n,ss,Pd,ra,⟨m,rfl,hm1,hm2,hn,hP⟩,q⟩:=h
 obtain⟨dom,fU,uV,vM,fd0,pa⟩:=ra
 cases pa with
 | cons r1 pa =>
 cases pa with
 | cons r2 pa =>
 cases pa
 obtain⟨⟨f0,c⟩,e0,hF⟩:=r1.1
 cases e0
 obtain⟨v2,e2,h2⟩:=r2.1
 cases e2
 cases (show _=V.int m from h2)
 obtain⟨a,r,cells,hf,hcf,hc,hcl,ha0,han⟩:=fd0 (f0,c) hF
 have fin:∀(a' r' z:Int) (H':Hp),(∀b o,H b=some o->b≠f0->H' b=some o)->H' f0=some (.lst [.ref c,.int a',.int r'])->0<=a'->a'<=a+1->0<=z->z<m->Q (.int z) H':=by
  intro a' r' z H' hk hf' h0 h1 hz0 hz1
  refine q (.int z) H' (.int z) (n - 1) (fun b o e=>?_) (fun g hg=>?_) rfl (hP z hz0 hz1)
  ·by_cases hb:b=f0
   ·subst hb
    exact⟨_,hf',fun nu=>absurd (fU (b,c) hF) nu⟩
   ·exact⟨o,hk b o e hb,fun _=>rfl⟩
  ·have:g=(f0,c):=Option.some.inj (hg.symm.trans hF)
   subst this
   exact⟨a',r',cells,hf',hcf,⟨hc.1,hk c _ hc.2 hcf⟩,hcl,h0,by omega⟩
 have hu:(A.deeper (envOfC "_law_next" (AH Bj) s.heap.objs.size f cdv)).units<cLine:=hr.units0
 have hsq:∀{H':Hp} {xs:List V},H' f0=some (.lst xs)->SqL K H' f0 xs:=fun h=>SqL.of h
 have ed:∀z:Int,0<=z % m/\z % m<m:=fun z=>⟨Int.emod_nonneg _ (by omega),Int.emod_lt_of_pos _ (by omega)⟩
 refine⟨_,BA (Mt (ET PF (DN ix_list (pv 0) Aq (fun _ _=>rfl)) Aq (Aj _))
   (BA (DZ (i:=2) sc__law_next.nd rfl (Or.inl rfl) (Bk C4 (DN ix_list (pv 0) Aq (fun _ _=>rfl)) (pv 1)))
   (BA (Jw (Bk Hv (DN ix_list (pv 0) Aq (fun _ _=>rfl)) (pv 1)) (Jz (pv 0) Aq set_list))
   (Cy (EA (pv 2))))) Ho)
  (BA (DZ (i:=3) sc__law_next.nd rfl (Or.inl rfl) (DN ix_list (pv 0) Aq (fun _ _=>rfl)))
  (BA (Jw (Bk op_add (pv 3) Aq) (Jz (pv 0) Aq set_list))
  (BA (DZ (i:=4) sc__law_next.nd rfl (Or.inl rfl) (JF (ET (Li hu) (DN ix_list (pv 0) Aq (fun _ _=>rfl)) (J0 CS) (Aj _))
   (DN ix_list (DN ix_list (pv 0) Aq (fun _ _=>rfl)) (Bk C4 (pv 3) (Dc A2 rfl ml PySem.boot_len (BN (DN ix_list (pv 0) Aq (fun _ _=>rfl)) CS))) (fun _ _=>rfl)) Aq))
  (BA (Mt (PW.pt (Mo (ET PH (pv 4) (Bk CT Aq Aq) (Aj _)) (Kh (ET op_lt (pv 3) (Dc A2 rfl ml PySem.boot_len (BN (DN ix_list (pv 0) Aq (fun _ _=>rfl)) CS)) (Aj _)))))
   (BA (Jw (Bk Hv (pv 4) (pv 1)) (Jz (pv 0) Aq set_list))
   (Cy (EA (Bk C4 (pv 4) (pv 1))))) Ho)
  (BA (DZ (i:=5) sc__law_next.nd rfl (Or.inl rfl) (Bk C4 (Bk op_mul (Bk op_add (Bk op_add (Bk op_add (Bk C4 (pv 4) Aq) (Bk op_mul (Bk op_mul Aq (pv 3)) (pv 3))) (Bk op_mul Aq (pv 3))) Aq) Aq) Aq))
  (Cy (EA (Bk C4 (Bk Hv (Bk C4 (Bk op_mul (Bk op_add (pv 5) (Bk op_mul Aq (pv 3))) Aq) Aq) Aq) (pv 1))))))))),?_⟩
 refine⟨_,rfl,f0,_,2,_,rfl,rfl,hsq hf,rfl,_,_,rfl,rfl,_,rfl,?_⟩
 refine Cc (fun c1=>?_) (fun c1=>?_)
 ·refine⟨_,rfl,f0,_,2,_,rfl,rfl,hsq hf,rfl,_,rfl,_,_,rfl,rfl,(by show (0:Int)<m; omega),?_⟩
  refine⟨_,rfl,f0,_,2,_,rfl,rfl,hsq hf,rfl,_,rfl,_,_,rfl,rfl,⟨(by show (0:Int)<m; omega),hm2⟩,_,rfl,f0,_,2,2,rfl,rfl,hf,rfl,?_⟩
  refine⟨_,rfl,?_⟩
  exact fin a _ _ _ (fun b o e hb=>by rw [AO hb]; exact e) AX ha0 (by omega) (ed _).1 (ed _).2
 ·-- at=feed[1]; feed[1]=at+1
  refine⟨_,rfl,f0,_,1,_,rfl,rfl,hsq hf,rfl,?_⟩
  refine⟨_,rfl,_,_,rfl,rfl,_,rfl,f0,_,1,1,rfl,rfl,hf,rfl,?_⟩
  generalize hH1:A_ H f0 (.lst ([V.ref c,V.int a,V.int r].set 1 (V.int (a+1))))=H1
  have f1:H1 f0=some (.lst [.ref c,.int (a+1),.int r]):=by rw [← hH1]; exact AX
  have k1:∀b o,H b=some o->b≠f0->H1 b=some o:=fun b o e hb=>by rw [← hH1,AO hb]; exact e
  have c1':H1 c=some (.lst (cells.map V.int)):=k1 c _ hc.2 hcf
  have rest:∀(z:Int) (H2:Hp),(∀b o,H1 b=some o->H2 b=some o) ->
    (LV (Q5 (RA (MV (C8 (FA fun i j=>V.bl (decide (j<=i))) (Bu 4) (C8 (rI Ep fun i j=>V.int (i ^ j.toNat)) (tC (V.int 10)) (tC (V.int 18))))) (MV (C8 (FA fun i j=>V.bl (decide (i<j))) (Bu 3) (SF (fun xs H Q=>∃x n,xs=[x]/\Qt K x H n/\Q (V.int n) H) (KZ (C8 (Pz K) (Bu 0) (tC (V.int 0))) N7))))) (LV (Jq (C8 (rI Oo fun i j=>V.int (i / j)) (Bu 4) (Bu 1)) (Rf (Bu 0) (tC (V.int 2)) O0)) (N5 (C8 (rI (fun _ j=>0<j) fun i j=>V.int (i % j)) (Bu 4) (Bu 1)))) Ot) (LV (Jq (C8 (rI (fun _ j=>0<j) fun i j=>V.int (i % j)) (C8 (rI CMul fun i j=>V.int (i*j)) (C8 (FA fun i j=>V.int (i+j)) (C8 (FA fun i j=>V.int (i+j)) (C8 (FA fun i j=>V.int (i+j)) (C8 (rI (fun _ j=>0<j) fun i j=>V.int (i % j)) (Bu 4) (tC (V.int 1000003))) (C8 (rI CMul fun i j=>V.int (i*j)) (C8 (rI CMul fun i j=>V.int (i*j)) (tC (V.int 41)) (Bu 3)) (Bu 3))) (C8 (rI CMul fun i j=>V.int (i*j)) (tC (V.int 17)) (Bu 3))) (tC (V.int 3))) (tC (V.int 51749))) (tC (V.int 999917))) (HG 5)) (N5 (C8 (rI (fun _ j=>0<j) fun i j=>V.int (i % j)) (C8 (rI Oo fun i j=>V.int (i / j)) (C8 (rI (fun _ j=>0<j) fun i j=>V.int (i % j)) (C8 (rI CMul fun i j=>V.int (i*j)) (C8 (FA fun i j=>V.int (i+j)) (Bu 5) (C8 (rI CMul fun i j=>V.int (i*j)) (tC (V.int 8111)) (Bu 3))) (tC (V.int 39373))) (tC (V.int 2097143))) (tC (V.int 3))) (Bu 1)))))
     { nx:=fun _ H'=>Q .non H',rt:=Q } [some (.ref f0),some (.int m),none,some (.int a),some (.int z),none] H2:=by
   intro z H2 k2
   have f2:=k2 _ _ f1
   have c2:=k2 _ _ c1'
   have lastWay:∀H3:Hp,H3=H2->(LV (Jq (C8 (rI (fun _ j=>0<j) fun i j=>V.int (i % j)) (C8 (rI CMul fun i j=>V.int (i*j)) (C8 (FA fun i j=>V.int (i+j)) (C8 (FA fun i j=>V.int (i+j)) (C8 (FA fun i j=>V.int (i+j)) (C8 (rI (fun _ j=>0<j) fun i j=>V.int (i % j)) (Bu 4) (tC (V.int 1000003))) (C8 (rI CMul fun i j=>V.int (i*j)) (C8 (rI CMul fun i j=>V.int (i*j)) (tC (V.int 41)) (Bu 3)) (Bu 3))) (C8 (rI CMul fun i j=>V.int (i*j)) (tC (V.int 17)) (Bu 3))) (tC (V.int 3))) (tC (V.int 51749))) (tC (V.int 999917))) (HG 5)) (N5 (C8 (rI (fun _ j=>0<j) fun i j=>V.int (i % j)) (C8 (rI Oo fun i j=>V.int (i / j)) (C8 (rI (fun _ j=>0<j) fun i j=>V.int (i % j)) (C8 (rI CMul fun i j=>V.int (i*j)) (C8 (FA fun i j=>V.int (i+j)) (Bu 5) (C8 (rI CMul fun i j=>V.int (i*j)) (tC (V.int 8111)) (Bu 3))) (tC (V.int 39373))) (tC (V.int 2097143))) (tC (V.int 3))) (Bu 1))))
     { nx:=fun _ H'=>Q .non H',rt:=Q } [some (.ref f0),some (.int m),none,some (.int a),some (.int z),none] H3:=by
    intro H3 e3
    subst e3
    have hb:CMul (41*a) a:=.inr ⟨by omega,by omega⟩
    refine⟨_,rfl,_,_,rfl,rfl,(by show (0:Int)<1000003; decide),_,rfl,_,_,rfl,rfl,.inl ⟨by decide,by decide⟩,_,rfl,_,_,rfl,rfl,hb,_,_,rfl,rfl,_,rfl,_,_,rfl,rfl,.inl ⟨by decide,by decide⟩,_,_,rfl,rfl,_,_,rfl,rfl,_,_,rfl,rfl,.inr ⟨by decide,by decide⟩,_,_,rfl,rfl,(by show (0:Int)<999917; decide),?_⟩
    refine⟨_,rfl,_,rfl,_,_,rfl,rfl,.inl ⟨by decide,by decide⟩,_,_,rfl,rfl,_,_,rfl,rfl,.inr ⟨by decide,by decide⟩,_,_,rfl,rfl,(by show (0:Int)<2097143; decide),_,_,rfl,rfl,⟨by decide,by decide⟩,_,rfl,_,_,rfl,rfl,(by show (0:Int)<m; omega),?_⟩
    exact fin (a+1) r _ _ (fun b o e hb=>k2 b o (k1 b o e hb)) f2 (by omega) (by omega) (ed _).1 (ed _).2
   refine⟨_,rfl,_,_,rfl,rfl,⟨by decide,by decide,by decide⟩,_,_,rfl,rfl,_,rfl,?_⟩
   refine Cc (fun c3=>?_) (fun c3=>?_)
   ·refine⟨_,rfl,_,rfl,f0,_,0,_,rfl,rfl,hsq f2,rfl,_,_,rfl,.inl ⟨_,SqL.of c2,rfl⟩,_,_,rfl,rfl,_,rfl,?_⟩
    refine Cc (fun c4=>?_) (fun c4=>lastWay H2 rfl)
    refine⟨_,rfl,_,rfl,_,_,rfl,rfl,⟨(by show (0:Int)<m; omega),hm2⟩,_,rfl,f0,_,2,2,rfl,rfl,f2,rfl,?_⟩
    refine⟨_,rfl,_,rfl,_,_,rfl,rfl,(by show (0:Int)<m; omega),?_⟩
    exact fin (a+1) _ _ _ (fun b o e hb=>by rw [AO hb]; exact k2 b o (k1 b o e hb)) AX (by omega) (by omega) (ed _).1 (ed _).2
   ·refine Cc (fun c4=>absurd c4 (by simp)) (fun _=>lastWay H2 rfl)
  refine⟨_,rfl,f0,_,0,_,rfl,rfl,hsq f1,rfl,(by show 0<=sizeLine; decide),fun p hp=>?_⟩
  have kp:∀b o,H1 b=some o->A_ H1 p (.lst []) b=some o:=fun b o e=>by rw [AO (A6 e hp)]; exact e
  refine⟨c,p,_,rfl,rfl,SqL.of (kp _ _ c1'),SqL.of AX,_,rfl,?_⟩
  cases cells with
  | nil=>exact Gz (rest 0 _ kp)
  | cons z0 cs =>
   refine Fz ?_
   have hlen:(((z0::cs).map V.int).length:Int)=(cs.length:Int)+1:=by simp
   have hpos:(0:Int)<(((z0::cs).map V.int).length:Int):=by omega
   obtain⟨z,hz⟩:∃z,atI ((z0::cs).map V.int) (a % (((z0::cs).map V.int).length:Int))=some (.int z):=by
    have h1:=Int.emod_nonneg a (show (((z0::cs).map V.int).length:Int)≠0 by omega)
    have h2:=Int.emod_lt_of_pos a hpos
    generalize a % (((z0::cs).map V.int).length:Int)=j at h1 h2
    obtain⟨k,rfl⟩:∃k:Nat,j=(k:Int):=⟨j.toNat,by omega⟩
    have hk:k<(z0::cs).length:=by rw [List.length_map] at h2; omega
    refine⟨(z0::cs)[k],AV ?_⟩
    rw [List.getElem?_map,List.getElem?_eq_getElem hk]
    rfl
   refine⟨_,rfl,f0,_,0,_,rfl,rfl,hsq (kp _ _ f1),rfl,_,rfl,_,rfl,f0,_,0,_,rfl,rfl,hsq (kp _ _ f1),rfl,_,_,rfl,.inl ⟨_,SqL.of (kp _ _ c1'),rfl⟩,_,_,rfl,rfl,hpos,c,_,_,_,rfl,rfl,SqL.of (kp _ _ c1'),hz,?_⟩
   exact rest z _ kp
end
end K07
namespace Nt
open PySem PySem.Spec PyProof.Rows L2 Dp
def DL:W2:=fun ss n P=>∃m:Nat,ss=[.fd,.sh (.int m)]/\1<=m/\m<=26/\11<=n/\∀(xs:List Str) (n':Nat),xs.length=m->(∀x∈xs,OP x)->rising xs->n - 11<=n'->P (.lst (xs.map .str)) n'
def words:List Str:=["a","aa","ab","b","far","in","near","out","place","tie","ties","way"]
def wordAt(i:Nat):Str:=words.getD i "a"
theorem Jk:∀i,i<12->OP (wordAt i):=by
 have h:∀i∈List.range 12,1<=(wordAt i).length/\(wordAt i).length<=8/\∀c∈cs (wordAt i),97<=c/\c<=122:=by decide +kernel
 exact fun i hi=>h i (List.mem_range.mpr hi)
theorem LS:∀i j,i<12->j<12->wordAt i=wordAt j->i=j:=by
 have h:∀i∈List.range 12,∀j∈List.range 12,cs (wordAt i)=cs (wordAt j)->i=j:=by decide +kernel
 exact fun i j hi hj e=>h i (List.mem_range.mpr hi) j (List.mem_range.mpr hj) (congrArg cs e)
def Dt:Str := "abcdefghijklmnopqrstuvwxyz"
theorem Fv(i:Nat)(h:i<26):(cs Dt)[i]?=some (97+i):=by
 have h2:∀i∈List.range 26,(cs Dt)[i]?=some (97+i):=by decide +kernel
 exact h2 i (List.mem_range.mpr h)
theorem Ew{α β:Type}{f:α->β}:∀{l:List α},l.Nodup->(∀a∈l,∀b∈l,f a=f b->a=b)->(l.map f).Nodup
 | [],_,_=>List.nodup_nil
 | a::l,h,hf=>by
  rw [List.nodup_cons] at h
  rw [List.map_cons,List.nodup_cons]
  refine⟨fun hm=>?_,Ew h.2 fun x hx y hy=>hf x (List.mem_cons_of_mem _ hx) y (List.mem_cons_of_mem _ hy)⟩
  obtain⟨b,hb,e⟩:=List.mem_map.mp hm
  exact h.1 (hf a List.mem_cons_self b (List.mem_cons_of_mem _ hb) e.symm▸hb)
theorem Kt{f m j k:Nat}{M:Nat}(hM:m<=M)(hj:j<m)(hk:k<m)(e:(f+j) % M=(f+k) % M):j=k:=by
 have h:∀a b:Nat,a<=b->b<m->(f+a) % M=(f+b) % M->a=b:=fun a b h1 h2 e=>by
  have:(f+b - (f+a)) % M=0:=Nat.sub_mod_eq_zero_of_mod_eq e.symm
  have e2:f+b - (f+a)=b - a:=by omega
  rw [e2,Nat.mod_eq_of_lt (by omega)] at this
  omega
 rcases Nat.le_total j k with h1 | h1
 ·exact h j k h1 hk e
 ·exact(h k j h1 hj e.symm).symm
theorem GX(ss:List Str):Cu (ss.map .str)=some ss:=by
 induction ss with
 | nil=>rfl
 | cons y r ih =>
  rw [List.map_cons]
  unfold Cu
  rw [ih]
  rfl
theorem ON:∀(zs:List Str),cs (Txt.join (Str.ofString "") zs)=zs.flatMap cs:=by
 intro zs
 show cs (Builtin.Str.glued (Str.ofString "") zs)=_
 rw [StrLaws.glued_eq_join]
 induction zs with
 | nil=>rfl
 | cons x r ih =>
  cases r with
  | nil=>rw [List.flatMap_cons,List.flatMap_nil,List.append_nil]; rfl
  | cons y r =>
   show cs (x++Str.ofString ""++Str.join (Str.ofString "") (y::r))=_
   rw [GO,GO,ih]
   show cs x++[]++_=_
   rw [List.append_nil]
   simp only [List.flatMap_cons]
theorem NB{zs:List Str}(h:∀z∈zs,z.length=1):(zs.flatMap cs).length=zs.length:=by
 induction zs with
 | nil=>rfl
 | cons x r ih =>
  rw [List.flatMap_cons,List.length_append,ih fun z hz=>h z (List.mem_cons_of_mem _ hz),C7,h x List.mem_cons_self,List.length_cons]
  omega
theorem Iw:∀(ys:List Str),(∀y∈ys,y.length=1)->(ys.map (·.length)).sum=ys.length
 | [],_=>rfl
 | y::r,h=>by
  rw [List.map_cons,List.sum_cons,Iw r fun z hz=>h z (List.mem_cons_of_mem _ hz),h y List.mem_cons_self,List.length_cons]
  omega
theorem drawn{P:List D->Nat->Prop}{m n:Nat}{s:Slot}(hn:m<=n)(h:∀zs:List Str,zs.length=m->(∀z∈zs,z.length=1/\∀c∈cs z,97<=c/\c<=122)->P (zs.map .str) (n - m)) :
  Dd (Ai 2) CZ (AT CK (AC 0) (AY Ax (AF (Ap 1) (AF (AN (wC (D.int 26))) AZ)))) P (CB 0 m) [] n [.sh (.str Dt),.fd,s]:=by
 refine Ey (fun k n' acc ρ=>k<=m/\n'=n - (m - k)/\(∃zs:List Str,acc=zs.map .str/\zs.length=m - k/\∀z∈zs,z.length=1/\∀c∈cs z,97<=c/\c<=122)/\∃s,ρ=[.sh (.str Dt),.fd,s]) ?_ ?_ _ _ _ _ ?_
 ·rintro n' acc ρ ⟨_,rfl,⟨zs,rfl,hl,hz⟩,_⟩
  exact h zs hl hz
 ·rintro k d n' acc ρ nx ⟨hk,rfl,⟨zs,rfl,hl,hz⟩,s,rfl⟩ hnx
  refine⟨26,rfl,by decide,by decide,by omega,fun r h0 h1=>?_⟩
  obtain⟨q,rfl⟩:∃q:Nat,r=(q:Int):=⟨r.toNat,by omega⟩
  have hq:q<26:=by omega
  refine⟨97+q,AV (Fv q hq),hnx _ _ _ ⟨by omega,by omega,⟨zs++[⟨#[97+q]⟩],by rw [List.map_append]; rfl,by rw [List.length_append,List.length_singleton]; omega,fun z hz'=>?_⟩,_,rfl⟩⟩
  rcases List.mem_append.mp hz' with hz' | hz'
  ·exact hz z hz'
  ·rw [List.mem_singleton.mp hz']
   refine⟨rfl,fun c hc=>?_⟩
   have:c=97+q:=by simpa [cs] using hc
   omega
 ·rw [Bv]
  exact⟨Nat.le_refl _,by omega,⟨[],rfl,by simp,fun z hz=>by cases hz⟩,_,rfl⟩
theorem MQ(i:Nat)(h:i<12):words[i]?=some (wordAt i):=by
 have hl:i<words.length:=h
 unfold wordAt
 rw [List.getD_eq_getElem?_getD,List.getElem?_eq_getElem hl]
 rfl
theorem Dr{b:BW}{body:Ak}{D2:E2}{all:List D}(I:List D->Nat->List Slot->Prop)(hend:∀n ρ,I all n ρ->D2.nx n ρ)
  (hstep:∀(pre:List D) (d:D) (post:List D) (n:Nat) (ρ:List Slot) (nx:Nat->List Slot->Prop),all=pre++d::post->I pre n ρ->(∀n' ρ',I (pre++[d]) n' ρ'->nx n' ρ')->b d ρ fun ρ1=>body { D2 with nx:=nx,ct:=nx,bk:=D2.nx } n ρ1) :
  ∀(ds pre:List D) (n:Nat) (ρ:List Slot),all=pre++ds->I pre n ρ->Bl b body D2 ds n ρ
 | [],pre,n,ρ,e,h=>by
  rw [List.append_nil] at e
  subst e
  exact hend n ρ h
 | d::ds,pre,n,ρ,e,h=>hstep pre d ds n ρ (Bl b body D2 ds) e h fun n' ρ' h'=>Dr I hend hstep ds (pre++[d]) n' ρ' (by rw [e,List.append_assoc]; rfl) h'
theorem Hi{lo:Int}{n:Nat}{pre post:List D}{d:D}(h:CB lo n=pre++d::post):d=.int (lo+(pre.length:Int))/\pre.length<n:=by
 have hl:=congrArg List.length h
 rw [Bv,List.length_append,List.length_cons] at hl
 have e:(CB lo n)[pre.length]?=some d:=by rw [h,List.getElem?_append_right (Nat.le_refl _),Nat.sub_self]; rfl
 unfold CB at e
 rw [List.getElem?_map,List.getElem?_range (by omega)] at e
 exact⟨(Option.some.inj e).symm,by omega⟩
theorem RY{r:Int}(h:r=0\/r=1):MulOk "z" r/\(Txt.mul "z" r).length<=1/\∀c∈cs (Txt.mul "z" r),97<=c/\c<=122:=by
 rcases h with rfl | rfl
 ·exact⟨⟨rfl,⟨fun h=>absurd (by decide) h,fun h=>absurd (by decide) h⟩⟩,by decide,by decide⟩
 ·exact⟨⟨rfl,⟨fun _ h=>absurd h (by decide),fun _ h=>absurd h (by decide)⟩⟩,by decide,by decide⟩
def nameAt(x:Str)(a f k:Nat):Str:=Txt.slice x none (some (a:Int))++⟨#[97+(f+k) % 26]⟩++Txt.slice x (some ((a:Int)+1)) (some 7)++Txt.mul "z" ((k:Int) % 2)
theorem Ex{x:Str}{a f k:Nat}(hx:x.length=8)(ha:a<7):cs (nameAt x a f k)=(cs x).take a++(97+(f+k) % 26)::(((cs x).drop (a+1)).take (6 - a)++cs (Txt.mul "z" ((k:Int) % 2))):=by
 unfold nameAt
 rw [GO,GO,GO,PQ (by omega) (by omega),Qd (by omega) (by omega) (by omega)]
 have e1:((a:Int)).toNat=a:=by omega
 have e2:((a:Int)+1).toNat=a+1:=by omega
 have e3:(7 - ((a:Int)+1)).toNat=6 - a:=by omega
 rw [e1,e2,e3,List.append_assoc,List.append_assoc]
 rfl
theorem JO{x:Str}{a f k:Nat}(hx:x.length=8)(hc:∀c∈cs x,97<=c/\c<=122)(ha:a<7):OP (nameAt x a f k):=by
 have e:=Ex (f:=f) (k:=k) hx ha
 obtain⟨_,hz1,hz2⟩:=RY (r:=(k:Int) % 2) (by omega)
 have hl:(nameAt x a f k).length=7+(Txt.mul "z" ((k:Int) % 2)).length:=by
  rw [← C7,e,List.length_append,List.length_cons,List.length_append,List.length_take,List.length_take,List.length_drop,C7,C7,hx]
  omega
 refine⟨by omega,by omega,fun c h=>?_⟩
 rw [e] at h
 rcases List.mem_append.mp h with h | h
 ·exact hc c (List.mem_of_mem_take h)
 ·rcases List.mem_cons.mp h with rfl | h
  ·have:=Nat.mod_lt (f+k) (show 0<26 by decide)
   omega
  ·rcases List.mem_append.mp h with h | h
   ·exact hc c (List.mem_of_mem_drop (List.mem_of_mem_take h))
   ·exact hz2 c h
theorem J4{x:Str}{a f m j k:Nat}(hx:x.length=8)(ha:a<7)(hm:m<=26)(hj:j<m)(hk:k<m)(e:nameAt x a f j=nameAt x a f k):j=k:=by
 have e1:=congrArg cs e
 rw [Ex hx ha,Ex hx ha] at e1
 have hl:((cs x).take a).length=a:=by rw [List.length_take,C7,hx]; omega
 have e2:=congrArg (fun l:List Nat=>l[a]?) e1
 have e2:((cs x).take a++(97+(f+j) % 26)::(((cs x).drop (a+1)).take (6 - a)++cs (Txt.mul "z" ((j:Int) % 2))))[a]?=((cs x).take a++(97+(f+k) % 26)::(((cs x).drop (a+1)).take (6 - a)++cs (Txt.mul "z" ((k:Int) % 2))))[a]?:=e2
 rw [List.getElem?_append_right (by omega),List.getElem?_append_right (by omega),hl,Nat.sub_self] at e2
 have e3:97+(f+j) % 26=97+(f+k) % 26:=Option.some.inj e2
 exact Kt (f:=f) (M:=26) hm hj hk (by omega)
theorem La{ss:List Slot}{n:Nat}{Pd:D->Nat->Prop}(h:DL ss n Pd):D8 { nx:=fun n _=>Kd.fr=.sh/\Pd .non n,rt:=Pd } n (ss++List.replicate 9 .no):=by
 obtain⟨m,rfl,hm1,hm2,hn,p⟩:=h
 unfold D8
 refine⟨3,rfl,by decide,by decide,by omega,fun way hw0 hw1=>⟨(by decide:12<=sizeLine),?_⟩⟩
 have last:∀(n':Nat),n - 1<=n'->(Aa (Az 5 (wC (D.str "abcdefghijklmnopqrstuvwxyz")))
 (Aa (Az 6 (SR "str" NU (wC (D.str "")) (AD (CO [some 5,some 0,none] (DM (AD (wC (D.int 8)) AQ)) (Ai 2) CZ (AT CK (AC 0) (AY Ax (AF (Ap 1) (AF (AN (wC (D.int 26))) AZ))))) AQ)))
 (Aa (B9 (Ip (Al (AT (G0 false) (AC 2) (wC (D.int 1)))) (Al (AT GF (AC 1) (wC (D.int 9))))) (Ba (CO [some 6,none] (DM (AD (AC 1) AQ)) (Ai 1) CZ (G6 C5 (AC 0) BK (Bb (AT Ae (wC (D.int 1)) (AC 1)))))) BO)
 (Aa (Az 7 (AY Ax (AF (Ap 0) (AF (AN (wC (D.int 7))) AZ))))
 (Aa (Az 4 (AY Ax (AF (Ap 0) (AF (AN (wC (D.int 26))) AZ))))
 (Aa (DV 8 (C9 AQ))
 (Aa (Er (DM (AD (AC 1) AQ)) (Ai 9) (Aa (Az 10 (AT CK (AC 5) (AT (II (fun _ j=>0<j) fun i j=>D.int (i % j)) (AT Ae (AC 4) (AC 9)) (wC (D.int 26)))))
 (N0 8 "list" JU (AD (AT Ae (AT Ae (AT Ae (G6 C5 (AC 6) BK (Bb (AC 7))) (AC 10)) (G6 C5 (AC 6) (Bb (AT Ae (AC 7) (wC (D.int 1)))) (Bb (wC (D.int 7))))) (AT HJ (wC (D.str "z")) (AT (II (fun _ j=>0<j) fun i j=>D.int (i % j)) (AC 9) (wC (D.int 2))))) AQ))))
 (Ba (Cj GD (AD (A1 8) AQ)))))))))) { nx:=fun n _=>Kd.fr=.sh/\Pd .non n,rt:=Pd } n' [.fd,.sh (.int m),.sh (.int way),.sh (.lst (words.map .str)),.no,.no,.no,.no,.no,.no,.no]:=by
  intro n' hn'
  refine⟨rfl,8,rfl,⟨by decide,by decide⟩,by rw [Bv]; decide,?_⟩
  refine drawn (m:=8) (by omega) fun zs hz1 hz2=>?_
  have hone:∀z∈zs,z.length=1:=fun z hz=>(hz2 z hz).1
  have hj:=ON zs
  have hl8:(Txt.join (Str.ofString "") zs).length=8:=by rw [← C7,hj,NB hone,hz1]
  have hc:∀c∈cs (Txt.join (Str.ofString "") zs),97<=c/\c<=122:=fun c hc=>by
   rw [hj] at hc
   obtain⟨z,hz,hcz⟩:=List.mem_flatMap.mp hc
   exact(hz2 z hz).2 c hcz
  refine⟨_,_,zs,rfl,rfl,GX zs,by rw [Iw zs hone,show (Str.ofString "").length=0 from rfl]; omega,by omega,?_⟩
  generalize Txt.join (Str.ofString "") zs=x at hl8 hc
  have hx8:(cs x).length=8:=by rw [C7,hl8]
  have tail:∀(n2:Nat),n' - 8<=n2->(Aa (Az 7 (AY Ax (AF (Ap 0) (AF (AN (wC (D.int 7))) AZ))))
 (Aa (Az 4 (AY Ax (AF (Ap 0) (AF (AN (wC (D.int 26))) AZ))))
 (Aa (DV 8 (C9 AQ))
 (Aa (Er (DM (AD (AC 1) AQ)) (Ai 9) (Aa (Az 10 (AT CK (AC 5) (AT (II (fun _ j=>0<j) fun i j=>D.int (i % j)) (AT Ae (AC 4) (AC 9)) (wC (D.int 26)))))
 (N0 8 "list" JU (AD (AT Ae (AT Ae (AT Ae (G6 C5 (AC 6) BK (Bb (AC 7))) (AC 10)) (G6 C5 (AC 6) (Bb (AT Ae (AC 7) (wC (D.int 1)))) (Bb (wC (D.int 7))))) (AT HJ (wC (D.str "z")) (AT (II (fun _ j=>0<j) fun i j=>D.int (i % j)) (AC 9) (wC (D.int 2))))) AQ))))
 (Ba (Cj GD (AD (A1 8) AQ))))))) { nx:=fun n _=>Kd.fr=.sh/\Pd .non n,rt:=Pd } n2 [.fd,.sh (.int m),.sh (.int way),.sh (.lst (words.map .str)),.no,.sh (.str Dt),.sh (.str x),.no,.no,.no,.no]:=by
   intro n2 hn2
   refine⟨7,rfl,by decide,by decide,by omega,fun a ha0 ha1=>⟨26,rfl,by decide,by decide,by omega,fun first hf0 hf1=>⟨(by decide:0<=sizeLine),(m:Int),rfl,⟨by omega,by omega⟩,?_⟩⟩⟩
   obtain⟨a,rfl⟩:∃q:Nat,a=(q:Int):=⟨a.toNat,by omega⟩
   obtain⟨f,rfl⟩:∃q:Nat,first=(q:Int):=⟨first.toNat,by omega⟩
   have ha7:a<7:=by omega
   refine Dr (all:=CB 0 ((m:Int)).toNat) (fun pre n3 ρ=>n3=n2 - 1 - 1/\∃s9 s10,ρ=[.fd,.sh (.int m),.sh (.int way),.sh (.lst (words.map .str)),.sh (.int f),.sh (.str Dt),.sh (.str x),.sh (.int a),.ow (.lst (((List.range pre.length).map fun k=>nameAt x a f k).map .str)),s9,s10]) ?_ ?_ _ [] _ _ rfl ⟨rfl,_,_,rfl⟩
   ·rintro n3 ρ ⟨rfl,s9,s10,rfl⟩
    have el:(CB 0 ((m:Int)).toNat).length=m:=by rw [Bv]; omega
    refine⟨_,_,rfl,GX _,by rw [List.length_map,List.length_range,el]; omega,fun ss' hp hs=>p ss' _ ?_ ?_ ?_ (by omega)⟩
    ·rw [hp.length_eq,List.length_map,List.length_range,el]
    ·intro y hy
     obtain⟨k,_,rfl⟩:=List.mem_map.mp (hp.mem_iff.mp hy)
     exact JO hl8 hc ha7
    ·refine D1 hs (hp.nodup_iff.mpr (Ew List.nodup_range fun j hj k hk e=>?_))
     rw [el] at hj hk
     exact J4 hl8 ha7 hm2 (List.mem_range.mp hj) (List.mem_range.mp hk) e
   ·rintro pre d post n3 ρ nx hall ⟨rfl,s9,s10,rfl⟩ hnx
    obtain⟨rfl,hk⟩:=Hi hall
    have epre:(pre++[D.int (0+(pre.length:Int))]).length=pre.length+1:=by rw [List.length_append,List.length_singleton]
    rw [epre] at hnx
    generalize pre.length=k at hk hnx ⊢
    have hlt:(f+k) % 26<26:=Nat.mod_lt _ (by decide)
    have ei:((f:Int)+(0+(k:Int))) % 26=(((f+k) % 26:Nat):Int):=by omega
    have ek:(0+(k:Int)) % 2=(k:Int) % 2:=by omega
    obtain⟨hz0,hz1,_⟩:=RY (r:=(0+(k:Int)) % 2) (by omega)
    have l1:=Txt.slice_le x none (some (a:Int))
    have l2:=Txt.slice_le x (some ((a:Int)+1)) (some 7)
    have la:=Str.length_append (Txt.slice x none (some (a:Int))) ⟨#[97+(f+k) % 26]⟩
    have lb:=Str.length_append (Txt.slice x none (some (a:Int))++⟨#[97+(f+k) % 26]⟩) (Txt.slice x (some ((a:Int)+1)) (some 7))
    have ls:(⟨#[97+(f+k) % 26]⟩:Str).length=1:=rfl
    have hsz:=PySem.sizeLine_eq
    refine⟨by show (0:Int)<26; decide,97+(f+k) % 26,by rw [ei]; exact AV (Fv _ hlt),?_⟩
    refine⟨_,rfl,rfl,by omega,by omega,by show (0:Int)<2; decide,hz0,by omega,by omega,?_⟩
    refine⟨_,_,rfl,rfl,by rw [List.length_map,List.length_map,List.length_range]; omega,hnx _ _ ⟨rfl,.sh (.int (0+(k:Int))),.sh (.str ⟨#[97+(f+k) % 26]⟩),?_⟩⟩
    rw [ek,List.range_succ,List.map_append,List.map_append]
    rfl
  refine Cc (fun c1=>Cc (fun c2=>?_) fun c2=>tail _ (Nat.le_refl _)) fun c1=>Cc (fun c2=>absurd c2 (by decide)) fun _=>tail _ (Nat.le_refl _)
  have hm9:m<9:=by
   have:(m:Int)<9:=of_decide_eq_true c2
   omega
  refine⟨(m:Int),rfl,⟨by omega,by omega⟩,by rw [Bv]; omega,?_⟩
  refine EC (g:=fun d=>match d with | .int k=>.str (Txt.slice x none (some (1+k))) | _=>.non) (fun ρ=>∃s,ρ=[.sh (.str x),s]) ?_ _ _ _ _ ?_ ⟨_,rfl⟩ ?_
  ·rintro d ρ ⟨s,rfl⟩
   exact⟨_,rfl⟩
  ·rintro d hd ρ n' P' ⟨s,rfl⟩ hp
   obtain⟨k,hk,rfl⟩:=Fe hd
   exact hp
  ·have e:[]++(CB 0 ((m:Int)).toNat).map (fun d=>match d with | .int k=>D.str (Txt.slice x none (some (1+k))) | _=>.non)=((List.range m).map fun k:Nat=>Txt.slice x none (some (1+(k:Int)))).map .str:=by
    unfold CB
    rw [List.nil_append,List.map_map,List.map_map,Int.toNat_natCast]
    refine List.map_congr_left fun k _=>?_
    have:(0+(k:Int))=k:=by omega
    simp only [Function.comp,this]
   have ct:∀k:Nat,k<m->cs (Txt.slice x none (some (1+(k:Int))))=(cs x).take (1+k):=fun k hk=>by
    rw [PQ (by omega) (by omega),show (1+(k:Int)).toNat=1+k by omega]
   rw [e]
   refine p _ _ (by rw [List.length_map,List.length_range]) ?_ ?_ (by omega)
   ·intro y hy
    obtain⟨k,hk,rfl⟩:=List.mem_map.mp hy
    have hk:=List.mem_range.mp hk
    have hl:(Txt.slice x none (some (1+(k:Int)))).length=1+k:=by
     rw [← C7,ct k hk,List.length_take,hx8]; omega
    exact⟨by omega,by omega,fun c h=>hc c (List.mem_of_mem_take (by rw [← ct k hk]; exact h))⟩
   ·unfold rising
    rw [List.pairwise_map]
    refine List.Pairwise.imp_of_mem ?_ List.pairwise_lt_range
    intro i j hi hj hij
    rw [ct i (List.mem_range.mp hi),ct j (List.mem_range.mp hj)]
    exact KY _ _ _ (by omega) (by rw [hx8]; have:=List.mem_range.mp hj; omega)
 refine Cc (fun c1=>Cc (fun c2=>?_) fun c2=>last _ (Nat.le_refl _)) fun c1=>Cc (fun c2=>absurd c2 (by decide)) fun _=>last _ (Nat.le_refl _)
 have hm13:m<13:=by
  have:(m:Int)<13:=of_decide_eq_true c2
  omega
 refine⟨12,rfl,by decide,by decide,by omega,fun first h0 h1=>?_⟩
 obtain⟨f,rfl⟩:∃f:Nat,first=(f:Int):=⟨first.toNat,by omega⟩
 refine⟨(m:Int),rfl,⟨by omega,by omega⟩,by rw [Bv]; omega,?_⟩
 refine EC (g:=fun d=>match d with | .int k=>.str (wordAt ((f+k.toNat) % 12)) | _=>.non) (fun ρ=>∃s,ρ=[.sh (.lst (words.map .str)),.sh (.int f),s]) ?_ _ _ _ _ ?_ ⟨_,rfl⟩ ?_
 ·rintro d ρ ⟨s,rfl⟩
  exact⟨_,rfl⟩
 ·rintro d hd ρ n' P' ⟨s,rfl⟩ hp
  obtain⟨k,hk,rfl⟩:=Fe hd
  refine⟨by show (0:Int)<12; decide,D.str (wordAt ((f+k) % 12)),?_,?_⟩
  ·have hlt:(f+k) % 12<12:=Nat.mod_lt _ (by decide)
   have ei:((f:Int)+(0+(k:Int))) % 12=(((f+k) % 12:Nat):Int):=by omega
   rw [ei]
   exact AV (by rw [List.getElem?_map,MQ _ hlt]; rfl)
  ·have e:(0+(k:Int)).toNat=k:=by omega
   simp only [e] at hp
   exact hp
 ·have e:[]++(CB 0 ((m:Int)).toNat).map (fun d=>match d with | .int k=>D.str (wordAt ((f+k.toNat) % 12)) | _=>.non)=((List.range m).map fun k=>wordAt ((f+k) % 12)).map .str:=by
   unfold CB
   rw [List.nil_append,List.map_map,List.map_map,Int.toNat_natCast]
   refine List.map_congr_left fun k _=>?_
   have:(0+(k:Int)).toNat=k:=by omega
   simp only [Function.comp,this]
  refine⟨_,(List.range m).map fun k=>wordAt ((f+k) % 12),rfl,by rw [e]; exact GX _,by rw [List.length_map,List.length_range]; omega,fun ss' hp hs=>p ss' _ ?_ ?_ ?_ (by omega)⟩
  ·rw [hp.length_eq,List.length_map,List.length_range]
  ·intro x hx
   obtain⟨k,_,rfl⟩:=List.mem_map.mp (hp.mem_iff.mp hx)
   exact Jk _ (Nat.mod_lt _ (by decide))
  ·refine D1 hs (hp.nodup_iff.mpr (Ew List.nodup_range fun j hj k hk e=>?_))
   exact Kt (M:=12) (by omega) (List.mem_range.mp hj) (List.mem_range.mp hk) (LS _ _ (Nat.mod_lt _ (by decide)) (Nat.mod_lt _ (by decide)) e)
structure Ig where
 a:Str
 b:Str
 len:Int
structure Net where
 ps:List Str
 ts:List Ig
def Ea(t:Ig):D:=.tup [.str t.a,.str t.b,.int t.len]
def enc(N:Net):D:=.tup [.tup (N.ps.map .str),.tup (N.ts.map Ea)]
def GG(s t:Ig):Prop:=cs s.a<cs t.a\/(s.a=t.a/\cs s.b<cs t.b)
structure Net.Ok (N:Net):Prop where
 names:∀x∈N.ps,OP x
 rise:rising N.ps
 tin:∀t∈N.ts,t.a∈N.ps/\t.b∈N.ps/\cs t.a<cs t.b/\1<=t.len/\t.len<=1000000
 trise:N.ts.Pairwise GG
def Nq:W2:=fun ss n P=>∃most ties:Nat,ss=[.fd,.sh (.int most),.sh (.int ties)]/\1<=most/\most<=26/\1500<=n/\∀(N:Net) (n':Nat),N.Ok->1<=N.ps.length->N.ps.length<=most->N.ts.length<=ties->n - 1500<=n'->P (enc N) n'
def GU:Ak:=(Aa (Az 3 (AY DL (AF (Ap 0) (AF (AN (AT Ae (wC (D.int 1)) (AY Ax (AF (Ap 0) (AF (AN (AC 1)) AZ))))) AZ))))
 (Aa (Az 4 (AT Ae (wC (D.int 1)) (AY Ax (AF (Ap 0) (AF (AN (wC (D.int 3))) AZ)))))
 (Aa (Az 5 (AY Ax (AF (Ap 0) (AF (AN (wC (D.int 4))) AZ))))
 (Aa (DV 6 (C9 AQ))
 (Aa (Er (DM (AD (Cj EG (AD (AC 3) AQ)) AQ)) (Ai 7) (Er (Oq (AD (AT Ae (AC 7) (wC (D.int 1))) (AD (Cj EG (AD (AC 3) AQ)) AQ))) (Ai 8) (B9 (Ip (Al (AT MD (AY Ax (AF (Ap 0) (AF (AN (wC (D.int 4))) AZ))) (AC 4))) (Al (AT GF (Cj EG (AD (A1 6) AQ)) (AC 2)))) (N0 6 "list" JU (AD (CF (AD (AT CK (AC 3) (AC 7)) (AD (AT CK (AC 3) (AC 8)) (AD (AY Jj (AF (Ap 0) (AF (AN (AC 5)) AZ))) AQ)))) AQ)) BO)))
 (Ba (CF (AD (Cj B0 (AD (AC 3) AQ)) (AD (Cj B0 (AD (A1 6) AQ)) AQ)))))))))
structure Ix where
 i:Nat
 j:Nat
 len:Int
def Ix.tie(xs:List Str)(t:Ix):Ig:=⟨xs.getD t.i "",xs.getD t.j "",t.len⟩
def NG(s t:Ix):Prop:=s.i<t.i\/(s.i=t.i/\s.j<t.j)
theorem getD_at{xs:List Str}{i:Nat}(h:i<xs.length):xs[i]?=some (xs.getD i ""):=by
 rw [List.getD_eq_getElem?_getD,List.getElem?_eq_getElem h]
 rfl
theorem getD_mem{xs:List Str}{i:Nat}(h:i<xs.length):xs.getD i ""∈xs:=List.mem_of_getElem? (getD_at h)
theorem Hk{xs:List Str}(h:rising xs){i j:Nat}(hij:i<j)(hj:j<xs.length):cs (xs.getD i "")<cs (xs.getD j ""):=by
 have h2:=List.pairwise_iff_getElem.mp h i j (by omega) hj hij
 have e1:xs.getD i ""=xs[i]:=by rw [List.getD_eq_getElem?_getD,List.getElem?_eq_getElem (by omega)]; rfl
 have e2:xs.getD j ""=xs[j]:=by rw [List.getD_eq_getElem?_getD,List.getElem?_eq_getElem hj]; rfl
 rw [e1,e2]
 exact h2
theorem NC{xs:List Str}{ts:List Ix}(hn:∀x∈xs,OP x)(hr:rising xs)(ht:∀t∈ts,t.i<t.j/\t.j<xs.length/\1<=t.len/\t.len<=1000000)(hp:ts.Pairwise NG):Net.Ok ⟨xs,ts.map (Ix.tie xs)⟩:=by
 refine⟨hn,hr,fun t h=>?_,?_⟩
 ·obtain⟨u,hu,rfl⟩:=List.mem_map.mp h
  obtain⟨h1,h2,h3,h4⟩:=ht u hu
  exact⟨getD_mem (show u.i<xs.length by omega),getD_mem h2,Hk hr h1 h2,h3,h4⟩
 ·show (ts.map (Ix.tie xs)).Pairwise GG
  rw [List.pairwise_map]
  refine List.Pairwise.imp_of_mem (fun {s t} hs ht' h=>?_) hp
  obtain⟨h1,h2,_⟩:=ht s hs
  obtain⟨g1,g2,_⟩:=ht t ht'
  rcases h with h | ⟨h,h'⟩
  ·exact .inl (Hk hr h (by omega))
  ·refine .inr ⟨?_,Hk hr h' g2⟩
   show xs.getD s.i ""=xs.getD t.i ""
   rw [h]
theorem Px{ss:List Slot}{n:Nat}{Pd:D->Nat->Prop}(h:Nq ss n Pd):GU { nx:=fun n _=>Kd.sh=.sh/\Pd .non n,rt:=Pd } n (ss++List.replicate 6 .no):=by
 obtain⟨most,ties,rfl,hm1,hm2,hn,p⟩:=h
 unfold GU
 refine⟨_,rfl,by omega,by omega,by omega,fun r h0 h1=>?_⟩
 refine⟨(1+r).toNat,by rw [show (((1+r).toNat:Nat):Int)=1+r by omega],by omega,by omega,by omega,fun xs n1 hl hx hr hn1=>?_⟩
 refine⟨3,rfl,by decide,by decide,by omega,fun few f0 f1=>⟨4,rfl,by decide,by decide,by omega,fun scale s0 s1=>⟨(by decide:0<=sizeLine),?_⟩⟩⟩
 have hxl:(xs.map D.str).length=xs.length:=List.length_map ..
 refine⟨_,_,rfl,rfl,_,rfl,⟨by omega,by omega⟩,?_⟩
 refine Dr (all:=CB 0 (((xs.map D.str).length:Int)).toNat) (fun pre m ρ=>n1 - 1 - 1 - 52*pre.length<=m/\∃(ts:List Ix) (s7 s8:Slot),(∀t∈ts,t.i<t.j/\t.j<xs.length/\1<=t.len/\t.len<=1000000)/\ts.Pairwise NG/\ts.length<=ties/\(∀t∈ts,t.i<pre.length)/\ts.length<=26*pre.length /\
  ρ=[.fd,.sh (.int most),.sh (.int ties),.sh (.lst (xs.map .str)),.sh (.int (1+few)),.sh (.int scale),.ow (.lst ((ts.map (Ix.tie xs)).map Ea)),s7,s8]) ?_ ?_ _ [] _ _ rfl ⟨by simp,[],_,_,(fun _ h=>by cases h),List.Pairwise.nil,Nat.zero_le _,(fun _ h=>by cases h),Nat.zero_le _,rfl⟩
 ·rintro m ρ ⟨hm,ts,s7,s8,h1,h2,h3,h4,h5,rfl⟩
  have el:(CB 0 (((xs.map D.str).length:Int)).toNat).length=xs.length:=by rw [Bv]; omega
  rw [el] at hm
  refine⟨(by decide:2<=sizeLine),p ⟨xs,ts.map (Ix.tie xs)⟩ m (NC hx hr h1 h2) (by show 1<=xs.length; omega) (by show xs.length<=most; omega) (by show (ts.map (Ix.tie xs)).length<=ties; rw [List.length_map]; exact h3) (by omega)⟩
 ·rintro pre d post m ρ nx hall ⟨hm,ts,s7,s8,h1,h2,h3,h4,h5,rfl⟩ hnx
  obtain⟨rfl,hk⟩:=Hi hall
  have epre:(pre++[D.int (0+(pre.length:Int))]).length=pre.length+1:=by rw [List.length_append,List.length_singleton]
  rw [epre] at hnx
  generalize pre.length=one at hk hnx hm h4 h5 ⊢
  rw [hxl] at hk
  refine⟨_,_,rfl,rfl,_,_,rfl,⟨by omega,by omega,by omega,by omega⟩,?_⟩
  refine Dr (all:=CB (0+(one:Int)+1) ((((xs.map D.str).length:Int)) - (0+(one:Int)+1)).toNat) (fun pre m ρ=>n1 - 1 - 1 - 52*one - 2*pre.length<=m/\∃(ts:List Ix) (s8:Slot),(∀t∈ts,t.i<t.j/\t.j<xs.length/\1<=t.len/\t.len<=1000000)/\ts.Pairwise NG/\ts.length<=ties/\(∀t∈ts,t.i<one\/(t.i=one/\t.j<one+1+pre.length))/\ts.length<=26*one+pre.length /\
   ρ=[.fd,.sh (.int most),.sh (.int ties),.sh (.lst (xs.map .str)),.sh (.int (1+few)),.sh (.int scale),.ow (.lst ((ts.map (Ix.tie xs)).map Ea)),.sh (.int (0+(one:Int))),s8]) ?_ ?_ _ [] _ _ rfl ⟨by simpa using hm,ts,_,h1,h2,h3,fun t ht=>.inl (h4 t ht),by simpa using h5,rfl⟩
  ·rintro m ρ ⟨hm,ts,s8,h1,h2,h3,h4,h5,rfl⟩
   rw [Bv] at hm h5
   refine hnx _ _ ⟨by omega,ts,_,_,h1,h2,h3,fun t ht=>?_,by omega,rfl⟩
   rcases h4 t ht with h | h <;> omega
  ·rintro pre2 d2 post2 m ρ nx2 hall2 ⟨hm,ts,s8,h1,h2,h3,h4,h5,rfl⟩ hnx2
   obtain⟨rfl,hk2⟩:=Hi hall2
   rw [List.length_append,List.length_singleton] at hnx2
   generalize pre2.length=q at hk2 hnx2 hm h4 h5 ⊢
   have hq:one+1+q<xs.length:=by omega
   have skip:nx2 (m - 1) [.fd,.sh (.int most),.sh (.int ties),.sh (.lst (xs.map .str)),.sh (.int (1+few)),.sh (.int scale),.ow (.lst ((ts.map (Ix.tie xs)).map Ea)),.sh (.int (0+(one:Int))),.sh (.int (0+(one:Int)+1+(q:Int)))]:=by
    refine hnx2 _ _ ⟨by omega,ts,_,h1,h2,h3,fun t ht=>?_,by omega,rfl⟩
    rcases h4 t ht with h | h
    ·exact .inl h
    ·exact .inr (by omega)
   refine⟨4,rfl,by decide,by decide,by omega,fun dr d0 d1=>?_⟩
   refine Cc (fun c1=>⟨_,_,rfl,rfl,Cc (fun c2=>?_) fun c2=>skip⟩) fun c1=>Cc (fun c2=>absurd c2 (by decide)) fun _=>skip
   have hlt:ts.length<ties:=by
    have:(((ts.map (Ix.tie xs)).map Ea).length:Int)<(ties:Int):=of_decide_eq_true c2
    rw [List.length_map,List.length_map] at this
    omega
   refine⟨_,rfl,rfl,D.str (xs.getD one ""),?_,D.str (xs.getD (one+1+q) ""),?_,scale,rfl,by omega,fun len l1 l2=>⟨(by decide:3<=sizeLine),_,_,rfl,rfl,?_,?_⟩⟩
   ·rw [show (0+(one:Int))=((one:Nat):Int) by omega]
    exact AV (by rw [List.getElem?_map,getD_at hk]; rfl)
   ·rw [show (0+(one:Int)+1+(q:Int))=((one+1+q:Nat):Int) by omega]
    exact AV (by rw [List.getElem?_map,getD_at hq]; rfl)
   ·rw [List.length_map,List.length_map,PySem.sizeLine_eq]; omega
   ·refine hnx2 _ _ ⟨by omega,ts++[⟨one,one+1+q,len⟩],.sh (.int (0+(one:Int)+1+(q:Int))),fun t ht=>?_,?_,by rw [List.length_append,List.length_singleton]; omega,fun t ht=>?_,by rw [List.length_append,List.length_singleton]; omega,?_⟩
    ·rcases List.mem_append.mp ht with ht | ht
     ·exact h1 t ht
     ·rw [List.mem_singleton.mp ht]
      exact⟨by show one<one+1+q; omega,hq,l1,l2⟩
    ·rw [List.pairwise_append]
     refine⟨h2,List.pairwise_singleton _ _,fun s hs t ht=>?_⟩
     rw [List.mem_singleton.mp ht]
     rcases h4 s hs with h | h
     ·exact .inl h
     ·exact .inr h
    ·rcases List.mem_append.mp ht with ht | ht
     ·rcases h4 t ht with h | h
      ·exact .inl h
      ·exact .inr (by omega)
     ·rw [List.mem_singleton.mp ht]
      exact .inr ⟨rfl,by show one+1+q<one+1+(q+1); omega⟩
    ·rw [List.map_append,List.map_append]
     rfl
abbrev EE(Pd:D->Nat->Prop):E2:={ nx:=fun n _=>Kd.sh=.sh/\Pd .non n,rt:=Pd }
theorem BZ{b:BW}{te:DW}{P:List D->Nat->Prop}(g:D->D)(I:List Slot->Prop):∀(ds acc:List D) (n:Nat) (ρ:List Slot),
  (∀d∈ds,∀(ρ:List Slot) (n:Nat) (nx:D->Nat->List Slot->Prop),I ρ->(∀ρ',I ρ'->nx (g d) n ρ')->b d ρ fun ρ1=>te n ρ1 fun y n2=>nx y n2 ρ1)->I ρ->P (acc++ds.map g) n->Dd b CZ te P ds acc n ρ
 | [],acc,n,ρ,_,_,h=>by rw [List.map_nil,List.append_nil] at h; exact h
 | d::ds,acc,n,ρ,ht,hρ,h=>ht d List.mem_cons_self ρ n (fun y n2 ρ1=>Dd b CZ te P ds (acc++[y]) n2 ρ1) hρ fun ρ' hρ' =>
  BZ g I ds (acc++[g d]) n ρ' (fun d hd=>ht d (List.mem_cons_of_mem _ hd)) hρ' (by rw [List.append_assoc]; exact h)
theorem JV{α:Type}{l:List α}{p:α->Bool}{P:D->Prop}(h:P (.bl (l.all p))):OW [.lst (l.map fun a=>.bl (p a))] P :=
 ⟨_,_,rfl,Jg p l,by rw [List.all_map]; exact h⟩
theorem Nj{b1 b2:Bool}{P:D->Nat->Prop}{n:Nat}{k:(D->Nat->Prop)->Prop}(hk:b1=true->P (.bl b2) n->k P)(h:P (.bl (b1&&b2)) n):(match (.bl b1:D) with | .bl true=>k P | .bl false=>P (.bl false) n | _=>False):=Nh hk h
abbrev Wb(g:D->Bool):W2:=O_ 1 fun ds=>.bl (g (ds.getD 0 .non))
theorem Wb.out{g:D->Bool}{ss:List Slot}{n:Nat}{P:D->Nat->Prop}(h:Wb g ss n P):∃d,ss=[.sh d]/\P (.bl (g d)) n:=by
 obtain⟨ds,hl,rfl,h⟩:=h
 match ds,hl with
 | [d],_=>exact⟨d,rfl,h⟩
def Pb:D->Bool
 | .int _=>true
 | _=>false
def tupleOfB(k:Int):D->Bool
 | .tup xs=>((xs.length:Int)==k)
 | _=>false
abbrev GY:W2:=Wb Pb
abbrev Do:W2:=fun ss n P=>∃k d,ss=[.sh (.int k),.sh d]/\P (.bl (tupleOfB k d)) n
def KN:Ak:=(Ba (Ge (Gd "int" (AC 0)) (Pf (Gd "bool" (AC 0)))))
def G2:Ak:=(Ba (Ge (Gd "tuple" (AC 1)) (AT (G0 false) (Cj EG (AD (AC 1) AQ)) (AC 0))))
section
variable {ss:List Slot}{n:Nat}{Pd:D->Nat->Prop}
theorem JB(h:GY ss n Pd):KN (EE Pd) n (ss++List.replicate 0 .no):=by
 obtain⟨d,rfl,q⟩:=h.out
 cases d <;> exact q
theorem Fg(h:Do ss n Pd):G2 (EE Pd) n (ss++List.replicate 0 .no):=by
 obtain⟨k,d,rfl,h⟩:=h
 cases d with
 | tup xs=>exact⟨_,_,rfl,rfl,h⟩
 | _=>exact h
end
theorem Iy{x:Str}(h:∀c∈cs x,c<1114112):PyData.strOk x=true:=by
 unfold PyData.strOk
 rw [← Array.all_toList,List.all_eq_true]
 intro c hc
 exact decide_eq_true (h c hc)
theorem JR{x:Str}(h:OP x):DD (.str x):=⟨rfl,Iy fun c hc=>by have:=h.2.2 c hc; omega,Nat.zero_le _⟩
theorem JS{ps:List Str}(h:∀p∈ps,OP p):Cp (ps.map .str)=true/\PyData.canLayAll0 (A3 (ps.map .str))=true/\PyData.depthAll (A3 (ps.map .str))=0:=by
 induction ps with
 | nil=>exact⟨rfl,rfl,rfl⟩
 | cons p r ih =>
  obtain⟨h1,h2,h3⟩:=ih fun q hq=>h q (List.mem_cons_of_mem _ hq)
  have hp:=JR (h p List.mem_cons_self)
  refine⟨by rw [List.map_cons,Cp,h1]; rfl,?_,?_⟩
  ·rw [List.map_cons,A3,PyData.canLayAll0,h2,Bool.and_true]
   exact hp.2.1
  ·rw [List.map_cons,A3,PyData.depthAll,h3]
   rfl
theorem L1{ps:List Str}(h:∀p∈ps,OP p):DD (.tup (ps.map .str)):=by
 obtain⟨h1,h2,h3⟩:=JS h
 refine⟨h1,h2,?_⟩
 show PyData.depthAll (A3 (ps.map .str))+1<=100
 rw [h3]; decide
theorem K9(x y:Str):K_ (.str x) (.str y)=(x==y):=rfl
section
variable {ss:List Slot}{n:Nat}{Pd:D->Nat->Prop}
end
mutual
def fine(B:Nat):D->Prop
 | .int i=>i.natAbs<=B
 | .str x=>∀c∈cs x,c<1114112
 | .tup ds=>Di B ds
 | .lst ds=>Di B ds
 | .dic _ _=>False
 | .fdi _ _=>False
 | _=>True
def Di(B:Nat):List D->Prop
 | []=>True
 | d::ds=>fine B d/\Di B ds
end
mutual
def Bt:D->Nat
 | .int _=>200
 | .str x=>x.length
 | .tup ds=>B8 ds
 | .lst ds=>B8 ds
 | _=>0
def B8:List D->Nat
 | []=>0
 | d::ds=>Bt d+1+B8 ds
end
mutual
def CQ:D->Nat
 | .tup ds=>DU ds+1
 | .lst ds=>DU ds+1
 | _=>0
def DU:List D->Nat
 | []=>0
 | d::ds=>max (CQ d) (DU ds)
end
theorem fines_iff{B:Nat}:∀{ds:List D},Di B ds↔∀d∈ds,fine B d
 | []=>⟨(fun _ d h=>by cases h),fun _=>trivial⟩
 | d::ds=>by
  have ih:=@fines_iff B ds
  constructor
  ·rintro ⟨h1,h2⟩ e he
   rcases List.mem_cons.mp he with rfl | he
   ·exact h1
   ·exact ih.mp h2 e he
  ·exact fun h=>⟨h d List.mem_cons_self,ih.mpr fun e he=>h e (List.mem_cons_of_mem _ he)⟩
theorem dps_le{k:Nat}:∀{ds:List D},DU ds<=k↔∀d∈ds,CQ d<=k
 | []=>⟨(fun _ d h=>by cases h),fun _=>Nat.zero_le _⟩
 | d::ds=>by
  have ih:=@dps_le k ds
  show max (CQ d) (DU ds)<=k↔_
  rw [Nat.max_le,ih]
  constructor
  ·rintro ⟨h1,h2⟩ e he
   rcases List.mem_cons.mp he with rfl | he
   ·exact h1
   ·exact h2 e he
  ·exact fun h=>⟨h d List.mem_cons_self,fun e he=>h e (List.mem_cons_of_mem _ he)⟩
theorem BS:∀(xs ys:List D),B8 (xs++ys)=B8 xs+B8 ys
 | [],ys=>by simp [B8]
 | d::xs,ys=>by
  rw [List.cons_append]
  show Bt d+1+B8 (xs++ys)=Bt d+1+B8 xs+B8 ys
  rw [BS xs ys]; omega
theorem HY:∀(xs:List D),B8 xs.reverse=B8 xs
 | []=>rfl
 | d::xs=>by
  rw [List.reverse_cons,BS,HY xs]
  show B8 xs+(Bt d+1+0)=Bt d+1+B8 xs
  omega
theorem Iv(xs:List D)(k:Nat):B8 (xs.take k)<=B8 xs:=by
 have:=BS (xs.take k) (xs.drop k)
 rw [List.take_append_drop] at this
 omega
theorem MY(xs:List D)(k:Nat):B8 (xs.drop k)<=B8 xs:=by
 have:=BS (xs.take k) (xs.drop k)
 rw [List.take_append_drop] at this
 omega
theorem Ka{xs:List D}{d:D}(h:d∈xs):Bt d+1<=B8 xs:=by
 obtain⟨a,b,rfl⟩:=List.append_of_mem h
 rw [BS]
 show _<=_+(Bt d+1+B8 b)
 omega
theorem BG:∀(xs:List D),xs.length<=B8 xs
 | []=>Nat.zero_le _
 | d::xs=>by
  have:=BG xs
  show xs.length+1<=Bt d+1+B8 xs
  omega
theorem Bz(xs:List D)(lo hi:Option Int):B8 (Dp.cutD xs lo hi)<=B8 xs:=Nat.le_trans (Iv _ _) (MY _ _)
theorem Bg{xs:List D}{lo hi:Option Int}{d:D}(h:d∈Dp.cutD xs lo hi):d∈xs:=List.mem_of_mem_drop (List.mem_of_mem_take h)
theorem MC{B C:Nat}(h:B<=C):∀(n:Nat),(∀d:D,sizeOf d<=n->fine B d->fine C d)/\∀ds:List D,sizeOf ds<=n->Di B ds->Di C ds:=by
 intro n
 induction n with
 | zero =>
  refine⟨fun d hd _=>?_,fun ds hd _=>?_⟩
  ·cases d <;> simp at hd
  ·cases ds <;> simp at hd
 | succ n ih =>
  refine⟨fun d hd hf=>?_,fun ds hd hf=>?_⟩
  ·cases d with
   | int i=>exact Nat.le_trans (show i.natAbs<=B from hf) h
   | str x=>exact hf
   | tup ds=>exact ih.2 ds (by simp at hd; omega) hf
   | lst ds=>exact ih.2 ds (by simp at hd; omega) hf
   | dic ks ds=>exact(show False from hf).elim
   | fdi ks ds=>exact(show False from hf).elim
   | non=>trivial
   | bl b=>trivial
  ·cases ds with
   | nil=>trivial
   | cons d ds=>exact⟨ih.1 d (by simp at hd; omega) hf.1,ih.2 ds (by simp at hd; omega) hf.2⟩
theorem fine.mono{B C:Nat}{d:D}(hf:fine B d)(h:B<=C):fine C d:=(MC h _).1 d (Nat.le_refl _) hf
mutual
theorem IF{B:Nat}(hB:B<10 ^ 45):∀{d:D},fine B d->FD d=true/\(toPy d).showable=true/\(toPy d).canLay0=true/\(toPy d).depth=CQ d/\(toPy d).leavesShort 60=true/\(toPy d).weight<=Bt d
 | .non,_=>⟨rfl,rfl,rfl,rfl,rfl,Nat.le_refl _⟩
 | .bl b,_=>⟨rfl,rfl,rfl,rfl,rfl,Nat.le_refl _⟩
 | .int i,h=>by
  have h':i.natAbs<=B:=h
  have hlt:i.natAbs<10 ^ 45:=Nat.lt_of_le_of_lt h' hB
  have h2:i.natAbs<2 ^ 150:=Nat.lt_trans hlt (by decide)
  have hl:i.natAbs.log2<150:=by
   by_cases h0:i.natAbs=0
   ·rw [h0]; decide
   ·exact(Nat.log2_lt h0).mpr h2
  refine⟨rfl,?_,rfl,rfl,?_,?_⟩
  ·show decide (i.natAbs.log2<1920)=true
   exact decide_eq_true (by omega)
  ·show decide ((PyData.shown (.int i)).length<=60)=true
   refine decide_eq_true ?_
   have:=int_text_length_le10 (a:=i) (k:=45) (by decide) hlt
   show (Str.ofString (toString i)).length<=60
   rw [PySem.ofString_length]
   omega
  ·show (if i==0 then 0 else i.natAbs.log2+1)<=200
   split <;> omega
 | .str x,h=>by
  have h':∀c∈cs x,c<1114112:=h
  refine⟨rfl,rfl,Iy h',rfl,?_,Nat.le_refl _⟩
  show (x.cps.toList.all fun c=>decide (c<16 ^ 8))=true
  rw [List.all_eq_true]
  intro c hc
  exact decide_eq_true (Nat.lt_trans (h' c hc) (by decide))
 | .tup ds,h=>by
  obtain⟨h1,h2,h3,h4,h5,h6⟩:=GC hB (ds:=ds) h
  refine⟨h1,h2,h3,?_,h5,h6⟩
  show PyData.depthAll (A3 ds)+1=DU ds+1
  rw [h4]
 | .lst ds,h=>by
  obtain⟨h1,h2,h3,h4,h5,h6⟩:=GC hB (ds:=ds) h
  refine⟨h1,h2,h3,?_,h5,h6⟩
  show PyData.depthAll (A3 ds)+1=DU ds+1
  rw [h4]
 | .dic ks ds,h=>(show False from h).elim
 | .fdi ks ds,h=>(show False from h).elim
theorem GC{B:Nat}(hB:B<10 ^ 45):∀{ds:List D},Di B ds->Cp ds=true/\PyData.showableAll (A3 ds)=true/\PyData.canLayAll0 (A3 ds)=true/\PyData.depthAll (A3 ds)=DU ds/\PyData.leavesShortAll 60 (A3 ds)=true/\PyData.weightAll (A3 ds)<=B8 ds
 | [],_=>⟨rfl,rfl,rfl,rfl,rfl,Nat.le_refl _⟩
 | d::ds,h=>by
  obtain⟨h1,h2,h3,h4,h5,h6⟩:=IF hB (d:=d) h.1
  obtain⟨g1,g2,g3,g4,g5,g6⟩:=GC hB (ds:=ds) h.2
  refine⟨?_,?_,?_,?_,?_,?_⟩
  ·show (FD d&&Cp ds)=true
   rw [h1,g1]; rfl
  ·show ((toPy d).showable&&PyData.showableAll (A3 ds))=true
   rw [h2,g2]; rfl
  ·show ((toPy d).canLay0&&PyData.canLayAll0 (A3 ds))=true
   rw [h3,g3]; rfl
  ·show max (toPy d).depth (PyData.depthAll (A3 ds))=max (CQ d) (DU ds)
   rw [h4,g4]
  ·show ((toPy d).leavesShort 60&&PyData.leavesShortAll 60 (A3 ds))=true
   rw [h5,g5]; rfl
  ·show (toPy d).weight+1+PyData.weightAll (A3 ds)<=Bt d+1+B8 ds
   omega
end
theorem Hd{B:Nat}{d:D}(hB:B<10 ^ 45)(h:fine B d)(hd:CQ d<=100)(hs:Bt d<=200000):I_ d:=by
 obtain⟨h1,h2,h3,h4,h5,h6⟩:=IF hB h
 refine⟨h1,h2,by rw [h4]; exact hd,?_⟩
 have:=PyData.shown_le 60 (by decide) (toPy d) h5
 rw [PySem.sizeLine_eq]
 have:62*(toPy d).weight<=62*200000:=Nat.mul_le_mul_left _ (by omega)
 omega
theorem E3{B:Nat}{d:D}(hB:B<10 ^ 45)(h:fine B d)(hd:CQ d<=100):DD d:=by
 obtain⟨h1,h2,h3,h4,h5,h6⟩:=IF hB h
 exact⟨h1,h3,by rw [h4]; exact hd⟩
def MN:W2:=fun ss n P=>∃(d:D) (B:Nat),ss=[.fd,.sh d]/\fine B d/\2000000<=B/\B<10 ^ 40/\Bt d<=50000/\2<=n/\∀(e:D) (n':Nat),fine (B+1) e->Bt e<=2*Bt d+250->CQ e<=CQ d+1->n - 2<=n'->P e n'
def GT:Ak:=(Aa (DV 2 (C9 (AD (wC D.non) (AD (wC (D.bl true)) (AD (wC (D.int 0)) (AD (wC (D.int 1)) (AD (N3 (wC (D.int 1))) (AD (wC (D.str "a")) (AD (wC (D.str "b")) (AD (CF AQ) (AD (C9 AQ) (AD (AT (II Ep fun i j=>D.int (i ^ j.toNat)) (wC (D.int 10)) (wC (D.int 6))) (AD (AT Ae (AT (II Ep fun i j=>D.int (i ^ j.toNat)) (wC (D.int 10)) (wC (D.int 6))) (wC (D.int 1))) (AD (wC (D.str "abcdefghi")) (AD (wC (D.str "B")) (AD (AC 1) AQ))))))))))))))))
 (Aa (B9 (Al (MR "tuple" "list" (AC 1))) (Aa (Az 3 (AY Ax (AF (Ap 0) (AF (AN (AT Ae (Cj EG (AD (AC 1) AQ)) (wC (D.int 1)))) AZ))))
 (Aa (DV 2 (AT PM (A1 2) (C9 (AD (Cj IG (AD (AC 1) AQ)) (AD (Cj B0 (AD (AC 1) AQ)) (AD (Q0 (AC 1) (N3 (wC (D.int 1)))) (AD (AT Ae (G6 C5 (AC 1) BK (Bb (AC 3))) (G6 C5 (AC 1) (Bb (AT Ae (AC 3) (wC (D.int 1)))) BK)) AQ)))))))
 (N0 2 "list" JU (AD (AT Ae (AT Ae (G6 C5 (AC 1) BK (Bb (AC 3))) (G6 C5 (AC 1) (Bb (AC 3)) (Bb (AT Ae (AC 3) (wC (D.int 1)))))) (G6 C5 (AC 1) (Bb (AC 3)) BK)) AQ)))) BO)
 (Aa (B9 (Al (Gd "int" (AC 1))) (DV 2 (AT PM (A1 2) (C9 (AD (AT Ae (AC 1) (wC (D.int 1))) (AD (AT C1 (AC 1) (wC (D.int 1))) (AD (AT Rm (AC 1) (wC (D.int 1))) (AD (Cj NT (AD (AC 1) AQ)) (AD (AT C1 (wC (D.int 0)) (AC 1)) AQ)))))))) BO)
 (Ba (AT CK (A1 2) (AY Ax (AF (Ap 0) (AF (AN (Cj EG (AD (A1 2) AQ))) AZ))))))))
theorem MA(i:Int):∀c∈cs (Str.ofString (toString i)),c<1114112:=by
 intro c hc
 by_cases h:c=45\/(48<=c/\c<=57)
 ·omega
 ·exact absurd hc (int_text_free' c (by omega) i)
theorem HM(xs:List D)(a:Int)(h:0<=a):B8 (Dp.cutD xs none (some a))+B8 (Dp.cutD xs (some a) (some (a+1)))<=B8 xs:=by
 obtain⟨k,rfl⟩:∃k:Nat,a=(k:Int):=⟨a.toNat,by omega⟩
 have e1:Dp.cutD xs none (some (k:Int))=xs.take (min k xs.length):=by
  unfold Dp.cutD
  rw [HT.sIx_none,HT.sIx_nat,List.drop_zero,Nat.sub_zero]
 have e2:Dp.cutD xs (some (k:Int)) (some ((k:Int)+1))=(xs.drop (min k xs.length)).take (min (k+1) xs.length - min k xs.length):=by
  unfold Dp.cutD
  rw [show ((k:Int)+1)=((k+1:Nat):Int) by omega,HT.sIx_nat,HT.sIx_nat]
 rw [e1,e2]
 have h1:=BS (xs.take (min k xs.length)) (xs.drop (min k xs.length))
 rw [List.take_append_drop] at h1
 have h2:=Iv (xs.drop (min k xs.length)) (min (k+1) xs.length - min k xs.length)
 omega
section
variable {ss:List Slot}{n:Nat}{Pd:D->Nat->Prop}
theorem Pw(h0:MN ss n Pd):GT (EE Pd) n (ss++List.replicate 2 .no):=by
 obtain⟨d,B,rfl,hf,hB1,hB2,hz,hn,p⟩:=h0
 have good:∀(zs:List D),(∀z∈zs,fine (B+1) z/\Bt z<=2*Bt d+250/\CQ z<=CQ d+1)->1<=zs.length->zs.length<=100->∀(m:Nat) (s3:Slot),n - 1<=m ->
   (Ba (AT CK (A1 2) (AY Ax (AF (Ap 0) (AF (AN (Cj EG (AD (A1 2) AQ))) AZ))))) (EE Pd) m [.fd,.sh d,.ow (.lst zs),s3]:=by
  intro zs hzs h1 h2 m s3 hm
  refine⟨_,_,rfl,rfl,(zs.length:Int),rfl,by omega,by omega,by omega,fun r h0 h1=>?_⟩
  obtain⟨k,rfl⟩:∃k:Nat,r=(k:Int):=⟨r.toNat,by omega⟩
  have hk:k<zs.length:=by omega
  refine⟨zs[k],AV (List.getElem?_eq_getElem hk),?_⟩
  obtain⟨g1,g2,g3⟩:=hzs zs[k] (List.getElem_mem hk)
  exact p _ _ g1 g2 g3 (by omega)
 have self:fine (B+1) d/\Bt d<=2*Bt d+250/\CQ d<=CQ d+1:=⟨hf.mono (by omega),by omega,by omega⟩
 have base:∀z∈[D.non,.bl true,.int 0,.int 1,.int (-1),.str "a",.str "b",.tup [],.lst [],.int (10 ^ (6:Int).toNat),.int (10 ^ (6:Int).toNat+1),.str "abcdefghi",.str "B",d],fine (B+1) z/\Bt z<=2*Bt d+250/\CQ z<=CQ d+1:=by
  have sg:∀x∈[("a" : Str),"b","abcdefghi","B"],(∀c∈cs x,c<1114112)/\x.length<=9:=by decide +kernel
  have hi:∀i:Int,i.natAbs<=1000001->fine (B+1) (.int i):=fun i h=>show i.natAbs<=B+1 by omega
  intro z hz'
  simp only [List.mem_cons,List.not_mem_nil,or_false] at hz'
  rcases hz' with rfl | rfl | rfl | rfl | rfl | rfl | rfl | rfl | rfl | rfl | rfl | rfl | rfl | rfl
  ·exact⟨trivial,Nat.zero_le _,Nat.zero_le _⟩
  ·exact⟨trivial,Nat.zero_le _,Nat.zero_le _⟩
  ·exact⟨hi _ (by decide),by show 200<=_; omega,Nat.zero_le _⟩
  ·exact⟨hi _ (by decide),by show 200<=_; omega,Nat.zero_le _⟩
  ·exact⟨hi _ (by decide),by show 200<=_; omega,Nat.zero_le _⟩
  ·exact⟨(sg _ (by simp)).1,Nat.le_trans (sg _ (by simp)).2 (by omega),Nat.zero_le _⟩
  ·exact⟨(sg _ (by simp)).1,Nat.le_trans (sg _ (by simp)).2 (by omega),Nat.zero_le _⟩
  ·exact⟨trivial,Nat.zero_le _,by show 0+1<=_; omega⟩
  ·exact⟨trivial,Nat.zero_le _,by show 0+1<=_; omega⟩
  ·exact⟨hi _ (by decide),by show 200<=_; omega,Nat.zero_le _⟩
  ·exact⟨hi _ (by decide),by show 200<=_; omega,Nat.zero_le _⟩
  ·exact⟨(sg _ (by simp)).1,Nat.le_trans (sg _ (by simp)).2 (by omega),Nat.zero_le _⟩
  ·exact⟨(sg _ (by simp)).1,Nat.le_trans (sg _ (by simp)).2 (by omega),Nat.zero_le _⟩
  ·exact self
 have more:∀(zs ys:List D),(∀z∈zs,fine (B+1) z/\Bt z<=2*Bt d+250/\CQ z<=CQ d+1)->(∀z∈ys,fine (B+1) z/\Bt z<=2*Bt d+250/\CQ z<=CQ d+1)->∀z∈zs++ys,fine (B+1) z/\Bt z<=2*Bt d+250/\CQ z<=CQ d+1:=fun zs ys h1 h2 z hz=>(List.mem_append.mp hz).elim (h1 z) (h2 z)
 unfold GT
 refine⟨1,rfl,(by decide:0<=sizeLine),(by decide:0<=sizeLine),⟨by decide,by decide,by decide⟩,⟨by decide,by decide,by decide⟩,(by decide:14<=sizeLine),?_⟩
 have szl:=PySem.sizeLine_eq
 cases d with
 | non=>exact⟨trivial,good _ base (by simp) (by simp) n .no (by omega)⟩
 | str x=>exact⟨trivial,good _ base (by simp) (by simp) n .no (by omega)⟩
 | bl k =>
  refine⟨trivial,?_⟩
  have lb:DD (.bl k):=E3 (B:=B) (by omega) hf (Nat.zero_le _)
  have l1:DD (.int 1):=E3 (B:=B) (d:=.int 1) (by omega) (show (1:Int).natAbs<=B by omega) (Nat.zero_le _)
  refine⟨lb,l1,(by decide:5<=sizeLine),(by show 14+5<=sizeLine; decide),?_⟩
  refine good _ (more _ _ base ?_) (by simp) (by simp) n .no (by omega)
  intro z hz'
  simp only [List.mem_cons,List.not_mem_nil,or_false] at hz'
  have hk:(bI k).natAbs<=1:=by cases k <;> decide
  rcases hz' with rfl | rfl | rfl | rfl | rfl
  ·exact⟨show (bI k+1).natAbs<=B+1 by omega,by show 200<=_; omega,Nat.zero_le _⟩
  ·exact⟨show (bI k - 1).natAbs<=B+1 by omega,by show 200<=_; omega,Nat.zero_le _⟩
  ·exact⟨trivial,Nat.zero_le _,Nat.zero_le _⟩
  ·have:∀k:Bool,(∀c∈cs (if k then ("True" : Str) else "False"),c<1114112)/\(if k then ("True" : Str) else "False").length<=5:=by decide +kernel
   exact⟨(this k).1,Nat.le_trans (this k).2 (by omega),Nat.zero_le _⟩
  ·exact⟨show (0 - bI k).natAbs<=B+1 by omega,by show 200<=_; omega,Nat.zero_le _⟩
 | int i =>
  refine⟨trivial,?_⟩
  have hi:i.natAbs<=B:=hf
  have lb:DD (.int i):=E3 (B:=B) (by omega) hf (Nat.zero_le _)
  have l1:DD (.int 1):=E3 (B:=B) (d:=.int 1) (by omega) (show (1:Int).natAbs<=B by omega) (Nat.zero_le _)
  have hlog:i.natAbs.log2<1920:=by
   by_cases h0:i.natAbs=0
   ·rw [h0]; decide
   ·exact Nat.lt_trans ((Nat.log2_lt h0).mpr (Nat.lt_trans (Nat.lt_of_le_of_lt hi hB2) (by decide:10 ^ 40<2 ^ 150))) (by decide)
  have hlen:(Str.ofString (toString i)).length<=41:=by
   rw [PySem.ofString_length]
   exact int_text_length_le10 (k:=40) (by decide) (Nat.lt_of_le_of_lt hi hB2)
  refine⟨lb,l1,hlog,by omega,(by decide:5<=sizeLine),(by show 14+5<=sizeLine; decide),?_⟩
  refine good _ (more _ _ base ?_) (by simp) (by simp) n .no (by omega)
  intro z hz'
  simp only [List.mem_cons,List.not_mem_nil,or_false] at hz'
  rcases hz' with rfl | rfl | rfl | rfl | rfl
  ·exact⟨show (i+1).natAbs<=B+1 by omega,by show 200<=_; omega,Nat.zero_le _⟩
  ·exact⟨show (i - 1).natAbs<=B+1 by omega,by show 200<=_; omega,Nat.zero_le _⟩
  ·exact⟨trivial,Nat.zero_le _,Nat.zero_le _⟩
  ·exact⟨MA i,by show (Str.ofString (toString i)).length<=_; omega,Nat.zero_le _⟩
  ·exact⟨show (0 - i).natAbs<=B+1 by omega,by show 200<=_; omega,Nat.zero_le _⟩
 | tup xs =>
  have hl:=BG xs
  have hz2:B8 xs<=50000:=hz
  refine⟨trivial,_,_,rfl,rfl,(xs.length:Int)+1,rfl,by omega,by omega,by omega,fun a h0 h1=>?_⟩
  have fx:∀(ys:List D),(∀y∈ys,y∈xs)->B8 ys<=2*B8 xs->(fine (B+1) (.tup ys)/\Bt (.tup ys)<=2*Bt (.tup xs)+250/\CQ (.tup ys)<=CQ (.tup xs)+1)/\fine (B+1) (.lst ys)/\Bt (.lst ys)<=2*Bt (.tup xs)+250/\CQ (.lst ys)<=CQ (.tup xs)+1:=fun ys hy hs=>by
   have f1:Di (B+1) ys:=fines_iff.mpr fun y h=>fines_iff.mp self.1 y (hy y h)
   have f2:B8 ys<=2*B8 xs+250:=by omega
   have:=dps_le.mpr fun y h=>dps_le.mp (Nat.le_refl (DU xs)) y (hy y h)
   have f3:DU ys+1<=DU xs+1+1:=by omega
   exact⟨⟨f1,f2,f3⟩,f1,f2,f3⟩
  have c1:=Bz xs none (some a)
  have c2:=Bz xs (some (a+1)) none
  have c3:=Bz xs (some a) (some (a+1))
  have c4:=Bz xs (some a) none
  have d1:=BG (Dp.cutD xs none (some a))
  have d2:=BG (Dp.cutD xs (some (a+1)) none)
  have d3:=BG (Dp.cutD xs (some a) (some (a+1)))
  have d4:=BG (Dp.cutD xs (some a) none)
  have e1:(Dp.cutD xs none (some a)++Dp.cutD xs (some a) (some (a+1))).length=_:=List.length_append
  refine⟨1,rfl,rfl,by omega,(by decide:4<=sizeLine),(by show 14+4<=sizeLine; decide),_,rfl,rfl,by omega,by omega,_,_,rfl,rfl,(by show 14+4<sizeLine; decide),?_⟩
  refine good _ (more _ _ (more _ _ base ?_) ?_) (by simp) (by simp) (n - 1) (.sh (.int a)) (Nat.le_refl _)
  ·intro z hz'
   simp only [List.mem_cons,List.not_mem_nil,or_false] at hz'
   rcases hz' with rfl | rfl | rfl | rfl
   ·exact(fx xs (fun _ h=>h) (by omega)).2
   ·exact(fx xs (fun _ h=>h) (by omega)).1
   ·exact(fx xs.reverse (fun y h=>List.mem_reverse.mp h) (by rw [HY]; omega)).1
   ·exact(fx _ (fun y h=>(List.mem_append.mp h).elim Bg Bg) (by rw [BS]; omega)).1
  ·intro z hz'
   rw [List.mem_singleton.mp hz']
   refine(fx _ (fun y h=>(List.mem_append.mp h).elim (fun h=>(List.mem_append.mp h).elim Bg Bg) Bg) ?_).1
   rw [BS,BS]
   have:=HM xs a h0
   omega
 | lst xs =>
  have hl:=BG xs
  have hz2:B8 xs<=50000:=hz
  refine⟨trivial,_,_,rfl,rfl,(xs.length:Int)+1,rfl,by omega,by omega,by omega,fun a h0 h1=>?_⟩
  have fx:∀(ys:List D),(∀y∈ys,y∈xs)->B8 ys<=2*B8 xs->(fine (B+1) (.tup ys)/\Bt (.tup ys)<=2*Bt (.lst xs)+250/\CQ (.tup ys)<=CQ (.lst xs)+1)/\fine (B+1) (.lst ys)/\Bt (.lst ys)<=2*Bt (.lst xs)+250/\CQ (.lst ys)<=CQ (.lst xs)+1:=fun ys hy hs=>by
   have f1:Di (B+1) ys:=fines_iff.mpr fun y h=>fines_iff.mp self.1 y (hy y h)
   have f2:B8 ys<=2*B8 xs+250:=by omega
   have:=dps_le.mpr fun y h=>dps_le.mp (Nat.le_refl (DU xs)) y (hy y h)
   have f3:DU ys+1<=DU xs+1+1:=by omega
   exact⟨⟨f1,f2,f3⟩,f1,f2,f3⟩
  have c1:=Bz xs none (some a)
  have c2:=Bz xs (some (a+1)) none
  have c3:=Bz xs (some a) (some (a+1))
  have c4:=Bz xs (some a) none
  have d1:=BG (Dp.cutD xs none (some a))
  have d2:=BG (Dp.cutD xs (some (a+1)) none)
  have d3:=BG (Dp.cutD xs (some a) (some (a+1)))
  have d4:=BG (Dp.cutD xs (some a) none)
  have e1:(Dp.cutD xs none (some a)++Dp.cutD xs (some a) (some (a+1))).length=_:=List.length_append
  refine⟨1,rfl,rfl,by omega,(by decide:4<=sizeLine),(by show 14+4<=sizeLine; decide),_,rfl,rfl,by omega,by omega,_,_,rfl,rfl,(by show 14+4<sizeLine; decide),?_⟩
  refine good _ (more _ _ (more _ _ base ?_) ?_) (by simp) (by simp) (n - 1) (.sh (.int a)) (Nat.le_refl _)
  ·intro z hz'
   simp only [List.mem_cons,List.not_mem_nil,or_false] at hz'
   rcases hz' with rfl | rfl | rfl | rfl
   ·exact(fx xs (fun _ h=>h) (by omega)).2
   ·exact(fx xs (fun _ h=>h) (by omega)).1
   ·exact(fx xs.reverse (fun y h=>List.mem_reverse.mp h) (by rw [HY]; omega)).2
   ·exact(fx _ (fun y h=>(List.mem_append.mp h).elim Bg Bg) (by rw [BS]; omega)).2
  ·intro z hz'
   rw [List.mem_singleton.mp hz']
   refine(fx _ (fun y h=>(List.mem_append.mp h).elim (fun h=>(List.mem_append.mp h).elim Bg Bg) Bg) ?_).2
   rw [BS,BS]
   have:=HM xs a h0
   omega
 | dic ks xs=>exact(show False from hf).elim
 | fdi ks xs=>exact(show False from hf).elim
end
def EI(j:Nat):W2:=fun ss n P=>∃(d:D) (B i:Nat),ss=[.fd,.sh d,.sh (.int i)]/\i<=j/\fine B d/\2000000<=B/\B<10 ^ 40/\Bt d<=50000/\2*j+4<=n/\∀(e:D) (n':Nat),fine (B+1) e->Bt e<=2*Bt d+250->CQ e<=CQ d+1->n - (2*j+4)<=n'->P e n'
def FI(Wbent:W2):Ak:=(Aa (B9 (Im (G7 (Al (MR "tuple" "list" (AC 1)))) (Im (Al (AT (G0 false) (Cj EG (AD (AC 1) AQ)) (wC (D.int 0)))) (Im (Al (AT (G0 false) (AC 2) (wC (D.int 0)))) (Al (AT (G0 false) (AY Ax (AF (Ap 0) (AF (AN (wC (D.int 5))) AZ))) (wC (D.int 0))))))) (Ba (AY MN (AF (Ap 0) (AF (AN (AC 1)) AZ)))) BO)
 (Aa (Az 3 (AY Ax (AF (Ap 0) (AF (AN (Cj EG (AD (AC 1) AQ))) AZ))))
 (Aa (Az 4 (AY Wbent (AF (Ap 0) (AF (AN (AT CK (AC 1) (AC 3))) (AF (AN (AT C1 (AC 2) (wC (D.int 1)))) AZ)))))
 (Ba (AT Ae (AT Ae (G6 C5 (AC 1) BK (Bb (AC 3))) (SD (Al (Gd "list" (AC 1))) (C9 (AD (AC 4) AQ)) (CF (AD (AC 4) AQ)))) (G6 C5 (AC 1) (Bb (AT Ae (AC 3) (wC (D.int 1)))) BK))))))
theorem Qc(xs:List D)(a:Nat):Dp.cutD xs none (some (a:Int))=xs.take (min a xs.length):=by
 unfold Dp.cutD
 rw [HT.sIx_none,HT.sIx_nat,List.drop_zero,Nat.sub_zero]
theorem Nf(xs:List D)(a:Nat):Dp.cutD xs (some (a:Int)) none=xs.drop (min a xs.length):=by
 unfold Dp.cutD
 rw [HT.sIx_none,HT.sIx_nat]
 exact List.take_of_length_le (by rw [List.length_drop]; exact Nat.le_refl _)
theorem Mp{xs:List D}{a:Nat}(h:a<xs.length)(e:D):B8 (Dp.cutD xs none (some (a:Int))++[e]++Dp.cutD xs (some ((a:Int)+1)) none)+Bt xs[a]=B8 xs+Bt e:=by
 have e1:=Qc xs a
 have e2:Dp.cutD xs (some ((a:Int)+1)) none=xs.drop (a+1):=by
  rw [show ((a:Int)+1)=((a+1:Nat):Int) by omega,Nf,Nat.min_eq_left (by omega)]
 rw [e1,e2,Nat.min_eq_left (by omega),BS,BS]
 have h1:=BS (xs.take a) (xs.drop a)
 rw [List.take_append_drop,List.drop_eq_getElem_cons h] at h1
 have h2:B8 (xs[a]::xs.drop (a+1))=Bt xs[a]+1+B8 (xs.drop (a+1)):=rfl
 have h3:B8 [e]=Bt e+1+0:=rfl
 omega
section
variable {ss:List Slot}{n:Nat}{Pd:D->Nat->Prop}
theorem Ke{Wr:W2}{j:Nat}(hrec:∀ss n P,j≠0->EI (j - 1) ss n P->Wr ss n P)(h0:EI j ss n Pd):FI Wr (EE Pd) n (ss++List.replicate 2 .no):=by
 obtain⟨d,B,i,rfl,hi,hf,hB1,hB2,hz,hn,p⟩:=h0
 have odd:∀m:Nat,n - 1<=m->MN [.fd,.sh d] m Pd:=fun m hm=>⟨d,B,rfl,hf,hB1,hB2,hz,by omega,fun e n' h1 h2 h3 h4=>p e n' h1 h2 h3 (by omega)⟩
 unfold FI
 have szl:=PySem.sizeLine_eq
 cases d with
 | non=>exact⟨trivial,odd n (by omega)⟩
 | bl b=>exact⟨trivial,odd n (by omega)⟩
 | int k=>exact⟨trivial,odd n (by omega)⟩
 | str x=>exact⟨trivial,odd n (by omega)⟩
 | dic ks xs=>exact(show False from hf).elim
 | fdi ks xs=>exact(show False from hf).elim
 | tup xs =>
  have hl:=BG xs
  have hz2:B8 xs<=50000:=hz
  refine⟨trivial,_,_,rfl,rfl,?_⟩
  refine Cc (fun _=>odd n (by omega)) fun c1=>?_
  have hne:xs.length≠0:=fun z=>c1 (by show ((xs.length:Int)==0)=true; rw [z]; rfl)
  refine Cc (fun _=>odd n (by omega)) fun c2=>?_
  have hj:i≠0:=fun z=>c2 (by show ((i:Int)==0)=true; rw [z]; rfl)
  refine⟨5,rfl,by decide,by decide,by omega,fun r r0 r1=>?_⟩
  refine Cc (fun _=>odd (n - 1) (by omega)) fun _=>?_
  refine⟨_,_,rfl,rfl,(xs.length:Int),rfl,by omega,by omega,by omega,fun a a0 a1=>?_⟩
  obtain⟨a,rfl⟩:∃k:Nat,a=(k:Int):=⟨a.toNat,by omega⟩
  have ha:a<xs.length:=by omega
  refine⟨xs[a],AV (List.getElem?_eq_getElem ha),?_⟩
  have hx:xs[a]∈xs:=List.getElem_mem ha
  have hsx:=Ka hx
  refine hrec _ _ _ (by omega) ⟨xs[a],B,i - 1,by rw [show (((i - 1:Nat)):Int)=(i:Int) - 1 by omega],by omega,fines_iff.mp hf _ hx,hB1,hB2,by omega,by omega,fun e n' f1 f2 f3 f4=>?_⟩
  have hput:=Mp ha e
  have d1:=BG (Dp.cutD xs none (some (a:Int)))
  have d2:=BG (Dp.cutD xs (some ((a:Int)+1)) none)
  have c1:=Bz xs none (some (a:Int))
  have c2:=Bz xs (some ((a:Int)+1)) none
  have e1:(Dp.cutD xs none (some (a:Int))++[e]).length=_:=List.length_append
  have e2:[e].length=1:=rfl
  have hmem:∀y∈Dp.cutD xs none (some (a:Int))++[e]++Dp.cutD xs (some ((a:Int)+1)) none,y∈xs\/y=e:=fun y hy=>by
   rcases List.mem_append.mp hy with hy | hy
   ·rcases List.mem_append.mp hy with hy | hy
    ·exact .inl (Bg hy)
    ·exact .inr (List.mem_singleton.mp hy)
   ·exact .inl (Bg hy)
  have hdx:=dps_le.mp (Nat.le_refl (DU xs)) _ hx
  refine⟨(by decide:1<=sizeLine),by omega,by omega,p (.tup _) _ ?_ ?_ ?_ (by omega)⟩
  ·exact fines_iff.mpr fun y hy=>(hmem y hy).elim (fun h=>(fines_iff.mp hf y h).mono (by omega)) fun h=>by rw [h]; exact f1
  ·show B8 _<=2*B8 xs+250
   omega
  ·show DU _+1<=DU xs+1+1
   have:=dps_le (k:=DU xs+1).mpr fun y hy=>(hmem y hy).elim (fun h=>Nat.le_succ_of_le (dps_le.mp (Nat.le_refl (DU xs)) y h)) fun h=>by rw [h]; omega
   omega
 | lst xs =>
  have hl:=BG xs
  have hz2:B8 xs<=50000:=hz
  refine⟨trivial,_,_,rfl,rfl,?_⟩
  refine Cc (fun _=>odd n (by omega)) fun c1=>?_
  have hne:xs.length≠0:=fun z=>c1 (by show ((xs.length:Int)==0)=true; rw [z]; rfl)
  refine Cc (fun _=>odd n (by omega)) fun c2=>?_
  have hj:i≠0:=fun z=>c2 (by show ((i:Int)==0)=true; rw [z]; rfl)
  refine⟨5,rfl,by decide,by decide,by omega,fun r r0 r1=>?_⟩
  refine Cc (fun _=>odd (n - 1) (by omega)) fun _=>?_
  refine⟨_,_,rfl,rfl,(xs.length:Int),rfl,by omega,by omega,by omega,fun a a0 a1=>?_⟩
  obtain⟨a,rfl⟩:∃k:Nat,a=(k:Int):=⟨a.toNat,by omega⟩
  have ha:a<xs.length:=by omega
  refine⟨xs[a],AV (List.getElem?_eq_getElem ha),?_⟩
  have hx:xs[a]∈xs:=List.getElem_mem ha
  have hsx:=Ka hx
  refine hrec _ _ _ (by omega) ⟨xs[a],B,i - 1,by rw [show (((i - 1:Nat)):Int)=(i:Int) - 1 by omega],by omega,fines_iff.mp hf _ hx,hB1,hB2,by omega,by omega,fun e n' f1 f2 f3 f4=>?_⟩
  have hput:=Mp ha e
  have d1:=BG (Dp.cutD xs none (some (a:Int)))
  have d2:=BG (Dp.cutD xs (some ((a:Int)+1)) none)
  have c1:=Bz xs none (some (a:Int))
  have c2:=Bz xs (some ((a:Int)+1)) none
  have e1:(Dp.cutD xs none (some (a:Int))++[e]).length=_:=List.length_append
  have e2:[e].length=1:=rfl
  have hmem:∀y∈Dp.cutD xs none (some (a:Int))++[e]++Dp.cutD xs (some ((a:Int)+1)) none,y∈xs\/y=e:=fun y hy=>by
   rcases List.mem_append.mp hy with hy | hy
   ·rcases List.mem_append.mp hy with hy | hy
    ·exact .inl (Bg hy)
    ·exact .inr (List.mem_singleton.mp hy)
   ·exact .inl (Bg hy)
  have hdx:=dps_le.mp (Nat.le_refl (DU xs)) _ hx
  refine⟨(by decide:1<=sizeLine),by omega,by omega,p (.lst _) _ ?_ ?_ ?_ (by omega)⟩
  ·exact fines_iff.mpr fun y hy=>(hmem y hy).elim (fun h=>(fines_iff.mp hf y h).mono (by omega)) fun h=>by rw [h]; exact f1
  ·show B8 _<=2*B8 xs+250
   omega
  ·show DU _+1<=DU xs+1+1
   have:=dps_le (k:=DU xs+1).mpr fun y hy=>(hmem y hy).elim (fun h=>Nat.le_succ_of_le (dps_le.mp (Nat.le_refl (DU xs)) y h)) fun h=>by rw [h]; omega
   omega
end
def Ku(a b:Int):D->Bool
 | .int i=>decide (a<=i)&&decide (i<=b)
 | _=>false
abbrev Eo:W2:=fun ss n P=>∃d a b,ss=[.sh d,.sh (.int a),.sh (.int b)]/\P (.bl (Ku a b d)) n
def IY:Ak:=(Ba (Ge (Gd "int" (AC 0)) (Ge (Pf (Gd "bool" (AC 0))) (Jm MD MD (AC 1) (AC 0) (AC 2)))))
theorem L0{α:Type}(p:α->Bool)(l:List α):Cp (l.map fun a=>D.bl (p a))=true/\PyData.canLayAll0 (A3 (l.map fun a=>D.bl (p a)))=true/\PyData.depthAll (A3 (l.map fun a=>D.bl (p a)))=0:=by
 induction l with
 | nil=>exact⟨rfl,rfl,rfl⟩
 | cons a r ih =>
  obtain⟨h1,h2,h3⟩:=ih
  refine⟨by rw [List.map_cons,Cp,h1]; rfl,by rw [List.map_cons,A3,PyData.canLayAll0,h2,Bool.and_true]; rfl,?_⟩
  rw [List.map_cons,A3,PyData.depthAll,h3]
  rfl
theorem QW(b:Bool):K_ (.bl b) (.bl false)=!b:=by cases b <;> rfl
theorem Qg{α:Type}(p:α->Bool)(l:List α):((l.map fun a=>D.bl (p a)).any fun y=>K_ y (.bl false))=!(l.all p):=by
 induction l with
 | nil=>rfl
 | cons a r ih=>rw [List.map_cons,List.any_cons,List.all_cons,ih,QW,Bool.not_and]
theorem NQ{α:Type}{p:α->Bool}{l:List α}{neg:Bool}{P:D->Prop}(h:P (.bl (if neg then l.all p else !(l.all p)))):QT neg (.bl false) (.lst (l.map fun a=>.bl (p a))) P:=by
 obtain⟨h1,h2,h3⟩:=L0 p l
 refine⟨⟨rfl,rfl,Nat.zero_le _⟩,⟨h1,h2,?_⟩,_,rfl,?_⟩
 ·show PyData.depthAll (A3 (l.map fun a=>D.bl (p a)))+1<=100
  rw [h3]; decide
 ·rw [Qg,Bool.not_not]
  exact h
section
variable {ss:List Slot}{n:Nat}{Pd:D->Nat->Prop}
theorem Hl(h:Eo ss n Pd):IY (EE Pd) n (ss++List.replicate 0 .no):=by
 obtain⟨d,a,b,rfl,q⟩:=h
 cases d with
 | int i=>exact Nj (k:=fun P=>P (.bl _) n) (fun _ h=>h) q
 | _=>exact q
end
def item(d:D):Prop:=fine 1000001 d/\Bt d<=450/\CQ d<=1
theorem Jr{k:Nat}:∀{ds:List D},(∀d∈ds,Bt d+1<=k)->B8 ds<=k*ds.length
 | [],_=>Nat.zero_le _
 | d::ds,h=>by
  have h1:=h d List.mem_cons_self
  have h2:=Jr (ds:=ds) fun e he=>h e (List.mem_cons_of_mem _ he)
  show Bt d+1+B8 ds<=k*(ds.length+1)
  rw [Nat.mul_succ]; omega
theorem EZ{B:Nat}{xs:List D}(h:∀d∈xs,fine B d):fine B (.tup xs):=fines_iff.mpr h
theorem item_str{x:Str}(h1:x.length<=8)(h2:∀c∈cs x,c<1114112):item (.str x):=⟨h2,by show x.length<=450; omega,Nat.zero_le _⟩
theorem Du{x:Str}(h:OP x):item (.str x):=item_str h.2.1 fun c hc=>by have:=h.2.2 c hc; omega
theorem NH{a b:Str}{l:Int}(ha:item (.str a))(hb:item (.str b))(la:a.length<=8)(lb:b.length<=8)(hl:l.natAbs<=1000001):item (.tup [.str a,.str b,.int l]):=by
 refine⟨EZ fun d hd=>?_,?_,?_⟩
 ·simp only [List.mem_cons,List.not_mem_nil,or_false] at hd
  rcases hd with rfl | rfl | rfl
  ·exact ha.1
  ·exact hb.1
  ·exact hl
 ·show a.length+1+(b.length+1+(200+1+0))<=450
  omega
 ·show max 0 (max 0 (max 0 0))+1<=1
  decide
theorem NI{N:Net}(ok:N.Ok):∀d∈N.ts.map Ea,item d:=fun d hd=>by
 obtain⟨t,ht,rfl⟩:=List.mem_map.mp hd
 obtain⟨h1,h2,_,h3,h4⟩:=ok.tin t ht
 have n1:=ok.names _ h1
 have n2:=ok.names _ h2
 exact NH (Du n1) (Du n2) n1.2.1 n2.2.1 (by omega)
theorem OO{N:Net}(ok:N.Ok):∀d∈N.ps.map D.str,item d:=fun d hd=>by
 obtain⟨x,hx,rfl⟩:=List.mem_map.mp hd
 exact Du (ok.names x hx)
theorem Pk{xs ys:List D}(hx:∀d∈xs,item d)(hy:∀d∈ys,item d)(lx:xs.length<=26)(ly:ys.length<=80):fine 1000001 (.tup [.tup xs,.tup ys])/\Bt (.tup [.tup xs,.tup ys])<=48000/\CQ (.tup [.tup xs,.tup ys])<=3:=by
 have s1:=Jr (k:=451) fun d hd=>Nat.succ_le_succ (hx d hd).2.1
 have s2:=Jr (k:=451) fun d hd=>Nat.succ_le_succ (hy d hd).2.1
 have d1:DU xs<=1:=dps_le.mpr fun d hd=>(hx d hd).2.2
 have d2:DU ys<=1:=dps_le.mpr fun d hd=>(hy d hd).2.2
 refine⟨EZ fun d hd=>?_,?_,?_⟩
 ·simp only [List.mem_cons,List.not_mem_nil,or_false] at hd
  rcases hd with rfl | rfl
  ·exact EZ fun d hd=>(hx d hd).1
  ·exact EZ fun d hd=>(hy d hd).1
 ·show B8 xs+1+(B8 ys+1+0)<=48000
  omega
 ·show max (DU xs+1) (max (DU ys+1) 0)+1<=3
  omega
theorem GV{p:D->Prop}{xs:List D}(h:∀d∈xs,p d){o:Int}(h0:0<=o)(h1:o<(xs.length:Int)):∃z,atI xs o=some z/\p z:=by
 obtain⟨k,rfl⟩:∃k:Nat,o=(k:Int):=⟨o.toNat,by omega⟩
 have hk:k<xs.length:=by omega
 exact⟨xs[k],AV (List.getElem?_eq_getElem hk),h _ (List.getElem_mem hk)⟩
theorem MH(x:Str):¬cs x<cs x:=List.lt_irrefl _
theorem z1:1<=sizeLine:=by decide
theorem z2:2<=sizeLine:=by decide
theorem z3:3<=sizeLine:=by decide
theorem z0:0<=sizeLine:=Nat.zero_le _
theorem Sv:Ep 10 6:=⟨by decide,by decide,by decide⟩
section
variable {ss:List Slot}{n:Nat}{Pd:D->Nat->Prop}
end
end Nt
namespace L2
open PySem PySem.Spec PyProof.Rows
section
variable {X:Cx}{tg elt iter:Expr}{ifs:List Expr}{sc:Scope}{pos spos pos':Pos}{N':List Str}{js:List (Option Nat)}{wi:TI}{i:Nat}{x:Str}
end
end L2
namespace Dp
open PySem PySem.Spec PyProof.Rows L2
section
variable {X:Cx}{κe:Kd}{tg elt iter:Expr}{ifs:List Expr}{sc:Scope}{pos:Pos}{src:EJ}{b:BW}{tt:Gc}{te:DW}
end
end Dp
namespace L2
open PySem PySem.Spec PyProof.Rows
def RR:R2:=fun y x H Q=>∃a o,x=.ref a/\DGet H a y o/\Q (.bl o.isSome) H
def O5:R2:=fun y x H Q=>∃a o,x=.ref a/\DGet H a y o/\Q (.bl (!o.isSome)) H
def O6:R2:=fun x y H Q=>∃a v,x=.ref a/\DGet H a y (some v)/\Q v H
theorem M_{X:Cx}{k:Nat}(hr:Room k X.A):OpR X (compareOp .In) RR:=by
 intro pins s σ H y x iv u Q I ry rx ⟨a,ov,ex,g,q⟩
 subst ex
 obtain rfl:u=Value.ref a:=rx
 exact Su (HF hr) I g ry fun s3 I3=>⟨.bl ov.isSome,H,I3,rfl,q⟩
theorem Lm{X:Cx}{k:Nat}(hr:Room k X.A):OpR X (compareOp .NotIn) O5:=by
 intro pins s σ H y x iv u Q I ry rx ⟨a,ov,ex,g,q⟩
 subst ex
 obtain rfl:u=Value.ref a:=rx
 exact Og (HF hr) I g ry fun s3 I3=>⟨.bl (!ov.isSome),H,I3,rfl,q⟩
end L2
namespace Dp
open PySem PySem.Spec PyProof.Rows L2
def BJ:List Key->List D->Key->Option D
 | k0::ks,d::ds,k=>if k0=k then some d else BJ ks ds k
 | _,_,_=>none
section
variable {K:Frag}{X:Cx}
theorem EQ{M:Addr->Prop}{H:Hp}{k:Key}:∀{ks:List Key} {ds:List D} {vs:List V},Ats K M H ds vs ->
  match BJ ks ds k with
  | some z=>∃v,Cb (ks.zip vs) k=some v/\At K M H z v
  | none=>Cb (ks.zip vs) k=none
 | [],ds,vs,h=>by unfold BJ; exact rfl
 | k0::ks,[],vs,h=>by cases h; exact rfl
 | k0::ks,d::ds,vs,h=>by
  obtain⟨v,r,rfl,h1,h2⟩:=h
  have ih:=EQ (k:=k) (ks:=ks) h2
  unfold BJ
  by_cases e:k0=k
  ·rw [if_pos e]
   refine⟨v,?_,h1⟩
   show Cb ((k0,v)::ks.zip r) k=some v
   rw [DX e]
  ·rw [if_neg e]
   have:Cb ((k0,v)::ks.zip r) k=Cb (ks.zip r) k:=DY e
   rw [show (k0::ks).zip (v::r)=(k0,v)::ks.zip r from rfl,this]
   exact ih
def keyOf:D->Option Key
 | .int i=>some (.inl i)
 | .str x=>some (.inr x)
 | _=>none
theorem Cs{U M:Addr->Prop}{H:Hp}{d:D}{v:V}{k:Key}(e:keyOf d=some k)(h:AtT K U M H d v):v=kV k:=by
 cases d with
 | int i=>cases e; exact h
 | str x=>cases e; exact h.str.1
 | _=>cases e
def HL:D->Option (List Key×List D)
 | .dic ks ds=>some (ks,ds)
 | .fdi ks ds=>some (ks,ds)
 | _=>none
theorem GK{U M:Addr->Prop}{H:Hp}{d:D}{x:V}{ks:List Key}{ds:List D}(e:HL d=some (ks,ds))(h:AtT K U M H d x):∃a vs,x=.ref a/\Rd H a (.dK (ks.zip vs))/\Ats K M H ds vs:=by
 cases d with
 | dic k2 d2=>cases e; obtain⟨a,vs,rfl,_,ha,_,hs⟩:=h; exact⟨a,vs,rfl,.inl ha,hs⟩
 | fdi k2 d2=>cases e; obtain⟨a,vs,rfl,⟨o,_,ha⟩,_,hs⟩:=h; exact⟨a,vs,rfl,.inr ⟨o,ha⟩,hs⟩
 | _=>cases e
theorem FT{H:Hp}{a:Addr}{kvs:List (Key×V)}{k:Key}(e:Rd H a (.dK kvs)):DGet H a (kV k) (Cb kvs k):=.inl ⟨kvs,k,e,rfl,rfl⟩
def JT(neg:Bool)(e d:D)(P:D->Prop):Prop:=∃ks ds k,HL d=some (ks,ds)/\keyOf e=some k/\P (.bl (if neg then !(BJ ks ds k).isSome else (BJ ks ds k).isSome))
def Bw(d e:D)(P:D->Prop):Prop:=∃ks ds k z,HL d=some (ks,ds)/\keyOf e=some k/\BJ ks ds k=some z/\P z
theorem PY:Dw K .sh RR (JT false):=fun U M H e d y x P Q dom vM hy hx w q=>by
 obtain⟨ks,ds,k,hd,he,w⟩:=w
 obtain⟨a,vs,rfl,ha,hs⟩:=GK hd hx
 refine⟨a,Cb (ks.zip vs) k,rfl,by rw [Cs he hy]; exact FT ha,q _ H (.bl _) .refl rfl ?_⟩
 have h:=EQ (k:=k) (ks:=ks) hs
 cases c:BJ ks ds k with
 | none=>rw [c] at h w; rw [show Cb (ks.zip vs) k=none from h]; exact w
 | some z=>rw [c] at h w; obtain⟨v,h1,_⟩:=h; rw [h1]; exact w
theorem Np:Dw K .sh O5 (JT true):=fun U M H e d y x P Q dom vM hy hx w q=>by
 obtain⟨ks,ds,k,hd,he,w⟩:=w
 obtain⟨a,vs,rfl,ha,hs⟩:=GK hd hx
 refine⟨a,Cb (ks.zip vs) k,rfl,by rw [Cs he hy]; exact FT ha,q _ H (.bl _) .refl rfl ?_⟩
 have h:=EQ (k:=k) (ks:=ks) hs
 cases c:BJ ks ds k with
 | none=>rw [c] at h w; rw [show Cb (ks.zip vs) k=none from h]; exact w
 | some z=>rw [c] at h w; obtain⟨v,h1,_⟩:=h; rw [h1]; exact w
theorem Ql:Dw K .sh O6 Bw:=fun U M H d e x y P Q dom vM hx hy w q=>by
 obtain⟨ks,ds,k,z,hd,he,hz,w⟩:=w
 obtain⟨a,vs,rfl,ha,hs⟩:=GK hd hx
 have h:=EQ (k:=k) (ks:=ks) hs
 rw [hz] at h
 obtain⟨v,h1,h2⟩:=h
 exact⟨a,v,rfl,by rw [Cs he hy,← h1]; exact FT ha,q v H z .refl h2 w⟩
variable {a b:Expr}{κa κb:Kd}{wa wb:DW}{pos:Pos}
theorem CA{k:Nat}(hr:Room k X.A)(ha:DE X a κa wa)(hb:DE X b κb wb)(hs:Qq b:=by intro _ _; rfl):DE X (.Subscript a b pos) .sh (AT Bw wa wb):=by
 obtain⟨ta,ha1,ha2⟩:=ha
 obtain⟨tb,hb1,hb2⟩:=hb
 exact⟨C8 O6 ta tb,Hs (HF hr) ha1 hb1 hs,fun C M H n ρ σ P Q R w q=>GR Ql ha2 hb2 C M H n ρ σ P Q R w q⟩
end
end Dp
namespace So
open PySem PySem.W PyProof.Rows
section
variable {O:KeyOrd}{key:Nat->O.α}{N:Nat}{cmp:Nat->Nat->(Bool->Shared->Prop)->Shared->Prop}{s:Shared}{p p0:Array Nat}
end
end So
namespace L2
open PySem PySem.Spec PyProof.Rows PySem.W
def RZ:Key->Key->Bool
 | .inl i,.inl j=>decide (i<j)
 | .inr x,.inr y=>decide (x.cps.toList<y.cps.toList)
 | .inl _,.inr _=>true
 | .inr _,.inl _=>false
def Cr:List Key->List Key->Bool
 | [],[]=>false
 | [],_::_=>true
 | _::_,[]=>false
 | x::xs,y::ys=>if x=y then Cr xs ys else RZ x y
theorem J7:∀x:Key,RZ x x=false
 | .inl i=>decide_eq_false (Int.lt_irrefl i)
 | .inr x=>decide_eq_false (List.lt_irrefl _)
theorem Lu:∀x y z:Key,RZ x y=true->RZ y z=true->RZ x z=true
 | .inl i,.inl j,.inl k,h1,h2=>decide_eq_true (Int.lt_trans (of_decide_eq_true h1) (of_decide_eq_true h2))
 | .inr i,.inr j,.inr k,h1,h2=>decide_eq_true (List.lt_trans (of_decide_eq_true h1) (of_decide_eq_true h2))
 | .inl i,.inl j,.inr k,_,_=>rfl
 | .inl i,.inr j,.inr k,_,_=>rfl
 | .inl i,.inr j,.inl k,_,h=>by cases h
 | .inr i,.inl j,_,h,_=>by cases h
 | .inr i,.inr j,.inl k,_,h=>by cases h
theorem De:∀x:List Key,Cr x x=false
 | []=>rfl
 | x::xs=>by unfold Cr; rw [if_pos rfl]; exact De xs
theorem Fu:∀x y z:List Key,Cr x y=true->Cr y z=true->Cr x z=true
 | [],[],_,h,_=>by cases h
 | [],_::_,[],_,h=>by cases h
 | [],_::_,_::_,_,_=>rfl
 | _::_,[],_,h,_=>by cases h
 | _::_,_::_,[],_,h=>by cases h
 | x::xs,y::ys,z::zs,h1,h2=>by
  unfold Cr at h1 h2 ⊢
  by_cases e1:x=y
  ·subst e1
   rw [if_pos rfl] at h1
   by_cases e2:x=z
   ·subst e2
    rw [if_pos rfl] at h2 ⊢
    exact Fu xs ys zs h1 h2
   ·rw [if_neg e2] at h2 ⊢
    exact h2
  ·rw [if_neg e1] at h1
   by_cases e2:y=z
   ·subst e2
    rw [if_neg e1]
    exact h1
   ·rw [if_neg e2] at h2
    have h3:=Lu x y z h1 h2
    by_cases e3:x=z
    ·subst e3
     rw [J7] at h3
     cases h3
    ·rw [if_neg e3]
     exact h3
theorem Kv:∀x y:List Key,Ck x y=true->E1 x y=Cr x y
 | [],[],_=>rfl
 | [],_::_,_=>rfl
 | _::_,[],_=>rfl
 | x::xs,y::ys,h=>by
  have h':(Kb x y&&Ck xs ys)=true:=h
  rw [Bool.and_eq_true] at h'
  unfold E1 Cr
  by_cases e:x=y
  ·rw [if_pos e,if_pos e]; exact Kv xs ys h'.2
  ·rw [if_neg e,if_neg e]
   cases x with
   | inl i=>cases y with
    | inl j=>rfl
    | inr z=>cases h'.1
   | inr i=>cases y with
    | inl j=>cases h'.1
    | inr z=>rfl
section
variable {prog:Program}{w:World}{A:Around}{E:Value->Shared->Prop}{s:Shared}
structure Oj (h:Heap) (ks:List Value) (keys:List (List Key)):Prop where
 at_:∀(i:Nat) (ns:List Key),keys[i]?=some ns->∃a o its n,ks[i]?=some (.ref a)/\h.get? a=some o/\o.cls=.type "tuple"/\o.data=.seq its n/\Vals (ns.map kOf) its.toList
 len:ks.length=keys.length
 same:∀x∈keys,∀y∈keys,Ck x y=true
 ne:∀x∈keys,x≠[]
end
section
variable {X:Cx}{pins:List (Addr×Obj)}{σ:L2.St}{H:Hp}{s:Shared}{h':Heap}
structure TX (X:Cx) (pins:List (Addr×Obj)) (D:Addr):Prop where
 new:X.s₀.heap.objs.size<=D
 loc:D≠X.env.locals
 cell:∀x c,X.env.cells.lookup x=some c->c≠D
 pin:∀p∈X.pn++pins,p.1≠D
 fs:D∉X.fs
structure KeysAt (K:Frag) (H:Hp) (vs:List V) (keys:List (List Key)):Prop where
 len:vs.length=keys.length
 at_:∀(i:Nat) (ns:List Key),keys[i]?=some ns->∃a,vs[i]?=some (.ref a)/\SqT K H a (ns.map kOf)
 same:∀x∈keys,∀y∈keys,Ck x y=true
 ne:∀x∈keys,x≠[]
theorem KeysAt.tups{vs:List V}{us:List Value}{keys:List (List Key)}(I:Inv X pins σ H s)(r:Vals vs us)(k:KeysAt X.K H vs keys){h':Heap}(hk:∀b o,s.heap.get? b=some o->h'.get? b=some o):Oj h' us keys:=by
 refine⟨fun i ns e=>?_,r.length.symm.trans k.len,k.same,k.ne⟩
 obtain⟨a,e1,h1⟩:=k.at_ i ns e
 obtain⟨u,e2,r2⟩:=r.get e1
 cases r2
 obtain⟨its,r3,⟨o,ho,hc,n,hd⟩,_⟩:=I.tuple h1
 exact⟨a,o,its.toArray,n,e2,hk a o ho,hc,hd,by rw [List.toList_toArray]; exact r3⟩
end
end L2
namespace L2
open PySem PySem.Spec PyProof.Rows
def E5(H:Hp)(L:List Addr)(f:Addr->Obj):Hp:=fun b=>if b∈L then (H b).map (HO.frz (f b)) else H b
theorem EY{H:Hp}{L:List Addr}{f:Addr->Obj}{b:Addr}(h:b∉L):E5 H L f b=H b:=by unfold E5; rw [if_neg h]
theorem K4{H:Hp}{L:List Addr}{f:Addr->Obj}{b:Addr}{o:HO}(h:b∈L)(e:H b=some o):E5 H L f b=some (.frz (f b) o):=by unfold E5; rw [if_pos h,e]; rfl
section
variable {X:Cx}{pins:List (Addr×Obj)}{σ:L2.St}{H:Hp}{s:Shared}
theorem Inv.frz{L:List Addr}(I:Inv X pins σ H s)(hL:∀b∈L,∃kvs,H b=some (.dK kvs)):∃f,Inv X pins σ (E5 H L f) s:=by
 have keep:∀(f:Addr->Obj) b o,H b=some o->(∀kvs,o≠.dK kvs)->E5 H L f b=some o:=fun f b o e n=>by
  rw [EY (fun hm=>by obtain⟨kvs,e2⟩:=hL b hm; rw [e] at e2; cases e2; exact n _ rfl)]
  exact e
 refine⟨fun b=>(s.heap.get? b).getD { cls:=.none,data:=.fields #[] },?_⟩
 refine I.step (g':=s.gens) (d':=s.drawn) (t':=s.toks) (h':=s.heap) (ch:=[]) (fun _ z=>nomatch z) (fun _ _ _ _ _ e _=>e) (fun b o _ _ _ e _=>⟨o.slots,e⟩) (fun b o _ e n=>?_) (fun b o _ e=>⟨o,e⟩) (fun b xs e=>keep _ b _ e fun _ z=>by cases z) (fun b o u e=>keep _ b _ e fun _ z=>by cases z) (fun b ps e=>⟨#[],by rw [keep _ b _ e fun _ z=>by cases z]; simp⟩) (fun _ h=>h) (fun b u e=>?_) I.bare
 ·unfold E5
  split
  ·rw [n]; rfl
  ·exact n
 ·by_cases hb:b∈L
  ·obtain⟨kvs,e2⟩:=hL b hb
   rw [K4 hb e2] at e
   cases e
   obtain⟨z,y,vs,r,ob,es,ep,e3,c⟩:=(show ObjOk X.prog X.w H s.heap b (.dK kvs) from I.hok b _ e2)
   exact⟨by rw [e3]; rfl,z,y,vs,r,ob,es,ep,e3,c⟩
  ·rw [EY hb] at e
   exact(I.hok b u e).stay (fun _ _ _ q=>q) (fun c q=>keep _ c _ q fun _ z=>by cases z) fun c xs q=>keep _ c _ q fun _ z=>by cases z
def SZ(t:TE):TE:=fun σ H Q=>t σ H fun v H1=>∃L:List Addr,(∀b∈L,∃kvs,H1 b=some (.dK kvs))/\∀f:Addr->Obj,Q v (E5 H1 L f)
theorem QB{e:Expr}{t:TE}(h:PE X e t):PE X e (SZ t):=by
 intro pins s σ H Q I hq
 refine BL (h pins s σ H _ I hq) fun u s1 ⟨v,H1,I1,r,L,hL,q⟩=>?_
 obtain⟨f,I2⟩:=I1.frz hL
 exact⟨v,_,I2,r,q f⟩
end
end L2
namespace Nt
open PySem PySem.Spec PyProof.Rows L2 Dp
def EK(ts:List Ig)(p:Str):List (Str×Int):=ts.flatMap fun t=>(if t.a=p then [(t.b,t.len)] else [])++(if t.b=p then [(t.a,t.len)] else [])
def OJ(ts:List Ig)(p:Str):D:=.fdi ((EK ts p).map fun x=>.inr x.1) ((EK ts p).map fun x=>.int x.2)
def Et(N:Net):D:=.dic (N.ps.map .inr) (N.ps.map (OJ N.ts))
def Ie:W2:=fun ss n P=>∃N:Net,ss=[.sh (enc N)]/\N.Ok/\N.ps.length<=1000/\N.ts.length<=1000/\P (Et N) n
def kv(x:Str×Int):Key×V:=(.inr x.1,.int x.2)
structure Stp (H:Hp) (d:Addr) (as:List (Str×Addr)) (tb:Str->List (Key×V)) (H':Hp):Prop where
 old:∀b o,H b=some o->H' b=some o
 new:H d=none
 top:H' d=some (.dK (as.map fun x=>(.inr x.1,.ref x.2)))
 inn:∀x∈as,H x.2=none/\x.2≠d/\H' x.2=some (.dK (tb x.1))
 ads:(as.map (·.2)).Nodup
 nms:(as.map (·.1)).Nodup
theorem FP{as:List (Str×Addr)}(hn:(as.map (·.1)).Nodup){p:Str}{a:Addr}(h:(p,a)∈as):Cb (as.map fun x=>((.inr x.1:Key),V.ref x.2)) (.inr p)=some (.ref a):=by
 induction as with
 | nil=>cases h
 | cons x r ih =>
  rw [List.map_cons,List.nodup_cons] at hn
  rcases List.mem_cons.mp h with e | h
  ·rw [← e]
   exact DX rfl
  ·have hne:(Sum.inr x.1:Key)≠.inr p:=fun e=>hn.1 (by rw [Sum.inr.inj e]; exact List.mem_map.mpr ⟨_,h,rfl⟩)
   rw [List.map_cons]
   exact(DY hne).trans (ih hn.2 h)
theorem Jv{as:List (Str×Addr)}{p:Str}{v:V}(h:p∉as.map (·.1)):putK (as.map fun x=>((.inr x.1:Key),V.ref x.2)) (.inr p) v=(as.map fun x=>((.inr x.1:Key),V.ref x.2))++[(.inr p,v)]:=by
 unfold putK
 rw [if_neg]
 rw [List.any_eq_true]
 rintro ⟨y,hy,e⟩
 obtain⟨x,hx,rfl⟩:=List.mem_map.mp hy
 exact h (List.mem_map.mpr ⟨x,hx,Sum.inr.inj (of_decide_eq_true e)⟩)
theorem Kj{xs:List (Str×Int)}{p:Str}{l:Int}(h:p∉xs.map (·.1)):putK (xs.map kv) (.inr p) (.int l)=(xs++[(p,l)]).map kv:=by
 unfold putK
 rw [if_neg,List.map_append]
 ·rfl
 ·rw [List.any_eq_true]
  rintro ⟨y,hy,e⟩
  obtain⟨x,hx,rfl⟩:=List.mem_map.mp hy
  exact h (List.mem_map.mpr ⟨x,hx,Sum.inr.inj (of_decide_eq_true e)⟩)
theorem Stp.more{H H':Hp}{d q:Addr}{as:List (Str×Addr)}{tb:Str->List (Key×V)}{p:Str}(s:Stp H d as tb H')(hq:H' q=none)(hp:p∉as.map (·.1))(ht:tb p=[]) :
  Stp H d (as++[(p,q)]) tb (A_ (A_ H' q (.dK [])) d (.dK (putK (as.map fun x=>((.inr x.1:Key),V.ref x.2)) (.inr p) (.ref q)))):=by
 have nq:q≠d:=fun e=>by rw [e,s.top] at hq; cases hq
 have hHq:H q=none:=by
  cases c:H q with
  | none=>rfl
  | some o=>rw [s.old q o c] at hq; cases hq
 refine⟨fun b o e=>?_,s.new,?_,fun x hx=>?_,?_,?_⟩
 ·have n1:b≠d:=fun z=>by rw [z,s.new] at e; cases e
  have n2:b≠q:=fun z=>by rw [z,hHq] at e; cases e
  rw [AO n1,AO n2]
  exact s.old b o e
 ·rw [AX,Jv hp,List.map_append]; rfl
 ·rcases List.mem_append.mp hx with hx | hx
  ·obtain⟨h1,h2,h3⟩:=s.inn x hx
   have n2:x.2≠q:=fun z=>by rw [z,hq] at h3; cases h3
   exact⟨h1,h2,by rw [AO h2,AO n2]; exact h3⟩
  ·rw [List.mem_singleton.mp hx]
   exact⟨hHq,nq,by rw [AO nq,AX,ht]⟩
 ·rw [List.map_append,List.nodup_append]
  refine⟨s.ads,List.nodup_cons.mpr ⟨(fun h=>by cases h),List.nodup_nil⟩,fun a ha b hb e=>?_⟩
  obtain⟨x,hx,rfl⟩:=List.mem_map.mp ha
  have hb:b=q:=List.mem_singleton.mp hb
  obtain⟨h1,h2,h3⟩:=s.inn x hx
  rw [e,hb,hq] at h3
  cases h3
 ·rw [List.map_append,List.nodup_append]
  refine⟨s.nms,List.nodup_cons.mpr ⟨(fun h=>by cases h),List.nodup_nil⟩,fun a ha b hb e=>?_⟩
  have hb:b=p:=List.mem_singleton.mp hb
  exact hp (by rw [← hb,← e]; exact ha)
theorem Lp{as:List (Str×Addr)}(hn:(as.map (·.1)).Nodup){p:Str}{a b:Addr}(h1:(p,a)∈as)(h2:(p,b)∈as):a=b:=by
 have:=(FP hn h1).symm.trans (FP hn h2)
 exact V.ref.inj (Option.some.inj this)
theorem Lo{as:List (Str×Addr)}(hn:(as.map (·.2)).Nodup){p q:Str}{a:Addr}(h1:(p,a)∈as)(h2:(q,a)∈as):p=q:=by
 induction as with
 | nil=>cases h1
 | cons x r ih =>
  rw [List.map_cons,List.nodup_cons] at hn
  rcases List.mem_cons.mp h1 with e1 | g1
  ·rcases List.mem_cons.mp h2 with e2 | g2
   ·rw [← e1] at e2; exact(Prod.mk.inj e2).1.symm
   ·exact absurd (List.mem_map.mpr ⟨_,g2,by rw [← e1]⟩) hn.1
  ·rcases List.mem_cons.mp h2 with e2 | g2
   ·exact absurd (List.mem_map.mpr ⟨_,g1,by rw [← e2]⟩) hn.1
   ·exact ih hn.2 g1 g2
theorem Stp.put{H H':Hp}{d a:Addr}{as:List (Str×Addr)}{tb tb2:Str->List (Key×V)}{p:Str}{kvs:List (Key×V)}(s:Stp H d as tb H')(ha:(p,a)∈as)(h1:tb2 p=kvs)(h2:∀q,q≠p->tb2 q=tb q) :
  Stp H d as tb2 (A_ H' a (.dK kvs)):=by
 obtain⟨i1,i2,i3⟩:=s.inn _ ha
 refine⟨fun b o e=>?_,s.new,?_,fun x hx=>?_,s.ads,s.nms⟩
 ·have n1:b≠a:=fun z=>by rw [z] at e; rw [show H a=none from i1] at e; cases e
  rw [AO n1]
  exact s.old b o e
 ·rw [AO (Ne.symm i2)]
  exact s.top
 ·obtain⟨g1,g2,g3⟩:=s.inn x hx
  refine⟨g1,g2,?_⟩
  by_cases e:x.2=a
  ·have:x.1=p:=Lo s.ads (show (x.1,a)∈as by rw [← e]; exact hx) ha
   rw [e,AX,this,h1]
  ·have:x.1≠p:=fun z=>e (Lp s.nms (show (p,x.2)∈as by rw [← z]; exact hx) ha)
   rw [AO e,h2 _ this]
   exact g3
theorem JN(ts:List Ig)(t:Ig)(p:Str):EK (ts++[t]) p=EK ts p++((if t.a=p then [(t.b,t.len)] else [])++(if t.b=p then [(t.a,t.len)] else [])):=by
 unfold EK
 rw [List.flatMap_append,List.flatMap_cons,List.flatMap_nil,List.append_nil]
theorem Kr{ts:List Ig}{p q:Str}(h:q∈(EK ts p).map (·.1)):∃t∈ts,(t.a=p/\t.b=q)\/(t.b=p/\t.a=q):=by
 obtain⟨x,hx,rfl⟩:=List.mem_map.mp h
 obtain⟨t,ht,hx⟩:=List.mem_flatMap.mp hx
 refine⟨t,ht,?_⟩
 rcases List.mem_append.mp hx with hx | hx
 ·split at hx
  ·rename_i e; rw [List.mem_singleton.mp hx]; exact .inl ⟨e,rfl⟩
  ·cases hx
 ·split at hx
  ·rename_i e; rw [List.mem_singleton.mp hx]; exact .inr ⟨e,rfl⟩
  ·cases hx
theorem Ks(ts:List Ig)(p:Str):(EK ts p).length<=2*ts.length:=by
 induction ts with
 | nil=>exact Nat.zero_le _
 | cons t r ih =>
  unfold EK at ih ⊢
  rw [List.flatMap_cons,List.length_append,List.length_append,List.length_cons]
  have h1:(if t.a=p then [(t.b,t.len)] else []).length<=1:=by split; exact Nat.le_refl 1; exact Nat.zero_le _
  have h2:(if t.b=p then [(t.a,t.len)] else []).length<=1:=by split; exact Nat.le_refl 1; exact Nat.zero_le _
  omega
theorem NX{ts:List Ig}{t:Ig}(hp:(ts++[t]).Pairwise GG)(hlt:∀s∈ts++[t],cs s.a<cs s.b):t.b∉(EK ts t.a).map (·.1)/\t.a∉(EK ts t.b).map (·.1):=by
 rw [List.pairwise_append] at hp
 have key:∀s∈ts,¬((s.a=t.a/\s.b=t.b)\/(s.b=t.a/\s.a=t.b)):=fun s hs e=>by
  have h1:=hp.2.2 s hs t (List.mem_singleton.mpr rfl)
  have h2:=hlt s (List.mem_append_left _ hs)
  have h3:=hlt t (List.mem_append_right _ (List.mem_singleton.mpr rfl))
  rcases e with ⟨e1,e2⟩ | ⟨e1,e2⟩
  ·unfold GG at h1
   rw [e1,e2] at h1
   rcases h1 with h | ⟨_,h⟩
   ·exact List.lt_irrefl _ h
   ·exact List.lt_irrefl _ h
  ·rw [e1,e2] at h2
   exact List.lt_irrefl _ (List.lt_trans h2 h3)
 refine⟨fun h=>?_,fun h=>?_⟩
 ·obtain⟨s,hs,e⟩:=Kr h
  exact key s hs e
 ·obtain⟨s,hs,e⟩:=Kr h
  exact key s hs (e.elim (fun z=>.inr ⟨z.2,z.1⟩) fun z=>.inl ⟨z.2,z.1⟩)
theorem Hj{xs:List Str}(h:rising xs):xs.Nodup:=h.imp fun {a b} hlt e=>by rw [e] at hlt; exact List.lt_irrefl _ hlt
theorem J3{xs:List Str}(h:xs.Nodup){i:Nat}(hi:i<xs.length):xs[i]∉xs.take i:=by
 have e:xs=xs.take i++xs[i]::xs.drop (i+1):=by
  rw [← List.drop_eq_getElem_cons hi,List.take_append_drop]
 intro hm
 rw [e,List.nodup_append] at h
 exact h.2.2 _ hm _ List.mem_cons_self rfl
theorem Stp.at_{K:Frag}{M:Addr->Prop}{H H':Hp}{d:Addr}{as:List (Str×Addr)}{N:Net}(dom:∀a,M a->∃o,H a=some o)(s:Stp H d as (fun p=>(EK N.ts p).map kv) H')(hp:as.map (·.1)=N.ps)(f:Addr->Obj):At K M (E5 H' (as.map (·.2)) f) (Et N) (.ref d):=by
 have nd:∀b,H b=none->¬M b:=fun b e m=>by obtain⟨o,h⟩:=dom b m; rw [h] at e; cases e
 have zip1:∀as:List (Str×Addr),(as.map fun x=>((.inr x.1:Key),V.ref x.2))=((as.map (·.1)).map (.inr:Str->Key)).zip (as.map fun x=>V.ref x.2):=fun as=>by
  induction as with
  | nil=>rfl
  | cons x r ih=>rw [List.map_cons,ih]; rfl
 refine⟨d,as.map fun x=>.ref x.2,rfl,⟨nd d s.new,by rw [EY (fun hm=>by obtain⟨x,hx,e⟩:=List.mem_map.mp hm; exact(s.inn x hx).2.1 e),s.top,zip1,hp]⟩,by rw [List.length_map,List.length_map],?_⟩
 rw [← hp]
 have go:∀bs:List (Str×Addr),(∀x∈bs,x∈as)->Ats K M (E5 H' (as.map (·.2)) f) ((bs.map (·.1)).map (OJ N.ts)) (bs.map fun x=>V.ref x.2):=fun bs=>by
  induction bs with
  | nil=>intro _; rfl
  | cons x r ih =>
   intro hx
   refine⟨.ref x.2,r.map fun x=>V.ref x.2,rfl,?_,ih fun y hy=>hx y (List.mem_cons_of_mem _ hy)⟩
   obtain⟨g1,g2,g3⟩:=s.inn x (hx x List.mem_cons_self)
   have zip2:∀xs:List (Str×Int),xs.map kv=(xs.map fun x=>(.inr x.1:Key)).zip (xs.map fun x=>V.int x.2):=fun xs=>by
    induction xs with
    | nil=>rfl
    | cons x r ih=>rw [List.map_cons,ih]; rfl
   refine⟨x.2,(EK N.ts x.1).map fun x=>V.int x.2,rfl,⟨f x.2,nd _ g1,by rw [K4 (List.mem_map.mpr ⟨x,hx x List.mem_cons_self,rfl⟩) g3,zip2]⟩,by rw [List.length_map,List.length_map],?_⟩
   generalize EK N.ts x.1=xs
   induction xs with
   | nil=>rfl
   | cons x r ih=>exact⟨.int x.2,_,rfl,rfl,ih⟩
 exact go as fun _ h=>h
end Nt
namespace L2
open PySem PySem.Spec PyProof.Rows PySem.W
section
variable {X:Cx}{pins:List (Addr×Obj)}{σ:L2.St}{H:Hp}{s:Shared}{h':Heap}
theorem JH{α β:Type}{F:α->β->Prop}:∀{l₁:List α} {l₂:List β} {j:Nat} {a:α} {b:β},Paired F l₁ l₂->l₁[j]?=some a->l₂[j]?=some b->F a b
 | _,_,_,_,_,.nil,h,_=>by simp at h
 | _,_,0,_,_,.cons r t,h1,h2=>by
  have h1:=Option.some.inj (by simpa using h1)
  have h2:=Option.some.inj (by simpa using h2)
  subst h1 h2
  exact r
 | _,_,j+1,_,_,.cons r t,h1,h2=>JH (j:=j) t (by simpa using h1) (by simpa using h2)
end
end L2
namespace Dp
open PySem PySem.Spec PyProof.Rows L2
section
variable {X:Cx}{K:Frag}
def K7(ds:List D)(P:D->Prop):Prop:=match ds with
 | [.int i,.int j]=>P (.int (if j<i then j else i))
 | _=>False
def QU(ds:List D)(P:D->Prop):Prop:=match ds with
 | [.int i]=>P (.int (if i<0 then -i else i))
 | _=>False
theorem Nm:C3 K .sh (fun xs H Q=>∃i j,xs=[.int i,.int j]/\Q (.int (if j<i then j else i)) H) K7:=by
 intro U M H ds vs P Q dom vM hp w q
 unfold K7 at w
 split at w
 ·rename_i i j
  cases hp with
  | cons r1 r2=>cases r2 with
   | cons r3 r4 =>
    cases r4
    cases r1.int
    cases r3.int
    exact⟨i,j,rfl,q _ H (.int _) .refl rfl w⟩
 ·exact w.elim
theorem Rz:C3 K .sh (fun xs H Q=>∃i,xs=[.int i]/\Q (.int (if i<0 then -i else i)) H) QU:=by
 intro U M H ds vs P Q dom vM hp w q
 unfold QU at w
 split at w
 ·rename_i i
  cases hp with
  | cons r1 r2 =>
   cases r2
   cases r1.int
   exact⟨i,rfl,q _ H (.int _) .refl rfl w⟩
 ·exact w.elim
end
def IB:D->Option (List Key)
 | .tup xs=>Fy xs
 | _=>none
def Keyed(kf:D->Option (List Key))(xs:List D):Prop:=(∀x∈xs,∃k,kf x=some k/\k≠[])/\∀x∈xs,∀y∈xs,∀ka kb,kf x=some ka->kf y=some kb->Ck ka kb=true
theorem HC{kf:D->Option (List Key)}:∀{xs:List D},(∀x∈xs,∃k,kf x=some k/\k≠[])->∃keys:List (List Key),keys.length=xs.length/\(∀(i:Nat) (x:D),xs[i]?=some x->∃k,keys[i]?=some k/\kf x=some k/\k≠[])
 | [],_=>⟨[],rfl,fun i x e=>by simp at e⟩
 | x::xs,h=>by
  obtain⟨k,e1,e2⟩:=h x List.mem_cons_self
  obtain⟨keys,l,g⟩:=HC (xs:=xs) fun y hy=>h y (List.mem_cons_of_mem _ hy)
  refine⟨k::keys,by rw [List.length_cons,List.length_cons,l],fun i y e=>?_⟩
  cases i with
  | zero =>
   have e:x=y:=by simpa using e
   subst e
   exact⟨k,rfl,e1,e2⟩
  | succ i =>
   obtain⟨k',a,b⟩:=g i y (by simpa using e)
   exact⟨k',by simpa using a,b⟩
section
variable {K:Frag}{M:Addr->Prop}{H:Hp}
theorem L4{kf:D->Option (List Key)}{ds:List D}{vs:List V}{keys:List (List Key)}(hkf:∀d k v,d∈ds->kf d=some k->At K M H d v->∃a,v=.ref a/\SqT K H a (k.map kOf))(hs:Ats K M H ds vs)(hK:Keyed kf ds)(hl:keys.length=ds.length)(hk:∀(i:Nat) (x:D),ds[i]?=some x->∃k,keys[i]?=some k/\kf x=some k/\k≠[]):KeysAt K H vs keys:=by
 have from_:∀(i:Nat) (ns:List Key),keys[i]?=some ns->∃x,ds[i]?=some x/\kf x=some ns/\ns≠[]:=fun i ns e=>by
  have hi:i<ds.length:=by rw [← hl]; exact(List.getElem?_eq_some_iff.mp e).1
  obtain⟨k,e1,e2,e3⟩:=hk i ds[i] (List.getElem?_eq_getElem hi)
  rw [e] at e1
  cases e1
  exact⟨ds[i],List.getElem?_eq_getElem hi,e2,e3⟩
 refine⟨hs.length.trans hl.symm,fun i ns e=>?_,fun x hx y hy=>?_,fun x hx=>?_⟩
 ·obtain⟨d,e1,e2,_⟩:=from_ i ns e
  obtain⟨v,e3,h3⟩:=hs.get e1
  obtain⟨a,rfl,h4⟩:=hkf d ns v (List.mem_of_getElem? e1) e2 h3
  exact⟨a,e3,h4⟩
 ·obtain⟨i,hi⟩:=List.mem_iff_getElem?.mp hx
  obtain⟨j,hj⟩:=List.mem_iff_getElem?.mp hy
  obtain⟨d,e1,e2,_⟩:=from_ i x hi
  obtain⟨d',e1',e2',_⟩:=from_ j y hj
  exact hK.2 d (List.mem_of_getElem? e1) d' (List.mem_of_getElem? e1') x y e2 e2'
 ·obtain⟨i,hi⟩:=List.mem_iff_getElem?.mp hx
  obtain⟨d,e1,e2,e3⟩:=from_ i x hi
  exact e3
theorem L5{d:D}{k:List Key}{v:V}(e:IB d=some k)(h:At K M H d v):∃a,v=.ref a/\SqT K H a (k.map kOf):=by
 cases d with
 | tup xs =>
  obtain⟨a,vs,e1,hn,hs⟩:=h
  have:=EX (show Fy xs=some k from e) hs
  subst this
  exact⟨a,e1,hn.sq⟩
 | _=>cases e
end
section
variable {X:Cx}{a e:Expr}{κa:Kd}{wa:DW}{pos p fp kp apos cpos:Pos}
def Qx:Key->D
 | .inl i=>.int i
 | .inr x=>.str x
def Ky:Key->Prop
 | .inl _=>True
 | .inr x=>x.length<=sizeLine
theorem Qb{K:Frag}{M:Addr->Prop}{H:Hp}{k:Key}(h:Ky k):At K M H (Qx k) (kOf k):=by
 cases k with
 | inl i=>exact rfl
 | inr x=>exact⟨rfl,h⟩
end
end Dp
namespace L2
open PySem PySem.Spec PyProof.Rows
section
open PySem.MeetsSeq
open PySem.AutoSeq1 (wpAny_loadPart')
theorem Mf(l:Addr)(items:Array Value)(n:Nat)(x:Value)(e:Value->Bool)(j:Nat)(hj:j<items.size)(hit:e items[j]=true)(hs1:items.size<=sizeLine)(prog:Program)(w:World)(A:Around)(R:Result->Shared->Prop)(hp:Heap)(g:Array GenState)(d:Drawn)(tk:Nat)(os:_)
  (hl:hp.get? l=some { cls:=.type "list",dict:=none,data:=.seq items n,slots:=#[] }) (he:∀y,y∈items->PySem.SeqAt.EqAt A.in1 ⟨hp,g,d,tk,os⟩ y x (e y)) (h:R (.ok (.ret .none)) ⟨hp.update l (Obj.mapSeq fun xs=>xs.eraseIdxIfInBounds j),g,d,tk,os⟩) :
  ∀k i:Nat,j - i=k->i<=j->(∀m (hm:m<items.size),i<=m->m<j->e items[m]=false) ->
   wpAny (model prog w) A.in1 (Builtin.«list.remove.loop» ⟨[.ref l,x,rawInt i],[]⟩) (fun fin s'=>match fin with | .done f=>R (.ok f) s' | .again c'=>c'.quiet=true/\codeAny (model prog w) A c' R s') (fun e s'=>R (.error e) s') ⟨hp,g,d,tk,os⟩:=by
 intro k
 induction k with
 | zero =>
  intro i hk hij hno
  have hij':i=j:=by omega
  subst hij'
  wp_walk using wpAny_loadPart' hl
  have hi:items[((i:Nat):Int).toNat]?=some items[i]:=by simp [hj]
  rw [hi]
  refine wpAny_bind (he _ (Array.getElem_mem hj) prog w _ _ ?_)
  rw [hit]
  have hz':(items.eraseIdxIfInBounds i).size<=sizeLine+1:=Nat.le_trans (size_erased items _) (Nat.le_succ_of_le hs1)
  wp_walk using (wpAny_updateSeq hl rfl (hz:=hs1) (_hz':=hz')),wpAny_loadPart' hl
  simpa using h
 | succ k ih =>
  intro i hk hij hno
  have hlt:i<items.size:=by omega
  wp_walk using wpAny_loadPart' hl
  have hi:items[((i:Nat):Int).toNat]?=some items[i]:=by simp [hlt]
  have hc:((i:Int)+1)=((i+1:Nat):Int):=by push_cast; rfl
  rw [hi]
  refine wpAny_bind (he _ (Array.getElem_mem hlt) prog w _ _ ?_)
  rw [hno i hlt (Nat.le_refl _) (by omega)]
  wp_walk
  rw [hc]
  exact⟨plainId_quiet plain_remove_loop _,codeAny_builtin entry_remove_loop (by
   rw [Around.under_plainId plain_remove_loop _]
   exact ih (i+1) (by omega) (by omega) (fun m hm h1 h2=>hno m hm (by omega) h2))⟩
theorem Mg{prog:Program}{w:World}{A:Around}{E:Value->Shared->Prop}{s:Shared}{Q:Value->Shared->Prop}(l:Addr)(items:Array Value)(n:Nat)(x:Value)(e:Value->Bool)(j:Nat)(hj:j<items.size)(hit:e items[j]=true)(hno:∀m (hm:m<items.size),m<j->e items[m]=false)
  (hs1:items.size<=sizeLine) (hl:s.heap.get? l=some { cls:=.type "list",dict:=none,data:=.seq items n,slots:=#[] }) (he:∀y,y∈items->PySem.SeqAt.EqAt A.in1 s y x (e y))
  (h:Q .none { s with heap:=s.heap.update l (Obj.mapSeq fun xs=>xs.eraseIdxIfInBounds j) }):wpAny (model prog w) A (call (.builtin "list.remove") [.ref l,x]) Q E s:=by
 have key:wpAny (model prog w) A.in1 (Builtin.«list.remove» ⟨[.ref l,x],[]⟩) (fun fin s'=>match fin with | .done f=>wants Q E (.ok f) s' | .again c'=>c'.quiet=true/\codeAny (model prog w) A c' (wants Q E) s') (fun e s'=>wants Q E (.error e) s') s:=by
  obtain⟨hp,g,d,tk,os⟩:=s
  wp_walk using wpAny_loadPart' hl
  exact⟨plainId_quiet plain_remove_loop _,codeAny_builtin entry_remove_loop (by
   rw [Around.under_plainId plain_remove_loop _]
   exact Mf l items n x e j hj hit hs1 prog w A (wants Q E) hp g d tk os hl he h _ 0 rfl (Nat.zero_le _) (fun m hm _ h2=>hno m hm h2))⟩
 exact wpAny_call (codeAny_call_builtin PySem.F.slot_list_remove.plain PySem.F.entry_list_remove (PySem.F.slot_list_remove.check _ _ _ _ _ _ _ _ ⟨_,hl,rfl⟩ (PySem.F.args_list_remove_2 _ _) key))
end
section
variable {X:Cx}
def Kf:V->List V->Hp->VK->Prop:=fun x vs H Q=>∃(l:Addr) (xs:List V) (y:V) (ds:List PyData) (d:PyData) (j:Nat),x=.ref l/\vs=[y]/\H l=some (.lst xs)/\RVs H ds xs/\RV H d y/\PyData.canLayAll0 ds=true/\d.canLay0=true/\d.depth<=100 /\
 (∃dj,ds[j]?=some dj/\PyData.eqv dj d=true)/\(∀m dm,m<j->ds[m]?=some dm->PyData.eqv dm d=false)/\Q .non (A_ H l (.lst (xs.eraseIdx j)))
theorem Lr{k:Nat}(hr:Room k X.A):Qs X "list.remove" Kf:=by
 intro pins s σ H x vs v us Q I rx rv h
 obtain⟨l,xs,y,ds,d,j,rfl,rfl,hH,hds,hd,c1,c2,dd,⟨dj,hj,hit⟩,hno,q⟩:=h
 cases rx
 obtain⟨u,rfl,ru⟩:=rv.one
 obtain⟨z,its,n,r,hl,e⟩:=I.lstM hH
 obtain⟨as,ra⟩:=RVs.reads I hds r
 obtain⟨bs,rb⟩:=RV.reads I hd ru
 have hm:=PySem.SeqAt.readsAll_map ds its as c1 ra
 have hlen:ds.length=its.length:=by rw [← hm,List.length_map]
 have hu:=hr.un
 have hmin:min (PyData.depthAll ds) d.depth<=d.depth:=Nat.min_le_right _ _
 have at_:∀m dm,ds[m]?=some dm->∀(h:m<its.toArray.size),PySem.SeqAt.readOf s.heap its.toArray[m]=dm:=fun m dm e h=>by
  rw [← hm,List.getElem?_map] at e
  have h':m<its.length:=by simpa using h
  rw [List.getElem?_eq_getElem h'] at e
  have e:=Option.some.inj e
  simpa using e
 have hjl:j<its.length:=by rw [← hlen]; exact(List.getElem?_eq_some_iff.mp hj).1
 refine Mg l its.toArray n u (fun y=>PyData.eqv (PySem.SeqAt.readOf s.heap y) d) j (by rw [List.size_toArray]; exact hjl) (by rw [at_ j dj hj]; exact hit) (fun m hm' hlt=>?_) (by rw [List.size_toArray]; omega) e (PySem.SeqAt.items_eqAt (vs:=its.toArray) (by rw [List.toList_toArray]; exact ra) rb c1 c2 (by omega)) ?_
 ·have hml:m<ds.length:=by rw [hlen]; simpa using hm'
  rw [at_ m ds[m] (List.getElem?_eq_getElem hml) hm']
  exact hno m ds[m] hlt (List.getElem?_eq_getElem hml)
 ·refine⟨.non,_,I.lset (t':=s.toks) (its':=its.eraseIdx j) hH e ?_ (r.eraseIdx j) ?_,rfl,q⟩
  ·show its.toArray.eraseIdxIfInBounds j=(its.eraseIdx j).toArray
   rw [List.eraseIdxIfInBounds_toArray]
  ·have:=HB xs j
   omega
end
end L2
namespace Dp
open PySem PySem.Spec PyProof.Rows L2
def Rk(d:D)(ds:List D)(P:D->D->Prop):Prop:=∃(xs:List D) (y:D) (j:Nat),d=.lst xs/\ds=[y]/\DD (.lst xs)/\DD y/\(∃x,xs[j]?=some x/\K_ x y=true)/\(∀m x,m<j->xs[m]?=some x->K_ x y=false)/\P (.lst (xs.eraseIdx j)) .non
theorem Ru{K:Frag}:Qr K Kf Rk:=by
 intro M H a d ds vs P Q m t hv w q
 obtain⟨xs,y,j,rfl,rfl,⟨n1,l1,_⟩,⟨n2,l2,d2⟩,⟨x,hx,hit⟩,hno,w⟩:=w
 obtain⟨us,h1,h2⟩:=t
 obtain⟨u,r,rfl,hu,hr⟩:=hv
 cases (show r=[] from hr)
 have get:∀(m:Nat) (p:PyData),(A3 xs)[m]?=some p->∃x,xs[m]?=some x/\p=toPy x:=fun m p e=>by
  rw [Cf,List.getElem?_map] at e
  obtain⟨x,e1,rfl⟩:=Option.map_eq_some_iff.mp e
  exact⟨x,e1,rfl⟩
 refine⟨a,us,u,A3 xs,toPy y,j,rfl,rfl,h1,h2.rv n1,hu.rv n2,l1,l2,d2,⟨toPy x,by rw [Cf,List.getElem?_map,hx]; rfl,hit⟩,fun m p hm e=>?_,q _ (.lst (xs.eraseIdx j)) .non _ ⟨us.eraseIdx j,AX,?_⟩ rfl w⟩
 ·obtain⟨x',e1,rfl⟩:=get m p e
  exact hno m x' hm e1
 ·exact(h2.eraseIdx j).pres (FS m)
def HX(c:Gc)(wb:Ak):Ak:=fun D2 n ρ=>∃W:Nat->Nat->List Slot->Prop,(∃m,W m n ρ)/\∀m n ρ,W m n ρ ->
 c n ρ fun b n1=>if b=true then ∃N:Nat->List Slot->Prop,(∀n' ρ',N n' ρ'->∃m',m'<m/\W m' n' ρ')/\wb { D2 with nx:=N,ct:=N,bk:=D2.nx } n1 ρ else D2.nx n1 ρ
section
variable {X:Cx}{κ:Kd}{c:Expr}{body:List Stmt}{wc:Gc}{wb:Ak}{pos:Pos}
theorem JW(hp:PassesOwn (model X.prog X.w) X.A X.env X.xe)(hc:DT X c wc)(hb:Nw X κ body wb):DS X κ (.While c body [] pos) (HX wc wb):=by
 obtain⟨tc,c1,c2⟩:=hc
 obtain⟨tb,b1,b2⟩:=hb
 refine⟨_,Ms hp c1 b1,fun C M H n ρ σ D2 E R L w=>?_⟩
 obtain⟨W,⟨m0,w0⟩,turn⟩:=w
 refine⟨fun m σ' H'=>∃M' n' ρ',Rel X.K C M' H' n' ρ' σ'/\W m n' ρ',⟨m0,M,n,ρ,R,w0⟩,?_⟩
 rintro m σ' H' ⟨M',n',ρ',R',w'⟩
 refine c2 C M' H' n' ρ' σ' _ _ R' (turn m n' ρ' w') fun b H2 n2 e f p=>?_
 have R2:=R'.step e f
 cases b with
 | true =>
  rw [if_pos rfl] at p ⊢
  obtain⟨N,hN,p⟩:=p
  refine⟨fun σ3 H3=>∃M3 n3 ρ3,Rel X.K C M3 H3 n3 ρ3 σ3/\N n3 ρ3,fun σ3 H3 ⟨M3,n3,ρ3,R3,w3⟩=>?_,?_⟩
  ·obtain⟨m',hm,w4⟩:=hN n3 ρ3 w3
   exact⟨m',hm,M3,n3,ρ3,R3,w4⟩
  ·exact b2 C M' H2 n2 ρ' σ' { D2 with nx:=N,ct:=N,bk:=D2.nx } _ R2 ⟨fun M4 H4 n4 ρ4 σ4 R4 w4=>⟨M4,n4,ρ4,R4,w4⟩,L.rt,fun M4 H4 n4 ρ4 σ4 R4 w4=>L.nx M4 H4 n4 ρ4 σ4 R4 w4,fun M4 H4 n4 ρ4 σ4 R4 w4=>⟨M4,n4,ρ4,R4,w4⟩⟩ p
 | false =>
  rw [if_neg (by decide)] at p ⊢
  exact L.nx M' H2 n2 ρ' σ' R2 p
theorem G5{D2:E2}{n:Nat}{ρ:List Slot}(I:Nat->Nat->List Slot->Prop)(m0:Nat)(h0:I m0 n ρ)
  (hs:∀m n ρ (N:Nat->List Slot->Prop),I m n ρ->(∀m' n' ρ',m'<m->I m' n' ρ'->N n' ρ')->wc n ρ fun b n1=>if b=true then wb { D2 with nx:=N,ct:=N,bk:=D2.nx } n1 ρ else D2.nx n1 ρ)
  (mono:∀n ρ (P Q:Bool->Nat->Prop),(∀b n1,P b n1->Q b n1)->wc n ρ P->wc n ρ Q):HX wc wb D2 n ρ:=by
 refine⟨I,⟨m0,h0⟩,fun m n ρ h=>?_⟩
 refine mono n ρ _ _ (fun b n1 p=>?_) (hs m n ρ (fun n' ρ'=>∃m',m'<m/\I m' n' ρ') h fun m' n' ρ' hm hi=>⟨m',hm,hi⟩)
 cases b with
 | true=>rw [if_pos rfl] at p ⊢; exact⟨_,fun _ _ z=>z,p⟩
 | false=>exact p
end
section
variable {X:Cx}{κ:Kd}{tg:Expr}{body:List Stmt}{b:BW}{wb:Ak}{pos p:Pos}{x:Str}{i:Nat}
end
end Dp
namespace Nt
open PySem PySem.Spec PyProof.Rows L2 Dp
def Q2(s t:Ig):Decidable (s=t) :=
 if h:s.a=t.a/\s.b=t.b/\s.len=t.len then .isTrue (by obtain⟨a,b,l⟩:=s; obtain⟨a',b',l'⟩:=t; obtain⟨h1,h2,h3⟩:=h; simp only at h1 h2 h3; subst h1 h2 h3; rfl) else .isFalse fun e=>h (by rw [e]; exact⟨rfl,rfl,rfl⟩)
instance:DecidableEq Ig:=Q2
abbrev EF(Pd:D->Nat->Prop):E2:={ nx:=fun n _=>Kd.fr=.sh/\Pd .non n,rt:=Pd }
def SI(x:Str×Int):D:=.tup [.str x.1,.int x.2]
section
variable {ss:List Slot}{n:Nat}{Pd:D->Nat->Prop}
theorem H_{N:Net}(ok:N.Ok){x:Str}{p:Str×Int}(h:p∈EK N.ts x):p.1∈N.ps/\1<=p.2/\p.2<=1000000/\∃t∈N.ts,t.len=p.2/\((t.a=x/\t.b=p.1)\/(t.b=x/\t.a=p.1)):=by
 unfold EK at h
 obtain⟨t,ht,h⟩:=List.mem_flatMap.mp h
 obtain⟨m1,m2,m3,m4,m5⟩:=ok.tin t ht
 rcases List.mem_append.mp h with h | h
 ·split at h
  ·rename_i e
   rw [List.mem_singleton.mp h]
   exact⟨m2,m4,m5,t,ht,rfl,.inl ⟨e,rfl⟩⟩
  ·cases h
 ·split at h
  ·rename_i e
   rw [List.mem_singleton.mp h]
   exact⟨m1,m4,m5,t,ht,rfl,.inr ⟨e,rfl⟩⟩
  ·cases h
theorem Lz{xs:List D}(h:∀d∈xs,item d):DD (.lst xs):=by
 have d1:DU xs<=1:=dps_le.mpr fun d hd=>(h d hd).2.2
 exact E3 (B:=1000001) (by decide) (fines_iff.mpr fun d hd=>(h d hd).1) (by show DU xs+1<=100; omega)
theorem HK{α β:Type}(f:α->β):∀(l:List α) (i:Nat),(l.map f).eraseIdx i=(l.eraseIdx i).map f
 | [],i=>rfl
 | x::l,0=>rfl
 | x::l,i+1=>by
  show f x::(l.map f).eraseIdx i=f x::(l.eraseIdx i).map f
  rw [HK f l i]
end
end Nt
namespace L2
open PySem PySem.Spec PyProof.Rows PySem.W
section
variable {X:Cx}
end
end L2
namespace Dp
open PySem PySem.Spec PyProof.Rows L2
section
variable {X:Cx}{K:Frag}
end
end Dp
namespace Nt
open PySem PySem.Spec PyProof.Rows L2 Dp
theorem KS{g:Str->D}{x:Str}:∀{ps:List Str},BJ (ps.map .inr) (ps.map g) (.inr x)=if x∈ps then some (g x) else none
 | []=>rfl
 | p::ps=>by
  show (if (Sum.inr p:Key)=.inr x then some (g p) else BJ (ps.map .inr) (ps.map g) (.inr x))=_
  rw [KS (ps:=ps)]
  by_cases e:p=x
  ·subst e; rw [if_pos rfl,if_pos List.mem_cons_self]
  ·rw [if_neg (fun z=>e (Sum.inr.inj z))]
   by_cases h:x∈ps
   ·rw [if_pos h,if_pos (List.mem_cons_of_mem _ h)]
   ·rw [if_neg h,if_neg (fun z=>(List.mem_cons.mp z).elim (fun z=>e z.symm) h)]
section
variable {ss:List Slot}{n:Nat}{Pd:D->Nat->Prop}
end
section
variable {ss:List Slot}{n:Nat}{Pd:D->Nat->Prop}
end
theorem Eg(xs:List D)(lo hi:Option Int):(∀d∈Dp.cutD xs lo hi,d∈xs)/\(Dp.cutD xs lo hi).length<=xs.length:=by
 unfold Dp.cutD
 exact⟨fun d hd=>List.mem_of_mem_drop (List.mem_of_mem_take hd),by rw [List.length_take,List.length_drop]; omega⟩
section
variable {ss:List Slot}{n:Nat}{Pd:D->Nat->Prop}
end
section
variable {ss:List Slot}{n:Nat}{Pd:D->Nat->Prop}
end
end Nt
namespace L2
open PySem PySem.Spec PyProof.Rows PySem.W
section
variable {prog:Program}{w:World}{A:Around}{E:Value->Shared->Prop}{R:Result->Shared->Prop}{I:Addr}{fp wr:List Addr}{n:Nat}{P:Nat->Value->Prop}{St:Nat->Heap->Prop}
def Pa(prog:Program)(w:World)(A:Around)(op:CmpOp)(P:Nat->Value->Prop)(Cm:Heap->Prop)(bt:Nat->Nat->Bool):Prop :=
 ∀i j vi vj (s:Shared) (Q:Value->Shared->Prop) (E:Value->Shared->Prop),Cm s.heap->P i vi->P j vj->Q (.bool (bt i j)) s->wpAny (model prog w) A (richCompare op vi vj) Q E s
theorem Ls(W:Walks prog w A.in1 I fp wr n P St)(bt:Nat->Nat->Bool)(Cm:Heap->Prop)(hcmp:Pa prog w A.in1 .Lt P Cm bt)(S:Addr)(hSf:S∉fp)(hmono:∀h h':Heap,Cm h->(∀b o,b∉wr->b≠S->h.get? b=some o->h'.get? b=some o)->Cm h') :
  ∀(k j:Nat) (s:Shared) (vb:Value) (c:Nat),n - (j+1)=k->j+1<=n->St (j+1) s.heap->Cm s.heap->P (argBest bt j) vb ->
  s.heap.get? S=some { cls:=.type "list",dict:=none,data:=.seq #[vb,vb] c,slots:=#[] } ->
  (∀v h' tk,P (argBest bt (n - 1)) v->(∀b o,b∉wr->b≠S->s.heap.get? b=some o->h'.get? b=some o)->R (.ok (.ret v)) { s with heap:=h',toks:=tk }) ->
  codeAny (model prog w) A (.builtin "min.loop" ⟨[.ref I,.none,.ref S],[]⟩) R s:=by
 have hSw:S∉wr:=fun h=>hSf (W.sub _ h)
 have hname:(toString "min"++toString ".loop" : String) = "min.loop":=by decide
 intro k
 induction k with
 | zero =>
  intro j s vb c hk hj hst hcm hPb hS hR
  have hin:j+1=n:=by omega
  refine codeAny_builtin PySem.F.entry_min_loop ?_
  rw [Around.under_plainId PySem.F.plain_min_loop _]
  show wpAny _ A.in1 (seqItems? (.ref S) >>= _) _ _ s
  refine wpAny_bind (wpAny_seqItems hS rfl ?_)
  show wpAny _ A.in1 (tryCatch (pyNext (.ref I)) _ >>= _) _ _ s
  refine wpAny_bind (wpAny_tryCatch (W.done s _ _ (hin▸hst) fun h' tk hk'=>?_))
  have hS':=hk' S _ hSw hS
  show wpAny _ A.in1 (updateSeq S (fun _=>#[]) >>= _) _ _ _
  refine wpAny_bind ?_
  refine wpAny_updateSeq hS' rfl (wpAny_bind (wpAny_letGo (wpAny_pure ?_)))
  refine hR vb _ tk (by rw [← hin]; exact hPb) fun b o hbw hbS e=>(Heap.get?_update_other _ _ (Ne.symm hbS)).trans (hk' b o hbw e)
 | succ k ih =>
  intro j s vb c hk hj hst hcm hPb hS hR
  have hlt:j+1<n:=by omega
  refine codeAny_builtin PySem.F.entry_min_loop ?_
  rw [Around.under_plainId PySem.F.plain_min_loop _]
  show wpAny _ A.in1 (seqItems? (.ref S) >>= _) _ _ s
  refine wpAny_bind (wpAny_seqItems hS rfl ?_)
  show wpAny _ A.in1 (tryCatch (pyNext (.ref I)) _ >>= _) _ _ s
  refine wpAny_bind (wpAny_tryCatch (W.item (j+1) s _ _ hlt hst fun v h' tk hP hst' hk'=>?_))
  have hS':=hk' S _ hSw hS
  have hcm':Cm h':=hmono _ _ hcm fun b o h1 _ e=>hk' b o h1 e
  show wpAny _ A.in1 (tryCatch (holding [v,v] (richCompare .Lt v vb >>= _)) _ >>= _) _ _ _
  refine wpAny_bind (wpAny_tryCatch (wpAny_holding (wpAny_bind (hcmp (j+1) (argBest bt j) v vb _ _ _ hcm' hP hPb ?_))))
  refine wpAny_bind (wpAny_holding (wpAny_truthy_bool ?_))
  refine wpAny_bind (wpAny_letGo (wpAny_pure ?_))
  cases hb:bt (j+1) (argBest bt j) with
  | true =>
   simp only [if_true]
   refine wpAny_bind ?_
   refine wpAny_updateSeq hS' rfl (wpAny_bind (wpAny_letGo ?_))
   rw [hname]
   refine wpAny_pure ⟨plainId_quiet PySem.F.plain_min_loop _,ih (j+1) _ v _ (by omega) hlt (W.frame _ _ _ hst' fun b hbf o e=>?_) (hmono _ _ hcm' fun b o _ h2 e=>(Heap.get?_update_other _ _ (Ne.symm h2)).trans e) (by simp only [argBest,hb,if_true]; exact hP) (Heap.get?_update_self _ hS' rfl)
    fun v' h'' tk'' hP' hk''=>?_⟩
   ·exact(Heap.get?_update_other _ _ (fun h:S=b=>hSf (by rw [h]; exact hbf))).trans e
   ·exact hR v' h'' tk'' hP' fun b o hbw hbS e=>hk'' b o hbw hbS ((Heap.get?_update_other _ _ (Ne.symm hbS)).trans (hk' b o hbw e))
  | false =>
   simp only [Bool.false_eq_true,if_false]
   refine wpAny_bind (wpAny_letGo ?_)
   rw [hname]
   refine wpAny_pure ⟨plainId_quiet PySem.F.plain_min_loop _,ih (j+1) _ vb c (by omega) hlt hst' hcm' (by simp only [argBest,hb,Bool.false_eq_true,if_false]; exact hPb) hS' fun v' h'' tk'' hP' hk''=>?_⟩
   exact hR v' h'' tk'' hP' fun b o hbw hbS e=>hk'' b o hbw hbS (hk' b o hbw e)
theorem J5(W:Walks prog w A.in1 I fp wr n P St)(bt:Nat->Nat->Bool)(Cm:Heap->Prop)(hcmp:Pa prog w A.in1 .Lt P Cm bt)(S:Addr)(hSf:S∉fp)(hmono:∀h h':Heap,Cm h->(∀b o,b∉wr->b≠S->h.get? b=some o->h'.get? b=some o)->Cm h')(hn:0<n){s:Shared}{c:Nat}(hst:St 0 s.heap)(hcm:Cm s.heap)
  (hS:s.heap.get? S=some { cls:=.type "list",dict:=none,data:=.seq #[] c,slots:=#[] })
  (hR:∀v h' tk,P (argBest bt (n - 1)) v->(∀b o,b∉wr->b≠S->s.heap.get? b=some o->h'.get? b=some o)->R (.ok (.ret v)) { s with heap:=h',toks:=tk }) :
  codeAny (model prog w) A (.builtin "min.loop" ⟨[.ref I,.none,.ref S],[]⟩) R s:=by
 have hSw:S∉wr:=fun h=>hSf (W.sub _ h)
 have hname:(toString "min"++toString ".loop" : String) = "min.loop":=by decide
 refine codeAny_builtin PySem.F.entry_min_loop ?_
 rw [Around.under_plainId PySem.F.plain_min_loop _]
 show wpAny _ A.in1 (seqItems? (.ref S) >>= _) _ _ s
 refine wpAny_bind (wpAny_seqItems hS rfl ?_)
 show wpAny _ A.in1 (tryCatch (pyNext (.ref I)) _ >>= _) _ _ s
 refine wpAny_bind (wpAny_tryCatch (W.item 0 s _ _ hn hst fun v h' tk hP hst' hk'=>?_))
 have hS':=hk' S _ hSw hS
 have hcm':Cm h':=hmono _ _ hcm fun b o h1 _ e=>hk' b o h1 e
 show wpAny _ A.in1 (updateSeq S (fun _=>#[v,v]) >>= _) _ _ _
 refine wpAny_bind ?_
 refine wpAny_updateSeq hS' rfl ?_
 rw [hname]
 refine wpAny_pure ⟨plainId_quiet PySem.F.plain_min_loop _,Ls W bt Cm hcmp S hSf hmono _ 0 _ v _ rfl hn (W.frame _ _ _ hst' fun b hbf o e=>?_) (hmono _ _ hcm' fun b o _ h2 e=>(Heap.get?_update_other _ _ (Ne.symm h2)).trans e) hP (Heap.get?_update_self _ hS' rfl) fun v' h'' tk'' hP' hk''=>?_⟩
 ·exact(Heap.get?_update_other _ _ (fun h:S=b=>hSf (by rw [h]; exact hbf))).trans e
 ·exact hR v' h'' tk'' hP' fun b o hbw hbS e=>hk'' b o hbw hbS ((Heap.get?_update_other _ _ (Ne.symm hbS)).trans (hk' b o hbw e))
theorem min_list{s:Shared}{l:Addr}{items:Array Value}{Q:Value->Shared->Prop}(bt:Nat->Nat->Bool)(hh:A.handled=none)(hl:s.heap.IsList l items)(hn:0<items.size)
  (hcmp:∀i j vi vj (s':Shared) (Q:Value->Shared->Prop) (E:Value->Shared->Prop),(∀b o,s.heap.get? b=some o->s'.heap.get? b=some o)->items[i]?=some vi->items[j]?=some vj->Q (.bool (bt i j)) s'->wpAny (model prog w) A.in1 (richCompare .Lt vi vj) Q E s')
  (h:∀v h' tk,items[argBest bt (items.size - 1)]?=some v->(∀b o,s.heap.get? b=some o->h'.get? b=some o)->Q v { s with heap:=h',toks:=tk }):wpAny (model prog w) A (call (.builtin "min") [.ref l]) Q E s:=by
 have hname:(toString "min"++toString ".loop" : String) = "min.loop":=by decide
 have hlt:l<s.heap.objs.size:=by obtain⟨_,e,_⟩:=hl; exact Heap.lt_size e
 refine call_function_tree PySem.F.kind_min PySem.F.plain_min PySem.F.entry_min (PySem.F.args_min1 _) ?_
 show wpAny _ A.in1 (Builtin.Builtins.bindParams "min" ["key","default"] 0 ⟨[],[]⟩ >>= _) _ _ s
 refine wpAny_bind (wpAny_of_eq (show Builtin.Builtins.bindParams "min" ["key","default"] 0 ⟨[],[]⟩=pure [none,none] from rfl) ?_)
 refine wpAny_bind (wpAny_pure ?_)
 refine wpAny_bind (wpAny_pyIter_list hl ?_)
 refine wpAny_bind (wpAny_newObj_type ?_)
 rw [hname]
 have W:=Walks.list (prog:=prog) (w:=w) (A:=A.in1) hh s.heap.objs.size l (Nat.ne_of_lt hlt) items
 have hs1:(s.heap.push { cls:=.type "list_iterator",data:=.fields #[.ref l,.int 0 0] }).objs.size=s.heap.objs.size+1:=Heap.size_push _ _
 refine wpAny_pure ⟨plainId_quiet PySem.F.plain_min_loop _,J5 W bt (fun h'=>∀b o,s.heap.get? b=some o->h'.get? b=some o) (fun i j vi vj s' Q E hc h1 h2 q=>hcmp i j vi vj s' Q E hc h1 h2 q) (s.heap.push { cls:=.type "list_iterator",data:=.fields #[.ref l,.int 0 0] }).objs.size (fun hm=>?_) (fun h1 h2 hc hk b o e=>hk b o (fun hm=>?_) ?_ (hc b o e)) hn ⟨⟨_,Heap.get?_push_of_some _ (Heap.get?_push_size _ rfl),rfl,rfl⟩,(hl.push _).push _⟩ (fun b o e=>Heap.get?_push_of_some _ (Heap.get?_push_of_some _ e)) (Heap.get?_push_size _ rfl) fun v h' tk hP hk=>?_⟩
 ·rw [hs1] at hm
  rcases List.mem_cons.mp hm with e | hm
  ·exact absurd e (Nat.succ_ne_self _)
  ·rw [← List.mem_singleton.mp hm] at hlt
   exact absurd hlt (Nat.not_lt.mpr (Nat.le_succ _))
 ·rw [List.mem_singleton.mp hm] at e
  exact absurd (Heap.lt_size e) (Nat.lt_irrefl _)
 ·rw [hs1]
  exact Nat.ne_of_lt (Nat.lt_succ_of_lt (Heap.lt_size e))
 ·refine h v h' tk hP fun b o e=>hk b o (fun hm=>?_) ?_ (Heap.get?_push_of_some _ (Heap.get?_push_of_some _ e))
  ·rw [List.mem_singleton.mp hm] at e
   exact absurd (Heap.lt_size e) (Nat.lt_irrefl _)
  ·rw [hs1]
   exact Nat.ne_of_lt (Nat.lt_succ_of_lt (Heap.lt_size e))
end
theorem GW(keys:List (List Key)):∀m:Nat,argBest (fun i j=>Cr (keys.getD i []) (keys.getD j [])) m<=m/\∀i,i<=m->Cr (keys.getD i []) (keys.getD (argBest (fun i j=>Cr (keys.getD i []) (keys.getD j [])) m) [])=false
 | 0=>⟨Nat.le_refl _,fun i hi=>by
  have:i=0:=by omega
  subst this
  exact De _⟩
 | m+1=>by
  obtain⟨h1,h2⟩:=GW keys m
  unfold argBest
  by_cases c:Cr (keys.getD (m+1) []) (keys.getD (argBest (fun i j=>Cr (keys.getD i []) (keys.getD j [])) m) [])=true
  ·rw [if_pos c]
   refine⟨Nat.le_refl _,fun i hi=>?_⟩
   by_cases e:i=m+1
   ·subst e; exact De _
   ·cases z:Cr (keys.getD i []) (keys.getD (m+1) []) with
    | false=>rfl
    | true =>
     have:=Fu _ _ _ z c
     rw [h2 i (by omega)] at this
     cases this
  ·rw [if_neg c]
   refine⟨by omega,fun i hi=>?_⟩
   by_cases e:i=m+1
   ·subst e
    cases z:Cr (keys.getD (m+1) []) (keys.getD (argBest (fun i j=>Cr (keys.getD i []) (keys.getD j [])) m) []) with
    | false=>rfl
    | true=>exact absurd z c
   ·exact h2 i (by omega)
section
variable {X:Cx}
def O4(K:Frag):List V->Hp->VK->Prop:=fun xs H Q=>∃(p:Addr) (vs:List V) (keys:List (List Key)),xs=[.ref p]/\SqL K H p vs/\0<vs.length/\KeysAt K H vs keys /\
 ∀j v,vs[j]?=some v->(∀i,i<vs.length->Cr (keys.getD i []) (keys.getD j [])=false)->Q v H
theorem MK{k:Nat}(hr:Room k X.A):CD X (.builtin "min") (O4 X.K):=by
 intro pins s σ H xs us Q I r h
 obtain⟨p,vs,keys,rfl,hq,hn,hk,q⟩:=h
 obtain⟨u,rfl,rx⟩:=vals1 r
 cases rx
 obtain⟨its,r',pl,hz⟩:=I.list hq
 have hl:=r'.length
 have tk:=hk.tups I r' fun b o e=>e
 have hu:=hr.un
 refine min_list (fun i j=>Cr (keys.getD i []) (keys.getD j [])) hr.hd pl.isList (by rw [List.size_toArray]; omega) (fun i j vi vj s' Q' E' hold h1 h2 q'=>?_) fun v h' tk' hv hold=>?_
 ·have hi:i<keys.length:=by rw [← hk.len,hl]; have:=(Array.getElem?_eq_some_iff.mp h1).1; simpa using this
  have hj:j<keys.length:=by rw [← hk.len,hl]; have:=(Array.getElem?_eq_some_iff.mp h2).1; simpa using this
  obtain⟨a,⟨cls,dd,data,sl⟩,xs,n,e1,e2,e3,e4,e5⟩:=tk.at_ i keys[i] (List.getElem?_eq_getElem hi)
  obtain⟨a',⟨cls',dd',data',sl'⟩,xs',n',e1',e2',e3',e4',e5'⟩:=tk.at_ j keys[j] (List.getElem?_eq_getElem hj)
  simp only at e3 e4 e3' e4'
  subst e3 e4 e3' e4'
  have e1:its.toArray[i]?=some (.ref a):=by rw [← e1]; simp
  have e1':its.toArray[j]?=some (.ref a'):=by rw [← e1']; simp
  rw [e1] at h1
  rw [e1'] at h2
  cases h1
  cases h2
  have hsm:=hk.same _ (List.getElem_mem hi) _ (List.getElem_mem hj)
  have g1:keys.getD i []=keys[i]:=by rw [List.getD_eq_getElem?_getD,List.getElem?_eq_getElem hi]; rfl
  have g2:keys.getD j []=keys[j]:=by rw [List.getD_eq_getElem?_getD,List.getElem?_eq_getElem hj]; rfl
  simp only [g1,g2] at q'
  rw [← Kv _ _ hsm] at q'
  exact richCompare_meets_room (op:=.Lt) ⟨_,hold _ _ e2,rfl⟩ ⟨_,hold _ _ e2',rfl⟩ PySem.F.slot_tuple_lt PySem.F.entry_tuple_lt (PySem.F.args_tuple_lt_2 _ _) (Dz a a' xs xs' n n' dd dd' sl sl' keys[i] keys[j] e5 e5' hsm)
   ⟨hold _ _ e2,hold _ _ e2',show Value.bool (E1 keys[i] keys[j])≠Value.notImplemented/\Q' (.bool (E1 keys[i] keys[j])) s' from⟨(fun x=>nomatch x),q'⟩⟩ (by show X.A.units+1<cLine; omega)
 ·obtain⟨b1,b2⟩:=GW keys (its.toArray.size - 1)
  rw [List.size_toArray] at hv b1 b2
  have hj:argBest (fun i j=>Cr (keys.getD i []) (keys.getD j [])) (its.length - 1)<vs.length:=by omega
  obtain⟨u,e1,ru⟩:=r'.get (List.getElem?_eq_getElem hj)
  have e2:its.toArray[argBest (fun i j=>Cr (keys.getD i []) (keys.getD j [])) (its.length - 1)]?=some u:=by rw [← e1]; simp
  rw [e2] at hv
  cases hv
  exact⟨_,H,I.kept (t':=tk') hold,ru,q _ _ (List.getElem?_eq_getElem hj) fun i hi=>b2 i (by omega)⟩
end
end L2
namespace Dp
open PySem PySem.Spec PyProof.Rows L2
def PL(ds:List D)(P:D->Prop):Prop:=∃xs,ds=[.lst xs]/\0<xs.length/\Keyed IB xs/\∀x∈xs,(∀y∈xs,∀kx ky,IB x=some kx->IB y=some ky->Cr ky kx=false)->P x
theorem Qj{K:Frag}:C3 K .sh (O4 K) PL:=by
 intro U M H ds vs P Q dom vM hp w q
 obtain⟨xs,rfl,hn,hK,w⟩:=w
 obtain⟨v,rfl,hx⟩:=Cz hp
 obtain⟨a,us,rfl,_,hq,hs⟩:=hx
 obtain⟨keys,hl,hk⟩:=HC hK.1
 have hlen:=hs.length
 refine⟨a,us,keys,rfl,.inl hq,by omega,L4 (fun d k v _=>L5) hs hK hl hk,fun j v hv hle=>?_⟩
 have hj:j<xs.length:=by rw [← hlen]; exact(List.getElem?_eq_some_iff.mp hv).1
 obtain⟨v',e1,h1⟩:=hs.get (List.getElem?_eq_getElem hj)
 rw [hv] at e1
 cases e1
 refine q v H xs[j] .refl h1 (w _ (List.getElem_mem hj) fun y hy kx ky ex ey=>?_)
 obtain⟨i,hi⟩:=List.mem_iff_getElem?.mp hy
 have hil:i<xs.length:=(List.getElem?_eq_some_iff.mp hi).1
 obtain⟨k1,a1,b1,_⟩:=hk i y hi
 obtain⟨k2,a2,b2,_⟩:=hk j xs[j] (List.getElem?_eq_getElem hj)
 have:=hle i (by omega)
 rw [List.getD_eq_getElem?_getD,List.getD_eq_getElem?_getD,a1,a2] at this
 rw [ey] at b1
 rw [ex] at b2
 cases b1
 cases b2
 exact this
end Dp
namespace L2
open PySem PySem.Spec PyProof.Rows
def S4(d:Addr)(o:Obj)(kvs:List (Key×V)):It :=
 ⟨fun i H=>H d=some (.frz o (.dK kvs))/\i<kvs.length,fun i H x H'=>∃T p,x=.ref T/\H T=none/\kvs[i]?=some p/\H'=A_ H T (.tup [kV p.1,p.2]),fun i H=>H d=some (.frz o (.dK kvs))/\kvs.length<=i⟩
theorem QO{P:Program}{w:World}{k:Key}{u:Value}(h:(Aw P w).is k u=true):RelV (kV k) u:=by
 rcases A9 h with ⟨i,t,rfl,rfl⟩ | ⟨x,t,rfl,rfl⟩
 ·exact⟨t,rfl⟩
 ·exact⟨t,rfl⟩
theorem IO{X:Cx}{pins:List (Addr×Obj)}{σ:L2.St}{H:Hp}{s:Shared}{d:Addr}{o:Obj}{kvs:List (Key×V)}{es:Array DictEntry}{ep:Nat}(I:Inv X pins σ H s)(h:H d=some (.frz o (.dK kvs)))(hd:o.data=.dict es ep) :
  ∃ws,KV kvs ws/\s.heap.DictAt (Aw X.prog X.w) d ws ep:=by
 obtain⟨e0,_,_,ws,kv,o',es',ep',e1,e2,e3,e4⟩:=(show ObjOk X.prog X.w H s.heap d (.frz o (.dK kvs)) from I.hok d _ h)
 rw [e0] at e1
 cases e1
 rw [hd] at e3
 cases e3
 exact⟨ws,kv,o,es,e0,e2,hd,e4⟩
theorem Jo{P:Program}{w:World}{K:Frag}{els:List Expr}{j:Nat}{pos:Pos}(d it:Addr)(o:Obj)(kvs:List (Key×V))(es:Array DictEntry)(ep:Nat)(hdat:o.data=.dict es ep) :
  Turn P w K (.Tuple els j pos) (S4 d o kvs) [it] it (fun i h=>∃ok ov,IsItemIter h it d i kvs.length ep ok ov) where
 mem:=by simp
 obj:=fun i h ⟨ok,ov,st⟩ c hc=>by
  rw [List.mem_singleton.mp hc]
  exact⟨_,st,fun v q=>by cases q⟩
 keep:=fun i h h' ⟨ok,ov,st⟩ k=>⟨ok,ov,k it (by simp) _ st⟩
 item:=by
  intro X hP hw hK hc i pins s σ H E I hf st hg
  subst hP hw hK
  obtain⟨hH,hi⟩:=hg
  obtain⟨ok,ov,st⟩:=st
  obtain⟨ws,kv,D⟩:=IO I hH hdat
  have hl:=kv.length
  have hiw:i<ws.length:=by omega
  rw [hl] at st
  obtain⟨k,v,hkv⟩:∃k v,ws[i]=(k,v):=⟨_,_,rfl⟩
  have hx:ws[i]?=some (k,v):=by rw [List.getElem?_eq_getElem hiw,hkv]
  have hp:kvs[i]?=some kvs[i]:=List.getElem?_eq_getElem hi
  obtain⟨ek,rv⟩:=JH kv hp hx
  have ek:kvs[i].1=k:=ek
  refine wpAny_pyNext_items_item st D hx fun key h' hkey hout htup hsz hold=>⟨_,rfl,?_⟩
  refine wpAny_letOwnedTupleGo_items hout fun h2 hit2 hsame=>?_
  have hT:H s.heap.objs.size=none:=I.hok.fresh (Nat.le_refl _)
  have nit:s.heap.objs.size≠it:=Nat.ne_of_gt (Heap.lt_size st)
  have kk:∀c o,c∉[it]->s.heap.get? c=some o->h2.get? c=some o:=fun c o hc e=>by
   have hc:c≠it:=fun z=>hc (by rw [z]; exact List.mem_singleton.mpr rfl)
   exact(hsame.2 c hc).trans (hold c o hc e)
  have I2:Inv X pins σ (A_ H s.heap.objs.size (.tup [kV kvs[i].1,kvs[i].2])) { s with heap:=h2 }:=by
   refine I.turnLaid (t':=s.toks) (ch:=[it]) (fun c hc=>hf c hc) kk (Nat.le_refl _) ?_
   exact⟨by show 2<=sizeLine; decide,[key,v],.cons (QO (by rw [ek]; exact hkey)) (.cons rv .nil),⟨_,(hsame.2 _ nit).trans htup,rfl,_,rfl,rfl,rfl⟩⟩
  refine⟨.ref s.heap.objs.size,_,I2,rfl,⟨_,_,rfl,hT,hp,rfl⟩,⟨key,v,by rw [hl]; exact hit2⟩,fun c hc=>?_⟩
  rw [List.mem_singleton.mp hc,AO (Ne.symm nit)]
  exact(hf it (by simp)).1
 done:=by
  intro X hP hw hK hc i pins s σ H E I hf st hg
  subst hP hw hK
  obtain⟨hH,hi⟩:=hg
  obtain⟨ok,ov,st⟩:=st
  obtain⟨ws,kv,D⟩:=IO I hH hdat
  have hl:=kv.length
  rw [hl] at st
  refine wpAny_pyNext_items_end (I.ok.hd hc) st D (List.getElem?_eq_none (by omega)) fun h' ext=>⟨rfl,?_⟩
  exact I.turnedL (t':=s.toks) (ch:=[it]) (fun c hc=>hf c hc) fun c o hc e=>ext c o (fun z=>hc (by rw [z]; exact List.mem_singleton.mpr rfl)) e
 self:=fun A i s Q E ⟨ok,ov,st⟩ h=>PySem.W.kcp_self st h
def QS(to:TE):TI:=fun σ H R=>to σ H fun x H1=>∃d o kvs,x=.ref d/\H1 d=some (.frz o (.dK kvs))/\∀r,H1 r=none->R (S4 d o kvs) (A_ H1 r (.ext fun h=>h.IsItemsView r d))
theorem Mz{X:Cx}{e:Expr}{els:List Expr}{j:Nat}{tpos apos cpos:Pos}{to:TE}(ho:PE X e to)(hbase:attributeBase e "items" X.env (eval e X.env)=eval e X.env:=by rfl)(hline:(apos.endLine==cpos.line)=true:=by rfl) :
  PI X (.Tuple els j tpos) (.Call (.Attribute e "items" apos) [] [] cpos) (QS to):=by
 intro pins s σ H R I h
 refine wpAny_Call_method0_late hbase hline (BL (ho pins s σ H _ I h) fun v s1 ⟨x,H1,I1,r1,d,o,kvs,ex,hd,q⟩=>?_)
 subst ex
 cases r1
 obtain⟨h1,h2,lo⟩:=NO I1 (.inl ⟨kvs,.inr ⟨o,hd⟩⟩)
 obtain⟨_,_,ws,kv,D⟩:=FF I1.hok (.inr ⟨o,hd⟩)
 refine⟨"dict","dict.items",PySem.F.plainAttrs_dict,PySem.F.slot_dict_items,PySem.F.type_dict_items,h1,h2,Calls.callWith_builtin rfl (PySem.evalArgs_none ?_)⟩
 refine call_meetsIn PySem.F.slot_dict_items D.typeIs PySem.F.entry_dict_items (PySem.F.args_dict_items_1 _) (meets_dict_items (Aw X.prog X.w) d lo) ⟨⟨ws,D⟩,?_⟩
 have hf:H1 s1.heap.objs.size=none:=I1.fresh
 have hv:(s1.heap.push { cls:=.type "dict_items",data:=.fields #[.ref d] }).IsItemsView s1.heap.objs.size d:=⟨_,Heap.get?_push_size _ rfl,rfl,rfl⟩
 have I2:Inv X pins σ (A_ H1 s1.heap.objs.size (.ext fun h=>h.IsItemsView s1.heap.objs.size d)) { s1 with heap:=s1.heap.push { cls:=.type "dict_items",data:=.fields #[.ref d] } } :=
  I1.laid (t':=s1.toks) (fun b o e=>Heap.get?_push_of_some _ e) (Nat.le_refl _) ⟨hv,⟨_,Heap.get?_push_size _ rfl⟩,fun h1 h2 ⟨o,e,c⟩ k=>⟨o,k o e,c⟩⟩
 have hd2:(A_ H1 s1.heap.objs.size (.ext fun h=>h.IsItemsView s1.heap.objs.size d)) d=some (.frz o (.dK kvs)):=by rw [AO (A6 hd hf)]; exact hd
 obtain⟨es,ep,hdat⟩:∃es ep,o.data=.dict es ep:=by
  obtain⟨e0,_,_,ws,kv,o',es',ep',e1,e2,e3,e4⟩:=(show ObjOk X.prog X.w H1 s1.heap d (.frz o (.dK kvs)) from I1.hok d _ hd)
  rw [e0] at e1
  cases e1
  exact⟨es',ep',e3⟩
 obtain⟨ws2,kv2,D2⟩:=IO I2 hd2 hdat
 have hl:=kv2.length
 refine wpAny_pyIter_items (s:={ s1 with heap:=s1.heap.push { cls:=.type "dict_items",data:=.fields #[.ref d] } }) hv D2 ?_
 refine⟨_,[(s1.heap.push { cls:=.type "dict_items",data:=.fields #[.ref d] }).objs.size],_,S4 d o kvs,_,rfl,I2.kept (t':=s1.toks) (fun b o e=>Heap.get?_push_of_some _ e),Jo d _ o kvs es ep hdat,⟨.none,.none,by rw [hl]; exact Heap.get?_push_size _ rfl⟩,fun c hc=>?_,q _ hf⟩
 rw [List.mem_singleton.mp hc]
 exact I2.fpOk (Nat.le_refl _) I2.fresh
end L2
namespace Dp
open PySem PySem.Spec PyProof.Rows L2
def wItems(wa:DW):EJ:=fun n ρ P=>wa n ρ fun d n1=>∃ks ds,d=.fdi ks ds/\(∀k∈ks,Ky k)/\P (LR (ks.map Qx) ds) n1
theorem QP(k:Key):kV k=kOf k:=by cases k <;> rfl
section
variable {X:Cx}{a:Expr}{κa:Kd}{wa:DW}{els:List Expr}{j:Nat}{tpos apos cpos:Pos}
theorem NY(ha:DE X a κa wa)(hbase:attributeBase a "items" X.env (eval a X.env)=eval a X.env:=by rfl)(hline:(apos.endLine==cpos.line)=true:=by rfl):DI X (.Tuple els j tpos) (.Call (.Attribute a "items" apos) [] [] cpos) (wItems wa):=by
 obtain⟨t,a1,a2⟩:=ha
 refine⟨_,Mz a1 hbase hline,fun C M H n ρ σ P Rr R w q=>?_⟩
 refine a2 C M H n ρ σ _ _ R w fun v H1 d n1 ee f1 r1 p=>?_
 obtain⟨ks,ds,rfl,hfit,p⟩:=p
 have R1:=R.step ee f1
 obtain⟨ad,vs,rfl,⟨o,nM,hd⟩,hlen,hs⟩:∃a vs,v=.ref a/\NdF M H1 a ks vs/\ks.length=ds.length/\Ats X.K M H1 ds vs:=r1.tpOf R.dom R.vM
 have hl:=hs.length
 refine⟨ad,o,_,rfl,hd,fun r hr=>?_⟩
 have g:Grow H1 (A_ H1 r (.ext fun h=>h.IsItemsView r ad)):=Av hr
 refine q _ _ _ n1 (ee.trans g.ext) (f1.grow g) (fun i M' H' pr dom=>?_) p
 have pr2:Pres M H1 M' H':=g.pres.trans pr
 have hd':H' ad=some (.frz o (.dK (ks.zip vs))):=(pr2.nd nM hd).2
 have zl:(ks.zip vs).length=ks.length:=by rw [List.length_zip]; omega
 have zd:(LR (ks.map Qx) ds).length=ks.length:=by unfold LR; rw [List.length_zipWith,List.length_map]; omega
 refine⟨fun e he=>?_,fun hle=>⟨hd',by omega⟩⟩
 have hi:i<ks.length:=by rw [← zd]; exact(List.getElem?_eq_some_iff.mp he).1
 have hid:i<ds.length:=by omega
 refine⟨⟨hd',by omega⟩,fun x H2 y=>?_⟩
 obtain⟨T,pp,rfl,hT,hp,rfl⟩:=y
 obtain⟨v',e1,h1⟩:=(hs.pres pr2).get (List.getElem?_eq_getElem hid)
 have e2:(ks.zip vs)[i]?=some (ks[i],v'):=by
  rw [List.getElem?_zip_eq_some]
  exact⟨List.getElem?_eq_getElem hi,e1⟩
 rw [e2] at hp
 cases hp
 have e3:e=.tup [Qx ks[i],ds[i]]:=by
  unfold LR at he
  rw [List.getElem?_zipWith,List.getElem?_map,List.getElem?_eq_getElem hi,List.getElem?_eq_getElem hid] at he
  exact(Option.some.inj he).symm
 subst e3
 refine⟨Av hT,Dh dom hT ⟨_,_,rfl,?_,_,_,rfl,h1,rfl⟩⟩
 show At X.K M' H' (Qx ks[i]) (kV ks[i])
 rw [QP]
 exact Qb (hfit _ (List.getElem_mem hi))
end
section
variable {K:Frag}{C:Fm}{M:Addr->Prop}{H H':Hp}{n n':Nat}{ρ:List Slot}{σ:L2.St}
theorem Rel.hold(R:Rel K C M H n ρ σ){p:Addr}{o:HO}(hp:H p=none):Rel K C (fun b=>M b\/b=p) (A_ H p o) n ρ σ:=by
 have g:Grow H (A_ H p o):=Av hp
 have pr:Pres M H (fun b=>M b\/b=p) (A_ H p o):=ED hp
 refine⟨R.len,fun a z=>.inl (R.sub a z),fun a z=>?_,R.ext.trans g.ext,R.fU,R.uV,fun a z=>.inl (R.vM a z),(R.feed.grow g).more p fun f hf q=>?_,fun i s q=>(R.sl i s q).pres pr (fun _ z=>.inl z) g.ext R.uV,fun q hq=>(R.pin q hq).trans pr,R.br0,R.new,R.two,fun q hq=>?_⟩
 ·rcases z with z | z
  ·obtain⟨u,h1⟩:=R.dom a z
   exact⟨u,g.all a u h1⟩
  ·rw [z]; exact⟨o,AX⟩
 ·obtain⟨_,_,_,_,_,h3,_⟩:=R.feed f hf
  have:=h3.2
  rw [q,hp] at this; cases this
 ·obtain⟨h1,h2,h3,h4⟩:=R.kept q hq
  exact⟨g.all _ _ h1,.inl h2,h3,h4⟩
end
def GA(ks:List Key)(k:Key):Bool:=ks.any fun k0=>decide (k0=k)
theorem hasK_iff{ks:List Key}{k:Key}:GA ks k=true↔k∈ks:=by
 unfold GA
 rw [List.any_eq_true]
 exact⟨fun⟨x,hx,e⟩=>by rw [← of_decide_eq_true e]; exact hx,fun h=>⟨k,h,decide_eq_true rfl⟩⟩
def CU(ks:List Key)(k:Key):List Key:=if GA ks k=true then ks else ks++[k]
def Co{α:Type}(ks:List Key)(ds:List α)(k:Key)(d:α):List α:=if GA ks k=true then List.zipWith (fun k0 d0=>if k0=k then d else d0) ks ds else ds++[d]
theorem Oh{ks:List Key}{vs:List V}(hl:ks.length=vs.length)(k:Key):((ks.zip vs).any fun kv=>decide (kv.1=k))=GA ks k:=by
 rw [Bool.eq_iff_iff,List.any_eq_true,hasK_iff]
 constructor
 ·rintro ⟨⟨a,b⟩,hm,e⟩
  have e:a=k:=of_decide_eq_true e
  rw [← e]
  exact(List.of_mem_zip hm).1
 ·intro h
  obtain⟨i,hi,e⟩:=List.mem_iff_getElem.mp h
  refine⟨(ks[i],vs[i]'(by omega)),?_,by rw [e]; exact decide_eq_true rfl⟩
  exact List.mem_iff_getElem.mpr ⟨i,by rw [List.length_zip]; omega,by rw [List.getElem_zip]⟩
theorem Mq{ks:List Key}{vs:List V}(hl:ks.length=vs.length)(k:Key)(v:V):putK (ks.zip vs) k v=(CU ks k).zip (Co ks vs k v):=by
 unfold putK CU Co
 rw [Oh hl]
 by_cases h:GA ks k=true
 ·rw [if_pos h,if_pos h,if_pos h]
  have go:∀(ks:List Key) (vs:List V),((ks.zip vs).map fun kv=>if kv.1=k then (kv.1,v) else kv)=ks.zip (List.zipWith (fun k0 d0=>if k0=k then v else d0) ks vs):=by
   intro ks
   induction ks with
   | nil=>intro vs; rfl
   | cons a ks ih =>
    intro vs
    cases vs with
    | nil=>rfl
    | cons b vs =>
     show (if a=k then (a,v) else (a,b))::_=(a,if a=k then v else b)::_
     exact List.cons_eq_cons.mpr ⟨by split <;> rfl,ih vs⟩
  exact go ks vs
 ·rw [if_neg h,if_neg h,if_neg h,List.zip_append hl]
  rfl
theorem Ats.put{K:Frag}{M:Addr->Prop}{H:Hp}{k:Key}{d:D}{v:V}(hd:At K M H d v):∀{ks:List Key} {ds:List D} {vs:List V},Ats K M H ds vs->Ats K M H (List.zipWith (fun k0 d0=>if k0=k then d else d0) ks ds) (List.zipWith (fun k0 d0=>if k0=k then v else d0) ks vs)
 | [],ds,vs,h=>rfl
 | a::ks,[],vs,h=>by cases (show vs=[] from h); rfl
 | a::ks,e::ds,vs,h=>by
  obtain⟨u,r,rfl,h1,h2⟩:=h
  refine⟨_,_,rfl,?_,Ats.put hd h2⟩
  show At K M H (if a=k then d else e) (if a=k then v else u)
  by_cases e1:a=k
  ·rw [if_pos e1,if_pos e1]; exact hd
  ·rw [if_neg e1,if_neg e1]; exact h1
theorem Ats.putX{K:Frag}{M:Addr->Prop}{H:Hp}{k:Key}{d:D}{v:V}{ks:List Key}{ds:List D}{vs:List V}(hd:At K M H d v)(h:Ats K M H ds vs):Ats K M H (Co ks ds k d) (Co ks vs k v):=by
 unfold Co
 split
 ·exact Ats.put hd h
 ·exact h.append (Ats.one hd)
theorem Ki{α:Type}{ks:List Key}{ds:List α}{k:Key}{d:α}(hl:ks.length=ds.length):(CU ks k).length=(Co ks ds k d).length:=by
 unfold CU Co
 split
 ·rw [List.length_zipWith]; omega
 ·rw [List.length_append,List.length_append]; show ks.length+1=ds.length+1; omega
theorem G9:∀{ks:List Key} {ds:List D} {k:Key},k∉ks->BJ ks ds k=none
 | [],ds,k,_=>by unfold BJ; rfl
 | a::ks,[],k,_=>rfl
 | a::ks,d::ds,k,h=>by
  unfold BJ
  rw [if_neg (fun e=>h (by rw [e]; exact List.mem_cons_self))]
  exact G9 fun z=>h (List.mem_cons_of_mem _ z)
theorem Es:∀{ks:List Key} {ds:List D} {k:Key},ks.length=ds.length->k∈ks->∃z,BJ ks ds k=some z
 | [],ds,k,_,h=>by cases h
 | a::ks,[],k,h,_=>by cases h
 | a::ks,d::ds,k,hl,h=>by
  unfold BJ
  by_cases e:a=k
  ·exact⟨d,if_pos e⟩
  ·rw [if_neg e]
   exact Es (by simpa using hl) ((List.mem_cons.mp h).resolve_left fun z=>e z.symm)
theorem MT{ks:List Key}{ds:List D}{k:Key}{d:D}(hl:ks.length=ds.length)(j:Key):BJ (CU ks k) (Co ks ds k d) j=if j=k then some d else BJ ks ds j:=by
 unfold CU Co
 by_cases h':GA ks k=true
 ·have h:=hasK_iff.mp h'
  rw [if_pos h',if_pos h']
  have go:∀(ks:List Key) (ds:List D),ks.length=ds.length->(j=k->k∈ks)->BJ ks (List.zipWith (fun k0 d0=>if k0=k then d else d0) ks ds) j=if j=k then some d else BJ ks ds j:=by
   intro ks
   induction ks with
   | nil =>
    intro ds _ hm
    by_cases e:j=k
    ·exact absurd (hm e) List.not_mem_nil
    ·rw [if_neg e]; cases ds <;> rfl
   | cons a ks ih =>
    intro ds hl hm
    cases ds with
    | nil=>cases hl
    | cons e ds =>
     show (if a=j then some (if a=k then d else e) else BJ ks _ j)=if j=k then some d else if a=j then some e else BJ ks ds j
     by_cases e1:a=j
     ·rw [if_pos e1,if_pos e1]
      by_cases e2:j=k
      ·rw [if_pos e2,if_pos (e1.trans e2)]
      ·rw [if_neg e2,if_neg (fun z=>e2 (e1.symm.trans z))]
     ·rw [if_neg e1,if_neg e1]
      refine ih ds (by simpa using hl) fun z=>(List.mem_cons.mp (hm z)).resolve_left fun w=>e1 (w.symm.trans z.symm)
  exact go ks ds hl fun _=>h
 ·have h:k∉ks:=fun z=>h' (hasK_iff.mpr z)
  rw [if_neg h',if_neg h']
  have go:∀(ks:List Key) (ds:List D),ks.length=ds.length->k∉ks->BJ (ks++[k]) (ds++[d]) j=if j=k then some d else BJ ks ds j:=by
   intro ks
   induction ks with
   | nil =>
    intro ds hl _
    cases ds with
    | nil =>
     show (if k=j then some d else none)=if j=k then some d else none
     by_cases e:j=k
     ·rw [if_pos e,if_pos e.symm]
     ·rw [if_neg e,if_neg (fun z=>e z.symm)]
    | cons e ds=>cases hl
   | cons a ks ih =>
    intro ds hl hm
    cases ds with
    | nil=>cases hl
    | cons e ds =>
     show (if a=j then some e else BJ (ks++[k]) (ds++[d]) j)=if j=k then some d else if a=j then some e else BJ ks ds j
     rw [ih ds (by simpa using hl) fun z=>hm (List.mem_cons_of_mem _ z)]
     by_cases e1:a=j
     ·rw [if_pos e1,if_pos e1,if_neg (fun z=>hm (by rw [← z,← e1]; exact List.mem_cons_self))]
     ·rw [if_neg e1,if_neg e1]
  exact go ks ds hl h
section
variable {X:Cx}{a b e:Expr}{κ κa κb:Kd}{wa wb:DW}{pos pos':Pos}
def Jl(wk wv:DW):DW:=fun n ρ P=>wk n ρ fun k n1=>wv n1 ρ fun d n2=>∃key,keyOf k=some key/\P (.dic [key] [d]) n2
theorem Jb(ha:DE X a κa wa)(hb:DE X b κb wb)(hk:κb≠.tp:=by intro z; cases z):DE X (.Dict [some a] [b] pos) .fr (Jl wa wb):=by
 obtain⟨t,h1,h2⟩:=ha
 obtain⟨u,g1,g2⟩:=hb
 refine⟨_,OC (Mv h1 g1 OA) rfl rfl (List.cons_ne_nil _ _) (by show 1<=15; decide),fun C M H n ρ σ P Q R w q=>fun p hp=>?_⟩
 have R1:=R.hold (o:=.dK []) hp
 have np:¬C.U p:=fun z=>by
  obtain⟨o,w⟩:=R.dom p (R.vM p (R.uV p z))
  rw [hp] at w; cases w
 refine h2 C _ _ n ρ σ _ _ R1 w fun x H2 k n1 e1 f1 r1 p1=>?_
 have R2:=R1.step e1 f1
 refine g2 C _ _ n1 ρ σ _ _ R2 p1 fun y H3 d n2 e2 f2 r2 p2=>?_
 obtain⟨key,hkey,p2⟩:=p2
 have R3:=R2.step e2 f2
 have hat:At X.K (fun b=>M b\/b=p) H3 d y:=r2.shOf R2.dom hk
 have hp3:H3 p=some (.dK []):=e2.keep (e1.keep AX np) np
 have hx:x=kV key:=Cs hkey (r1.tpOf R1.dom R1.vM)
 refine⟨hp3,[(key,y)],by rw [hx]; rfl,by show 1<=15; decide,?_⟩
 show Q (.ref p) (A_ H3 p (.dK [(key,y)]))
 refine q _ _ (.dic [key] [d]) n2 (fun b o eb=>?_) ?_ ⟨p,rfl,hp,[y],AX,rfl,?_⟩ p2
 ·have nb:b≠p:=A6 eb hp
  obtain⟨o1,z1,k1⟩:=e1 b o (by rw [AO nb]; exact eb)
  obtain⟨o2,z2,k2⟩:=e2 b o1 z1
  exact⟨o2,by rw [AO nb]; exact z2,fun nu=>(k2 nu).trans (k1 nu)⟩
 ·refine f2.pres ⟨fun b o eb nb=>by rw [AO (fun z=>nb (.inr z))]; exact eb,fun b z=>.inl (.inl z)⟩ fun f o hf eb=>?_
  rw [AO (fun z=>np (by rw [← z]; exact R.fU f hf))]
  exact eb
 ·exact⟨y,[],rfl,hat.pres (FS (.inr rfl)),rfl⟩
def EN(i:Nat)(wk wv:DW):Ak:=fun D2 n ρ=>∃ks ds,ρ[i]?=some (.ow (.dic ks ds))/\wv n ρ fun d n1=>wk n1 ρ fun k n2=>∃key,keyOf k=some key/\ks.length<sizeLine/\D2.nx n2 (ρ.set i (.ow (.dic (CU ks key) (Co ks ds key d))))
theorem IM{i k:Nat}{x:Expr}(hr:Room k X.A)(hx:PE X x (Bu i))(ha:DE X a κa wa)(hb:DE X b κb wb)(hk:κb≠.tp:=by intro z; cases z)
  (hs:swapsWith b (some (.Subscript x a pos')) pos.line X.env=pure false:=by rfl):DS X κ (.Assign [.Subscript x a pos'] b pos) (EN i wa wb):=by
 obtain⟨t,h1,h2⟩:=ha
 obtain⟨u,g1,g2⟩:=hb
 refine⟨_,FR (HF hr) hx h1 g1 hs,fun C M H n ρ σ D2 E R L w=>?_⟩
 obtain⟨ks,ds,hd,w⟩:=w
 refine g2 C M H n ρ σ _ _ R w fun v H1 d n1 e1 f1 r1 p=>?_
 have R1:=R.step e1 f1
 obtain⟨ad,ea,m,nv,tt⟩:=R1.sl i _ hd
 refine⟨.ref ad,getD_some ea,?_⟩
 refine h2 C M H1 n1 ρ σ _ _ R1 p fun y H2 kk n2 e2 f2 r2 p=>?_
 obtain⟨key,hkey,hlt,p⟩:=p
 have R2:=R1.step e2 f2
 obtain⟨ad',ea',m',nv',tt'⟩:=R2.sl i _ hd
 rw [ea] at ea'
 cases ea'
 obtain⟨vs,hH,hl,hs'⟩:=tt'
 have hat:At X.K M H2 d v:=(r1.shOf R.dom hk).pres (R1.pres e2)
 have hvl:ks.length=vs.length:=by rw [hl,hs'.length]
 refine⟨ad,_,rfl,by rw [Cs hkey (r2.tpOf R1.dom R1.vM)]; exact DPut.k hH (by rw [List.length_zip]; omega),L.nx M _ n2 _ σ (R2.mut (e:=.dic (CU ks key) (Co ks ds key d)) hd ea ⟨Co ks vs key v,by rw [AX,Mq hvl],Ki hl,(hs'.putX hat).pres (FS m')⟩) p⟩
def Q1:D->Option Bool
 | .lst xs=>some (!xs.isEmpty)
 | .tup xs=>some (!xs.isEmpty)
 | .bl b=>some b
 | .non=>some false
 | _=>none
def Pc(wa:DW):Gc:=fun n ρ P=>wa n ρ fun d n1=>∃c,Q1 d=some c/\P c n1
theorem HV{K:Frag}{M:Addr->Prop}{H:Hp}{ds:List D}{vs:List V}(h:Ats K M H ds vs):vs.isEmpty=ds.isEmpty:=by
 have:=h.length
 cases vs <;> cases ds <;> first | rfl | cases this
theorem Pm{U M:Addr->Prop}{H:Hp}{K:Frag}{d:D}{x:V}{c:Bool}(h:AtT K U M H d x)(e:Q1 d=some c):Qm K x H c:=by
 cases d with
 | lst ds=>cases e; obtain⟨a,vs,rfl,_,hq,hs⟩:=h; exact .inl ⟨vs,.inl hq,by rw [HV hs]⟩
 | tup ds=>cases e; obtain⟨a,vs,rfl,hq,hs⟩:=h; exact .inr (.inl ⟨vs,.inl (.inl hq.2),by rw [HV hs]⟩)
 | bl b=>cases e; rw [h.bl]; exact rfl
 | non=>cases e; rw [show x=.non from h]; exact rfl
 | _=>cases e
theorem QX(h:DE X e κ wa)(he:∀whole,isTrue e X.env whole=(do let v ← whole; standAt e.pos; holding [v] (truthy v)):=by intro _; rfl):DT X e (Pc wa):=by
 obtain⟨t,h1,h2⟩:=h
 refine⟨_,Mr h1 he,fun C M H n ρ σ P Q R w q=>?_⟩
 refine h2 C M H n ρ σ _ _ R w fun v H' d n' e1 f1 r1 p=>?_
 obtain⟨c,hc,p⟩:=p
 exact⟨c,Pm (r1.tpOf R.dom R.vM) hc,q c H' n' e1 f1 p⟩
variable {apos cpos:Pos}{f:Expr}{κf:Kd}{wf:DW}
def Io(wa wk wx:DW):DW:=fun n ρ P=>wa n ρ fun d n1=>∃ks ds,HL d=some (ks,ds)/\wk n1 ρ fun k n2=>wx n2 ρ fun z n3=>∃key,keyOf k=some key/\P ((BJ ks ds key).getD z) n3
theorem Pg{U M:Addr->Prop}{H:Hp}{K:Frag}{d z:D}{x v:V}{ks:List Key}{ds:List D}{key:Key}(e:HL d=some (ks,ds))(h:AtT K U M H d x)(hz:At K M H z v):∃a o,x=.ref a/\DGet H a (kV key) o/\At K M H ((BJ ks ds key).getD z) (o.getD v):=by
 obtain⟨a,vs,rfl,ha,hs⟩:=GK e h
 refine⟨a,Cb (ks.zip vs) key,rfl,FT ha,?_⟩
 have h:=EQ (k:=key) (ks:=ks) hs
 cases c:BJ ks ds key with
 | none=>rw [c] at h; rw [show Cb (ks.zip vs) key=none from h]; exact hz
 | some y=>rw [c] at h; obtain⟨u,h1,h2⟩:=h; rw [h1]; exact h2
theorem QR{U M:Addr->Prop}{H:Hp}{K:Frag}{d:D}{x:V}{ks:List Key}{ds:List D}(e:HL d=some (ks,ds))(h:AtT K U M H d x):∃a,x=.ref a/\S5 H a:=by
 obtain⟨a,vs,rfl,ha,hs⟩:=GK e h
 exact⟨a,rfl,.inl ⟨_,ha⟩⟩
theorem LE{k:Nat}(hr:Room k X.A)(ha:DE X a κa wa)(hb:DE X b κb wb)(hf:DE X f κf wf)(hk:κf≠.tp:=by intro z; cases z)(m:M2 X a "get" apos b f cpos:=by exact⟨rfl,rfl,rfl,rfl⟩):DE X (.Call (.Attribute a "get" apos) [b,f] [] cpos) .sh (Io wa wb wf):=by
 obtain⟨t,h1,h2⟩:=ha
 obtain⟨u,g1,g2⟩:=hb
 obtain⟨u2,k1,k2⟩:=hf
 refine⟨_,M7 (HF hr) h1 g1 k1 m,fun C M H n ρ σ P Q R w q=>?_⟩
 refine h2 C M H n ρ σ _ _ R w fun v H1 d n1 e1 f1 r1 p=>?_
 obtain⟨ks,ds,hd,p⟩:=p
 have R1:=R.step e1 f1
 obtain⟨ad,rfl,hI⟩:=QR hd (r1.tpOf R.dom R.vM)
 refine⟨ad,rfl,hI,?_⟩
 refine g2 C M H1 n1 ρ σ _ _ R1 p fun y H2 kk n2 e2 f2 r2 p=>?_
 have R2:=R1.step e2 f2
 refine k2 C M H2 n2 ρ σ _ _ R2 p fun z H3 dz n3 e3 f3 r3 p=>?_
 obtain⟨key,hkey,p⟩:=p
 have R3:=R2.step e3 f3
 have hat:=((r1.tpOf R.dom R.vM).pres (R1.pres e2) e2 R.uV).pres (R2.pres e3) e3 R.uV
 have hy:=(r2.tpOf R1.dom R1.vM).pres (R2.pres e3) e3 R.uV
 obtain⟨ad',o,ex,g,hz⟩:=Pg (key:=key) hd hat (r3.shOf R2.dom hk)
 cases ex
 exact⟨o,by rw [Cs hkey hy]; exact g,q _ H3 _ n3 ((e1.trans e2).trans e3) f3 hz p⟩
end
end Dp
namespace L2
open PySem PySem.Spec PyProof.Rows
open AutoSeq1 (wpAny_loadPart')
section
variable {prog:Program}{w:World}{A:Around}{E:Value->Shared->Prop}{s:Shared}{I:Addr}{fp wr:List Addr}{G:Array GenState->Array GenState->Prop}{n:Nat}{P:Nat->Value->Prop}{St:Nat->Shared->Prop}
end
section
variable {X:Cx}{e:Expr}{te:TE}{p1 p2 q1 q2:Pos}
end
end L2
namespace Dp
open PySem PySem.Spec PyProof.Rows L2
section
variable {X:Cx}{a:Expr}{κa:Kd}{wa:DW}{p1 p2 q1 q2:Pos}
end
end Dp
namespace Nt
open PySem PySem.Spec PyProof.Rows L2 Dp
def Ed(N:Net)(x y:Str)(l:Int):Prop:=(y,l)∈EK N.ts x
inductive Wk (N:Net) (s:Str):Str->Int->Prop
 | nil:Wk N s s 0
 | snoc {x y:Str} {d l:Int}:Wk N s x d->Ed N x y l->Wk N s y (d+l)
def Least(N:Net)(s x:Str)(d:Int):Prop:=Wk N s x d/\∀d',Wk N s x d'->d<=d'
theorem Ed.pos{N:Net}(ok:N.Ok){x y:Str}{l:Int}(h:Ed N x y l):1<=l/\l<=1000000:=by
 obtain⟨_,h1,h2,_⟩:=H_ ok h
 exact⟨h1,h2⟩
theorem Ed.ins{N:Net}(ok:N.Ok){x y:Str}{l:Int}(h:Ed N x y l):y∈N.ps:=(H_ ok h).1
theorem Wk.pos{N:Net}(ok:N.Ok){s x:Str}{d:Int}(h:Wk N s x d):0<=d:=by
 induction h with
 | nil=>exact Int.le_refl _
 | snoc _ he ih=>have:=he.pos ok; omega
theorem Least.unique{N:Net}{s x:Str}{d d':Int}(h:Least N s x d)(h':Least N s x d'):d=d':=by
 have:=h.2 d' h'.1
 have:=h'.2 d h.1
 omega
theorem Eh{N:Net}{s:Str}{F:Str->Option Int}(h0:∃d,F s=some d/\d<=0)(hw:∀x d,F x=some d->Wk N s x d)(hc:∀x d y l,F x=some d->Ed N x y l->∃d',F y=some d'/\d'<=d+l) :
  (∀x d,F x=some d->Least N s x d)/\∀x d,Wk N s x d->F x≠none:=by
 have main:∀x d,Wk N s x d->∃d',F x=some d'/\d'<=d:=by
  intro x d h
  induction h with
  | nil=>exact h0
  | snoc _ he ih =>
   obtain⟨d1,e1,h1⟩:=ih
   obtain⟨d2,e2,h2⟩:=hc _ _ _ _ e1 he
   exact⟨d2,e2,by omega⟩
 refine⟨fun x d e=>⟨hw x d e,fun d' h=>?_⟩,fun x d h e=>?_⟩
 ·obtain⟨d1,e1,h1⟩:=main x d' h
  rw [e] at e1
  cases e1
  exact h1
 ·obtain⟨d1,e1,_⟩:=main x d h
  rw [e] at e1
  cases e1
theorem IK{N:Net}{t:Ig}(ht:t∈N.ts):Ed N t.a t.b t.len/\Ed N t.b t.a t.len:=by
 constructor
 ·exact List.mem_flatMap.mpr ⟨t,ht,List.mem_append_left _ (by rw [if_pos rfl]; exact List.mem_singleton.mpr rfl)⟩
 ·exact List.mem_flatMap.mpr ⟨t,ht,List.mem_append_right _ (by rw [if_pos rfl]; exact List.mem_singleton.mpr rfl)⟩
theorem Ed.tie{N:Net}(ok:N.Ok){x y:Str}{l:Int}(h:Ed N x y l):∃t∈N.ts,t.len=l/\((t.a=x/\t.b=y)\/(t.b=x/\t.a=y)):=by
 obtain⟨_,_,_,t,ht,e,h⟩:=H_ ok h
 exact⟨t,ht,e,h⟩
structure Dmap (ks:List Key) (ds:List D) (enc:α->D) (F:Str->Option α):Prop where
 len:ks.length=ds.length
 at_:∀x:Str,BJ ks ds (.inr x)=(F x).map enc
 dom:∀k∈ks,∃x:Str,k=.inr x
 nd:ks.Nodup
theorem Dmap.mem{α:Type}{ks:List Key}{ds:List D}{enc:α->D}{F:Str->Option α}(h:Dmap ks ds enc F)(x:Str):(.inr x∈ks)↔F x≠none:=by
 constructor
 ·intro hm e
  obtain⟨z,hz⟩:=Es h.len hm
  rw [h.at_,e] at hz
  cases hz
 ·intro hn
  by_cases hm:(Sum.inr x:Key)∈ks
  ·exact hm
  ·have:=G9 (ds:=ds) hm
   rw [h.at_] at this
   cases e:F x with
   | none=>exact absurd e hn
   | some a=>rw [e] at this; cases this
theorem Dmap.one{α:Type}{enc:α->D}{s:Str}{a:α}:Dmap [.inr s] [enc a] enc (fun x=>if x=s then some a else none):=by
 refine⟨rfl,fun x=>?_,fun k hk=>⟨s,List.mem_singleton.mp hk⟩,List.nodup_cons.mpr ⟨List.not_mem_nil,List.nodup_nil⟩⟩
 show (if (Sum.inr s:Key)=.inr x then some (enc a) else none)=(if x=s then some a else none).map enc
 by_cases e:x=s
 ·rw [if_pos e,if_pos (by rw [e])]; rfl
 ·rw [if_neg e,if_neg (fun z=>e (Sum.inr.inj z).symm)]; rfl
def Eu{α:Type}(F:Str->Option α)(x:Str)(a:α):Str->Option α:=fun y=>if y=x then some a else F y
theorem BP{α:Type}{F:Str->Option α}{x:Str}{a:α}:Eu F x a x=some a:=if_pos rfl
theorem BM{α:Type}{F:Str->Option α}{x y:Str}{a:α}(h:y≠x):Eu F x a y=F y:=if_neg h
theorem Dmap.put{α:Type}{ks:List Key}{ds:List D}{enc:α->D}{F:Str->Option α}(h:Dmap ks ds enc F)(x:Str)(a:α):Dmap (CU ks (.inr x)) (Co ks ds (.inr x) (enc a)) enc (Eu F x a):=by
 refine⟨Ki h.len,fun y=>?_,fun k hk=>?_,?_⟩
 ·rw [MT h.len]
  unfold Eu
  by_cases e:y=x
  ·rw [if_pos e,if_pos (by rw [e])]; rfl
  ·rw [if_neg e,if_neg (fun z=>e (Sum.inr.inj z)),h.at_]
 ·unfold CU at hk
  split at hk
  ·exact h.dom k hk
  ·rcases List.mem_append.mp hk with hk | hk
   ·exact h.dom k hk
   ·exact⟨x,List.mem_singleton.mp hk⟩
 ·unfold CU
  split
  ·exact h.nd
  ·rename_i hn
   rw [List.nodup_append]
   refine⟨h.nd,List.nodup_cons.mpr ⟨List.not_mem_nil,List.nodup_nil⟩,fun a ha b hb e=>hn (hasK_iff.mpr ?_)⟩
   rw [← List.mem_singleton.mp hb,← e]
   exact ha
theorem Dmap.le{α:Type}{ks:List Key}{ds:List D}{enc:α->D}{F:Str->Option α}(h:Dmap ks ds enc F){ps:List Str}(hp:∀x,F x≠none->x∈ps):ks.length<=ps.length:=by
 have:∀(ks:List Key) (ps:List Str),ks.Nodup->(∀k∈ks,∃x:Str,k=.inr x/\x∈ps)->ks.length<=ps.length:=by
  intro ks
  induction ks with
  | nil=>intro ps _ _; exact Nat.zero_le _
  | cons k ks ih =>
   intro ps hn hm
   obtain⟨x,rfl,hx⟩:=hm k List.mem_cons_self
   have hn:=List.nodup_cons.mp hn
   have h1:=ih (ps.erase x) hn.2 fun j hj=>by
    obtain⟨y,rfl,hy⟩:=hm j (List.mem_cons_of_mem _ hj)
    refine⟨y,rfl,(List.mem_erase_of_ne fun e=>?_).mpr hy⟩
    rw [e] at hj
    exact hn.1 hj
   rw [List.length_erase_of_mem hx] at h1
   have:=List.length_pos_of_mem hx
   rw [List.length_cons]
   omega
 refine this ks ps h.nd fun k hk=>?_
 obtain⟨x,rfl⟩:=h.dom k hk
 exact⟨x,rfl,hp x ((h.mem x).mp hk)⟩
abbrev Ij:=Str->Option (Int×Option Str)
structure Dj (N:Net) (s:Str) (F:Ij) (Wt:List Str):Prop where
 start:F s=some (0,none)
 ins:∀x,F x≠none->x∈N.ps
 wk:∀x d p,F x=some (d,p)->Wk N s x d
 prev:∀x d p,F x=some (d,p)->(p=none/\x=s)\/∃y dy q l,p=some y/\F y=some (dy,q)/\y∉Wt/\Ed N y x l/\d=dy+l
 wfound:∀x∈Wt,F x≠none
 nd:Wt.Nodup
 done:∀x d p y l,F x=some (d,p)->x∉Wt->Ed N x y l->∃dy q,F y=some (dy,q)/\dy<=d+l
 near:∀x d p y dy q,F x=some (d,p)->x∉Wt->F y=some (dy,q)->y∈Wt->d<=dy
theorem Dj.init{N:Net}{s:Str}(hs:s∈N.ps):Dj N s (fun x=>if x=s then some (0,none) else none) [s]:=by
 have iff:∀x d p,(if x=s then some ((0:Int),(none:Option Str)) else none)=some (d,p)->x=s/\d=0/\p=none:=fun x d p e=>by
  by_cases h:x=s
  ·rw [if_pos h] at e; cases e; exact⟨h,rfl,rfl⟩
  ·rw [if_neg h] at e; cases e
 refine⟨if_pos rfl,fun x e=>?_,fun x d p e=>?_,fun x d p e=>?_,fun x hx=>?_,List.nodup_cons.mpr ⟨List.not_mem_nil,List.nodup_nil⟩,fun x d p y l e hx=>?_,fun x d p y dy q e hx=>?_⟩
 ·by_cases h:x=s
  ·rw [h]; exact hs
  ·exact absurd (if_neg h) e
 ·obtain⟨rfl,rfl,rfl⟩:=iff x d p e
  exact .nil
 ·obtain⟨rfl,rfl,rfl⟩:=iff x d p e
  exact .inl ⟨rfl,rfl⟩
 ·rw [List.mem_singleton.mp hx,if_pos rfl]
  intro z; cases z
 ·exact absurd (List.mem_singleton.mpr (iff x d p e).1) hx
 ·exact absurd (List.mem_singleton.mpr (iff x d p e).1) hx
structure Dm (N:Net) (s:Str) (F:Ij) (Wt:List Str) (v:Str) (dv:Int) (seen:List (Str×Int)):Prop where
 start:F s=some (0,none)
 ins:∀x,F x≠none->x∈N.ps
 wk:∀x d p,F x=some (d,p)->Wk N s x d
 prev:∀x d p,F x=some (d,p)->(p=none/\x=s)\/∃y dy q l,p=some y/\F y=some (dy,q)/\y∉Wt/\Ed N y x l/\d=dy+l
 wfound:∀x∈Wt,F x≠none
 nd:Wt.Nodup
 done:∀x d p y l,F x=some (d,p)->x∉Wt->x≠v->Ed N x y l->∃dy q,F y=some (dy,q)/\dy<=d+l
 near:∀x d p y dy q,F x=some (d,p)->x∉Wt->F y=some (dy,q)->y∈Wt->d<=dy
 here:∃p,F v=some (dv,p)
 out:v∉Wt
 least:∀x d p,F x=some (d,p)->x∉Wt->d<=dv
 gone:∀y l,(y,l)∈seen->∃dy q,F y=some (dy,q)/\dy<=dv+l
theorem Dj.take{N:Net}{s:Str}{F:Ij}{Wt:List Str}(h:Dj N s F Wt){v:Str}{dv:Int}{p:Option Str}(hv:v∈Wt)(e:F v=some (dv,p))(hmin:∀y∈Wt,∀dy q,F y=some (dy,q)->dv<=dy):Dm N s F (Wt.erase v) v dv []:=by
 have sub:∀x,x∈Wt.erase v->x∈Wt:=fun x hx=>List.mem_of_mem_erase hx
 have out:v∉Wt.erase v:=fun z=>(h.nd.mem_erase_iff.mp z).1 rfl
 have back:∀x,x∉Wt.erase v->x=v\/x∉Wt:=fun x hx=>by
  by_cases e:x=v
  ·exact .inl e
  ·exact .inr fun z=>hx (h.nd.mem_erase_iff.mpr ⟨e,z⟩)
 refine⟨h.start,h.ins,h.wk,fun x d q ex=>?_,fun x hx=>h.wfound x (sub x hx),h.nd.erase v,fun x d q y l ex hx nx he=>?_,fun x d q y dy q2 ex hx ey hy=>?_,⟨p,e⟩,out,fun x d q ex hx=>?_,fun y l hy=>by cases hy⟩
 ·rcases h.prev x d q ex with z | ⟨y,dy,q2,l,e1,e2,e3,e4,e5⟩
  ·exact .inl z
  ·exact .inr ⟨y,dy,q2,l,e1,e2,fun z=>e3 (sub y z),e4,e5⟩
 ·rcases back x hx with z | z
  ·exact absurd z nx
  ·exact h.done x d q y l ex z he
 ·rcases back x hx with z | z
  ·subst z
   rw [e] at ex
   cases ex
   exact hmin y (sub y hy) dy q2 ey
  ·exact h.near x d q y dy q2 ex z ey (sub y hy)
 ·rcases back x hx with z | z
  ·subst z
   rw [e] at ex
   cases ex
   exact Int.le_refl _
  ·exact h.near x d q v dv p ex z e hv
theorem Dm.finish{N:Net}{s:Str}{F:Ij}{Wt:List Str}{v:Str}{dv:Int}{seen:List (Str×Int)}(h:Dm N s F Wt v dv seen)(hs:∀y l,Ed N v y l->(y,l)∈seen):Dj N s F Wt:=by
 refine⟨h.start,h.ins,h.wk,h.prev,h.wfound,h.nd,fun x d p y l e hx he=>?_,h.near⟩
 by_cases z:x=v
 ·subst z
  obtain⟨p',e'⟩:=h.here
  rw [e'] at e
  cases e
  exact h.gone y l (hs y l he)
 ·exact h.done x d p y l e hx z he
theorem Dm.find{N:Net}(ok:N.Ok){s:Str}{F:Ij}{Wt:List Str}{v:Str}{dv:Int}{seen:List (Str×Int)}(h:Dm N s F Wt v dv seen){y:Str}{l:Int}(he:Ed N v y l)(hy:F y=none):Dm N s (Eu F y (dv+l,some v)) (Wt++[y]) v dv (seen++[(y,l)]):=by
 have hpos:=(he.pos ok).1
 obtain⟨pv,ev⟩:=h.here
 have ne:∀x d p,F x=some (d,p)->x≠y:=fun x d p e z=>by rw [z,hy] at e; cases e
 have keep:∀x d p,F x=some (d,p)->Eu F y (dv+l,some v) x=some (d,p):=fun x d p e=>by rw [BM (ne x d p e)]; exact e
 have yW:y∉Wt:=fun z=>h.wfound y z hy
 have cases_:∀x d p,Eu F y (dv+l,some v) x=some (d,p)->(x=y/\d=dv+l/\p=some v)\/(x≠y/\F x=some (d,p)):=fun x d p e=>by
  by_cases z:x=y
  ·rw [z,BP] at e; cases e; exact .inl ⟨z,rfl,rfl⟩
  ·rw [BM z] at e; exact .inr ⟨z,e⟩
 have inW:∀x,x∉Wt++[y]->x∉Wt/\x≠y:=fun x hx=>⟨fun z=>hx (List.mem_append_left _ z),fun z=>hx (List.mem_append_right _ (by rw [z]; exact List.mem_singleton.mpr rfl))⟩
 have vW:v∉Wt++[y]:=fun z=>by
  rcases List.mem_append.mp z with z | z
  ·exact h.out z
  ·exact ne v dv pv ev (List.mem_singleton.mp z)
 refine⟨keep _ _ _ h.start,fun x hx=>?_,fun x d p e=>?_,fun x d p e=>?_,fun x hx=>?_,?_,fun x d p z l2 e hx nx he2=>?_,fun x d p z dz q e hx ez hz=>?_,⟨pv,keep _ _ _ ev⟩,vW,fun x d p e hx=>?_,fun z l2 hz=>?_⟩
 ·by_cases z:x=y
  ·rw [z]; exact he.ins ok
  ·rw [BM z] at hx; exact h.ins x hx
 ·rcases cases_ x d p e with ⟨rfl,rfl,_⟩ | ⟨_,e⟩
  ·exact .snoc (h.wk v dv pv ev) he
  ·exact h.wk x d p e
 ·rcases cases_ x d p e with ⟨rfl,rfl,rfl⟩ | ⟨_,e⟩
  ·exact .inr ⟨v,dv,pv,l,rfl,keep _ _ _ ev,vW,he,rfl⟩
  ·rcases h.prev x d p e with z | ⟨u,du,q,l2,e1,e2,e3,e4,e5⟩
   ·exact .inl z
   ·refine .inr ⟨u,du,q,l2,e1,keep _ _ _ e2,fun z=>?_,e4,e5⟩
    rcases List.mem_append.mp z with z | z
    ·exact e3 z
    ·exact ne u du q e2 (List.mem_singleton.mp z)
 ·rcases List.mem_append.mp hx with hx | hx
  ·have:=h.wfound x hx
   cases e:F x with
   | none=>exact absurd e this
   | some a=>rw [keep x a.1 a.2 e]; intro z; cases z
  ·rw [List.mem_singleton.mp hx,BP]; intro z; cases z
 ·rw [List.nodup_append]
  exact⟨h.nd,List.nodup_cons.mpr ⟨List.not_mem_nil,List.nodup_nil⟩,fun a ha b hb e=>yW (by rw [← List.mem_singleton.mp hb,← e]; exact ha)⟩
 ·obtain⟨w1,w2⟩:=inW x hx
  rcases cases_ x d p e with ⟨z,_⟩ | ⟨_,e⟩
  ·exact absurd z w2
  ·obtain⟨d3,q3,e3,h3⟩:=h.done x d p z l2 e w1 nx he2
   exact⟨d3,q3,keep _ _ _ e3,h3⟩
 ·obtain⟨w1,w2⟩:=inW x hx
  rcases cases_ x d p e with ⟨z,_⟩ | ⟨_,ex⟩
  ·exact absurd z w2
  ·rcases cases_ z dz q ez with ⟨_,e2,_⟩ | ⟨nz,ez⟩
   ·have:=h.least x d p ex w1
    omega
   ·rcases List.mem_append.mp hz with hz | hz
    ·exact h.near x d p z dz q ex w1 ez hz
    ·exact absurd (List.mem_singleton.mp hz) nz
 ·obtain⟨w1,w2⟩:=inW x hx
  rcases cases_ x d p e with ⟨z,_⟩ | ⟨_,e⟩
  ·exact absurd z w2
  ·exact h.least x d p e w1
 ·rcases List.mem_append.mp hz with hz | hz
  ·obtain⟨d3,q3,e3,h3⟩:=h.gone z l2 hz
   exact⟨d3,q3,keep _ _ _ e3,h3⟩
  ·cases List.mem_singleton.mp hz
   exact⟨_,_,BP,Int.le_refl _⟩
theorem Dm.nearer{N:Net}(ok:N.Ok){s:Str}{F:Ij}{Wt:List Str}{v:Str}{dv:Int}{seen:List (Str×Int)}(h:Dm N s F Wt v dv seen){y:Str}{l dy:Int}{qy:Option Str}(he:Ed N v y l)(hy:F y=some (dy,qy))(hlt:dv+l<dy):Dm N s (Eu F y (dv+l,some v)) Wt v dv (seen++[(y,l)]):=by
 have hpos:=(he.pos ok).1
 obtain⟨pv,ev⟩:=h.here
 have yW:y∈Wt:=by
  by_cases z:y∈Wt
  ·exact z
  ·have:=h.least y dy qy hy z
   omega
 have vy:v≠y:=fun z=>h.out (by rw [z]; exact yW)
 have keep:∀x,x∉Wt->Eu F y (dv+l,some v) x=F x:=fun x hx=>BM fun z=>hx (by rw [z]; exact yW)
 have cases_:∀x d p,Eu F y (dv+l,some v) x=some (d,p)->(x=y/\d=dv+l/\p=some v)\/(x≠y/\F x=some (d,p)):=fun x d p e=>by
  by_cases z:x=y
  ·rw [z,BP] at e; cases e; exact .inl ⟨z,rfl,rfl⟩
  ·rw [BM z] at e; exact .inr ⟨z,e⟩
 have less:∀x d p,F x=some (d,p)->∃d' q,Eu F y (dv+l,some v) x=some (d',q)/\d'<=d:=fun x d p e=>by
  by_cases z:x=y
  ·subst z
   rw [hy] at e
   cases e
   exact⟨_,_,BP,by omega⟩
  ·exact⟨d,p,by rw [BM z]; exact e,Int.le_refl _⟩
 have sy:s≠y:=fun z=>by
  have:=h.start
  rw [z,hy] at this
  cases this
  have:=(h.wk v dv pv ev).pos ok
  omega
 refine⟨by rw [BM sy]; exact h.start,fun x hx=>?_,fun x d p e=>?_,fun x d p e=>?_,fun x hx=>?_,h.nd,fun x d p z l2 e hx nx he2=>?_,fun x d p z dz q e hx ez hz=>?_,⟨pv,by rw [BM vy]; exact ev⟩,h.out,fun x d p e hx=>?_,fun z l2 hz=>?_⟩
 ·by_cases z:x=y
  ·rw [z]; exact he.ins ok
  ·rw [BM z] at hx; exact h.ins x hx
 ·rcases cases_ x d p e with ⟨rfl,rfl,_⟩ | ⟨_,e⟩
  ·exact .snoc (h.wk v dv pv ev) he
  ·exact h.wk x d p e
 ·rcases cases_ x d p e with ⟨rfl,rfl,rfl⟩ | ⟨_,e⟩
  ·exact .inr ⟨v,dv,pv,l,rfl,by rw [BM vy]; exact ev,h.out,he,rfl⟩
  ·rcases h.prev x d p e with z | ⟨u,du,q,l2,e1,e2,e3,e4,e5⟩
   ·exact .inl z
   ·exact .inr ⟨u,du,q,l2,e1,by rw [keep u e3]; exact e2,e3,e4,e5⟩
 ·by_cases z:x=y
  ·rw [z,BP]; intro w; cases w
  ·rw [BM z]; exact h.wfound x hx
 ·rw [keep x hx] at e
  obtain⟨d3,q3,e3,h3⟩:=h.done x d p z l2 e hx nx he2
  obtain⟨d4,q4,e4,h4⟩:=less z d3 q3 e3
  exact⟨d4,q4,e4,by omega⟩
 ·rw [keep x hx] at e
  rcases cases_ z dz q ez with ⟨rfl,rfl,_⟩ | ⟨nz,ez⟩
  ·have:=h.least x d p e hx
   omega
  ·exact h.near x d p z dz q e hx ez hz
 ·rw [keep x hx] at e
  exact h.least x d p e hx
 ·rcases List.mem_append.mp hz with hz | hz
  ·obtain⟨d3,q3,e3,h3⟩:=h.gone z l2 hz
   obtain⟨d4,q4,e4,h4⟩:=less z d3 q3 e3
   exact⟨d4,q4,e4,by omega⟩
  ·cases List.mem_singleton.mp hz
   exact⟨_,_,BP,Int.le_refl _⟩
theorem Dm.skip{N:Net}{s:Str}{F:Ij}{Wt:List Str}{v:Str}{dv:Int}{seen:List (Str×Int)}(h:Dm N s F Wt v dv seen){y:Str}{l dy:Int}{qy:Option Str}(hy:F y=some (dy,qy))(hle:dy<=dv+l):Dm N s F Wt v dv (seen++[(y,l)]):=by
 refine⟨h.start,h.ins,h.wk,h.prev,h.wfound,h.nd,h.done,h.near,h.here,h.out,h.least,fun z l2 hz=>?_⟩
 rcases List.mem_append.mp hz with hz | hz
 ·exact h.gone z l2 hz
 ·cases List.mem_singleton.mp hz
  exact⟨_,_,hy,hle⟩
structure Told (N:Net) (s:Str) (F:Ij):Prop where
 start:F s=some (0,none)
 ins:∀x,F x≠none->x∈N.ps
 least:∀x d p,F x=some (d,p)->Least N s x d
 all:∀x d,Wk N s x d->F x≠none
 prev:∀x d p,F x=some (d,p)->(p=none/\x=s)\/∃y dy q l,p=some y/\F y=some (dy,q)/\Ed N y x l/\d=dy+l
theorem Dj.told{N:Net}{s:Str}{F:Ij}(h:Dj N s F []):Told N s F:=by
 have cl:=Eh (N:=N) (s:=s) (F:=fun x=>(F x).map (·.1)) ⟨0,by rw [h.start]; rfl,Int.le_refl _⟩ (fun x d e=>by
  obtain⟨⟨d',p⟩,e1,e2⟩:=Option.map_eq_some_iff.mp e
  cases e2
  exact h.wk x _ p e1) (fun x d y l e he=>by
  obtain⟨⟨d',p⟩,e1,e2⟩:=Option.map_eq_some_iff.mp e
  cases e2
  obtain⟨dy,q,e3,h3⟩:=h.done x _ p y l e1 List.not_mem_nil he
  exact⟨dy,by rw [e3]; rfl,h3⟩)
 refine⟨h.start,h.ins,fun x d p e=>cl.1 x d (by rw [e]; rfl),fun x d hw e=>cl.2 x d hw (by rw [e]; rfl),fun x d p e=>?_⟩
 rcases h.prev x d p e with z | ⟨y,dy,q,l,e1,e2,_,e4,e5⟩
 ·exact .inl z
 ·exact .inr ⟨y,dy,q,l,e1,e2,e4,e5⟩
abbrev Kn:=Str->Option Int
structure Bf (N:Net) (s:Str) (c:Nat) (K:Kn):Prop where
 start:∃d,K s=some d/\d<=0
 ins:∀x,K x≠none->x∈N.ps
 wk:∀x d,K x=some d->Wk N s x d
 top:∀x d,K x=some d->d<=1000000*(c:Int)
def big:Nat:=27000001
def wt(K:Kn)(x:Str):Nat:=match K x with
 | some d=>d.toNat
 | none=>big
def MO(ps:List Str)(K:Kn):Nat:=(ps.map (wt K)).sum
theorem Mb{f g:Str->Nat}:∀{ps:List Str},(∀x∈ps,f x<=g x)->(ps.map f).sum<=(ps.map g).sum
 | [],_=>Nat.le_refl _
 | x::ps,h=>by
  have h1:=h x List.mem_cons_self
  have h2:=Mb fun y hy=>h y (List.mem_cons_of_mem _ hy)
  rw [List.map_cons,List.map_cons,List.sum_cons,List.sum_cons]
  omega
theorem Ma{f g:Str->Nat}:∀{ps:List Str},(∀x∈ps,f x<=g x)->(∃x∈ps,f x<g x)->(ps.map f).sum<(ps.map g).sum
 | [],_,⟨x,hx,_⟩=>by cases hx
 | x::ps,h,⟨y,hy,hl⟩=>by
  have h1:=h x List.mem_cons_self
  rw [List.map_cons,List.map_cons,List.sum_cons,List.sum_cons]
  rcases List.mem_cons.mp hy with rfl | hy
  ·have h2:=Mb fun y hy=>h y (List.mem_cons_of_mem _ hy)
   omega
  ·have h2:=Ma (fun y hy=>h y (List.mem_cons_of_mem _ hy)) ⟨y,hy,hl⟩
   omega
theorem Bf.put {N : Net} (ok : N.Ok) {s : Str} {c c' : Nat} {K : Kn} (h : Bf N s c K) (hc : c' ≤ 26) (hcc : c ≤ c') {x y : Str} {d l : Int} (hx : K x = some d) (he : Ed N x y l) (hn : K y = none → c' = c + 1) (hl : ∀ d', K y = some d' → d + l < d') : Bf N s c' (Eu K y (d + l)) ∧ MO N.ps (Eu K y (d + l)) < MO N.ps K := by
  have hp := he.pos ok
  have hd := (h.wk x d hx).pos ok
  have hw : Wk N s y (d + l) := .snoc (h.wk x d hx) he
  have td := h.top x d hx
  have ht : d + l ≤ 1000000 * (c' : Int) := by
    cases e : K y with
    | none => rw [hn e]; have : ((c + 1 : Nat) : Int) = (c : Int) + 1 := by omega
              rw [this, Int.mul_add]; omega
    | some d' =>
      have h1 := hl d' e
      have h2 := h.top y d' e
      have : (1000000 : Int) * (c : Int) ≤ 1000000 * (c' : Int) := Int.mul_le_mul_of_nonneg_left (by omega) (by omega)
      omega
  refine ⟨⟨?_, fun z hz => ?_, fun z dz e => ?_, fun z dz e => ?_⟩, Ma (fun z _ => ?_) ⟨y, he.ins ok, ?_⟩⟩
  · obtain ⟨d0, e0, h0⟩ := h.start
    by_cases z : s = y
    · have := hl d0 (by rw [← z]; exact e0)
      omega
    · exact ⟨d0, by rw [BM z]; exact e0, h0⟩
  · by_cases e : z = y
    · rw [e]; exact he.ins ok
    · rw [BM e] at hz; exact h.ins z hz
  · by_cases w : z = y
    · rw [w, BP] at e; cases e; rw [w]; exact hw
    · rw [BM w] at e; exact h.wk z dz e
  · by_cases w : z = y
    · rw [w, BP] at e; cases e; exact ht
    · rw [BM w] at e
      have h2 := h.top z dz e
      have : (1000000 : Int) * (c : Int) ≤ 1000000 * (c' : Int) := Int.mul_le_mul_of_nonneg_left (by omega) (by omega)
      omega
  · unfold wt
    by_cases w : z = y
    · rw [w, BP]
      cases e : K y with
      | none => show (d + l).toNat ≤ big; unfold big; omega
      | some d' => show (d + l).toNat ≤ d'.toNat; have := hl d' e; omega
    · rw [BM w]
      exact Nat.le_refl _
  · unfold wt
    rw [BP]
    cases e : K y with
    | none => show (d + l).toNat < big; unfold big; omega
    | some d' => show (d + l).toNat < d'.toNat; have := hl d' e; omega
theorem Bf.init{N:Net}{s:Str}(hs:s∈N.ps):Bf N s 1 (fun x=>if x=s then some 0 else none):=by
 have iff:∀x d,(if x=s then some (0:Int) else none)=some d->x=s/\d=0:=fun x d e=>by
  by_cases h:x=s
  ·rw [if_pos h] at e; cases e; exact⟨h,rfl⟩
  ·rw [if_neg h] at e; cases e
 refine⟨⟨0,if_pos rfl,Int.le_refl _⟩,fun x e=>?_,fun x d e=>?_,fun x d e=>?_⟩
 ·by_cases h:x=s
  ·rw [h]; exact hs
  ·exact absurd (if_neg h) e
 ·obtain⟨rfl,rfl⟩:=iff x d e
  exact .nil
 ·obtain⟨rfl,rfl⟩:=iff x d e
  decide
def FZ(K:Kn)(e:Str×Str×Int):Prop:=∀d,K e.1=some d->∃d',K e.2.1=some d'/\d'<=d+e.2.2
structure LTold (N:Net) (s:Str) (K:Kn):Prop where
 ins:∀x,K x≠none->x∈N.ps
 least:∀x d,K x=some d->Least N s x d
 all:∀x d,Wk N s x d->K x≠none
 top:∀x d,K x=some d->d<=30000000
theorem Bf.told{N:Net}(ok:N.Ok){s:Str}{c:Nat}{K:Kn}(h:Bf N s c K)(hc:c<=26)(ht:∀t∈N.ts,FZ K (t.a,t.b,t.len)/\FZ K (t.b,t.a,t.len)):LTold N s K:=by
 have cl:=Eh h.start h.wk (fun x d y l e he=>by
  obtain⟨t,hm,e1,h2⟩:=he.tie ok
  subst e1
  rcases h2 with ⟨rfl,rfl⟩ | ⟨rfl,rfl⟩
  ·exact(ht t hm).1 d e
  ·exact(ht t hm).2 d e)
 exact⟨h.ins,cl.1,cl.2,fun x d e=>by have:=h.top x d e; omega⟩
def walk(N:Net):List Str->Int->Prop
 | [],_=>False
 | [_],d=>d=0
 | x::y::r,d=>∃l e,Ed N x y l/\walk N (y::r) e/\d=l+e
def Far(N:Net)(a b:Str):Option Int->Prop
 | some d=>Least N a b d
 | none=>∀d,¬Wk N a b d
theorem Far.unique{N:Net}{a b:Str}{o o':Option Int}(h:Far N a b o)(h':Far N a b o'):o=o':=by
 cases o with
 | none =>
  cases o' with
  | none=>rfl
  | some d=>exact absurd (show Wk N a b d from h'.1) (h d)
 | some d =>
  cases o' with
  | none=>exact absurd (show Wk N a b d from h.1) (h' d)
  | some d'=>rw [Least.unique (show Least N a b d from h) h']
theorem Told.far{N:Net}{s:Str}{F:Ij}(h:Told N s F)(x:Str):Far N s x ((F x).map (·.1)):=by
 cases e:F x with
 | none=>exact fun d hw=>h.all x d hw e
 | some a=>exact h.least x a.1 a.2 e
theorem LTold.far{N:Net}{s:Str}{K:Kn}(h:LTold N s K)(x:Str):Far N s x (K x):=by
 cases e:K x with
 | none=>exact fun d hw=>h.all x d hw e
 | some d=>exact h.least x d e
def Sd:Option Str->D
 | some y=>.str y
 | none=>.non
def GH(p:Int×Option Str):D:=.tup [.int p.1,Sd p.2]
def okN(N:Net):Prop:=N.Ok/\N.ps.length<=25/\N.ts.length<=60
def Ji:W2:=fun ss n P=>∃(Wt:List Str) (ks:List Key) (ds:List D) (F:Ij),ss=[.br (.lst (Wt.map .str)),.br (.dic ks ds)]/\Dmap ks ds GH F/\(∀x∈Wt,F x≠none)/\Wt≠[]/\Wt.length<=100 /\
 ∀v∈Wt,(∀y∈Wt,∀dv pv dy py,F v=some (dv,pv)->F y=some (dy,py)->dv<=dy)->P (.str v) n
def Gb:W2:=fun ss n P=>∃(N:Net) (s:Str),ss=[.sh (enc N),.sh (.str s)]/\okN N/\s∈N.ps/\∀(ks:List Key) (ds:List D) (F:Ij),Dmap ks ds GH F->Told N s F->P (.dic ks ds) n
def El:Ak:=(Ba (AT CK (Cj PL (AD (CO [some 1,none] (Bi (A1 0)) (Ai 1) CZ (CF (AD (AT CK (AT Bw (A1 0) (AC 1)) (wC (D.int 0))) (AD (AC 1) AQ)))) AQ)) (wC (D.int 1))))
def Em:Ak:=(Aa (Az 2 (AY Ie (AF (AN (AC 0)) AZ)))
 (Aa (DV 3 (Jl (AC 1) (CF (AD (wC (D.int 0)) (AD (wC D.non) AQ)))))
 (Aa (DV 4 (C9 (AD (AC 1) AQ)))
 (Aa (HX (Pc (A1 4)) (Aa (Az 5 (AY Ji (AF (FX (A1 4)) (AF (FX (A1 3)) AZ))))
 (Aa (N0 4 "list" Rk (AD (AC 5) AQ))
 (Er (wItems (AT Bw (AC 2) (AC 5))) (G3 2 (A8 (Ai 6) (A8 (Ai 7) D6))) (Aa (Az 8 (AT Ae (AT CK (AT Bw (A1 3) (AC 5)) (wC (D.int 0))) (AC 7)))
 (B9 (Al (AT (JT true) (AC 6) (A1 3))) (Aa (N0 4 "list" JU (AD (AC 6) AQ))
 (EN 3 (AC 6) (CF (AD (AC 8) (AD (AC 5) AQ))))) (B9 (Al (AT GF (AC 8) (AT CK (AT Bw (A1 3) (AC 6)) (wC (D.int 0))))) (EN 3 (AC 6) (CF (AD (AC 8) (AD (AC 5) AQ)))) BO)))))))
 (Il 3)))))
def FH:Ak:=(Aa (Az 1 (AY DL (AF (Ap 0) (AF (AN (wC (D.int 24))) AZ))))
 (Ba (CF (AD (Cj B0 (AD (AC 1) AQ)) (AD (Cj B0 (AD (CO [some 1,some 0,none] (DM (AD (wC (D.int 23)) AQ)) (Ai 2) CZ (CF (AD (AT CK (AC 0) (AC 2)) (AD (AT CK (AC 0) (AT Ae (AC 2) (wC (D.int 1)))) (AD (AY Jj (AF (Ap 1) (AF (AN (wC (D.int 1))) AZ))) AQ))))) AQ)) AQ)))))
theorem Sw{i j:Int}{x y:Str}(h:Cr [.inl j,.inr y] [.inl i,.inr x]=false):i<=j:=by
 have h:(if (Sum.inl j:Key)=.inl i then (if (Sum.inr y:Key)=.inr x then false else decide (y.cps.toList<x.cps.toList)) else decide (j<i))=false:=h
 by_cases e:j=i
 ·omega
 ·rw [if_neg (fun z=>e (Sum.inl.inj z)),decide_eq_false_iff_not] at h
  omega
section
variable {ss:List Slot}{n:Nat}{Pd:D->Nat->Prop}
theorem Gm(h:Ji ss n Pd):El (EE Pd) n (ss++List.replicate 0 .no):=by
 obtain⟨Wt,ks,ds,F,rfl,M,hF,hne,hl,p⟩:=h
 unfold El
 refine⟨by show (Wt.map D.str).length<=10000000; rw [List.length_map]; omega,?_⟩
 have dist:∀x∈Wt,∃d q,F x=some (d,q):=fun x hx=>by
  cases e:F x with
  | none=>exact absurd e (hF x hx)
  | some a=>exact⟨a.1,a.2,rfl⟩
 refine BZ (fun d=>match d with | .str x=>.tup [.int ((F x).getD (0,none)).1,.str x] | d=>d) (fun ρ=>∃s,ρ=[.br (.dic ks ds),s]) _ _ _ _ ?_ ⟨_,rfl⟩ ?_
 ·rintro d hd ρ m nx ⟨s,rfl⟩ hnx
  obtain⟨x,hx,rfl⟩:=List.mem_map.mp hd
  obtain⟨dx,q,ex⟩:=dist x hx
  refine⟨ks,ds,_,GH (dx,q),rfl,rfl,by rw [M.at_,ex]; rfl,_,AV (j:=0) rfl,(by decide:2<=sizeLine),?_⟩
  have this:nx (.tup [.int ((F x).getD (0,none)).1,.str x]) m [.br (.dic ks ds),.sh (.str x)]:=hnx [.br (.dic ks ds),.sh (.str x)] ⟨_,rfl⟩
  rw [show ((F x).getD (0,none)).1=dx by rw [ex]; rfl] at this
  exact this
 rw [List.nil_append,List.map_map]
 refine⟨_,rfl,?_,⟨fun x hx=>?_,fun x hx y hy ka kb ea eb=>?_⟩,fun x hx hmin=>?_⟩
 ·rw [List.length_map]
  cases Wt with
  | nil=>exact absurd rfl hne
  | cons a r=>exact Nat.succ_pos _
 ·obtain⟨z,_,rfl⟩:=List.mem_map.mp hx
  exact⟨_,rfl,List.cons_ne_nil _ _⟩
 ·obtain⟨z,_,rfl⟩:=List.mem_map.mp hx
  obtain⟨u,_,rfl⟩:=List.mem_map.mp hy
  cases (show some [Sum.inl _,Sum.inr _]=some ka from ea)
  cases (show some [Sum.inl _,Sum.inr _]=some kb from eb)
  rfl
 ·obtain⟨v,hv,rfl⟩:=List.mem_map.mp hx
  refine⟨_,AV (j:=1) rfl,p v hv fun y hy dv pv dy py ev ey=>?_⟩
  have:=Sw (hmin _ (List.mem_map.mpr ⟨y,hy,rfl⟩) _ _ rfl rfl)
  rw [ev,ey] at this
  exact this
theorem A7(x:Str):keyOf (.str x)=some (.inr x):=rfl
theorem Lq{N:Net}(ok:N.Ok){xs:List Str}(h:∀x∈xs,x∈N.ps):DD (.lst (xs.map .str)):=by
 have it:∀d∈xs.map D.str,item d:=fun d hd=>by
  obtain⟨x,hx,rfl⟩:=List.mem_map.mp hd
  exact Du (ok.names x (h x hx))
 exact Lz it
theorem MP{N:Net}{Wt:List Str}(hn:Wt.Nodup)(h:∀x∈Wt,x∈N.ps):Wt.length<=N.ps.length:=by
 have:∀(xs ps:List Str),xs.Nodup->(∀x∈xs,x∈ps)->xs.length<=ps.length:=by
  intro xs
  induction xs with
  | nil=>intro ps _ _; exact Nat.zero_le _
  | cons x xs ih =>
   intro ps hn hm
   have hx:=hm x List.mem_cons_self
   have hn:=List.nodup_cons.mp hn
   have h1:=ih (ps.erase x) hn.2 fun j hj=>(List.mem_erase_of_ne fun e=>hn.1 (by rw [← e]; exact hj)).mpr (hm j (List.mem_cons_of_mem _ hj))
   rw [List.length_erase_of_mem hx] at h1
   have:=List.length_pos_of_mem hx
   rw [List.length_cons]
   omega
 exact this Wt N.ps hn h
theorem Fi(ks:List Key)(k:Key):(CU ks k).length=if GA ks k=true then ks.length else ks.length+1:=by
 unfold CU
 split
 ·rfl
 ·rw [List.length_append]; rfl
theorem Dmap.has{α:Type}{ks:List Key}{ds:List D}{enc:α->D}{F:Str->Option α}(h:Dmap ks ds enc F){x:Str}:(F x=none->GA ks (.inr x)=false)/\(F x≠none->GA ks (.inr x)=true):=by
 constructor
 ·intro e
  cases c:GA ks (.inr x) with
  | false=>rfl
  | true=>exact absurd e ((h.mem x).mp (hasK_iff.mp c))
 ·intro e
  exact hasK_iff.mpr ((h.mem x).mpr e)
theorem LX{N:Net}{x:Str}(hx:x∈N.ps):BJ (N.ps.map .inr) (N.ps.map (OJ N.ts)) (.inr x)=some (OJ N.ts x):=by
 have go:∀ps:List Str,x∈ps->BJ (ps.map .inr) (ps.map (OJ N.ts)) (.inr x)=some (OJ N.ts x):=by
  intro ps
  induction ps with
  | nil=>intro h; cases h
  | cons q ps ih =>
   intro h
   show (if (Sum.inr q:Key)=.inr x then some (OJ N.ts q) else BJ (ps.map .inr) (ps.map (OJ N.ts)) (.inr x))=_
   by_cases e:q=x
   ·rw [if_pos (by rw [e]),e]
   ·rw [if_neg (fun z=>e (Sum.inr.inj z))]
    exact ih ((List.mem_cons.mp h).resolve_left fun z=>e z.symm)
 exact go N.ps hx
theorem Nz(l:List (Str×Int)):LR ((l.map fun x=>(.inr x.1:Key)).map Qx) (l.map fun x=>.int x.2)=l.map SI:=by
 induction l with
 | nil=>rfl
 | cons p l ih =>
  show D.tup [.str p.1,.int p.2]::LR _ _=SI p::l.map SI
  rw [← ih]
  rfl
theorem Gn(h:Gb ss n Pd):Em (EF Pd) n (ss++List.replicate 7 .no):=by
 obtain⟨N,s,rfl,⟨ok,lp,lt⟩,hs,p⟩:=h
 have szl:=PySem.sizeLine_eq
 unfold Em
 refine⟨N,rfl,ok,by omega,by omega,?_⟩
 refine⟨(by decide:2<=sizeLine),_,A7 s,(by decide:1<=sizeLine),?_⟩
 refine G5 (fun m n' ρ=>n'=n/\∃(Wt:List Str) (ks:List Key) (ds:List D) (F:Ij) (s5 s6 s7 s8:Slot),ρ=[.sh (enc N),.sh (.str s),.sh (Et N),.ow (.dic ks ds),.ow (.lst (Wt.map .str)),s5,s6,s7,s8]/\Dmap ks ds GH F/\Dj N s F Wt/\m+ks.length=N.ps.length+Wt.length) (N.ps.length) ⟨rfl,[s],[.inr s],[GH (0,none)],_,_,_,_,_,rfl,Dmap.one,Dj.init hs,rfl⟩ ?_ ?_
 ·rintro m n' ρ N' ⟨rfl,Wt,ks,ds,F,s5,s6,s7,s8,rfl,M,J,hm⟩ hN
  cases Wt with
  | nil =>
   exact⟨false,rfl,_,rfl,p ks ds F M J.told⟩
  | cons w0 Wr =>
   refine⟨true,rfl,?_⟩
   have insW:∀x∈w0::Wr,x∈N.ps:=fun x hx=>J.ins x (J.wfound x hx)
   have wl:=MP J.nd insW
   refine⟨w0::Wr,ks,ds,F,rfl,M,J.wfound,List.cons_ne_nil _ _,by omega,fun v hv hmin=>?_⟩
   obtain⟨dv,pv,ev⟩:∃d q,F v=some (d,q):=by
    cases e:F v with
    | none=>exact absurd e (J.wfound v hv)
    | some a=>exact⟨a.1,a.2,rfl⟩
   have D0:=J.take hv ev fun y hy dy q ey=>hmin y hy dv pv dy q ev ey
   have hvp:=insW v hv
   have hidx:(w0::Wr).idxOf v<(w0::Wr).length:=List.idxOf_lt_length_of_mem hv
   have hget:(w0::Wr)[(w0::Wr).idxOf v]?=some v:=by rw [List.getElem?_eq_getElem hidx,List.getElem_idxOf]
   have ee:((w0::Wr).map D.str).eraseIdx ((w0::Wr).idxOf v)=((w0::Wr).erase v).map D.str:=by
    rw [List.erase_eq_eraseIdx_of_idxOf (rfl:(w0::Wr).idxOf v=_),HK]
   refine⟨_,rfl,rfl,_,_,(w0::Wr).idxOf v,rfl,rfl,Lq ok insW,JR (ok.names v hvp),⟨.str v,by rw [List.getElem?_map,hget]; rfl,by show (v==v)=true; exact beq_self_eq_true v⟩,fun k x hk hx=>?_,?_⟩
   ·rw [List.getElem?_map] at hx
    obtain⟨t,ht,rfl⟩:=Option.map_eq_some_iff.mp hx
    have hkl:k<(w0::Wr).length:=(List.getElem?_eq_some_iff.mp ht).1
    have hh:=List.not_of_lt_findIdx (p:=fun y=>y==v) (xs:=w0::Wr) hk
    have e2:(w0::Wr)[k]=t:=(List.getElem?_eq_some_iff.mp ht).2
    have h3:((w0::Wr)[k]==v)=false:=hh
    rw [e2] at h3
    exact h3
   rw [ee]
   refine⟨_,_,_,OJ N.ts v,rfl,A7 v,LX hvp,_,_,rfl,fun k hk=>?_,?_⟩
   ·obtain⟨q,hq,rfl⟩:=List.mem_map.mp hk
    have:=(ok.names _ (H_ ok hq).1).2.1
    show q.1.length<=sizeLine
    omega
   rw [Nz]
   have el:=List.length_erase_of_mem hv
   have inner:∀(rest seen:List (Str×Int)) (Wt:List Str) (ks:List Key) (ds:List D) (F:Ij) (s6 s7 s8:Slot),seen++rest=EK N.ts v->Dmap ks ds GH F->Dm N s F Wt v dv seen->m+ks.length=N.ps.length+Wt.length+1 ->
     Bl (G3 2 (A8 (Ai 6) (A8 (Ai 7) D6))) (Aa (Az 8 (AT Ae (AT CK (AT Bw (A1 3) (AC 5)) (wC (D.int 0))) (AC 7)))
 (B9 (Al (AT (JT true) (AC 6) (A1 3))) (Aa (N0 4 "list" JU (AD (AC 6) AQ))
 (EN 3 (AC 6) (CF (AD (AC 8) (AD (AC 5) AQ))))) (B9 (Al (AT GF (AC 8) (AT CK (AT Bw (A1 3) (AC 6)) (wC (D.int 0))))) (EN 3 (AC 6) (CF (AD (AC 8) (AD (AC 5) AQ)))) BO))) { EF Pd with nx:=N',ct:=N',bk:=Il 3 (EF Pd) } (rest.map SI) n' [.sh (enc N),.sh (.str s),.sh (Et N),.ow (.dic ks ds),.ow (.lst (Wt.map .str)),.sh (.str v),s6,s7,s8]:=by
    intro rest
    induction rest with
    | nil =>
     intro seen Wt ks ds F s6 s7 s8 e M D0 hm
     rw [List.append_nil] at e
     exact hN (m - 1) n' _ (by have:=M.le D0.ins; omega) ⟨rfl,Wt,ks,ds,F,_,_,_,_,rfl,M,D0.finish fun y l hy=>by rw [e]; exact hy,by have:=M.le D0.ins; omega⟩
    | cons q rest ih =>
     intro seen Wt ks ds F s6 s7 s8 e M D0 hm
     obtain⟨y,l⟩:=q
     have he:Ed N v y l:=by show (y,l)∈EK N.ts v; rw [← e]; exact List.mem_append_right _ List.mem_cons_self
     have e':(seen++[(y,l)])++rest=EK N.ts v:=by rw [List.append_assoc]; exact e
     obtain⟨pv,ev⟩:=D0.here
     have kl:=M.le D0.ins
     have hyp:=he.ins ok
     have insW:∀x∈Wt,x∈N.ps:=fun x hx=>D0.ins x (D0.wfound x hx)
     have wl:=MP D0.nd insW
     refine⟨rfl,rfl,?_⟩
     refine⟨ks,ds,_,GH (dv,pv),rfl,A7 v,by rw [M.at_,ev]; rfl,_,AV (j:=0) rfl,?_⟩
     refine⟨ks,ds,_,rfl,A7 y,?_⟩
     show if (!(BJ ks ds (.inr y)).isSome)=true then _ else _
     cases ey:F y with
     | none =>
      have hno:=(M.has (x:=y)).1 ey
      rw [M.at_,ey]
      refine Fz ⟨_,rfl,rfl,_,_,rfl,rfl,by rw [List.length_map]; omega,?_⟩
      refine⟨ks,ds,rfl,(by decide:2<=sizeLine),_,A7 y,by omega,?_⟩
      have:=ih (seen++[(y,l)]) (Wt++[y]) (CU ks (.inr y)) (Co ks ds (.inr y) (GH (dv+l,some v))) _ (.sh (.str y)) (.sh (.int l)) (.sh (.int (dv+l))) e' (M.put y (dv+l,some v)) (D0.find ok he ey) (by rw [Fi,if_neg (by rw [hno]; decide),List.length_append,List.length_singleton]; omega)
      rw [List.map_append] at this
      exact this
     | some a =>
      obtain⟨dy,qy⟩:=a
      have hyes:=(M.has (x:=y)).2 (by rw [ey]; intro z; cases z)
      rw [M.at_,ey]
      refine Gz ⟨ks,ds,_,GH (dy,qy),rfl,A7 y,by rw [M.at_,ey]; rfl,_,AV (j:=0) rfl,?_⟩
      show if decide (dv+l<dy)=true then _ else _
      by_cases c:dv+l<dy
      ·rw [decide_eq_true c]
       refine Fz ⟨ks,ds,rfl,(by decide:2<=sizeLine),_,A7 y,by omega,?_⟩
       exact ih (seen++[(y,l)]) Wt (CU ks (.inr y)) (Co ks ds (.inr y) (GH (dv+l,some v))) _ (.sh (.str y)) (.sh (.int l)) (.sh (.int (dv+l))) e' (M.put y (dv+l,some v)) (D0.nearer ok he ey c) (by rw [Fi,if_pos hyes]; omega)
      ·rw [decide_eq_false c]
       exact Gz (ih (seen++[(y,l)]) Wt ks ds F (.sh (.str y)) (.sh (.int l)) (.sh (.int (dv+l))) e' M (D0.skip ey (by omega)) hm)
   exact inner (EK N.ts v) [] ((w0::Wr).erase v) ks ds F _ _ _ rfl M D0 (by have:=List.length_pos_of_mem hv; omega)
 ·rintro n' ρ P Q hPQ h
  unfold Pc A1 at h ⊢
  split at h
  all_goals first
   | exact h.elim
   | (obtain⟨c,hc,h⟩:=h; exact⟨c,hc,hPQ _ _ h⟩)
end
structure TU (N:Net) (F:Ij) (b:Str) (db:Int) (acc:List Str) (pl:Option Str):Prop where
 st:(acc=[]/\pl=some b)\/∃z r dz,acc.reverse=z::r/\F z=some (dz,pl)/\walk N acc.reverse (db - dz)/\acc.reverse.getLast?=some b
 nd:acc.Nodup
 ins:∀x∈acc,x∈N.ps
 less:∀y dy q,pl=some y->F y=some (dy,q)->∀x∈acc,∃dx qx,F x=some (dx,qx)/\dy<dx
 fnd:∀y,pl=some y->F y≠none
section
variable {ss:List Slot}{n:Nat}{Pd:D->Nat->Prop}
end
section
variable {ss:List Slot}{n:Nat}{Pd:D->Nat->Prop}
end
theorem Md(lo:Int)(k:Nat):CB lo (k+1)=.int lo::CB (lo+1) k:=by
 unfold CB
 rw [List.range_succ_eq_map,List.map_cons,List.map_map]
 refine List.cons_eq_cons.mpr ⟨by show D.int (lo+0)=_; rw [Int.add_zero],List.map_congr_left fun i _=>?_⟩
 show D.int (lo+((i+1:Nat):Int))=D.int (lo+1+(i:Int))
 congr 1
 omega
section
variable {ss:List Slot}{n:Nat}{Pd:D->Nat->Prop}
end
theorem MZ{N:Net}(okn:okN N):fine 1000001 (enc N)/\Bt (enc N)<=48000/\CQ (enc N)<=3:=Pk (OO okn.1) (NI okn.1) (by rw [List.length_map]; have:=okn.2.1; omega) (by rw [List.length_map]; have:=okn.2.2; omega)
end Nt
namespace Dp
open PySem PySem.Spec PyProof.Rows L2
def Os(i:Nat)(b:BW)(body:Ak):Ak:=fun D2 n ρ=>∃d ds,ρ[i]?=some (.br d)/\Pr d=some ds/\Bl b body D2 ds n ρ
section
variable {X:Cx}{κ:Kd}{tg:Expr}{body:List Stmt}{b:BW}{wb:Ak}{pos p:Pos}{x:Str}{i:Nat}
theorem Rel.lessKp{K:Frag}{C:Fm}{q:Addr×HO}{M:Addr->Prop}{H:Hp}{n:Nat}{ρ:List Slot}{σ:L2.St}(R:Rel K { C with kp:=q::C.kp } M H n ρ σ):Rel K C M H n ρ σ :=
 ⟨R.len,R.sub,R.dom,R.ext,R.fU,R.uV,R.vM,R.feed,R.sl,R.pin,R.br0,R.new,R.two,fun p hp=>R.kept p (List.mem_cons_of_mem _ hp)⟩
theorem OX(hp:PassesOwn (model X.prog X.w) X.A X.env X.xe)(hc:X.calm=true)(h:PE X (.Name x p) (Bu i))(hg:DG X tg b)(hb:Nw X κ body wb)
  (hs:∀y,foldedSetIterable (.Name x p) X.env y=pure y:=by intro _; rfl):DS X κ (.For tg (.Name x p) body [] pos) (Os i b wb):=by
 obtain⟨g,g1,g2⟩:=hg
 obtain⟨tb,b1,b2⟩:=hb
 refine⟨_,Hq hp hc (Jy h) g1 b1 hs,fun C M H n ρ σ D2 E R L w=>?_⟩
 obtain⟨d,ds,hi,hd,w⟩:=w
 obtain⟨v,e1,hAt⟩:=R.sl i _ hi
 cases d with
 | tup ds' =>
  cases hd
  obtain⟨a,vs,rfl,hn,hat⟩:=hAt
  refine⟨.ref a,getD_some e1,.inr (.inl ⟨a,rfl,⟨vs,hn.sq⟩,?_⟩)⟩
  obtain⟨kp',ek⟩:∃kp',kp'=C.kp:=⟨_,rfl⟩
  have R1:Rel X.K { C with kp:=kp' } M H n ρ σ:=by rw [ek]; exact R
  have less:∀{M H n ρ σ},Rel X.K { C with kp:=kp' } M H n ρ σ->Rel X.K C M H n ρ σ:=fun R=>by rw [ek] at R; exact R
  have st:∀M' H' n' ρ' σ',Rel X.K { C with kp:=kp',pins:=(M,H)::C.pins } M' H' n' ρ' σ'->SqT X.K H' a vs:=fun M' H' n' ρ' σ' R'=>(hn.pres (R'.pin (M,H) List.mem_cons_self)).sq
  refine⟨fun i m σ' H'=>m=ds.length - i/\i<=ds.length/\∃M' n' ρ',Rel X.K { C with kp:=kp',pins:=(M,H)::C.pins } M' H' n' ρ' σ'/\Bl b wb D2 (ds.drop i) n' ρ',⟨ds.length,by simp,Nat.zero_le _,M,n,ρ,R1.pinned,w⟩,?_⟩
  rintro i m σ' H' ⟨rfl,hil,M',n',ρ',R',w'⟩
  have pr:Pres M H M' H':=R'.pin (M,H) List.mem_cons_self
  have hq:=st M' H' n' ρ' σ' R'
  by_cases hlt:i<ds.length
  ·have ed:ds.drop i=ds[i]::ds.drop (i+1):=List.drop_eq_getElem_cons hlt
   rw [ed] at w'
   obtain⟨v,ev,hv⟩:=(hat.pres pr).get (List.getElem?_eq_getElem hlt)
   refine .inr ⟨⟨vs,v,hq,ev⟩,fun σ2 H2=>∃M2 n2 ρ2,Rel X.K { C with kp:=kp',pins:=(M,H)::C.pins } M2 H2 n2 ρ2 σ2/\Bl b wb D2 (ds.drop (i+1)) n2 ρ2,fun σ2 H2 ⟨M2,n2,ρ2,R2',w2⟩=>⟨ds.length - (i+1),by omega,rfl,hlt,M2,n2,ρ2,R2',w2⟩,fun y H2 hy=>?_⟩
   obtain⟨e2,hy⟩:=hy
   subst e2
   have:some v=some y:=ev.symm.trans (hy vs hq)
   cases this
   refine g2 _ M' H2 n' ρ' σ' ds[i] v _ _ R' hv w' fun ρ3 σ3 R3 w3=>?_
   refine b2 _ M' H2 n' ρ3 σ3 { D2 with nx:=Bl b wb D2 (ds.drop (i+1)),ct:=Bl b wb D2 (ds.drop (i+1)),bk:=D2.nx } _ R3 ⟨fun M4 H4 n4 ρ4 σ4 R4 w4=>⟨M4,n4,ρ4,R4,w4⟩,L.rt,fun M4 H4 n4 ρ4 σ4 R4 w4=>L.nx M4 H4 n4 ρ4 σ4 (less R4.unpin) w4,fun M4 H4 n4 ρ4 σ4 R4 w4=>⟨M4,n4,ρ4,R4,w4⟩⟩ w3
  ·have e:i=ds.length:=by omega
   subst e
   rw [List.drop_length] at w'
   exact .inl ⟨⟨vs,hq,by rw [hat.length]; exact Nat.le_refl _⟩,L.nx M' H' n' ρ' σ' (less R'.unpin) w'⟩
 | lst ds' =>
  cases hd
  obtain⟨a,vs,rfl,nV,hH,hat⟩:=hAt
  obtain⟨o,ho,hro⟩:∃o,H a=some o/\∀H':Hp,H' a=some o->SqL X.K H' a vs:=by
   rcases hH with z | ⟨u,z⟩
   ·exact⟨_,z,fun H' e=>.inl (.inl e)⟩
   ·exact⟨_,z,fun H' e=>.inl (.inr ⟨u,e⟩)⟩
  refine⟨.ref a,getD_some e1,.inl ⟨a,rfl,⟨vs,hro H ho⟩,?_⟩⟩
  obtain⟨kp',R1,less,st⟩:∃kp',Rel X.K { C with kp:=kp' } M H n ρ σ/\(∀{M H n ρ σ},Rel X.K { C with kp:=kp' } M H n ρ σ->Rel X.K C M H n ρ σ)/\(∀M' H' n' ρ' σ',Rel X.K { C with kp:=kp',pins:=(M,H)::C.pins } M' H' n' ρ' σ'->SqL X.K H' a vs):=by
   by_cases hM:M a
   ·refine⟨(a,o)::C.kp,⟨R.len,R.sub,R.dom,R.ext,R.fU,R.uV,R.vM,R.feed,R.sl,R.pin,R.br0,R.new,R.two,fun q hq=>?_⟩,fun R=>R.lessKp,fun M' H' n' ρ' σ' R'=>hro H' (R'.kept (a,o) List.mem_cons_self).1⟩
    rcases List.mem_cons.mp hq with rfl | hq
    ·refine⟨ho,hM,nV,fun j e q z=>?_⟩
     obtain⟨u,hu⟩:=R.br0 i _ a hi e1
     have:=(R.new j _ a q rfl z).2
     rw [hu] at this
     cases this
    ·exact R.kept q hq
   ·exact⟨C.kp,R,fun R=>R,fun M' H' n' ρ' σ' R'=>hro H' ((R'.pin (M,H) List.mem_cons_self).1 a o ho hM)⟩
  refine⟨fun i m σ' H'=>m=ds.length - i/\i<=ds.length/\∃M' n' ρ',Rel X.K { C with kp:=kp',pins:=(M,H)::C.pins } M' H' n' ρ' σ'/\Bl b wb D2 (ds.drop i) n' ρ',⟨ds.length,by simp,Nat.zero_le _,M,n,ρ,R1.pinned,w⟩,?_⟩
  rintro i m σ' H' ⟨rfl,hil,M',n',ρ',R',w'⟩
  have pr:Pres M H M' H':=R'.pin (M,H) List.mem_cons_self
  have hq:=st M' H' n' ρ' σ' R'
  by_cases hlt:i<ds.length
  ·have ed:ds.drop i=ds[i]::ds.drop (i+1):=List.drop_eq_getElem_cons hlt
   rw [ed] at w'
   obtain⟨v,ev,hv⟩:=(hat.pres pr).get (List.getElem?_eq_getElem hlt)
   refine .inr ⟨⟨vs,v,hq,ev⟩,fun σ2 H2=>∃M2 n2 ρ2,Rel X.K { C with kp:=kp',pins:=(M,H)::C.pins } M2 H2 n2 ρ2 σ2/\Bl b wb D2 (ds.drop (i+1)) n2 ρ2,fun σ2 H2 ⟨M2,n2,ρ2,R2',w2⟩=>⟨ds.length - (i+1),by omega,rfl,hlt,M2,n2,ρ2,R2',w2⟩,fun y H2 hy=>?_⟩
   obtain⟨e2,hy⟩:=hy
   subst e2
   have:some v=some y:=ev.symm.trans (hy vs hq)
   cases this
   refine g2 _ M' H2 n' ρ' σ' ds[i] v _ _ R' hv w' fun ρ3 σ3 R3 w3=>?_
   refine b2 _ M' H2 n' ρ3 σ3 { D2 with nx:=Bl b wb D2 (ds.drop (i+1)),ct:=Bl b wb D2 (ds.drop (i+1)),bk:=D2.nx } _ R3 ⟨fun M4 H4 n4 ρ4 σ4 R4 w4=>⟨M4,n4,ρ4,R4,w4⟩,L.rt,fun M4 H4 n4 ρ4 σ4 R4 w4=>L.nx M4 H4 n4 ρ4 σ4 (less R4.unpin) w4,fun M4 H4 n4 ρ4 σ4 R4 w4=>⟨M4,n4,ρ4,R4,w4⟩⟩ w3
  ·have e:i=ds.length:=by omega
   subst e
   rw [List.drop_length] at w'
   exact .inl ⟨⟨vs,hq,by rw [hat.length]; exact Nat.le_refl _⟩,L.nx M' H' n' ρ' σ' (less R'.unpin) w'⟩
 | _=>cases hd
end
end Dp
namespace Nt
open PySem PySem.Spec PyProof.Rows L2 Dp
def DB:W2:=fun ss n P=>∃(N:Net) (s:Str) (z:D) (us:List Ig),ss=[.br z,.sh (.str s)]/\Pr z=some (us.map Ea)/\(∀u,u∈us↔u∈N.ts)/\okN N/\s∈N.ps/\∀(ks:List Key) (ds:List D) (K:Kn),Dmap ks ds D.int K->LTold N s K->P (.dic ks ds) n
def Dl:Ak:=(Aa (DV 2 (Jl (AC 1) (wC (D.int 0))))
 (Aa (Az 3 (wC (D.bl true)))
 (Aa (HX (Al (AC 3)) (Aa (Az 3 (wC (D.bl false)))
 (Os 0 (G3 3 (A8 (Ai 4) (A8 (Ai 5) (A8 (Ai 6) D6)))) (Er (Bi (C9 (AD (CF (AD (AC 4) (AD (AC 5) AQ))) (AD (CF (AD (AC 5) (AD (AC 4) AQ))) AQ)))) (G3 2 (A8 (Ai 7) (A8 (Ai 8) D6))) (B9 (Al (AT (JT false) (AC 7) (A1 2))) (Aa (Az 9 (AT Ae (AT Bw (A1 2) (AC 7)) (AC 6)))
 (B9 (Al (AT GF (AC 9) (Io (A1 2) (AC 8) (AT Ae (AC 9) (wC (D.int 1)))))) (Aa (EN 2 (AC 8) (AC 9))
 (Az 3 (wC (D.bl true)))) BO)) BO)))))
 (Il 2))))
section
variable {ss:List Slot}{n:Nat}{Pd:D->Nat->Prop}
end
section
variable {ss:List Slot}{n:Nat}{Pd:D->Nat->Prop}
theorem Ff(h:DB ss n Pd):Dl (EF Pd) n (ss++List.replicate 8 .no):=by
 obtain⟨N,s,zz,us,rfl,hzz,hus,okn,hs,p⟩:=h
 have szl:=PySem.sizeLine_eq
 have ok:=okn.1
 have l25:=okn.2.1
 unfold Dl
 refine⟨_,A7 s,?_⟩
 have step:∀(D3:E2) (x y:Str) (l:Int),Ed N x y l->∀(ks:List Key) (ds:List D) (K:Kn) (g:Bool) (s4 s5 s7 s8 s9:Slot),Dmap ks ds D.int K->Bf N s ks.length K ->
   (∀(ks':List Key) (ds':List D) (K':Kn) (g':Bool) (t7 t8 t9:Slot),Dmap ks' ds' D.int K'->Bf N s ks'.length K'->((g'=g/\K'=K/\FZ K (x,y,l))\/(g'=true/\MO N.ps K'<MO N.ps K)) ->
    D3.nx n [.br zz,.sh (.str s),.ow (.dic ks' ds'),.sh (.bl g'),s4,s5,.sh (.int l),t7,t8,t9]) ->
   (B9 (Al (AT (JT false) (AC 7) (A1 2))) (Aa (Az 9 (AT Ae (AT Bw (A1 2) (AC 7)) (AC 6)))
 (B9 (Al (AT GF (AC 9) (Io (A1 2) (AC 8) (AT Ae (AC 9) (wC (D.int 1)))))) (Aa (EN 2 (AC 8) (AC 9))
 (Az 3 (wC (D.bl true)))) BO)) BO) D3 n [.br zz,.sh (.str s),.ow (.dic ks ds),.sh (.bl g),s4,s5,.sh (.int l),.sh (.str x),.sh (.str y),s9]:=by
  intro D3 x y l he ks ds K g s4 s5 s7 s8 s9 M B hD
  have kl:=M.le B.ins
  refine⟨ks,ds,_,rfl,A7 x,?_⟩
  show if ((BJ ks ds (.inr x)).isSome)=true then _ else _
  cases ex:K x with
  | none =>
   rw [M.at_,ex]
   exact Gz (hD ks ds K g _ _ _ M B (.inl ⟨rfl,rfl,fun d e=>by rw [show K x=some d from e] at ex; cases ex⟩))
  | some d =>
   rw [M.at_,ex]
   refine Fz ⟨ks,ds,_,_,rfl,A7 x,by rw [M.at_,ex]; rfl,?_⟩
   refine⟨ks,ds,rfl,_,A7 y,?_⟩
   have put:(K y=none\/∃d',K y=some d'/\d+l<d')->(Aa (EN 2 (AC 8) (AC 9)) (Az 3 (wC (D.bl true)))) D3 n [.br zz,.sh (.str s),.ow (.dic ks ds),.sh (.bl g),s4,s5,.sh (.int l),.sh (.str x),.sh (.str y),.sh (.int (d+l))]:=fun hy=>by
    refine⟨ks,ds,rfl,_,A7 y,by omega,?_⟩
    have hlen:=Fi ks (.inr y)
    have key:=B.put ok (c':=(CU ks (.inr y)).length) (by rw [hlen]; split <;> omega) (by rw [hlen]; split <;> omega) ex he (fun e=>by rw [hlen,if_neg (by rw [(M.has (x:=y)).1 e]; decide)]) (fun d' e=>by
     rcases hy with hy | ⟨d2,hy,hlt⟩
     ·rw [e] at hy; cases hy
     ·rw [e] at hy; cases hy; exact hlt)
    exact hD _ _ _ true _ _ _ (M.put y (d+l)) key.1 (.inr ⟨rfl,key.2⟩)
   rw [M.at_]
   cases ey:K y with
   | none =>
    show if decide (d+l<d+l+1)=true then _ else _
    rw [decide_eq_true (by omega)]
    exact Fz (put (.inl ey))
   | some d' =>
    show if decide (d+l<d')=true then _ else _
    by_cases c:d+l<d'
    ·rw [decide_eq_true c]
     exact Fz (put (.inr ⟨d',ey,c⟩))
    ·rw [decide_eq_false c]
     refine Gz (hD ks ds K g _ _ _ M B (.inl ⟨rfl,rfl,fun d2 e=>?_⟩))
     rw [show K x=some d2 from e] at ex
     cases ex
     exact⟨d',ey,by show d'<=d+l; omega⟩
 refine G5 (fun m n' ρ=>n'=n/\∃(ks:List Key) (ds:List D) (K:Kn) (g:Bool) (s4 s5 s6 s7 s8 s9:Slot),ρ=[.br zz,.sh (.str s),.ow (.dic ks ds),.sh (.bl g),s4,s5,s6,s7,s8,s9]/\Dmap ks ds D.int K/\Bf N s ks.length K/\((g=true/\m=MO N.ps K+1)\/(g=false/\m=0/\∀t∈N.ts,FZ K (t.a,t.b,t.len)/\FZ K (t.b,t.a,t.len)))) _ ⟨rfl,_,_,_,true,_,_,_,_,_,_,rfl,Dmap.one (enc:=D.int) (a:=(0:Int)),Bf.init hs,.inl ⟨rfl,rfl⟩⟩ ?_ ?_
 ·rintro m n' ρ N' ⟨rfl,ks,ds,K,g,s4,s5,s6,s7,s8,s9,rfl,M,B,hg⟩ hN
  rcases hg with ⟨rfl,hm⟩ | ⟨rfl,_,ht⟩
  ·have outer:∀(rest done:List Ig) (ks:List Key) (ds:List D) (K':Kn) (g:Bool) (s4 s5 s6 s7 s8 s9:Slot),done++rest=us->Dmap ks ds D.int K'->Bf N s ks.length K'->((g=true/\MO N.ps K'<MO N.ps K)\/(g=false/\MO N.ps K'<=MO N.ps K/\∀t∈done,FZ K' (t.a,t.b,t.len)/\FZ K' (t.b,t.a,t.len))) ->
     Bl (G3 3 (A8 (Ai 4) (A8 (Ai 5) (A8 (Ai 6) D6)))) (Er (Bi (C9 (AD (CF (AD (AC 4) (AD (AC 5) AQ))) (AD (CF (AD (AC 5) (AD (AC 4) AQ))) AQ)))) (G3 2 (A8 (Ai 7) (A8 (Ai 8) D6))) (B9 (Al (AT (JT false) (AC 7) (A1 2))) (Aa (Az 9 (AT Ae (AT Bw (A1 2) (AC 7)) (AC 6)))
 (B9 (Al (AT GF (AC 9) (Io (A1 2) (AC 8) (AT Ae (AC 9) (wC (D.int 1)))))) (Aa (EN 2 (AC 8) (AC 9))
 (Az 3 (wC (D.bl true)))) BO)) BO)) { EF Pd with nx:=N',ct:=N',bk:=Il 2 (EF Pd) } (rest.map Ea) n' [.br zz,.sh (.str s),.ow (.dic ks ds),.sh (.bl g),s4,s5,s6,s7,s8,s9]:=by
    intro rest
    induction rest with
    | nil =>
     intro done ks ds K' g s4 s5 s6 s7 s8 s9 e M B hg
     rw [List.append_nil] at e
     subst e
     rcases hg with ⟨rfl,hlt⟩ | ⟨rfl,_,ht⟩
     ·exact hN (MO N.ps K'+1) _ _ (by omega) ⟨rfl,ks,ds,K',true,_,_,_,_,_,_,rfl,M,B,.inl ⟨rfl,rfl⟩⟩
     ·exact hN 0 _ _ (by omega) ⟨rfl,ks,ds,K',false,_,_,_,_,_,_,rfl,M,B,.inr ⟨rfl,rfl,fun t h=>ht t ((hus t).mpr h)⟩⟩
    | cons t rest ih =>
     intro done ks ds K' g s4 s5 s6 s7 s8 s9 e M B hg
     have hmem:t∈N.ts:=(hus t).mp (by rw [← e]; exact List.mem_append_right _ List.mem_cons_self)
     have e':(done++[t])++rest=us:=by rw [List.append_assoc]; exact e
     have ed:=IK hmem
     refine⟨rfl,rfl,z2,z2,z2,?_⟩
     refine⟨rfl,rfl,?_⟩
     refine step _ t.a t.b t.len ed.1 ks ds K' g _ _ s7 s8 s9 M B fun ks1 ds1 K1 g1 t7 t8 t9 M1 B1 h1=>?_
     refine⟨rfl,rfl,?_⟩
     refine step _ t.b t.a t.len ed.2 ks1 ds1 K1 g1 _ _ t7 t8 t9 M1 B1 fun ks2 ds2 K2 g2 u7 u8 u9 M2 B2 h2=>?_
     refine ih (done++[t]) ks2 ds2 K2 g2 _ _ _ _ _ _ e' M2 B2 ?_
     rcases h1 with ⟨rfl,rfl,t1⟩ | ⟨rfl,lt1⟩
     ·rcases h2 with ⟨rfl,rfl,t2⟩ | ⟨rfl,lt2⟩
      ·rcases hg with z | ⟨z1,z2,z3⟩
       ·exact .inl z
       ·refine .inr ⟨z1,z2,fun u hu=>?_⟩
        rcases List.mem_append.mp hu with hu | hu
        ·exact z3 u hu
        ·rw [List.mem_singleton.mp hu]; exact⟨t1,t2⟩
      ·refine .inl ⟨rfl,?_⟩
       rcases hg with ⟨_,z⟩ | ⟨_,z,_⟩ <;> omega
     ·have base:MO N.ps K1<MO N.ps K:=by rcases hg with ⟨_,z⟩ | ⟨_,z,_⟩ <;> omega
      rcases h2 with ⟨rfl,rfl,t2⟩ | ⟨rfl,lt2⟩
      ·exact .inl ⟨rfl,base⟩
      ·exact .inl ⟨rfl,by omega⟩
   exact⟨zz,_,rfl,hzz,outer us [] ks ds K false _ _ _ _ _ _ rfl M B (.inr ⟨rfl,Nat.le_refl _,fun t h=>by cases h⟩)⟩
  ·exact⟨_,rfl,p ks ds K M (B.told ok (by have:=M.le B.ins; omega) ht)⟩
 ·rintro n' ρ P Q hPQ h
  unfold Al AC at h ⊢
  split at h
  ·rename_i d hd
   cases d with
   | bl b=>exact hPQ _ _ h
   | _=>exact h.elim
  ·exact h.elim
end
section
variable {ss:List Slot}{n:Nat}{Pd:D->Nat->Prop}
end
end Nt
namespace L2
open PySem PySem.Spec PyProof.Rows
open PySem.AutoSeq1 (wpAny_loadPart')
theorem N4{prog:Program}{w:World}{A:Around}{R:Result->Shared->Prop}{s:Shared}(t:Addr)(items:Array Value)(n:Nat)(x:Value)(e:Value->Bool)(j:Nat)(hj:j<items.size)(hit:e items[j]=true)(hno:∀m (hm:m<items.size),m<j->e items[m]=false)
  (hl:s.heap.get? t=some { cls:=.type "tuple",dict:=none,data:=.seq items n,slots:=#[] }) (he:∀y,y∈items->PySem.SeqAt.EqAt A.in1 s y x (e y))
  (h:R (.ok (.ret (.int (j:Int) s.toks))) { s with toks:=s.toks+1 }) :
  wpAny (model prog w) A.in1 (Builtin.«tuple.index» ⟨[.ref t,x],[]⟩) (fun fin s'=>match fin with | .done f=>R (.ok f) s' | .again c'=>c'.quiet=true/\codeAny (model prog w) A c' R s') (fun e s'=>R (.error e) s') s:=by
 obtain⟨hp,g,d,tk,os⟩:=s
 wp_walk using wpAny_loadPart' hl
 have go:∀(Q:Option _×Unit->Shared->Prop) (E:Value->Shared->Prop),(∀r,Q (some r,()) ⟨hp,g,d,tk+1,os⟩\/True)->∀(k i:Nat),i<=j->i+k=items.size ->
   (∀r:Fin,r=.done (.ret (.int (j:Int) tk))->Q (some r,()) ⟨hp,g,d,tk+1,os⟩) ->
   wpAny (model prog w) A.in1 (forIn (List.range' i k 1) ((none:Option Fin),()) (fun(i:Nat) __s=>match items[i]? with
      | some y=>do
       let __do_lift ← eqBool y x
       if __do_lift=true then do
         let __do_lift ← retInt (i:Int)
         pure (ForInStep.done (some __do_lift,()))
        else pure (ForInStep.yield (none,()))
      | x=>pure (ForInStep.yield (none,())))) Q E ⟨hp,g,d,tk,os⟩:=by
  intro Q E _ k
  induction k with
  | zero=>intro i h1 h2; omega
  | succ k ih =>
   intro i h1 h2 hQ
   have hlt:i<items.size:=by omega
   rw [List.range'_succ,List.forIn_cons]
   have hi:items[i]?=some items[i]:=Array.getElem?_eq_getElem hlt
   simp only [hi]
   refine wpAny_bind (wpAny_bind (he _ (Array.getElem_mem hlt) prog w _ _ ?_))
   by_cases c:i=j
   ·subst c
    rw [hit]
    wp_walk
    exact hQ _ rfl
   ·rw [hno i hlt (by omega)]
    wp_walk
    exact ih (i+1) (by omega) (by omega) hQ
 show wpAny (model prog w) A.in1 (forIn [:min items.size items.size] ((none:Option Fin),()) _) _ _ _
 rw [Std.Legacy.Range.forIn_eq_forIn_range']
 have er:List.range' (Std.Legacy.Range.start [:min items.size items.size]) (Std.Legacy.Range.size [:min items.size items.size]) (Std.Legacy.Range.step [:min items.size items.size])=List.range' 0 items.size 1:=by
  simp [Std.Legacy.Range.size]
 rw [er]
 refine go _ _ (fun _=>.inr trivial) items.size 0 (Nat.zero_le _) (Nat.zero_add _) fun r er=>?_
 subst er
 exact wpAny_pure h
section
variable {X:Cx}
def RD:V->List V->Hp->VK->Prop:=fun x vs H Q=>∃(a:Addr) (xs:List V) (y:V) (ds:List PyData) (d:PyData) (j:Nat),x=.ref a/\vs=[y]/\H a=some (.tup xs)/\RVs H ds xs/\RV H d y/\PyData.canLayAll0 ds=true/\d.canLay0=true/\d.depth<=100 /\
 (∃dj,ds[j]?=some dj/\PyData.eqv dj d=true)/\(∀m dm,m<j->ds[m]?=some dm->PyData.eqv dm d=false)/\Q (.int (j:Int)) H
theorem QJ{k:Nat}(hr:Room k X.A):Qs X "tuple.index" RD:=by
 intro pins s σ H x vs v us Q I rx rv h
 obtain⟨l,xs,y,ds,d,j,rfl,rfl,hH,hds,hd,c1,c2,dd,⟨dj,hj,hit⟩,hno,q⟩:=h
 cases rx
 obtain⟨u,rfl,ru⟩:=rv.one
 obtain⟨z,its,r,⟨⟨cls,dt,data,sl⟩,e,e2,n,e3,e4,e5⟩⟩:=(show ObjOk X.prog X.w H s.heap l (.tup xs) from I.hok l _ hH)
 simp only at e2 e3 e4 e5
 subst e2 e3 e4 e5
 obtain⟨as,ra⟩:=RVs.reads I hds r
 obtain⟨bs,rb⟩:=RV.reads I hd ru
 have hm:=PySem.SeqAt.readsAll_map ds its as c1 ra
 have hlen:ds.length=its.length:=by rw [← hm,List.length_map]
 have hu:=hr.un
 have hmin:min (PyData.depthAll ds) d.depth<=d.depth:=Nat.min_le_right _ _
 have at_:∀m dm,ds[m]?=some dm->∀(h:m<its.toArray.size),PySem.SeqAt.readOf s.heap its.toArray[m]=dm:=fun m dm e h=>by
  rw [← hm,List.getElem?_map] at e
  have h':m<its.length:=by simpa using h
  rw [List.getElem?_eq_getElem h'] at e
  have e:=Option.some.inj e
  simpa using e
 have hjl:j<its.length:=by rw [← hlen]; exact(List.getElem?_eq_some_iff.mp hj).1
 have key:=N4 (prog:=X.prog) (w:=X.w) (A:=X.A) (R:=wants (EP X pins σ Q) X.xe) l its.toArray n u (fun y=>PyData.eqv (PySem.SeqAt.readOf s.heap y) d) j (by rw [List.size_toArray]; exact hjl) (by rw [at_ j dj hj]; exact hit) (fun m hm' hlt=>by
  have hml:m<ds.length:=by rw [hlen]; simpa using hm'
  rw [at_ m ds[m] (List.getElem?_eq_getElem hml) hm']
  exact hno m ds[m] hlt (List.getElem?_eq_getElem hml)) e (PySem.SeqAt.items_eqAt (vs:=its.toArray) (by rw [List.toList_toArray]; exact ra) rb c1 c2 (by omega)) ⟨.int j,H,I.tok _,⟨_,rfl⟩,q⟩
 exact wpAny_call (codeAny_call_builtin PySem.F.slot_tuple_index.plain PySem.F.entry_tuple_index (PySem.F.slot_tuple_index.check _ _ _ _ _ _ _ _ ⟨_,e,rfl⟩ (PySem.F.args_tuple_index_2 _ _) key))
def SV(r:V->List V->Hp->VK->Prop)(to:TE)(t:TA):TE:=fun σ H Q=>to σ H fun x H1=>(∃a xs,x=.ref a/\H1 a=some (.tup xs))/\t σ H1 fun xs H2=>r x xs H2 Q
theorem P6{o e:Expr}{es:List Expr}{to:TE}{t:TA}{name:Str}{apos cpos:Pos}{id:String}{r:V->List V->Hp->VK->Prop}(slot:Slot "tuple" name id)(hty:typeOf (.builtin id)=pure (.type "method_descriptor"))(hm:Qs X id r)(ho:PE X o to)(ha:PA X (e::es) t)
  (hbase:attributeBase o name X.env (eval o X.env)=eval o X.env:=by rfl)
  (hfew:((backTo cpos (starEach (e::es) X.env)).all (fun x=>!x.1)&&(backToKw cpos (keywordEach [] X.env)).all (fun x=>x.1.isSome)
   && decide ((e::es).length+([]:List Keyword).length+(if ([]:List Keyword).isEmpty then 0 else 1)<30))=true:=by rfl)
  (hline:(apos.endLine==cpos.line)=true:=by rfl) (hs:starEach (e::es) X.env=(false,eval e X.env)::starEach es X.env:=by rfl) (hplain:(backTo cpos (starEach es X.env)).any (·.1)=false:=by rfl) :
  PE X (.Call (.Attribute o name apos) (e::es) [] cpos) (SV r to t):=by
 intro pins s σ H Q I h
 refine wpAny_Call_method_late hbase hfew hline rfl (BL (ho pins s σ H _ I h) fun v s1 ⟨x,H1,I1,r1,⟨a,xs,ex,hx⟩,q1⟩=>?_)
 subst ex
 have ev:v=Value.ref a:=r1
 subst ev
 obtain⟨z,its,_,o,e1,e2,n,e3,e4,e5⟩:=(show ObjOk X.prog X.w H1 s1.heap a (.tup xs) from I1.hok a _ hx)
 refine⟨"tuple",id,PySem.F.plainAttrs_tuple,slot,hty,⟨o,e1,e2⟩,fun b eb=>by cases eb; exact⟨o,e1,e4⟩,?_⟩
 have hA:=ha cpos pins s1 σ H1 _ I1 q1
 rw [hs] at hA ⊢
 refine Calls.callWith_builtin (by show (false||(backTo cpos (starEach es X.env)).any (·.1))=false; rw [hplain] <;> rfl) (Calls.evalArgs_plain ?_)
 exact BL hA fun us s2 ⟨vs,H2,I2,r2,q2⟩=>hm pins s2 σ H2 (.ref a) vs (.ref a) us Q I2 r1 r2 q2
end
end L2
namespace Dp
open PySem PySem.Spec PyProof.Rows L2
section
variable {X:Cx}{κa:Kd}{a e:Expr}{es:List Expr}{wa:DW}{ws:EJ}
def Rj(d:D)(ds:List D)(P:D->Prop):Prop:=∃(xs:List D) (y:D) (j:Nat),d=.tup xs/\ds=[y]/\DD (.tup xs)/\DD y/\(∃x,xs[j]?=some x/\K_ x y=true)/\(∀m x,m<j->xs[m]?=some x->K_ x y=false)/\P (.int (j:Int))
def Pe(wo:DW)(ws:EJ):DW:=fun n ρ P=>wo n ρ fun d n1=>(∃xs,d=.tup xs)/\ws n1 ρ fun ds n2=>Rj d ds fun z=>P z n2
theorem Rt{K:Frag}:S0 K .sh "tuple" RD Rj:=by
 intro U M H d ds x vs P Q dom vM hx hp w q
 obtain⟨xs,y,j,rfl,rfl,⟨n1,l1,_⟩,⟨n2,l2,d2⟩,⟨x0,hx0,hit⟩,hno,w⟩:=w
 obtain⟨v,rfl,hy⟩:=Cz hp
 obtain⟨a,us,rfl,hn,hs⟩:=hx.tup
 have get:∀(m:Nat) (p:PyData),(A3 xs)[m]?=some p->∃x,xs[m]?=some x/\p=toPy x:=fun m p e=>by
  rw [Cf,List.getElem?_map] at e
  obtain⟨x,e1,rfl⟩:=Option.map_eq_some_iff.mp e
  exact⟨x,e1,rfl⟩
 refine⟨a,us,v,A3 xs,toPy y,j,rfl,rfl,hn.2,hs.rv n1,hy.rv n2,l1,l2,d2,⟨toPy x0,by rw [Cf,List.getElem?_map,hx0]; rfl,hit⟩,fun m p hm e=>?_,q _ H (.int (j:Int)) .refl rfl w⟩
 obtain⟨x',e1,rfl⟩:=get m p e
 exact hno m x' hm e1
theorem NZ{k:Nat}{apos cpos:Pos}(hr:Room k X.A)(ho:DE X a κa wa)(ha:Om X (e::es) ws)
  (hbase:attributeBase a "index" X.env (eval a X.env)=eval a X.env:=by rfl)
  (hfew:((backTo cpos (starEach (e::es) X.env)).all (fun x=>!x.1)&&(backToKw cpos (keywordEach [] X.env)).all (fun x=>x.1.isSome)
   && decide ((e::es).length+([]:List Keyword).length+(if ([]:List Keyword).isEmpty then 0 else 1)<30))=true:=by rfl)
  (hline:(apos.endLine==cpos.line)=true:=by rfl) (hs:starEach (e::es) X.env=(false,eval e X.env)::starEach es X.env:=by rfl) (hplain:(backTo cpos (starEach es X.env)).any (·.1)=false:=by rfl) :
  DE X (.Call (.Attribute a "index" apos) (e::es) [] cpos) .sh (Pe wa ws):=by
 obtain⟨t,h1,h2⟩:=ho
 obtain⟨u,g1,g2⟩:=ha
 refine⟨_,P6 PySem.F.slot_tuple_index PySem.F.type_tuple_index (QJ hr) h1 g1 hbase hfew hline hs hplain,fun C M H n ρ σ P Q R w q=>?_⟩
 refine h2 C M H n ρ σ _ _ R w fun x H1 d n1 e1 f1 r1 p=>?_
 have R1:=R.step e1 f1
 have tx:=r1.tpOf R.dom R.vM
 obtain⟨⟨xs,rfl⟩,p⟩:=p
 refine⟨by obtain⟨a,us,rfl,hn,hs⟩:=tx.tup; exact⟨a,us,rfl,hn.2⟩,?_⟩
 refine g2 C M H1 n1 ρ σ _ _ R1 p fun vs H2 ds n2 e2 f2 r2 p2=>?_
 have R2':=R1.step e2 f2
 refine Rt C.V M H2 (.tup xs) ds x vs _ _ R2'.dom R2'.vM (tx.pres (R1.pres e2) e2 R.uV) r2 p2 fun v H3 z g vr pz=>?_
 exact q v H3 z n2 ((e1.trans e2).trans g.ext) (f2.grow g) (VR.back (e1.trans e2) vr) pz
end
end Dp
namespace L2
open PySem PySem.Spec PyProof.Rows PySem.W
theorem KD:mroOf (.type "dict")=pure [.type "dict",.type "object"]:=by rw [mroOf_type]; kernel_rfl
theorem QY:typeLookup (.type "dict") "__new__"=pure (some (.builtin "dict.__new__")):=by rw [typeLookup_type,builtinLookup_eq_fast]; kernel_rfl
theorem dp_called:TypeCalled "dict" "dict.__new__" "dict.__init__" :=
 ⟨by decide +kernel,by decide +kernel,⟨_,_,KD⟩,madeBy_type KD QY (by decide +kernel),by decide +kernel,by rw [isSubtype_type]; kernel_rfl,PySem.F.slot_dict_init⟩
theorem OY(a:Value):checkTypeCall "dict" ⟨[a],[]⟩=pure ():=by kernel_rfl
theorem OZ(a:Value):checkBuiltinCall "dict.__new__" ⟨[.type "dict",a],[]⟩=pure ():=by kernel_rfl
theorem IN:entryFor table "dict.__new__"=some Builtin.«dict.__new__»:=entryFor_of_tree (by kernel_rfl)
theorem Ec:plainId "dict.__new__"=true:=by decide +kernel
theorem D5:entryFor table "dict.update.loop"=some Builtin.«dict.update.loop»:=entryFor_of_tree (by kernel_rfl)
theorem CN:plainId "dict.update.loop"=true:=by decide +kernel
theorem Oc:typeLookup (.type "list") "keys"=pure none:=am_miss_of_fast (by decide +kernel)
section
variable {prog:Program}{w:World}{A:Around}{E:Value->Shared->Prop}{s:Shared}
theorem JY(a:Value){Q₁:Value->Shared->Prop}(h:Q₁ (.ref s.heap.objs.size) { s with heap:=s.heap.push { cls:=.type "dict",data:=.dict #[] } }) :
  codeAny (model prog w) A (.call (.builtin "dict.__new__") ⟨[.type "dict",a],[]⟩) (wants Q₁ E) s:=by
 refine codeAny_of_tree ?_
 show wpAny _ A.in1 (do checkBuiltinCall "dict.__new__" ⟨[.type "dict",a],[]⟩; again (.builtin "dict.__new__" ⟨[.type "dict",a],[]⟩)) _ _ s
 refine wpAny_bind (wpAny_of_eq (OZ a) (wpAny_pure ⟨plainId_quiet Ec _,codeAny_builtin IN ?_⟩))
 rw [Around.under_plainId Ec _]
 unfold Builtin.«dict.__new__»
 have hsub:=dp_called.sub
 have hmro:=KD
 obtain⟨hp,g,d,tk,os⟩:=s
 wp_walk
 exact h
theorem Oa{a:Addr}{xs:Array Value}{k:Nat}{Q:Option Value->Shared->Prop}{sl:Array (Option Value)}(hx:s.heap.get? a=some { cls:=.type "list",dict:=none,data:=.seq xs k,slots:=sl })(hA:A.handled=none)
  (h:∀h' tk,(∀b o,s.heap.get? b=some o->h'.get? b=some o)->Q none { s with heap:=h',toks:=tk }):wpAny (model prog w) A (getAttr? (.ref a) "keys") Q E s:=by
 obtain⟨hp,g,d,tk,os⟩:=s
 have hT:∀tk',(⟨hp,g,d,tk',os⟩:Shared).TypeIs (.ref a) "list":=fun _=>⟨_,hx,rfl⟩
 have f1:=sub_AttributeError
 have f3:=PySem.F.slot_list_getattribute.lookup
 have f4:=PySem.F.slot_list_getattribute.bind (.ref a)
 have f5:=am_list_getattr_none
 unfold getAttr? getAttrBy? getAttrBy
 repeat (any_goals (first | assumption | exact hT _ | ((with_reducible show wpAny _ _ (call (Value.builtin "list.__getattribute__") _ _) _ _ _); refine call_meets PySem.F.slot_list_getattribute (hT _) am_entry_list_getattribute (PySem.F.args_list_getattribute_2 _ _) (meets_getattribute_miss_list a xs k sl "keys" _ Oc (by decide +kernel) (by decide +kernel)) ⟨hx,hA,fun h' tk' e hx'=>?_⟩) | wp_step))
 obtain⟨t',u',he⟩:=hx'.there
 show wpAny _ _ (getattributeRaised _ _ _ _ _ _ _) _ _ _
 unfold getattributeRaised
 repeat (any_goals (first | assumption | wp_step))
 exact h _ _ hx'.keeps
end
section
variable {prog:Program}{w:World}{A:Around}{R:Result->Shared->Prop}{I:Addr}{fp wr:List Addr}{n:Nat}{P:Nat->Value->Prop}{St:Nat->Heap->Prop}{K:Type}[DecidableEq K]{knd:KeyKind prog w K}
theorem stored_new{kvs:List (K×Value)}{k:K}{v:Value}(h:k∉kvs.map (·.1)):stored kvs k v=kvs++[(k,v)]:=by
 unfold stored
 rw [if_neg]
 intro z
 obtain⟨p,hp,e⟩:=List.any_eq_true.mp z
 exact h (List.mem_map.mpr ⟨p,hp,of_decide_eq_true e⟩)
theorem Ob(W:Walks prog w A.in1 I fp wr n P St)(d:Addr)(hdf:d∉fp)(base:Heap)(hbase:∀b,b∈wr\/b=d->base.get? b=none)(kvs:List (K×Value))(hlen:kvs.length=n)(nd:(kvs.map (·.1)).Nodup)(hsz:n<=sizeLine)
  (hit:∀(i:Nat) (v:Value) (p:K×Value),P i v->kvs[i]?=some p->∃(a:Addr) (o:Obj) (key:Value) (c:Nat),v=.ref a/\base.get? a=some o/\o.cls=.type "tuple"/\o.data=.seq #[key,p.2] c/\knd.is p.1 key=true) :
  ∀(k i:Nat) (s:Shared),n - i=k->i<=n->St i s.heap->(∀b o,base.get? b=some o->s.heap.get? b=some o)->s.heap.DictOf knd d (kvs.take i) ->
   (∀h' tk,h'.DictOf knd d kvs->(∀b o,base.get? b=some o->h'.get? b=some o)->R (.ok (.ret .none)) { s with heap:=h',toks:=tk }) ->
   codeAny (model prog w) A (.builtin "dict.update.loop" ⟨[.ref d,.ref I,rawInt (i:Int),.none],[]⟩) R s:=by
 have hdw:d∉wr:=fun h=>hdf (W.sub _ h)
 intro k
 induction k with
 | zero =>
  intro i s hk hi hst hold hD hR
  have hin:i=n:=by omega
  subst hin
  refine codeAny_builtin D5 ?_
  rw [Around.under_plainId CN _]
  show wpAny _ A.in1 (pyNext (.ref I) >>= _) _ _ s
  refine wpAny_bind (W.done s _ _ hst fun h' tk hk'=>?_)
  show wpAny _ A.in1 (Builtin.Dict.addKeywords d [] >>= fun _=>ret Value.none) _ _ _
  refine wpAny_bind (wpAny_pure (wpAny_pure (hR h' tk ?_ fun b o e=>hk' b o (fun z=>?_) (hold b o e))))
  ·obtain⟨o,es,ep,ho,r⟩:=hD
   rw [List.take_of_length_le (by omega)] at r
   exact⟨o,es,ep,hk' d o hdw ho,r⟩
  ·rw [hbase b (.inl z)] at e; cases e
 | succ k ih =>
  intro i s hk hi hst hold hD hR
  have hlt:i<n:=by omega
  refine codeAny_builtin D5 ?_
  rw [Around.under_plainId CN _]
  show wpAny _ A.in1 (pyNext (.ref I) >>= _) _ _ s
  refine wpAny_bind (W.item i s _ _ hlt hst fun v h' tk hP hst' hk'=>?_)
  have hp:kvs[i]?=some (kvs[i]'(by omega)):=List.getElem?_eq_getElem (by omega)
  generalize kvs[i]'(by omega)=p at hp
  obtain⟨a,o,key,c,rfl,ha,hc,hd,his⟩:=hit i v p hP hp
  have hold':∀b o,base.get? b=some o->h'.get? b=some o:=fun b o e=>hk' b o (fun z=>by rw [hbase b (.inl z)] at e; cases e) (hold b o e)
  have ha':=hold' a o ha
  have hD':h'.DictOf knd d (kvs.take i):=by
   obtain⟨o,es,ep,ho,r⟩:=hD
   exact⟨o,es,ep,hk' d o hdw ho,r⟩
  show wpAny _ A.in1 (holding [Value.ref a] _ >>= _) _ _ _
  refine wpAny_bind (wpAny_holding ?_)
  show wpAny _ A.in1 (tryCatch (Builtin.Dict.pairItems (.ref a)) _ >>= _) _ _ _
  refine wpAny_bind (wpAny_tryCatch ?_)
  unfold Builtin.Dict.pairItems
  refine wpAny_bind (wpAny_typeOf (T := "tuple") ⟨o,ha',hc⟩ ?_)
  show wpAny _ A.in1 (seqItems? (.ref a) >>= _) _ _ _
  refine wpAny_bind (wpAny_seqItems ha' hd (wpAny_pure ?_))
  show wpAny _ A.in1 (holding [key,p.2] (dictSet d key p.2)) _ _ _
  refine wpAny_holding (wpAny_dictSet_pairs (hsz:=by rw [List.length_take]; omega) his hD' fun h'' hD'' hs=>?_)
  have hni:p.1∉(kvs.take i).map (·.1):=fun z=>by
   have e:kvs.map (·.1)=(kvs.take i).map (·.1)++p.1::(kvs.drop (i+1)).map (·.1):=by
    have:=List.take_append_drop i kvs
    rw [List.drop_eq_getElem_cons (by omega:i<kvs.length)] at this
    rw [List.getElem?_eq_getElem (by omega:i<kvs.length)] at hp
    cases hp
    conv=>lhs; rw [← this]
    rw [List.map_append,List.map_cons]
   rw [e,List.nodup_append] at nd
   exact nd.2.2 p.1 z p.1 List.mem_cons_self rfl
  have e2:kvs.take (i+1)=kvs.take i++[p]:=by rw [List.take_add_one,hp]; rfl
  rw [stored_new hni,← e2] at hD''
  refine wpAny_pure ⟨plainId_quiet CN _,?_⟩
  have hi1:((i:Int)+1)=((i+1:Nat):Int):=by omega
  rw [hi1]
  refine ih (i+1) _ (by omega) hlt (W.frame _ _ _ hst' fun b hb o e=>?_) (fun b o e=>?_) hD'' fun h3 tk3 hD3 hold3=>hR h3 tk3 hD3 hold3
  ·exact(hs.2 b fun z=>hdf (by rw [← z]; exact hb)).trans e
  ·exact(hs.2 b fun z=>by rw [hbase b (.inr z)] at e; cases e).trans (hold' b o e)
theorem Od{E:Value->Shared->Prop}{s:Shared}{l:Addr}{its:Array Value}{c:Nat}{sl:Array (Option Value)}{Q:Value->Shared->Prop}(hh:A.handled=none)(hl:s.heap.get? l=some { cls:=.type "list",dict:=none,data:=.seq its c,slots:=sl })
  (kvs:List (K×Value)) (hlen:kvs.length=its.size) (nd:(kvs.map (·.1)).Nodup) (hsz:its.size<=sizeLine)
  (hit:∀(i:Nat) (v:Value) (p:K×Value),its[i]?=some v->kvs[i]?=some p->∃(a:Addr) (o:Obj) (key:Value) (c:Nat),v=.ref a/\s.heap.get? a=some o/\o.cls=.type "tuple"/\o.data=.seq #[key,p.2] c/\knd.is p.1 key=true)
  (h:∀h' tk,h'.DictOf knd s.heap.objs.size kvs->(∀b o,s.heap.get? b=some o->h'.get? b=some o)->Q (.ref s.heap.objs.size) { s with heap:=h',toks:=tk }) :
  wpAny (model prog w) A (call (.type "dict") [.ref l]) Q E s:=by
 refine callType_codes (Q₁:=fun obj s₁=>obj=.ref s.heap.objs.size/\s₁={ s with heap:=s.heap.push { cls:=.type "dict",data:=.dict #[] } }) dp_called (OY _) PySem.F.entry_dict_init (JY _ ⟨rfl,rfl⟩) ?_
 rintro obj s₁ ⟨rfl,rfl⟩
 have hd0:(s.heap.push { cls:=.type "dict",data:=.dict #[] }).get? s.heap.objs.size=some { cls:=.type "dict",data:=.dict #[] }:=Heap.get?_push_size _ rfl
 have hl':(s.heap.push { cls:=.type "dict",data:=.dict #[] }).get? l=some { cls:=.type "list",dict:=none,data:=.seq its c,slots:=sl }:=Heap.get?_push_of_some _ hl
 have hlt:l<s.heap.objs.size:=Heap.lt_size hl
 have none_ge:∀b,s.heap.objs.size<=b->s.heap.get? b=none:=fun b hb=>by
  cases e:s.heap.get? b with
  | none=>rfl
  | some o=>exact absurd (Nat.lt_of_lt_of_le (Heap.lt_size e) hb) (Nat.lt_irrefl _)
 refine⟨⟨_,hd0,rfl⟩,PySem.F.args_dict_init_2 _ _,?_⟩
 unfold Builtin.«dict.__init__»
 refine wpAny_bind ?_
 unfold Builtin.Dict.selfAndRest
 refine wpAny_bind (wpAny_notOrdered_dict ⟨_,hd0,rfl⟩ ?_)
 show wpAny _ _ (pure (s.heap.objs.size,[Value.ref l])) _ _ _
 refine wpAny_pure ?_
 show wpAny _ _ (Builtin.Dict.updateFrom "dict.__init__" s.heap.objs.size (.ref l) [] .none) _ _ _
 unfold Builtin.Dict.updateFrom
 refine wpAny_bind (wpAny_typeOf (T := "list") ⟨_,hl',rfl⟩ ?_)
 rw [if_pos (by decide)]
 have hh2:A.in1.in1.handled=none:=by simp [hh]
 have hh1:A.in1.handled=none:=by simp [hh]
 refine wpAny_bind (Oa hl' hh2 fun h1 tk1 hk1=>?_)
 show wpAny _ _ (rule _ >>= _) _ _ _
 refine wpAny_bind (wpAny_rule ?_)
 have hl1:h1.IsList l its:=⟨_,hk1 l _ hl',rfl,c,rfl⟩
 refine wpAny_bind (wpAny_pyIter_list (s:={ s with heap:=h1,toks:=tk1 }) hl1 ?_)
 have hs1:s.heap.objs.size<h1.objs.size:=Heap.lt_size (hk1 _ _ hd0)
 have hneI:l≠h1.objs.size:=fun z=>Nat.lt_irrefl _ (Nat.lt_trans hs1 (by rw [← z]; exact hlt))
 have hdf:s.heap.objs.size∉[h1.objs.size,l]:=fun hm=>by
  rcases List.mem_cons.mp hm with z | hm
  ·rw [← z] at hs1; exact Nat.lt_irrefl _ hs1
  ·rw [← List.mem_singleton.mp hm] at hlt; exact Nat.lt_irrefl _ hlt
 refine wpAny_pure ⟨plainId_quiet CN _,?_⟩
 refine Ob (knd:=knd) (Walks.list (A:=A.in1.in1) hh2 h1.objs.size l hneI its) s.heap.objs.size hdf s.heap (fun b hb=>none_ge b ?_) kvs hlen nd hsz hit its.size 0 _ (Nat.sub_zero _) (Nat.zero_le _) ⟨⟨_,Heap.get?_push_size _ rfl,rfl,rfl⟩,hl1.push _⟩ (fun b o e=>Heap.get?_push_of_some _ (hk1 b o (Heap.get?_push_of_some _ e))) ⟨_,#[],0,Heap.get?_push_of_some _ (hk1 _ _ hd0),⟨rfl,rfl,rfl⟩,rfl,(fun e he=>by simp at he),by rw [List.take_zero]; exact .nil,by rw [List.take_zero]; exact List.nodup_nil⟩ fun h' tk hD hold=>⟨rfl,h h' tk hD hold⟩
 rcases hb with hb | hb
 ·rw [List.mem_singleton.mp hb]; exact Nat.le_of_lt hs1
 ·rw [hb]; exact Nat.le_refl _
end
section
variable {X:Cx}
def Mj(K:Frag):List V->Hp->VK->Prop:=fun xs H Q=>∃(p:Addr) (as:List Addr) (kvs:List (Key×V)),xs=[.ref p]/\SqL K H p (as.map V.ref)/\as.length=kvs.length/\(∀(i:Nat) (a:Addr) (q:Key×V),as[i]?=some a->kvs[i]?=some q->SqT K H a [kV q.1,q.2])/\(kvs.map (·.1)).Nodup/\∀l,H l=none->Q (.ref l) (A_ H l (.dK kvs))
theorem LB{P:Program}{w:World}{h:Heap}:∀{as:List Addr} {kvs:List (Key×V)},as.length=kvs.length->(∀(i:Nat) (a:Addr) (q:Key×V),as[i]?=some a->kvs[i]?=some q->∃its,Vals [kV q.1,q.2] its/\IsTup h a its.toArray) ->
  ∃ws:List (Key×Value),KV kvs ws/\∀(i:Nat) (a:Addr) (q:Key×Value),as[i]?=some a->ws[i]?=some q->∃(o:Obj) (key:Value) (c:Nat),h.get? a=some o/\o.cls=.type "tuple"/\o.data=.seq #[key,q.2] c/\(Aw P w).is q.1 key=true
 | [],[],_,_=>⟨[],.nil,fun i a q e=>by simp at e⟩
 | a::as,q::kvs,hl,hp=>by
  obtain⟨ws,h1,h2⟩:=LB (P:=P) (w:=w) (as:=as) (kvs:=kvs) (by simpa using hl) fun i b p e1 e2=>hp (i+1) b p (by simpa using e1) (by simpa using e2)
  obtain⟨its,r,o,e1,e2,n,e3⟩:=hp 0 a q rfl rfl
  cases r with
  | @cons _ key _ us r1 r2 =>
   cases r2 with
   | @cons _ v _ us2 r3 r4 =>
    cases r4
    refine⟨(q.1,v)::ws,.cons ⟨rfl,r3⟩ h1,fun i b p f1 f2=>?_⟩
    cases i with
    | zero =>
     cases (show a=b by simpa using f1)
     cases (show (q.1,v)=p by simpa using f2)
     exact⟨o,key,n,e1,e2,e3,FE r1⟩
    | succ i=>exact h2 i b p (by simpa using f1) (by simpa using f2)
theorem KL(hc:X.calm=true):CD X (.type "dict") (Mj X.K):=by
 intro pins s σ H xs us Q I r h
 obtain⟨p,as,kvs,rfl,hq,hl,hp,nd,q⟩:=h
 obtain⟨u,rfl,rx⟩:=vals1 r
 cases rx
 obtain⟨its,r',⟨⟨cls,dt,data,sl⟩,n,e1,e2,e3,e4⟩,hz⟩:=I.list hq
 simp only at e2 e3 e4
 subst e2 e3 e4
 have hlen:=r'.length
 rw [List.length_map] at hlen hz
 obtain⟨ws,k1,k2⟩:=LB (P:=X.prog) (w:=X.w) (h:=s.heap) hl fun i a q f1 f2=>by
  obtain⟨its,r,t,_⟩:=I.tuple (hp i a q f1 f2)
  exact⟨its,r,t⟩
 have kl:=Paired.length k1
 refine Od (knd:=Aw X.prog X.w) (I.ok.hd hc) e1 ws (by rw [List.size_toArray]; omega) (by rw [← KV.keys k1]; exact nd) (by rw [List.size_toArray]; omega) (fun i v q f1 f2=>?_) fun h' tk hD hk=>?_
 ·have hv:its[i]?=some v:=by simpa using f1
  have hi:i<as.length:=by rw [hlen]; exact(List.getElem?_eq_some_iff.mp hv).1
  obtain⟨u,g1,g2⟩:=r'.get (i:=i) (x:=.ref as[i]) (by rw [List.getElem?_map,List.getElem?_eq_getElem hi]; rfl)
  rw [hv] at g1
  cases g1
  obtain⟨o,key,c,a1,a2,a3,a4⟩:=k2 i as[i] q (List.getElem?_eq_getElem hi) f2
  exact⟨as[i],o,key,c,g2,a1,a2,a3,a4⟩
 ·exact⟨.ref s.heap.objs.size,_,I.laid (t':=tk) (o:=.dK kvs) hk (Nat.le_refl _) (KG (by omega) (beq_eq_false_iff_ne.mpr (Ne.symm (Nat.ne_of_lt I.big))) k1 hD),rfl,q _ (I.hok.fresh (Nat.le_refl _))⟩
end
end L2
namespace Dp
open PySem PySem.Spec PyProof.Rows L2
def Ld:List D->Option (List Key×List D)
 | []=>some ([],[])
 | .tup [k,v]::r=>match keyOf k,Ld r with
  | some key,some p=>some (key::p.1,v::p.2)
  | _,_=>none
 | _=>none
def NV(ds:List D)(P:D->Prop):Prop:=∃xs ks vs,ds=[.lst xs]/\Ld xs=some (ks,vs)/\ks.Nodup/\P (.dic ks vs)
theorem Mu{K:Frag}{M:Addr->Prop}{H:Hp}:∀{xs:List D} {us:List V} {ks:List Key} {vs:List D},Ld xs=some (ks,vs)->Ats K M H xs us->∃(as:List Addr) (ws:List V),us=as.map V.ref/\ks.length=vs.length/\as.length=ks.length/\Ats K M H vs ws/\∀(i:Nat) (a:Addr) (q:Key×V),as[i]?=some a->(ks.zip ws)[i]?=some q->SqT K H a [kV q.1,q.2]
 | [],us,ks,vs,e,h=>by
  cases (show some (([],[]):List Key×List D)=some (ks,vs) from e)
  exact⟨[],[],h,rfl,rfl,rfl,fun i a q e=>by simp at e⟩
 | d::xs,us,ks,vs,e,h=>by
  obtain⟨u,r,rfl,h1,h2⟩:=h
  unfold Ld at e
  split at e
  ·cases ‹d::xs=[]›
  ·rename_i k v r' heq
   cases heq
   split at e
   ·rename_i key p e1 e2
    cases e
    obtain⟨as,ws,g1,g2,g3,g4,g5⟩:=Mu (ks:=p.1) (vs:=p.2) e2 h2
    obtain⟨a,vs2,rfl,hn,hs⟩:=h1
    obtain⟨x1,r1,rfl,t1,x2,r2,rfl,t2,t3⟩:=hs
    cases (show r2=[] from t3)
    have ek:x1=kV key:=Cs (K:=K) (M:=M) (H:=H) (U:=fun _=>False) e1 (by
     cases k with
     | int i=>exact t1
     | str z=>exact t1
     | _=>cases e1)
    refine⟨a::as,x2::ws,by rw [g1]; rfl,by rw [List.length_cons,List.length_cons,g2],by rw [List.length_cons,List.length_cons,g3],⟨x2,ws,rfl,t2,g4⟩,fun i b q f1 f2=>?_⟩
    cases i with
    | zero =>
     cases (show a=b by simpa using f1)
     cases (show (key,x2)=q by simpa using f2)
     rw [ek] at hn
     exact hn.sq
    | succ i=>exact g5 i b q (by simpa using f1) (by simpa using f2)
   ·cases e
  ·cases e
theorem Oi{K:Frag}:C3 K .fr (Mj K) NV:=by
 intro U M H ds vs P Q dom vM hp w q
 obtain⟨xs,ks,es,rfl,e,nd,w⟩:=w
 obtain⟨v,rfl,hx⟩:=Cz hp
 obtain⟨a,us,rfl,_,ha,hs⟩:=hx
 obtain⟨as,ws,rfl,g2,g3,g4,g5⟩:=Mu e hs
 have hl:=g4.length
 have hzip:(ks.zip ws).map (·.1)=ks:=by rw [List.map_fst_zip (by omega)]
 refine⟨a,as,ks.zip ws,rfl,.inl ha,by rw [List.length_zip]; omega,g5,by rw [hzip]; exact nd,fun l hl0=>?_⟩
 refine q _ _ (.dic ks es) (Av hl0) ⟨l,rfl,hl0,ws,AX,g2,g4.pres ?_⟩ w
 exact⟨fun b o eb nb=>by rw [AO (fun z=>by rw [z,hl0] at eb; cases eb)]; exact eb,fun b z=>z.elim .inl fun z=>.inr (by rw [z]; exact hl0)⟩
end Dp
namespace Nt
open PySem PySem.Spec PyProof.Rows L2 Dp
def KA:D->Bool
 | .int i=>decide (0<=i)
 | _=>false
def Qw(N:Net):D->Bool
 | .tup xs=>((xs.length:Int)==(N.ps.length:Int))&&xs.all KA
 | _=>false
def Se:D->Int
 | .int i=>i
 | _=>0
def EB(N:Net)(xs:List D)(a:Str):Int:=Se ((BJ (N.ps.map .inr) xs (.inr a)).getD .non)
def G4(i:Int):Int:=if i<0 then -i else i
def HI(N:Net):D->Bool
 | .tup xs=>Qw N (.tup xs)&&N.ts.all fun t=>decide (G4 (EB N xs t.a - EB N xs t.b)<=t.len)
 | _=>false
def Ce(m:Int):Option Int->Int
 | some d=>if d<m then d else m
 | none=>m
def En:W2:=fun ss n P=>∃(N:Net) (d:D),ss=[.sh (enc N),.sh d]/\okN N/\P (.bl (Qw N d)) n
def Nu:W2:=fun ss n P=>∃(N:Net) (xs:List D) (a b:Str),ss=[.sh (enc N),.sh (.tup xs),.sh (.str a),.sh (.str b)]/\okN N/\xs.length=N.ps.length/\(∀x∈xs,KA x=true)/\a∈N.ps/\b∈N.ps/\P (.int (G4 (EB N xs a - EB N xs b))) n
def FJ:W2:=fun ss n P=>∃(N:Net) (d:D),ss=[.sh (enc N),.sh d]/\okN N/\P (.bl (HI N d)) n
def Ga:W2:=fun ss n P=>∃(N:Net) (d:D),ss=[.sh (enc N),.sh d]/\okN N/\fine (10 ^ 44) d/\P (.bl (HI N d)) n
def E9:W2:=fun ss n P=>∃(N:Net) (s:Str) (m:Int),ss=[.sh (enc N),.sh (.str s),.sh (.int m)]/\okN N/\s∈N.ps/\∀F:Ij,Told N s F->P (.tup (N.ps.map fun x=>.int (Ce m ((F x).map (·.1))))) n
def Dv:W2:=fun ss n P=>∃(N:Net) (d:D),ss=[.sh (enc N),.sh d]/\okN N/\fine (10 ^ 44) d/\CQ d<=50/\Bt d<=150000/\P (.bl true) n
def GZ:W2:=fun ss n P=>ss=[.fd]/\100<=n/\∀(N:Net) (n':Nat) (s:Str) (r:List Str),okN N->N.ps=s::r->(∀x∈N.ps,∃d,Wk N s x d)->n - 100<=n'->P (enc N) n'
def D7:Ak:=(Ba (Ge (AY Do (AF (AN (Cj EG (AD (AT CK (AC 0) (wC (D.int 0))) AQ))) (AF (AN (AC 1)) AZ))) (Cj OW (AD (CO [none] (Bi (AC 1)) (Ai 0) CZ (Ge (AY GY (AF (AN (AC 0)) AZ)) (AT (f2 fun i j=>D.bl (decide (j<=i))) (AC 0) (wC (D.int 0))))) AQ))))
def Ek:Ak:=(Ba (Cj QU (AD (AT C1 (AT CK (AC 1) (Pe (AT CK (AC 0) (wC (D.int 0))) (AD (AC 2) AQ))) (AT CK (AC 1) (Pe (AT CK (AC 0) (wC (D.int 0))) (AD (AC 3) AQ)))) AQ)))
def GS:Ak:=(Aa (B9 (G7 (Al (AY En (AF (AN (AC 0)) (AF (AN (AC 1)) AZ))))) (Ba (wC (D.bl false))) BO)
 (Ba (Cj OW (AD (CO [some 0,some 1,none,none,none] (Bi (AT CK (AC 0) (wC (D.int 1)))) (G3 3 (A8 (Ai 2) (A8 (Ai 3) (A8 (Ai 4) D6)))) CZ (AT MD (AY Nu (AF (AN (AC 0)) (AF (AN (AC 1)) (AF (AN (AC 2)) (AF (AN (AC 3)) AZ))))) (AC 4))) AQ))))
def Dk:Ak:=(Aa (Az 3 (AY Gb (AF (AN (AC 0)) (AF (AN (AC 1)) AZ))))
 (Ba (Cj B0 (AD (CO [some 2,some 3,none] (Bi (AT CK (AC 0) (wC (D.int 0)))) (Ai 2) CZ (SD (Al (AT (JT false) (AC 2) (AC 1))) (Cj K7 (AD (AC 0) (AD (AT CK (AT Bw (AC 1) (AC 2)) (wC (D.int 0))) AQ))) (AC 0))) AQ))))
def DQ:Ak:=(Aa (B9 (Im (G7 (Al (Gd "tuple" (AC 1)))) (Al (AT (G0 true) (Cj EG (AD (AC 1) AQ)) (Cj EG (AD (AT CK (AC 0) (wC (D.int 0))) AQ))))) (Ba (wC (D.bl false))) BO)
 (Aa (B9 (Al (AT (QT false) (wC (D.bl false)) (CO [none] (Bi (AC 1)) (Ai 0) CZ (AY Eo (AF (AN (AC 0)) (AF (AN (wC (D.int 0))) (AF (AN (AT (II Ep fun i j=>D.int (i ^ j.toNat)) (wC (D.int 10)) (wC (D.int 45)))) AZ))))))) (Ba (wC (D.bl false))) BO)
 (Aa (Az 2 (Cj NV (AD (CO [some 1,some 0,none] (DM (AD (Cj EG (AD (AC 1) AQ)) AQ)) (Ai 2) CZ (CF (AD (AT CK (AT CK (AC 1) (wC (D.int 0))) (AC 2)) (AD (AT CK (AC 0) (AC 2)) AQ)))) AQ)))
 (Aa (Er (Bi (AT CK (AC 0) (wC (D.int 1)))) (G3 3 (A8 (Ai 3) (A8 (Ai 4) (A8 (Ai 5) D6)))) (B9 (Im (Al (AT (f2 fun i j=>D.bl (decide (j<i))) (AT C1 (AT Bw (AC 2) (AC 3)) (AT Bw (AC 2) (AC 4))) (AC 5))) (Al (AT (f2 fun i j=>D.bl (decide (j<i))) (AT C1 (AT Bw (AC 2) (AC 4)) (AT Bw (AC 2) (AC 3))) (AC 5)))) (Ba (wC (D.bl false))) BO))
 (Ba (wC (D.bl true)))))))
def D_:Ak:=(Aa (Az 2 (Cj GE (AD (CF (AD (AC 0) (AD (AC 1) AQ))) AQ)))
 (Aa (Az 3 (AY FJ (AF (AN (AC 0)) (AF (AN (AC 1)) AZ))))
 (Ba (Ge (Gd "bool" (AC 3)) (Ge (AT (G0 false) (AC 3) (AY Ga (AF (AN (AC 0)) (AF (AN (AC 1)) AZ)))) (AT (G0 false) (Cj GE (AD (CF (AD (AC 0) (AD (AC 1) AQ))) AQ)) (AC 2)))))))
def HU:Ak:=(Aa (B9 (Al (AT (G0 false) (AY Ax (AF (Ap 1) (AF (AN (wC (D.int 8))) AZ))) (wC (D.int 0)))) (Aa (Az 2 (AY GZ (AF (Ap 1) AZ)))
 (Aa (Az 3 (AY DB (AF (FX (AT CK (AC 2) (wC (D.int 1)))) (AF (AN (AT CK (AT CK (AC 2) (wC (D.int 0))) (wC (D.int 0)))) AZ))))
 (Aa (Az 4 (AY E9 (AF (AN (AC 2)) (AF (AN (AT CK (AT CK (AC 2) (wC (D.int 0))) (wC (D.int 0)))) (AF (AN (AT (II Ep fun i j=>D.int (i ^ j.toNat)) (wC (D.int 10)) (wC (D.int 15)))) AZ)))))
 (Ba (Ge (AT (G0 false) (Cj GE (AD (AC 4) AQ)) (Cj GE (AD (Cj B0 (AD (CO [some 3,none] (Bi (AT CK (AC 2) (wC (D.int 0)))) (Ai 1) CZ (AT Bw (AC 0) (AC 1))) AQ)) AQ))) (AT (OV false) (AY FJ (AF (AN (AC 2)) (AF (AN (AC 4)) AZ))) (wC (D.bl true)))))))) BO)
 (Aa (Az 2 (AY Nq (AF (Ap 1) (AF (AN (wC (D.int 8))) (AF (AN (wC (D.int 14))) AZ)))))
 (Aa (Er (Bi (AT CK (AC 2) (wC (D.int 0)))) (Ai 5) (Aa (Az 3 (AY DB (AF (FX (AT CK (AC 2) (wC (D.int 1)))) (AF (AN (AC 5)) AZ))))
 (Aa (Az 6 (AT CK (C9 (AD (wC (D.int 0)) (AD (AY Ax (AF (Ap 1) (AF (AN (wC (D.int 40))) AZ))) (AD (AT (II Ep fun i j=>D.int (i ^ j.toNat)) (wC (D.int 10)) (wC (D.int 6))) (AD (AT (II Ep fun i j=>D.int (i ^ j.toNat)) (wC (D.int 10)) (wC (D.int 15))) (AD (AY Ax (AF (Ap 1) (AF (AN (AT HJ (wC (D.int 3)) (AT (II Ep fun i j=>D.int (i ^ j.toNat)) (wC (D.int 10)) (wC (D.int 6))))) AZ))) AQ)))))) (AY Ax (AF (Ap 1) (AF (AN (wC (D.int 5))) AZ)))))
 (Aa (Az 4 (AY E9 (AF (AN (AC 2)) (AF (AN (AC 5)) (AF (AN (AC 6)) AZ)))))
 (Aa (Az 7 (Cj B0 (AD (CO [some 6,some 3,none] (Bi (AT CK (AC 2) (wC (D.int 0)))) (Ai 2) CZ (Cj K7 (AD (AC 0) (AD (Io (AC 1) (AC 2) (AC 0)) AQ)))) AQ)))
 (Aa (B9 (Im (Al (AT (G0 true) (Cj GE (AD (AC 4) AQ)) (Cj GE (AD (AC 7) AQ)))) (Al (AT (OV true) (AY FJ (AF (AN (AC 2)) (AF (AN (AC 4)) AZ))) (wC (D.bl true))))) (Ba (wC (D.bl false))) BO)
 (Aa (Az 8 (AY Ax (AF (Ap 1) (AF (AN (Cj EG (AD (AC 7) AQ))) AZ))))
 (Aa (Az 9 (C9 (AD (AT C1 (AT C1 (wC (D.int 0)) (AT CK (AC 7) (AC 8))) (wC (D.int 1))) (AD (AT Ae (AT CK (AC 7) (AC 8)) (wC (D.int 1))) (AD (AT C1 (AT CK (AC 7) (AC 8)) (wC (D.int 1))) (AD (AT (G0 false) (AT CK (AC 7) (AC 8)) (wC (D.int 1))) (AD (AT Ae (AT CK (AC 7) (AC 8)) (AT (II Ep fun i j=>D.int (i ^ j.toNat)) (wC (D.int 10)) (wC (D.int 6)))) (AD (wC D.non) AQ))))))))
 (Aa (Az 10 (AT Ae (AT Ae (G6 C5 (AC 7) BK (Bb (AC 8))) (CF (AD (AT CK (AC 9) (AY Ax (AF (Ap 1) (AF (AN (wC (D.int 6))) AZ)))) AQ))) (G6 C5 (AC 7) (Bb (AT Ae (AC 8) (wC (D.int 1)))) BK)))
 (Aa (Az 11 (Cj B0 (AD (CO [some 1,none] (Bi (AT CK (AC 2) (wC (D.int 0)))) (Ai 1) CZ (AY Ax (AF (Ap 0) (AF (AN (wC (D.int 9))) AZ)))) AQ)))
 (Aa (Az 12 (Cj B0 (AD (CO [none] (Bi (AC 7)) (Ai 0) CZ (AT Ae (AC 0) (AT (II Ep fun i j=>D.int (i ^ j.toNat)) (wC (D.int 10)) (wC (D.int 30))))) AQ)))
 (Aa (Az 13 (C9 (AD (Cj IG (AD (AC 7) AQ)) (AD (AT Ae (AC 7) (G6 C5 (AC 7) BK (Bb (wC (D.int 1))))) (AD (G6 C5 (AC 7) (Bb (wC (D.int 1))) BK) (AD (AY (EI 1) (AF (Ap 1) (AF (AN (AC 7)) (AF (AN (wC (D.int 1))) AZ)))) AQ))))))
 (Er (Bi (AT Ae (C9 (AD (AC 10) (AD (AC 11) (AD (AC 12) AQ)))) (AC 13))) (Ai 14) (B9 (G7 (Al (AY Dv (AF (AN (AC 2)) (AF (AN (AC 14)) AZ))))) (Ba (wC (D.bl false))) BO))))))))))))))
 (Aa (Er (Bi (C9 (AD (wC D.non) (AD (wC (D.bl true)) (AD (wC (D.int 0)) (AD (CF AQ) (AD (C9 AQ) (AD (wC (D.str "")) (AD (CF (AD (wC (D.int 0)) AQ)) (AD (CF (AD (wC (D.bl true)) AQ)) (AD (CF (AD (N3 (wC (D.int 1))) AQ)) (AD (CF (AD (wC (D.str "")) AQ)) (AD (AC 2) AQ))))))))))))) (Ai 15) (B9 (G7 (Al (AY Dv (AF (AN (AC 2)) (AF (AN (AC 15)) AZ))))) (Ba (wC (D.bl false))) BO))
 (Ba (wC (D.bl true)))))))
theorem KR:∀{ks:List Key} {ds:List D} {k:Key} {z:D},BJ ks ds k=some z->z∈ds
 | [],_,k,z,h=>by cases h
 | _::_,[],k,z,h=>by cases h
 | k0::ks,d::ds,k,z,h=>by
  have h':(if k0=k then some d else BJ ks ds k)=some z:=h
  split at h'
  ·cases h'; exact List.mem_cons_self
  ·exact List.mem_cons_of_mem _ (KR h')
theorem MS:∀{ps:List Str} {xs:List D} {j:Nat} {a:Str},ps.Nodup->ps[j]?=some a->BJ (ps.map .inr) xs (.inr a)=xs[j]?
 | [],xs,j,a,_,h=>by simp at h
 | p::ps,[],j,a,_,h=>by simp; rfl
 | p::ps,x::xs,j,a,nd,h=>by
  rw [List.nodup_cons] at nd
  show (if (Sum.inr p:Key)=.inr a then some x else BJ (ps.map .inr) xs (.inr a))=_
  cases j with
  | zero =>
   cases (show p=a by simpa using h)
   rw [if_pos rfl]
   rfl
  | succ j =>
   have h:ps[j]?=some a:=by simpa using h
   rw [if_neg fun z=>nd.1 (by rw [Sum.inr.inj z]; exact List.mem_of_getElem? h),MS nd.2 h]
   simp
theorem ge_int{d:D}(h:KA d=true):∃i,d=.int i/\0<=i:=by
 cases d with
 | int i=>exact⟨i,rfl,of_decide_eq_true h⟩
 | _=>cases h
theorem Kc{ps:List Str}(h:rising ps):ps.Nodup:=List.Pairwise.imp (fun {a b} z e=>by rw [e] at z; exact MH _ z) h
theorem Ph{N:Net}{xs:List D}(hl:xs.length=N.ps.length)(hg:∀x∈xs,KA x=true){a:Str}(ha:a∈N.ps):BJ (N.ps.map .inr) xs (.inr a)=some (.int (EB N xs a)):=by
 obtain⟨z,hz⟩:=Es (ks:=N.ps.map .inr) (ds:=xs) (k:=.inr a) (by rw [List.length_map]; exact hl.symm) (List.mem_map.mpr ⟨a,ha,rfl⟩)
 obtain⟨i,rfl,_⟩:=ge_int (hg z (KR hz))
 unfold EB
 rw [hz]
 rfl
section
variable {ss:List Slot}{n:Nat}{Pd:D->Nat->Prop}
theorem Fh(h:En ss n Pd):D7 (EE Pd) n (ss++List.replicate 0 .no):=by
 obtain⟨N,d,rfl,okn,p⟩:=h
 have l25:=okn.2.1
 unfold D7
 refine⟨_,AV (j:=0) rfl,_,_,rfl,rfl,_,d,rfl,?_⟩
 cases d with
 | tup xs =>
  have p':Pd (.bl (((xs.length:Int)==(N.ps.length:Int))&&xs.all KA)) n:=p
  rw [List.length_map]
  refine Nj (b1:=((xs.length:Int)==(N.ps.length:Int))) (fun hb p2=>?_) p'
  have hl:xs.length=N.ps.length:=by have:=beq_iff_eq.mp hb; omega
  refine⟨by show xs.length<=10000000; omega,?_⟩
  refine BZ (fun d=>.bl (KA d)) (fun ρ=>∃s,ρ=[s]) _ _ _ _ ?_ ⟨_,rfl⟩ ?_
  ·rintro d hd ρ m nx ⟨s,rfl⟩ hnx
   refine⟨[d],rfl,rfl,?_⟩
   cases d with
   | int i=>exact hnx _ ⟨_,rfl⟩
   | _=>exact hnx _ ⟨_,rfl⟩
  ·rw [List.nil_append]
   exact JV (p:=KA) (P:=fun z=>Pd z n) p2
 | _=>exact p
theorem Gk(h:Nu ss n Pd):Ek (EE Pd) n (ss++List.replicate 0 .no):=by
 obtain⟨N,xs,a,b,rfl,okn,hl,hg,ha,hb,p⟩:=h
 have nd:=Kc okn.1.rise
 have hlay:DD (.tup (N.ps.map .str)):=L1 okn.1.names
 have idx:∀{a:Str},a∈N.ps->∃j:Nat,N.ps[j]?=some a/\xs[j]?=some (.int (EB N xs a))/\DD (.str a)/\(∃x,(N.ps.map D.str)[j]?=some x/\K_ x (.str a)=true)/\∀(m:Nat) (x:D),m<j->(N.ps.map D.str)[m]?=some x->K_ x (.str a)=false:=fun {a} ha=>by
  obtain⟨j,hj⟩:=List.mem_iff_getElem?.mp ha
  refine⟨j,hj,by rw [← MS nd hj,Ph hl hg ha],?_,⟨.str a,by rw [List.getElem?_map,hj]; rfl,by rw [K9,beq_self_eq_true]⟩,fun m x hm hx=>?_⟩
  ·exact E3 (B:=0) (by decide) (fun c hc=>by have:=(okn.1.names a ha).2.2 c hc; omega) (Nat.zero_le _)
  ·rw [List.getElem?_map] at hx
   obtain⟨y,hy,rfl⟩:=Option.map_eq_some_iff.mp hx
   rw [K9,beq_eq_false_iff_ne]
   intro e
   subst e
   obtain⟨h1,e1⟩:=List.getElem?_eq_some_iff.mp hy
   obtain⟨h2,e2⟩:=List.getElem?_eq_some_iff.mp hj
   have:=(List.getElem_inj nd).mp (e1.trans e2.symm)
   omega
 obtain⟨i,i1,i2,i3,i4,i5⟩:=idx ha
 obtain⟨j,j1,j2,j3,j4,j5⟩:=idx hb
 unfold Ek
 exact⟨_,AV (j:=0) rfl,⟨_,rfl⟩,_,_,i,rfl,rfl,hlay,i3,i4,i5,_,AV i2,_,AV (j:=0) rfl,⟨_,rfl⟩,_,_,j,rfl,rfl,hlay,j3,j4,j5,_,AV j2,p⟩
theorem JC(h:FJ ss n Pd):GS (EE Pd) n (ss++List.replicate 0 .no):=by
 obtain⟨N,d,rfl,okn,p⟩:=h
 have ok:=okn.1
 have l60:=okn.2.2
 unfold GS
 refine⟨N,d,rfl,okn,?_⟩
 show if (!(Qw N d))=true then _ else _
 cases hp:Qw N d with
 | false =>
  have:HI N d=false:=by
   cases d with
   | tup xs=>show (Qw N (.tup xs)&&_)=false; rw [hp]; rfl
   | _=>rfl
  rw [this] at p
  exact Fz p
 | true =>
  cases d with
  | tup xs =>
   have hp':(((xs.length:Int)==(N.ps.length:Int))&&xs.all KA)=true:=hp
   rw [Bool.and_eq_true] at hp'
   have hl:xs.length=N.ps.length:=by have:=beq_iff_eq.mp hp'.1; omega
   have hg:∀x∈xs,KA x=true:=List.all_eq_true.mp hp'.2
   have p':Pd (.bl (Qw N (.tup xs)&&N.ts.all fun t=>decide (G4 (EB N xs t.a - EB N xs t.b)<=t.len))) n:=p
   rw [hp,Bool.true_and] at p'
   refine Gz ⟨_,AV (j:=1) rfl,by show (N.ts.map Ea).length<=10000000; rw [List.length_map]; omega,?_⟩
   refine BZ (fun d=>match d with | .tup [.str a,.str b,.int l]=>.bl (decide (G4 (EB N xs a - EB N xs b)<=l)) | _=>.non) (fun ρ=>∃s2 s3 s4,ρ=[.sh (enc N),.sh (.tup xs),s2,s3,s4]) _ _ _ _ ?_ ⟨_,_,_,rfl⟩ ?_
   ·rintro d hd ρ m nx ⟨s2,s3,s4,rfl⟩ hnx
    obtain⟨t,ht,rfl⟩:=List.mem_map.mp hd
    obtain⟨m1,m2,_⟩:=ok.tin t ht
    exact⟨rfl,rfl,N,xs,t.a,t.b,rfl,okn,hl,hg,m1,m2,hnx _ ⟨_,_,_,rfl⟩⟩
   ·rw [List.nil_append,List.map_map]
    exact JV (p:=fun t:Ig=>decide (G4 (EB N xs t.a - EB N xs t.b)<=t.len)) (P:=fun z=>Pd z n) p'
  | _=>cases hp
theorem FL(h:E9 ss n Pd):Dk (EE Pd) n (ss++List.replicate 1 .no):=by
 obtain⟨N,s,m,rfl,okn,hs,p⟩:=h
 have l25:=okn.2.1
 unfold Dk
 refine⟨N,s,rfl,okn,hs,fun ks ds F M T=>?_⟩
 refine⟨_,AV (j:=0) rfl,by show (N.ps.map D.str).length<=10000000; rw [List.length_map]; omega,?_⟩
 refine BZ (fun d=>match d with | .str x=>.int (Ce m ((F x).map (·.1))) | _=>.non) (fun ρ=>∃s2,ρ=[.sh (.int m),.sh (.dic ks ds),s2]) _ _ _ _ ?_ ⟨_,rfl⟩ ?_
 ·rintro d hd ρ m' nx ⟨s2,rfl⟩ hnx
  obtain⟨x,hx,rfl⟩:=List.mem_map.mp hd
  refine⟨ks,ds,_,rfl,A7 x,?_⟩
  show if ((BJ ks ds (.inr x)).isSome)=true then _ else _
  have hnx:nx (.int (Ce m ((F x).map (·.1)))) m' [.sh (.int m),.sh (.dic ks ds),.sh (.str x)]:=hnx _ ⟨.sh (.str x),rfl⟩
  rw [M.at_]
  cases ex:F x with
  | none =>
   rw [ex] at hnx
   exact Gz hnx
  | some q =>
   rw [ex] at hnx
   exact Fz ⟨ks,ds,_,GH q,rfl,A7 x,by rw [M.at_,ex]; rfl,_,AV (j:=0) rfl,hnx⟩
 ·rw [List.nil_append,List.map_map]
  exact p F T
theorem Kk:∀{ps:List Str} {xs:List D},ps.length=xs.length->Ld (List.zipWith (fun p x=>D.tup [.str p,x]) ps xs)=some (ps.map .inr,xs)
 | [],[],_=>rfl
 | p::ps,x::xs,h=>by
  have ih:=Kk (ps:=ps) (xs:=xs) (by simpa using h)
  show (match keyOf (.str p),Ld (List.zipWith (fun p x=>D.tup [.str p,x]) ps xs) with | some key,some q=>some (key::q.1,x::q.2) | _,_=>none)=_
  rw [ih]
  rfl
theorem Qh{i l:Int}:decide (G4 i<=l)=(!(decide (l<i))&&!(decide (l < -i))):=by
 rw [Bool.eq_iff_iff,Bool.and_eq_true,Bool.not_eq_true',Bool.not_eq_true',decide_eq_false_iff_not,decide_eq_false_iff_not,decide_eq_true_eq]
 unfold G4
 split <;> omega
theorem Hn(h:Ga ss n Pd):DQ (EE Pd) n (ss++List.replicate 4 .no):=by
 obtain⟨N,d,rfl,okn,hf,p⟩:=h
 have ok:=okn.1
 have l60:=okn.2.2
 have l25:=okn.2.1
 unfold DQ
 cases d with
 | tup xs =>
  refine⟨_,_,rfl,rfl,_,AV (j:=0) rfl,_,_,rfl,rfl,?_⟩
  rw [List.length_map]
  show if (!((xs.length:Int)==(N.ps.length:Int)))=true then _ else _
  have p':Pd (.bl ((((xs.length:Int)==(N.ps.length:Int))&&xs.all KA)&&N.ts.all fun t=>decide (G4 (EB N xs t.a - EB N xs t.b)<=t.len))) n:=p
  cases hb:((xs.length:Int)==(N.ps.length:Int)) with
  | false =>
   rw [hb] at p'
   exact Fz p'
  | true =>
   rw [hb,Bool.true_and] at p'
   have hl:xs.length=N.ps.length:=by have:=beq_iff_eq.mp hb; omega
   refine Gz ⟨by show xs.length<=10000000; omega,?_⟩
   refine BZ (fun d=>.bl (KA d)) (fun ρ=>∃s,ρ=[s]) _ _ _ _ ?_ ⟨_,rfl⟩ ?_
   ·rintro d hd ρ m nx ⟨s,rfl⟩ hnx
    refine⟨⟨by decide,by decide,by decide⟩,d,0,_,rfl,?_⟩
    have e:Ku 0 ((10:Int) ^ (45:Int).toNat) d=KA d:=by
     cases d with
     | int i =>
      have hi:i.natAbs<=10 ^ 44:=fines_iff.mp hf _ hd
      have:(10:Int) ^ (45:Int).toNat=10 ^ 45:=rfl
      show (decide (0<=i)&&decide (i<=(10:Int) ^ (45:Int).toNat))=decide (0<=i)
      rw [this,decide_eq_true (by omega:i<=10 ^ 45),Bool.and_true]
     | _=>rfl
    rw [e]
    exact hnx _ ⟨_,rfl⟩
   ·rw [List.nil_append]
    refine NQ (p:=KA) (neg:=false) ?_
    rw [if_neg Bool.false_ne_true]
    cases hg:xs.all KA with
    | false =>
     rw [hg] at p'
     exact p'
    | true =>
     rw [hg,Bool.true_and] at p'
     have hg:=List.all_eq_true.mp hg
     refine⟨_,_,rfl,rfl,_,rfl,⟨by omega,by omega⟩,by rw [Bv]; omega,?_⟩
     refine BZ (fun d=>match d with | .int i=>.tup [(atI (N.ps.map D.str) i).getD .non,(atI xs i).getD .non] | _=>.non) (fun ρ=>∃s,ρ=[.sh (.tup xs),.sh (enc N),s]) _ _ _ _ ?_ ⟨_,rfl⟩ ?_
     ·rintro d hd ρ m nx ⟨s,rfl⟩ hnx
      obtain⟨k,hk,rfl⟩:=Fe hd
      have hk:k<xs.length:=by omega
      have e1:atI (N.ps.map D.str) (0+(k:Int))=some (.str (N.ps.getD k "")):=by
       rw [show (0+(k:Int))=((k:Nat):Int) by omega]
       exact AV (by rw [List.getElem?_map,getD_at (by omega)]; rfl)
      have e2:atI xs (0+(k:Int))=some xs[k]:=by
       rw [show (0+(k:Int))=((k:Nat):Int) by omega]
       exact AV (List.getElem?_eq_getElem hk)
      have hnx:nx (.tup [(atI (N.ps.map D.str) (0+(k:Int))).getD .non,(atI xs (0+(k:Int))).getD .non]) m [.sh (.tup xs),.sh (enc N),.sh (.int (0+(k:Int)))]:=hnx _ ⟨.sh (.int (0+(k:Int))),rfl⟩
      rw [e1,e2] at hnx
      exact⟨_,AV (j:=0) rfl,_,e1,_,e2,z2,hnx⟩
     ·have ez:(CB 0 ((xs.length:Int)).toNat).map (fun d=>match d with | .int i=>D.tup [(atI (N.ps.map D.str) i).getD .non,(atI xs i).getD .non] | _=>.non)=List.zipWith (fun p x=>D.tup [.str p,x]) N.ps xs:=by
       refine List.ext_getElem? fun k=>?_
       unfold CB
       rw [List.map_map,List.getElem?_map,List.getElem?_zipWith]
       by_cases hk:k<xs.length
       ·rw [List.getElem?_range (by omega),List.getElem?_eq_getElem hk,getD_at (show k<N.ps.length by omega)]
        show some (D.tup [(atI (N.ps.map D.str) (0+(k:Int))).getD .non,(atI xs (0+(k:Int))).getD .non])=some (D.tup [.str (N.ps.getD k ""),xs[k]])
        rw [show (0+(k:Int))=((k:Nat):Int) by omega,AV (v:=D.str (N.ps.getD k "")) (by rw [List.getElem?_map,getD_at (by omega)]; rfl),AV (List.getElem?_eq_getElem hk)]
        rfl
       ·rw [List.getElem?_eq_none (by rw [List.length_range]; omega),List.getElem?_eq_none (by omega:N.ps.length<=k)]
        rfl
      rw [List.nil_append,ez]
      refine⟨_,_,_,rfl,Kk hl.symm,?_,?_⟩
      ·exact List.pairwise_map.mpr ((Kc ok.rise).imp fun h e=>h (Sum.inr.inj e))
      ·refine⟨.tup (N.ts.map Ea),AV (j:=1) rfl,?_⟩
       have go:∀(rest done:List Ig) (s3 s4 s5:Slot),done++rest=N.ts->Pd (.bl (rest.all fun t=>decide (G4 (EB N xs t.a - EB N xs t.b)<=t.len))) n ->
         Bl (G3 3 (A8 (Ai 3) (A8 (Ai 4) (A8 (Ai 5) D6)))) (B9 (Im (Al (AT (f2 fun i j=>D.bl (decide (j<i))) (AT C1 (AT Bw (AC 2) (AC 3)) (AT Bw (AC 2) (AC 4))) (AC 5))) (Al (AT (f2 fun i j=>D.bl (decide (j<i))) (AT C1 (AT Bw (AC 2) (AC 4)) (AT Bw (AC 2) (AC 3))) (AC 5)))) (Ba (wC (D.bl false))) BO) { EE Pd with nx:=Ba (wC (D.bl true)) (EE Pd) } (rest.map Ea) n [.sh (enc N),.sh (.tup xs),.sh (.dic (N.ps.map .inr) xs),s3,s4,s5]:=by
        intro rest
        induction rest with
        | nil=>intro done s3 s4 s5 _ h; exact h
        | cons t rest ih =>
         intro done s3 s4 s5 e h
         have ht:t∈N.ts:=by rw [← e]; exact List.mem_append_right _ List.mem_cons_self
         obtain⟨m1,m2,_⟩:=ok.tin t ht
         have v1:=Ph hl hg m1
         have v2:=Ph hl hg m2
         rw [List.all_cons,Qh] at h
         refine⟨rfl,rfl,_,_,_,_,rfl,rfl,v1,_,_,_,_,rfl,rfl,v2,?_⟩
         show if decide (t.len<EB N xs t.a - EB N xs t.b)=true then _ else _
         cases c1:decide (t.len<EB N xs t.a - EB N xs t.b) with
         | true =>
          rw [c1] at h
          exact Fz h
         | false =>
          refine Gz ⟨_,_,_,_,rfl,rfl,v2,_,_,_,_,rfl,rfl,v1,?_⟩
          show if decide (t.len<EB N xs t.b - EB N xs t.a)=true then _ else _
          rw [c1,show -(EB N xs t.a - EB N xs t.b)=EB N xs t.b - EB N xs t.a by omega] at h
          cases c2:decide (t.len<EB N xs t.b - EB N xs t.a) with
          | true =>
           rw [c2] at h
           exact Fz h
          | false =>
           rw [c2] at h
           exact Gz (ih (done++[t]) _ _ _ (by rw [List.append_assoc]; exact e) h)
       exact go N.ts [] _ _ _ rfl p'
 | _=>exact p
theorem Gp(h:Dv ss n Pd):D_ (EE Pd) n (ss++List.replicate 2 .no):=by
 obtain⟨N,d,rfl,okn,hf,hd,hs,p⟩:=h
 have sh:I_ (.tup [enc N,d]):=by
  obtain⟨f1,f2,f3⟩:=MZ okn
  refine Hd (B:=10 ^ 44) (by decide) ⟨f1.mono (by decide),hf,trivial⟩ ?_ ?_
  ·show max (CQ (enc N)) (max (CQ d) 0)+1<=100
   omega
  ·show Bt (enc N)+1+(Bt d+1+0)<=200000
   omega
 unfold D_
 refine⟨z2,_,rfl,sh,N,d,rfl,okn,N,d,rfl,okn,hf,?_⟩
 show (match (.bl (HI N d==HI N d):D) with | .bl true=>_ | .bl false=>_ | _=>False)
 rw [beq_self_eq_true]
 refine⟨z2,_,rfl,sh,?_⟩
 generalize Hc (.tup [enc N,d])=X
 show Pd (.bl (X==X)) n
 rw [beq_self_eq_true]
 exact p
theorem Hm(h:GZ ss n Pd):FH (EE Pd) n (ss++List.replicate 1 .no):=by
 obtain⟨rfl,hn,p⟩:=h
 have szl:=PySem.sizeLine_eq
 unfold FH
 refine⟨24,rfl,by decide,by decide,by omega,fun xs n1 hl hx hr hn1=>?_⟩
 refine⟨23,rfl,⟨by decide,by decide⟩,by rw [Bv]; decide,?_⟩
 have go:∀(P:List D->Nat->Prop),(∀(ts:List Ix) (m:Nat),(∀t∈ts,t.j=t.i+1/\t.i<23/\1<=t.len/\t.len<=1000000)->ts.Pairwise NG->ts.length=23->(∀i,i<23->∃t∈ts,t.i=i)->n1 - 23<=m->P ((ts.map (Ix.tie xs)).map Ea) m) ->
   ∀(j k:Nat) (ts:List Ix) (m:Nat) (s2:Slot),k+j=23->(∀t∈ts,t.j=t.i+1/\t.i<k/\1<=t.len/\t.len<=1000000)->ts.Pairwise NG->ts.length=k->(∀i,i<k->∃t∈ts,t.i=i)->n1 - k<=m ->
   Dd (Ai 2) CZ (CF (AD (AT CK (AC 0) (AC 2)) (AD (AT CK (AC 0) (AT Ae (AC 2) (wC (D.int 1)))) (AD (AY Jj (AF (Ap 1) (AF (AN (wC (D.int 1))) AZ))) AQ)))) P (CB (k:Int) j) ((ts.map (Ix.tie xs)).map Ea) m [.sh (.lst (xs.map .str)),.fd,s2]:=by
  intro P hP j
  induction j with
  | zero =>
   intro k ts m s2 e h1 h2 h3 h5 h4
   have:k=23:=by omega
   subst this
   exact hP ts m h1 h2 h3 h5 h4
  | succ j ih =>
   intro k ts m s2 e h1 h2 h3 h5 h4
   rw [Md]
   have k1:k<xs.length:=by omega
   have k2:k+1<xs.length:=by omega
   refine⟨.str (xs.getD k ""),?_,.str (xs.getD (k+1) ""),?_,1,rfl,by omega,fun r r0 r1=>⟨z3,?_⟩⟩
   ·exact AV (by rw [List.getElem?_map,getD_at k1]; rfl)
   ·rw [show ((k:Int)+1)=((k+1:Nat):Int) by omega]
    exact AV (by rw [List.getElem?_map,getD_at k2]; rfl)
   have:=ih (k+1) (ts++[⟨k,k+1,r⟩]) (m - 1) (.sh (.int (k:Int))) (by omega) (fun t ht=>by
    rcases List.mem_append.mp ht with ht | ht
    ·obtain⟨a1,a2,a3⟩:=h1 t ht
     exact⟨a1,by omega,a3⟩
    ·rw [List.mem_singleton.mp ht]
     exact⟨rfl,Nat.lt_succ_self k,r0,r1⟩) (by
    rw [List.pairwise_append]
    refine⟨h2,List.pairwise_singleton _ _,fun s hs t ht=>?_⟩
    rw [List.mem_singleton.mp ht]
    exact .inl (h1 s hs).2.1) (by rw [List.length_append,List.length_singleton]; omega) (fun i hi=>by
    by_cases c:i=k
    ·exact⟨_,List.mem_append_right _ List.mem_cons_self,c.symm⟩
    ·obtain⟨t,ht,e⟩:=h5 i (by omega)
     exact⟨t,List.mem_append_left _ ht,e⟩) (by omega)
   rw [List.map_append,List.map_append,show (((k+1:Nat):Int))=(k:Int)+1 by omega] at this
   exact this
 refine go _ (fun ts m h1 h2 h3 h5 h4=>?_) 23 0 [] n1 _ rfl (fun t h=>by cases h) List.Pairwise.nil rfl (fun i hi=>by omega) (by omega)
 have okn:okN ⟨xs,ts.map (Ix.tie xs)⟩:=⟨NC hx hr (fun t ht=>by
  obtain⟨a1,a2,a3,a4⟩:=h1 t ht
  exact⟨by omega,by omega,a3,a4⟩) h2,by show xs.length<=25; omega,by show (ts.map (Ix.tie xs)).length<=60; rw [List.length_map]; omega⟩
 cases xs with
 | nil=>cases hl
 | cons s r =>
  refine⟨z2,p ⟨s::r,ts.map (Ix.tie (s::r))⟩ m s r okn rfl (fun x hx=>?_) (by omega)⟩
  have walk:∀k,k<24->∃d,Wk ⟨s::r,ts.map (Ix.tie (s::r))⟩ s ((s::r).getD k "") d:=by
   intro k
   induction k with
   | zero=>exact fun _=>⟨0,.nil⟩
   | succ k ih =>
    intro hk
    obtain⟨d,hd⟩:=ih (by omega)
    obtain⟨t,ht,e⟩:=h5 k (by omega)
    obtain⟨a1,_⟩:=h1 t ht
    have ed:=(IK (N:=⟨s::r,ts.map (Ix.tie (s::r))⟩) (t:=t.tie (s::r)) (List.mem_map.mpr ⟨t,ht,rfl⟩)).1
    have e1:(t.tie (s::r)).a=(s::r).getD k "":=by rw [← e]; rfl
    have e2:(t.tie (s::r)).b=(s::r).getD (k+1) "":=by rw [← e,← a1]; rfl
    rw [e1,e2] at ed
    exact⟨_,.snoc hd ed⟩
  obtain⟨k,hk⟩:=List.mem_iff_getElem?.mp hx
  obtain⟨h6,e⟩:=List.getElem?_eq_some_iff.mp hk
  obtain⟨d,hd⟩:=walk k (by have:k<(s::r).length:=h6; omega)
  have e3:(s::r).getD k ""=x:=by
   have:=getD_at (xs:=s::r) (i:=k) h6
   rw [show ((s::r)[k]?:Option Str)=some x from hk] at this
   exact(Option.some.inj this).symm
  rw [e3] at hd
  exact⟨d,hd⟩
end
theorem Nd{m:Int}(hm:0<=m){o:Option Int}(ho:∀d,o=some d->0<=d):0<=Ce m o/\Ce m o<=m:=by
 cases o with
 | none=>exact⟨hm,Int.le_refl _⟩
 | some d =>
  have:=ho d rfl
  show 0<=(if d<m then d else m)/\(if d<m then d else m)<=m
  split <;> omega
theorem HH{N:Net}(okn:okN N){s:Str}{F:Ij}(T:Told N s F){m:Int}(hm:0<=m):HI N (.tup (N.ps.map fun x=>.int (Ce m ((F x).map (·.1)))))=true:=by
 have pos:∀x d,(F x).map (·.1)=some d->0<=d:=fun x d e=>by
  obtain⟨q,e1,e2⟩:=Option.map_eq_some_iff.mp e
  rw [← e2]
  exact(T.least x q.1 q.2 e1).1.pos okn.1
 have up:∀{x y:Str} {l:Int},Ed N x y l->∀d,(F x).map (·.1)=some d->∃d',(F y).map (·.1)=some d'/\d'<=d+l:=fun {x y l} he d e=>by
  obtain⟨q,e1,e2⟩:=Option.map_eq_some_iff.mp e
  have hw:Wk N s y (d+l):=by rw [← e2]; exact .snoc (T.least x q.1 q.2 e1).1 he
  cases ey:F y with
  | none=>exact absurd ey (T.all y _ hw)
  | some p=>exact⟨p.1,rfl,(T.least y p.1 p.2 ey).2 _ hw⟩
 show (((((N.ps.map fun x=>D.int (Ce m ((F x).map (·.1)))).length:Int)==(N.ps.length:Int))&&(N.ps.map fun x=>D.int (Ce m ((F x).map (·.1)))).all KA)&&_)=true
 rw [Bool.and_eq_true,Bool.and_eq_true]
 refine⟨⟨by rw [List.length_map]; exact beq_self_eq_true _,List.all_eq_true.mpr fun d hd=>?_⟩,List.all_eq_true.mpr fun t ht=>?_⟩
 ·obtain⟨x,_,rfl⟩:=List.mem_map.mp hd
  exact decide_eq_true (Nd hm (pos x)).1
 ·obtain⟨m1,m2,_,l1,_⟩:=okn.1.tin t ht
  have e1:∀{a:Str},a∈N.ps->EB N (N.ps.map fun x=>D.int (Ce m ((F x).map (·.1)))) a=Ce m ((F a).map (·.1)):=fun {a} ha=>by
   unfold EB
   rw [KS,if_pos ha]
   rfl
  rw [e1 m1,e1 m2]
  obtain⟨d1,d2⟩:=IK ht
  have u1:=up d1
  have u2:=up d2
  refine decide_eq_true ?_
  cases ea:(F t.a).map (·.1) with
  | none =>
   cases eb:(F t.b).map (·.1) with
   | none=>unfold G4 Ce; split <;> omega
   | some b=>obtain⟨d',z,_⟩:=u2 b eb; rw [ea] at z; cases z
  | some a =>
   cases eb:(F t.b).map (·.1) with
   | none=>obtain⟨d',z,_⟩:=u1 a ea; rw [eb] at z; cases z
   | some b =>
    obtain⟨b',z1,h1⟩:=u1 a ea
    rw [eb] at z1; cases z1
    obtain⟨a',z2,h2⟩:=u2 b eb
    rw [ea] at z2; cases z2
    show (if (if a<m then a else m) - (if b<m then b else m)<0 then -((if a<m then a else m) - (if b<m then b else m)) else (if a<m then a else m) - (if b<m then b else m))<=t.len
    split <;> split <;> split <;> omega
theorem Ou{N:Net}{s:Str}{F:Ij}{K:Kn}(T:Told N s F)(L:LTold N s K)(x:Str):(F x).map (·.1)=K x:=(T.far x).unique (L.far x)
theorem Dq{B:Nat}:∀{xs:List D},(∀d∈xs,fine B d/\Bt d<=300/\CQ d<=1)->Di B xs/\B8 xs<=301*xs.length/\DU xs<=1
 | [],_=>⟨trivial,Nat.le_refl _,Nat.zero_le _⟩
 | d::xs,h=>by
  obtain⟨a,b,c⟩:=Dq (xs:=xs) fun e he=>h e (List.mem_cons_of_mem _ he)
  obtain⟨a1,b1,c1⟩:=h d List.mem_cons_self
  refine⟨⟨a1,a⟩,?_,?_⟩
  ·show Bt d+1+B8 xs<=301*(xs.length+1)
   omega
  ·show max (CQ d) (DU xs)<=1
   omega
theorem CM{B:Nat}(hB:B<=10 ^ 44){xs:List D}(hl:xs.length<=60)(h:∀d∈xs,fine B d/\Bt d<=300/\CQ d<=1):(fine (10 ^ 44) (.tup xs)/\CQ (.tup xs)<=50/\Bt (.tup xs)<=150000)/\(fine (10 ^ 44) (.lst xs)/\CQ (.lst xs)<=50/\Bt (.lst xs)<=150000):=by
 obtain⟨a,b,c⟩:=Dq h
 have a':Di (10 ^ 44) xs:=fines_iff.mpr fun d hd=>(fines_iff.mp a d hd).mono hB
 exact⟨⟨a',by show DU xs+1<=50; omega,by show B8 xs<=150000; omega⟩,⟨a',by show DU xs+1<=50; omega,by show B8 xs<=150000; omega⟩⟩
theorem C0{B:Nat}{i:Int}(h:i.natAbs<=B):fine B (.int i)/\Bt (.int i)<=300/\CQ (.int i)<=1:=⟨h,by show 200<=300; decide,Nat.zero_le _⟩
abbrev EL:E2:={ nx:=fun _ _=>False,rt:=fun d _=>d=.bl true }
theorem Ju:HU EL 3000 (.no::.fd::List.replicate 14 .no):=by
 have szl:=PySem.sizeLine_eq
 unfold HU
 refine⟨8,rfl,by decide,by decide,by decide,fun q q0 q1=>?_⟩
 refine Cc (fun _=>?_) fun _=>?_
 ·refine⟨rfl,by decide,fun N n1 s r okn eps hw hn1=>?_⟩
  have l25:=okn.2.1
  have hs:s∈N.ps:=by rw [eps]; exact List.mem_cons_self
  have at0:atI (N.ps.map D.str) 0=some (.str s):=by rw [eps]; exact AV (j:=0) rfl
  have e15:(10:Int) ^ (15:Int).toNat=10 ^ 15:=rfl
  refine⟨_,AV (j:=1) rfl,_,AV (j:=0) rfl,_,at0,N,s,_,N.ts,rfl,rfl,fun _=>Iff.rfl,okn,hs,fun ks ds K M T=>?_⟩
  refine⟨_,AV (j:=0) rfl,_,at0,⟨by decide,by decide,by decide⟩,N,s,_,rfl,okn,hs,fun F TF=>?_⟩
  rw [e15]
  have hk:∀x∈N.ps,∃d,K x=some d/\Ce (10 ^ 15) ((F x).map (·.1))=d/\0<=d/\d<=30000000:=fun x hx=>by
   obtain⟨d0,h0⟩:=hw x hx
   cases e:K x with
   | none=>exact absurd e (T.all x d0 h0)
   | some d =>
    have h1:=T.top x d e
    have h2:=(T.least x d e).1.pos okn.1
    refine⟨d,rfl,?_,h2,h1⟩
    rw [Ou TF T x,e]
    show (if d<10 ^ 15 then d else 10 ^ 15)=d
    rw [if_pos (by omega)]
  have erow:(N.ps.map fun x=>D.int (Ce (10 ^ 15) ((F x).map (·.1))))=N.ps.map fun x=>D.int ((K x).getD 0):=List.map_congr_left fun x hx=>by
   obtain⟨d,e1,e2,_⟩:=hk x hx
   rw [e2,e1]
   rfl
  have fr:=HH okn TF (m:=10 ^ 15) (by decide)
  have shw:I_ (.tup (N.ps.map fun x=>D.int ((K x).getD 0))):=by
   obtain⟨⟨f1,f2,f3⟩,_⟩:=CM (B:=30000000) (by decide) (xs:=N.ps.map fun x=>D.int ((K x).getD 0)) (by rw [List.length_map]; omega) fun d hd=>by
    obtain⟨x,hx,rfl⟩:=List.mem_map.mp hd
    obtain⟨d,e1,_,h0,h1⟩:=hk x hx
    rw [e1]
    exact C0 (by show d.natAbs<=30000000; omega)
   exact Hd (by decide) f1 (by omega) (by omega)
  rw [erow] at fr ⊢
  refine⟨_,rfl,shw,_,AV (j:=0) rfl,by show (N.ps.map D.str).length<=10000000; rw [List.length_map]; omega,?_⟩
  refine BZ (fun d=>match d with | .str x=>.int ((K x).getD 0) | _=>.non) (fun ρ=>∃s,ρ=[.sh (.dic ks ds),s]) _ _ _ _ ?_ ⟨_,rfl⟩ ?_
  ·rintro d hd ρ m nx ⟨s2,rfl⟩ hnx
   obtain⟨x,hx,rfl⟩:=List.mem_map.mp hd
   obtain⟨d,e1,_⟩:=hk x hx
   have hnx:nx (.int ((K x).getD 0)) m [.sh (.dic ks ds),.sh (.str x)]:=hnx _ ⟨_,rfl⟩
   rw [e1] at hnx
   exact⟨ks,ds,_,.int d,rfl,A7 x,by rw [M.at_,e1]; rfl,hnx⟩
  ·have e:(N.ps.map D.str).map (fun d=>match d with | .str x=>D.int ((K x).getD 0) | _=>.non)=N.ps.map fun x=>D.int ((K x).getD 0):=by rw [List.map_map]; rfl
   rw [List.nil_append,e]
   refine⟨_,rfl,shw,?_⟩
   generalize Hc (.tup (N.ps.map fun x=>D.int ((K x).getD 0)))=X
   show (match (.bl (X==X):D) with | .bl true=>_ | .bl false=>_ | _=>False)
   rw [beq_self_eq_true]
   refine⟨N,_,rfl,okn,?_⟩
   rw [fr]
   rfl
 ·refine⟨8,14,rfl,by decide,by decide,by decide,fun N n1 ok l1 l2 l3 hn1=>?_⟩
  have okn:okN N:=⟨ok,by omega,by omega⟩
  obtain⟨sn1,sn2,sn3⟩:=MZ okn
  refine⟨_,AV (j:=0) rfl,?_⟩
  refine Ds (fun k m ρ=>50*k<=m/\∃s3 s4 s5 s6 s7 s8 s9 s10 s11 s12 s13 s14 s15,ρ=[.no,.fd,.sh (enc N),s3,s4,s5,s6,s7,s8,s9,s10,s11,s12,s13,s14,s15]) ?_ _ _ _ ?_ ⟨by rw [List.length_map]; omega,_,_,_,_,_,_,_,_,_,_,_,_,_,rfl⟩
  ·rintro m ρ ⟨_,s3,s4,s5,s6,s7,s8,s9,s10,s11,s12,s13,s14,s15,rfl⟩
   refine⟨z0,z0,z1,z1,1,rfl,z1,z1,(by rw [szl]; show 11<=16777216; decide),?_⟩
   refine Ds (fun k m ρ=>∃s3 s4 s5 s6 s7 s8 s9 s10 s11 s12 s13 s14 s15,ρ=[.no,.fd,.sh (enc N),s3,s4,s5,s6,s7,s8,s9,s10,s11,s12,s13,s14,s15]) ?_ _ _ _ ?_ ⟨_,_,_,_,_,_,_,_,_,_,_,_,_,rfl⟩
   ·rintro m ρ ⟨s3,s4,s5,s6,s7,s8,s9,s10,s11,s12,s13,s14,s15,rfl⟩
    exact rfl
   ·rintro k d m ρ nx hd ⟨s3,s4,s5,s6,s7,s8,s9,s10,s11,s12,s13,s14,s15,rfl⟩ hnx
    have key:fine (10 ^ 44) d/\CQ d<=50/\Bt d<=150000:=by
     have nil2:(fine (10 ^ 44) (.tup [])/\CQ (.tup [])<=50/\Bt (.tup [])<=150000)/\(fine (10 ^ 44) (.lst [])/\CQ (.lst [])<=50/\Bt (.lst [])<=150000):=⟨⟨trivial,by decide,by decide⟩,⟨trivial,by decide,by decide⟩⟩
     have es:fine (10 ^ 44) (.str "")/\Bt (.str "")<=300:=⟨(fun c hc=>by rw [show cs ""=[] from rfl] at hc; cases hc),by decide⟩
     simp only [List.mem_cons,List.not_mem_nil,or_false] at hd
     rcases hd with rfl | rfl | rfl | rfl | rfl | rfl | rfl | rfl | rfl | rfl | rfl
     ·exact⟨trivial,by decide,by decide⟩
     ·exact⟨trivial,by decide,by decide⟩
     ·exact⟨by show (0:Int).natAbs<=10 ^ 44; decide,by decide,by decide⟩
     ·exact nil2.1
     ·exact nil2.2
     ·exact⟨es.1,by decide,by decide⟩
     ·exact⟨⟨by show (0:Int).natAbs<=10 ^ 44; decide,trivial⟩,by decide,by decide⟩
     ·exact⟨⟨trivial,trivial⟩,by decide,by decide⟩
     ·exact⟨⟨by show (-1:Int).natAbs<=10 ^ 44; decide,trivial⟩,by decide,by decide⟩
     ·exact⟨⟨es.1,trivial⟩,by decide,by decide⟩
     ·exact⟨sn1.mono (by decide),by omega,by omega⟩
    exact⟨N,d,rfl,okn,key.1,key.2.1,key.2.2,hnx _ _ ⟨_,_,_,_,_,_,_,_,_,_,_,_,_,rfl⟩⟩
  ·rintro k d m ρ nx hd ⟨hm,s3,s4,s5,s6,s7,s8,s9,s10,s11,s12,s13,s14,s15,rfl⟩ hnx
   obtain⟨x,hx,rfl⟩:=List.mem_map.mp hd
   refine⟨_,AV (j:=1) rfl,N,x,_,N.ts,rfl,rfl,fun _=>Iff.rfl,okn,hx,fun ks ds K M T=>?_⟩
   refine⟨40,rfl,by decide,by decide,by omega,fun a a0 a1=>?_⟩
   have e6:(10:Int) ^ (6:Int).toNat=1000000:=rfl
   have e15:(10:Int) ^ (15:Int).toNat=1000000000000000:=rfl
   refine⟨Sv,⟨by decide,by decide,by decide⟩,Sv,.inr ⟨by decide,by decide⟩,_,rfl,by decide,by decide,by omega,fun b b0 b1=>?_⟩
   refine⟨(by rw [szl]; show 5<=16777216; decide),5,rfl,by decide,by decide,by omega,fun c c0 c1=>?_⟩
   rw [e6,e15] at *
   obtain⟨w,hw,most,rfl,w0,w1⟩:=GV (p:=fun d=>∃i:Int,d=.int i/\0<=i/\i<=1000000000000000) (xs:=[.int 0,.int a,.int 1000000,.int 1000000000000000,.int b]) (fun d hd=>by
    simp only [List.mem_cons,List.not_mem_nil,or_false] at hd
    rcases hd with rfl | rfl | rfl | rfl | rfl
    ·exact⟨_,rfl,by decide,by decide⟩
    ·exact⟨_,rfl,a0,by omega⟩
    ·exact⟨_,rfl,by decide,by decide⟩
    ·exact⟨_,rfl,by decide,by decide⟩
    ·exact⟨_,rfl,b0,by omega⟩) c0 (by show c<5; exact c1)
   refine⟨_,hw,N,x,most,rfl,okn,hx,fun F TF=>?_⟩
   have ef:(N.ps.map fun y=>D.int (Ce most ((F y).map (·.1))))=N.ps.map fun y=>D.int (Ce most (K y)):=List.map_congr_left fun y _=>by rw [Ou TF T y]
   have fr:=HH okn TF w0
   rw [ef] at fr ⊢
   have dpos:∀y,0<=Ce most (K y)/\Ce most (K y)<=1000000000000000:=fun y=>by
    obtain⟨h1,h2⟩:=Nd w0 (o:=K y) fun d e=>(T.least y d e).1.pos ok
    exact⟨h1,by omega⟩
   refine⟨_,AV (j:=0) rfl,by show (N.ps.map D.str).length<=10000000; rw [List.length_map]; omega,?_⟩
   refine BZ (fun d=>match d with | .str y=>.int (Ce most (K y)) | _=>.non) (fun ρ=>∃s,ρ=[.sh (.int most),.sh (.dic ks ds),s]) _ _ _ _ ?_ ⟨_,rfl⟩ ?_
   ·rintro d hd ρ m' nx' ⟨s2,rfl⟩ hnx'
    obtain⟨y,hy,rfl⟩:=List.mem_map.mp hd
    have hnx':nx' (.int (Ce most (K y))) m' [.sh (.int most),.sh (.dic ks ds),.sh (.str y)]:=hnx' _ ⟨_,rfl⟩
    refine⟨ks,ds,rfl,_,A7 y,?_⟩
    rw [M.at_]
    cases ey:K y with
    | none =>
     rw [ey] at hnx'
     show nx' (.int (if most<most then most else most)) m' _
     rw [if_neg (Int.lt_irrefl _)]
     exact hnx'
    | some d =>
     rw [ey] at hnx'
     exact hnx'
   have e2:(N.ps.map D.str).map (fun d=>match d with | .str y=>D.int (Ce most (K y)) | _=>.non)=N.ps.map fun y=>D.int (Ce most (K y)):=by rw [List.map_map]; rfl
   rw [List.nil_append,e2]
   have hdue:∀d∈N.ps.map (fun y=>D.int (Ce most (K y))),∃i:Int,d=.int i/\0<=i/\i<=1000000000000000:=fun d hd=>by
    obtain⟨y,_,rfl⟩:=List.mem_map.mp hd
    exact⟨_,rfl,dpos y⟩
   have hdl:(N.ps.map fun y=>D.int (Ce most (K y))).length=N.ps.length:=List.length_map ..
   generalize N.ps.map (fun y=>D.int (Ce most (K y)))=due at hdue hdl fr ⊢
   have rowd:∀d∈due,fine (10 ^ 40) d/\Bt d<=300/\CQ d<=1:=fun d hd=>by
    obtain⟨i,rfl,h0,h1⟩:=hdue d hd
    exact C0 (by omega)
   have adue:=CM (B:=10 ^ 40) (by decide) (xs:=due) (by omega) rowd
   have shw:I_ (.tup due):=Hd (B:=10 ^ 44) (by decide) adue.1.1 (by omega) (by omega)
   refine⟨_,rfl,shw,_,rfl,shw,?_⟩
   refine Cc (fun c=>absurd c (by simp)) fun _=>?_
   refine⟨N,_,rfl,okn,?_⟩
   rw [fr]
   have hp1:1<=N.ps.length:=l1
   refine⟨_,_,rfl,rfl,_,rfl,by omega,by omega,by omega,fun at_ t0 t1=>?_⟩
   obtain⟨_,hat,v,rfl,v0,v1⟩:=GV hdue t0 (by omega)
   refine⟨_,hat,_,hat,_,hat,_,hat,_,hat,Sv,(by rw [szl]; show 6<=16777216; decide),?_⟩
   refine⟨6,rfl,by decide,by decide,by omega,fun o o0 o1=>?_⟩
   obtain⟨z,hz,rz⟩:=GV (p:=fun d=>fine (10 ^ 40) d/\Bt d<=300/\CQ d<=1) (xs:=[.int (0 - v - 1),.int (v+1),.int (v - 1),.bl (v==1),.int (v+1000000),.non]) (fun d hd=>by
    simp only [List.mem_cons,List.not_mem_nil,or_false] at hd
    rcases hd with rfl | rfl | rfl | rfl | rfl | rfl
    ·exact C0 (by omega)
    ·exact C0 (by omega)
    ·exact C0 (by omega)
    ·exact⟨trivial,Nat.zero_le _,Nat.zero_le _⟩
    ·exact C0 (by omega)
    ·exact⟨trivial,Nat.zero_le _,Nat.zero_le _⟩) o0 (by show o<6; exact o1)
   obtain⟨c1,c2⟩:=Eg due none (some at_)
   obtain⟨c3,c4⟩:=Eg due (some (at_+1)) none
   refine⟨_,hz,z1,(by show _+1<=sizeLine; omega),(by rw [List.length_append]; show _+1+_<=sizeLine; omega),?_⟩
   have rowb:∀d∈Dp.cutD due none (some at_)++[z]++Dp.cutD due (some (at_+1)) none,fine (10 ^ 40) d/\Bt d<=300/\CQ d<=1:=fun d hd=>by
    rcases List.mem_append.mp hd with hd | hd
    ·rcases List.mem_append.mp hd with hd | hd
     ·exact rowd d (c1 d hd)
     ·rw [List.mem_singleton.mp hd]; exact rz
    ·exact rowd d (c3 d hd)
   have abent:=CM (B:=10 ^ 40) (by decide) (xs:=Dp.cutD due none (some at_)++[z]++Dp.cutD due (some (at_+1)) none) (by rw [List.length_append,List.length_append,List.length_singleton]; omega) rowb
   generalize Dp.cutD due none (some at_)++[z]++Dp.cutD due (some (at_+1)) none=bent at abent ⊢
   refine⟨_,AV (j:=0) rfl,by show (N.ps.map D.str).length<=10000000; rw [List.length_map]; omega,?_⟩
   refine Ey (fun j m' acc ρ=>50*k+20+j<=m'/\acc.length+j=N.ps.length/\(∀d∈acc,fine (10 ^ 40) d/\Bt d<=300/\CQ d<=1)/\∃s,ρ=[.fd,s]) ?_ ?_ _ _ _ _ ⟨by rw [List.length_map]; omega,by rw [List.length_map]; show 0+_=_; omega,(fun d hd=>by cases hd),_,rfl⟩
   ·rintro m' acc ρ ⟨hm',hacc,rowa,s2,rfl⟩
    have adraw:=CM (B:=10 ^ 40) (by decide) (xs:=acc) (by omega) rowa
    refine⟨by show due.length<=10000000; omega,?_⟩
    refine BZ (fun d=>match d with | .int i=>.int (i+10 ^ 30) | _=>.non) (fun ρ=>∃s0,ρ=[s0]) _ _ _ _ ?_ ⟨_,rfl⟩ ?_
    ·rintro d hd ρ m2 nx2 ⟨s0,rfl⟩ h1
     obtain⟨i,rfl,_⟩:=hdue d hd
     exact⟨⟨by decide,by decide,by decide⟩,h1 _ ⟨_,rfl⟩⟩
    rw [List.nil_append]
    have ashift:=CM (B:=10 ^ 40) (by decide) (xs:=due.map fun d=>match d with | .int i=>.int (i+10 ^ 30) | _=>.non) (by rw [List.length_map]; omega) fun d hd=>by
     obtain⟨e,he,rfl⟩:=List.mem_map.mp hd
     obtain⟨i,rfl,h0,h1⟩:=hdue e he
     exact C0 (by omega)
    generalize (due.map fun d=>match d with | .int i=>D.int (i+10 ^ 30) | _=>D.non)=shift at ashift ⊢
    obtain⟨g1,g2⟩:=Eg due none (some 1)
    obtain⟨g3,g4⟩:=Eg due (some 1) none
    refine⟨by omega,?_⟩
    have amore:=CM (B:=10 ^ 40) (by decide) (xs:=due++Dp.cutD due none (some 1)) (by rw [List.length_append]; omega) fun d hd=>by
     rcases List.mem_append.mp hd with hd | hd
     ·exact rowd d hd
     ·exact rowd d (g1 d hd)
    have afew:=CM (B:=10 ^ 40) (by decide) (xs:=Dp.cutD due (some 1) none) (by omega) fun d hd=>rowd d (g3 d hd)
    refine⟨.tup due,10 ^ 15,1,rfl,Nat.le_refl _,fines_iff.mpr fun d hd=>?_,by decide,by decide,?_,by omega,fun e n' f1 f2 f3 f4=>?_⟩
    ·obtain⟨i,rfl,h0,h1⟩:=hdue d hd
     show i.natAbs<=10 ^ 15
     omega
    ·have:=(Dq rowd).2.1
     show B8 due<=50000
     omega
    have aodd:fine (10 ^ 44) e/\CQ e<=50/\Bt e<=150000:=by
     obtain⟨_,n2,n3⟩:=Dq rowd
     have:Bt (.tup due)=B8 due:=rfl
     have:CQ (.tup due)=DU due+1:=rfl
     exact⟨f1.mono (by decide),by omega,by omega⟩
    refine⟨(by rw [szl]; show 4<=16777216; decide),(by rw [szl]; show 3<=16777216; decide),(by rw [szl]; show 3+4<=16777216; decide),?_⟩
    refine Ds (fun j m2 ρ=>50*k<=m2/\∃s3 s4 s5 s6 s7 s8 s9 s10 s11 s12 s13 s14 s15,ρ=[.no,.fd,.sh (enc N),s3,s4,s5,s6,s7,s8,s9,s10,s11,s12,s13,s14,s15]) ?_ _ _ _ ?_ ⟨by omega,_,_,_,_,_,_,_,_,_,_,_,_,_,rfl⟩
    ·rintro m2 ρ ⟨hm2,s3,s4,s5,s6,s7,s8,s9,s10,s11,s12,s13,s14,s15,rfl⟩
     exact hnx _ _ ⟨hm2,_,_,_,_,_,_,_,_,_,_,_,_,_,rfl⟩
    ·rintro j d m2 ρ nx3 hd ⟨hm2,s3,s4,s5,s6,s7,s8,s9,s10,s11,s12,s13,s14,s15,rfl⟩ hnx3
     have key:fine (10 ^ 44) d/\CQ d<=50/\Bt d<=150000:=by
      simp only [List.cons_append,List.nil_append,List.mem_cons,List.not_mem_nil,or_false] at hd
      rcases hd with rfl | rfl | rfl | rfl | rfl | rfl | rfl
      ·exact abent.1
      ·exact adraw.1
      ·exact ashift.1
      ·exact adue.2
      ·exact amore.1
      ·exact afew.1
      ·exact aodd
     exact⟨N,d,rfl,okn,key.1,key.2.1,key.2.2,hnx3 _ _ ⟨hm2,_,_,_,_,_,_,_,_,_,_,_,_,_,rfl⟩⟩
   ·rintro j d m' acc ρ nx' ⟨hm',hacc,rowa,s2,rfl⟩ hnx'
    refine⟨9,rfl,by decide,by decide,by omega,fun r r0 r1=>hnx' _ _ _ ⟨by omega,by rw [List.length_append,List.length_singleton]; omega,fun d hd=>?_,_,rfl⟩⟩
    rcases List.mem_append.mp hd with hd | hd
    ·exact rowa d hd
    ·rw [List.mem_singleton.mp hd]
     exact C0 (by omega)
end Nt
namespace K07
open PySem PySem.Spec PyProof.Rows L2 Dp Nt
section
variable {P:Program}{w:World}{K:Frag}{mg:Str->Option Value}{base:Heap}
theorem JA:An ["thing"] ["thing"] (AH CH):=by constructor <;> first | rfl | decide +kernel
theorem JJ{f:Addr}{fd:FuncData}(T:Txt K mg)(F:Fun K "is_whole" "is_whole" CH f fd):Bh P w K mg base DR 1 f fd ["thing"] (FK K .sh GY 1):=by
 exact IE F JA (by decide) (fun cdv A outer s H E hr=>(AL (Ar (DJ (C6 IA (dv 0) rfl T.n_isinstance rfl T.n_int (by decide +kernel)) (EH (Na (C6 Fx (dv 0) rfl T.n_isinstance rfl T.n_bool (by decide +kernel)))))))) (fun ss n Pd hl hw=>JB hw)
theorem Fc:An ["count","thing"] ["count","thing"] (AH BV):=by constructor <;> first | rfl | decide +kernel
theorem Fn{f:Addr}{fd:FuncData}(T:Txt K mg)(F:Fun K "is_tuple_of" "is_tuple_of" BV f fd):Bh P w K mg base DR 1 f fd ["count","thing"] (FK K .sh Do 2):=by
 exact IE F Fc (by decide) (fun cdv A outer s H E hr=>(AL (Ar (DJ (C6 kit_tuple (dv 1) rfl T.n_isinstance rfl T.n_tuple (by decide +kernel)) (EH (DH CP Dn (Ac A2 Cw rfl T.n_len PySem.boot_len (AI (dv 1) AM)) (dv 0) (Aj _))))))) (fun ss n Pd hl hw=>Fg hw)
theorem sc_steps_of:An ["net","steps","place","a","b","length"] ["net"] (AH CG):=⟨rfl,rfl,rfl,by decide +kernel,rfl,by decide +kernel,by decide +kernel⟩
theorem JI{f:Addr}{fd:FuncData}(F:Fun K "steps_of" "steps_of" CG f fd):Bh P w K mg base DR 1 f fd ["net"] (FK K .sh Ie 1):=by
 refine F.ok (k:=0) sc_steps_of (fun vs H Q E h=>h.1) (fun cdv A outer s H vs Q E hr h=>?_)
 obtain⟨hl,F0,U,V',M,n,ss,Pd,ra,⟨N,rfl,ok,lp,lt,p⟩,q⟩:=h
 obtain⟨dom,fU,uV,vM,fd0,pa⟩:=ra
 cases pa with
 | cons r1 pa =>
 cases pa
 obtain⟨v,e1,h1⟩:=r1.1
 cases e1
 obtain⟨an,vs,rfl,hn,v1,r,rfl,hp,v2,r2,rfl,ht,e2⟩:=h1
 cases (show r2=[] from e2)
 obtain⟨ap,us,rfl,hpn,hps⟩:=hp
 obtain⟨at_,ws,rfl,htn,hts⟩:=ht
 have nd:=sc_steps_of.nd
 have hu:=HF hr
 have szl:=PySem.sizeLine_eq
 have lus:us.length=N.ps.length:=by rw [hps.length,List.length_map]
 have lws:ws.length=N.ts.length:=by rw [hts.length,List.length_map]
 refine⟨_,BA (DZ (i:=1) nd rfl (Or.inl rfl) JG)
  (BA (Hq PassesOwn.never rfl (Mx (DN ix_tup (pv 0) Aq (fun _ _=>rfl))) (EV (i:=2) nd rfl (Or.inl rfl)) (Cy (FR hu (pv 1) (pv 2) JG rfl)))
  (BA (Hq PassesOwn.never rfl (Mx (DN ix_tup (pv 0) Aq (fun _ _=>rfl))) (M5 rfl (EU (EV (i:=3) nd rfl (Or.inl rfl)) (EU (EV (i:=4) nd rfl (Or.inl rfl)) (EU (EV (i:=5) nd rfl (Or.inl rfl)) Ko))))
   (BA (FR hu (Hs hu (pv 1) (pv 3) (fun _ _=>rfl)) (pv 4) (pv 5) rfl) (Cy (FR hu (Hs hu (pv 1) (pv 4) (fun _ _=>rfl)) (pv 3) (pv 5) rfl))))
  (Cy (EA (QB (pv 1)))))),?_⟩
 refine fun d hd=>?_
 have old0:∀b o,H b=some o->A_ H d (.dK []) b=some o:=fun b o e=>by rw [AO (A6 e hd)]; exact e
 have SqN:∀H':Hp,(∀b o,H b=some o->H' b=some o)->SqT K H' an [.ref ap,.ref at_]:=fun H' o=>SqT.of (o _ _ hn.2)
 have SqP:∀H':Hp,(∀b o,H b=some o->H' b=some o)->SqT K H' ap us:=fun H' o=>SqT.of (o _ _ hpn.2)
 have SqW:∀H':Hp,(∀b o,H b=some o->H' b=some o)->SqT K H' at_ ws:=fun H' o=>SqT.of (o _ _ htn.2)
 refine⟨_,rfl,an,_,0,_,rfl,rfl,SqN _ old0,rfl,ap,rfl,⟨_,SqP _ old0⟩,?_⟩
 refine K5 (xs:=us) (fun i σ H'=>∃(as:List (Str×Addr)) (x2 x3 x4 x5:Option V),σ=[some (.ref an),some (.ref d),x2,x3,x4,x5]/\as.map (·.1)=N.ps.take i/\Stp H d as (fun _=>[]) H') ?_ (fun i σ H' hi ⟨as,x2,x3,x4,x5,e,hm,st⟩=>SqP _ st.old) ?_ ?_
 ·exact⟨[],_,_,_,_,rfl,rfl,old0,hd,AX,(fun x hx=>by cases hx),List.nodup_nil,List.nodup_nil⟩
 ·rintro i x σ H' hx ⟨as,x2,x3,x4,x5,rfl,hm,st⟩
  have hi:i<N.ps.length:=by rw [← lus]; exact(List.getElem?_eq_some_iff.mp hx).1
  obtain⟨x',hx',hAt⟩:=hps.get (i:=i) (d:=.str N.ps[i]) (by rw [List.getElem?_map,List.getElem?_eq_getElem hi]; rfl)
  rw [hx] at hx'
  cases hx'
  obtain⟨rfl,_⟩:=hAt
  intro q hq
  have las:as.length<=i:=by have:=congrArg List.length hm; rw [List.length_map,List.length_take] at this; omega
  have nq:d≠q:=fun e=>by rw [← e,st.top] at hq; cases hq
  have las2:(as.map fun x=>((.inr x.1:Key),V.ref x.2)).length=as.length:=List.length_map ..
  refine⟨_,rfl,_,rfl,d,_,rfl,DPut.k (k:=.inr N.ps[i]) (by rw [AO nq]; exact st.top) (by omega),?_⟩
  refine⟨as++[(N.ps[i],q)],_,_,_,_,rfl,?_,st.more hq ?_ rfl⟩
  ·rw [List.map_append,hm,List.take_succ,List.getElem?_eq_getElem hi]; rfl
  ·rw [hm]; exact J3 (Hj ok.rise) hi
 ·rintro σ H' ⟨as,x2,x3,x4,x5,rfl,hm,st⟩
  rw [lus,List.take_length] at hm
  refine⟨_,rfl,an,_,1,_,rfl,rfl,SqN _ st.old,rfl,at_,rfl,⟨_,SqW _ st.old⟩,?_⟩
  refine K5 (xs:=ws) (fun i σ H'=>∃(x2 x3 x4 x5:Option V),σ=[some (.ref an),some (.ref d),x2,x3,x4,x5]/\Stp H d as (fun p=>(EK (N.ts.take i) p).map kv) H') ⟨_,_,_,_,rfl,st⟩ (fun i σ H' hi ⟨x2,x3,x4,x5,e,st⟩=>SqW _ st.old) ?_ ?_
  ·rintro i x σ H' hx ⟨x2,x3,x4,x5,rfl,st⟩
   have hi:i<N.ts.length:=by rw [← lws]; exact(List.getElem?_eq_some_iff.mp hx).1
   obtain⟨x',hx',hAt⟩:=hts.get (i:=i) (d:=Ea N.ts[i]) (by rw [List.getElem?_map,List.getElem?_eq_getElem hi]; rfl)
   rw [hx] at hx'
   cases hx'
   have hmem:N.ts[i]∈N.ts:=List.getElem_mem hi
   have hsnoc:N.ts.take (i+1)=N.ts.take i++[N.ts[i]]:=by rw [List.take_succ,List.getElem?_eq_getElem hi]; rfl
   have hpre:(N.ts.take (i+1)).Pairwise GG:=ok.trise.sublist (List.take_sublist _ _)
   have hlt2:∀s∈N.ts.take (i+1),cs s.a<cs s.b:=fun s hs=>(ok.tin s (List.mem_of_mem_take hs)).2.2.1
   rw [hsnoc] at hpre hlt2
   have new:=NX hpre hlt2
   have ltk:(N.ts.take i).length<=1000:=by rw [List.length_take]; omega
   generalize N.ts[i]=t at hAt hmem hsnoc new
   generalize N.ts.take i=ts at hsnoc new st ltk
   obtain⟨m1,m2,m3,_⟩:=ok.tin t hmem
   have hab:t.a≠t.b:=fun e=>by rw [e] at m3; exact List.lt_irrefl _ m3
   obtain⟨ta,tb,tl⟩:=t
   obtain⟨tt,us3,rfl,htt,hit⟩:=hAt
   obtain⟨va,r3,rfl,⟨rfl,_⟩,vb,r4,rfl,⟨rfl,_⟩,vl,r5,rfl,rfl,e5⟩:=hit
   cases (show r5=[] from e5)
   rw [← hm] at m1 m2
   obtain⟨⟨xa,pa⟩,ha,ea⟩:=List.mem_map.mp m1
   obtain⟨⟨xb,pb⟩,hb,eb⟩:=List.mem_map.mp m2
   have ea':ta=xa:=ea.symm
   have eb':tb=xb:=eb.symm
   subst ea' eb'
   clear ea eb
   replace hab:ta≠tb:=hab
   replace new:tb∉(EK ts ta).map (·.1)/\ta∉(EK ts tb).map (·.1):=new
   have ga:=DGet.k (k:=.inr ta) st.top
   rw [FP st.nms ha] at ga
   have l1:=Ks ts ta
   refine⟨tt,_,rfl,SqT.of (st.old _ _ htt.2),rfl,_,_,rfl,_,_,rfl,_,_,rfl,rfl,?_⟩
   refine⟨_,rfl,_,rfl,_,rfl,d,_,rfl,ga,_,rfl,pa,_,rfl,DPut.k (k:=.inr tb) (st.inn _ ha).2.2 (by show ((EK ts ta).map kv).length<sizeLine; rw [List.length_map]; omega),?_⟩
   have st1:=st.put (tb2:=fun p=>(EK ts p++if ta=p then [(tb,tl)] else []).map kv) ha (kvs:=putK ((EK ts ta).map kv) (.inr tb) (.int tl)) (by rw [Kj new.1,if_pos rfl]) (fun q hq=>by rw [if_neg (Ne.symm hq),List.append_nil])
   have gb:=DGet.k (k:=.inr tb) st1.top
   rw [FP st1.nms hb] at gb
   have l2:=Ks ts tb
   have ib:=(st1.inn _ hb).2.2
   simp only [if_neg hab,List.append_nil] at ib
   refine⟨_,rfl,_,rfl,_,rfl,d,_,rfl,gb,_,rfl,pb,_,rfl,DPut.k (k:=.inr ta) ib (by rw [List.length_map]; omega),?_⟩
   refine⟨_,_,_,_,rfl,st1.put hb ?_ fun q hq=>?_⟩
   ·show (EK (N.ts.take (i+1)) tb).map kv=_
    rw [hsnoc,JN,Kj new.2]
    show ((EK ts tb++((if ta=tb then [(tb,tl)] else [])++if tb=tb then [(ta,tl)] else [])).map kv)=_
    rw [if_neg hab,if_pos rfl]; rfl
   ·show (EK (N.ts.take (i+1)) q).map kv=_
    rw [hsnoc,JN]
    show ((EK ts q++((if ta=q then [(tb,tl)] else [])++if tb=q then [(ta,tl)] else [])).map kv)=_
    rw [if_neg (Ne.symm hq),List.append_nil]
  ·rintro σ H' ⟨x2,x3,x4,x5,rfl,st⟩
   rw [lws,List.take_length] at st
   have old:∀(f:Addr->Obj) b o,H b=some o->E5 H' (as.map (·.2)) f b=some o:=fun f b o e=>by
    rw [EY (fun hm=>by obtain⟨x,hx,e2⟩:=List.mem_map.mp hm; have:=(st.inn x hx).1; rw [e2,e] at this; cases this)]
    exact st.old b o e
   refine⟨_,rfl,(as.map fun(x:Str×Addr)=>x.2),fun b hb=>?_,fun f=>q (.ref d) (E5 H' (as.map fun(x:Str×Addr)=>x.2) f) (Et N) n (fun b o e=>⟨o,old f b o e,fun _=>rfl⟩) (fun g hg=>?_) (show At K M (E5 H' (as.map fun(x:Str×Addr)=>x.2) f) (Et N) (.ref d) from st.at_ dom hm f) p⟩
   ·obtain⟨x,hx,rfl⟩:=List.mem_map.mp hb
    exact⟨_,(st.inn x hx).2.2⟩
   ·obtain⟨a,r,cells,hf,hcf,hc,rest⟩:=fd0 g hg
    exact⟨a,r,cells,old f _ _ hf,hcf,⟨hc.1,old f _ _ hc.2⟩,rest⟩
theorem Gh:An ["waiting","found"] ["waiting","found"] (AH Bn):=by constructor <;> first | rfl | decide +kernel
theorem Gr{f:Addr}{fd:FuncData}(T:Txt K mg)(F:Fun K "nearest_of" "nearest_of" Bn f fd):Bh P w K mg base DR 1 f fd ["waiting","found"] (FK K .sh Ji 2):=by
 exact IE F Gh (by decide) (fun cdv A outer s H E hr=>(AL (Ar (Ao Ab BH (Ac (MK hr) Qj rfl T.n_min boot_min (AI (Be rfl [("found" : Str),("place" : Str)] [some 1,none] (Cd (Ii 0)) (fun _ _ _ _ _=>(Af (i:=1) (show List.Nodup [("found" : Str),("place" : Str)] by decide +kernel) rfl (Or.inl rfl))) (fun _ _ _ _ _=>Bd) (fun _ _ _ _ _=>(BE (AB (Ao Ab BH (CA hr (Ii 0) (dv 1)) AE) (AB (dv 1) AS)))) (by kernel_rfl)) AM)) AE)))) (fun ss n Pd hl hw=>Gm hw)
theorem sc_least_ways:An ["net","start","steps","found","waiting","place","other","step","length"] ["net","start"] (AH Bo):=by constructor <;> first | rfl | decide +kernel
theorem Gs{f:Addr}{fd:FuncData}(T:Txt K mg)(G_nearest_of:Got P w K mg base "nearest_of" 1 ["waiting","found"] .sh Ji)(G_steps_of:Got P w K mg base "steps_of" 1 ["net"] .sh Ie)(F:Fun K "least_ways" "least_ways" Bo f fd):Bh P w K mg base DR 2 f fd ["net","start"] (FK K .fr Gb 2):=by
 exact IE F sc_least_ways (by decide) (fun cdv A outer s H E hr=>(AG (Ad (i:=2) sc_least_ways.nd rfl (Or.inl rfl) (AJ G_steps_of (hr.mono (by decide)) rfl (AA (AR (dv 0)) AK)))
 (AG (C2 (i:=3) sc_least_ways.nd rfl (Or.inl rfl) (Jb (dv 1) (BE (AB AE (AB IR AS)))))
 (AG (C2 (i:=4) sc_least_ways.nd rfl (Or.inl rfl) (Bm (AB (dv 1) AS)))
 (AG (JW PassesOwn.never (QX (Ii 4)) (AG (Ad (i:=5) sc_least_ways.nd rfl (Or.inl rfl) (AJ G_nearest_of (hr.mono (by decide)) rfl (AA (LF (Ii 4)) (AA (LF (Ii 3)) AK))))
 (AG (JX 4 PySem.F.plainAttrs_list PySem.F.slot_list_remove PySem.F.type_list_remove (Lr hr) Ru (pv 4) (AB (dv 5) AS))
 (AL (DF PassesOwn.never rfl (NY (CA hr (dv 2) (dv 5))) (GN rfl (BR (Af (i:=6) sc_least_ways.nd rfl (Or.inl rfl)) (BR (Af (i:=7) sc_least_ways.nd rfl (Or.inl rfl)) Ee))) (AG (Ad (i:=8) sc_least_ways.nd rfl (Or.inl rfl) (AU AW Ag (Ao Ab BH (CA hr (Ii 3) (dv 5)) AE) (dv 7)))
 (AL (Bx (A0 (Lm hr) Np (dv 6) (Ii 3) (by with_unfolding_all rfl)) (AG (JX 4 PySem.F.plainAttrs_list PySem.F.slot_list_append PySem.F.type_list_append C_ LO (pv 4) (AB (dv 6) AS))
 (AL (IM (i:=3) hr (pv 3) (dv 6) (BE (AB (dv 8) (AB (dv 5) AS)))))) (AL (Bx (A0 (Fk hr) Jh (dv 8) (Ao Ab BH (CA hr (Ii 3) (dv 6)) AE) (Aj _)) (AL (IM (i:=3) hr (pv 3) (dv 6) (BE (AB (dv 8) (AB (dv 5) AS))))) A4))))))))))
 (AL (LA 3 (pv 3)))))))) (fun ss n Pd hl hw=>Gn hw)
theorem Gi:An ["net","thing"] ["net","thing"] (AH Bp):=by constructor <;> first | rfl | decide +kernel
theorem Gu{f:Addr}{fd:FuncData}(T:Txt K mg)(G_is_tuple_of:Got P w K mg base "is_tuple_of" 1 ["count","thing"] .sh Do)(G_is_whole:Got P w K mg base "is_whole" 1 ["thing"] .sh GY)(F:Fun K "are_prices" "are_prices" Bp f fd):Bh P w K mg base DR 2 f fd ["net","thing"] (FK K .sh En 2):=by
 exact IE F Gi (by decide) (fun cdv A outer s H E hr=>(AL (Ar (DJ (AJ G_is_tuple_of (hr.mono (by decide)) rfl (AA (AR (Ac A2 Cw rfl T.n_len PySem.boot_len (AI (Ao Ab BH (dv 0) AE) AM))) (AA (AR (dv 1)) AK))) (EH (Ac (Je rfl) PZ rfl T.n_all PyProof.Rows.boot_all (AI (Be rfl [("price" : Str)] [none] (Cd (dv 1)) (fun _ _ _ _ _=>(Af (i:=0) (show List.Nodup [("price" : Str)] by decide +kernel) rfl (Or.inl rfl))) (fun _ _ _ _ _=>Bd) (fun _ _ _ _ _=>(DJ (AJ G_is_whole (hr.mono (by decide)) rfl (AA (AR (dv 0)) AK)) (EH (DH QG Rx (dv 0) AE (Aj _))))) (by kernel_rfl)) AM))))))) (fun ss n Pd hl hw=>Fh hw)
theorem Hf:An ["net","prices","a","b"] ["net","prices","a","b"] (AH B4):=by constructor <;> first | rfl | decide +kernel
theorem Hx{f:Addr}{fd:FuncData}(T:Txt K mg)(F:Fun K "price_gap" "price_gap" B4 f fd):Bh P w K mg base DR 1 f fd ["net","prices","a","b"] (FK K .sh Nu 4):=by
 exact IE F Hf (by decide) (fun cdv A outer s H E hr=>(AL (Ar (Ac Ni Rz rfl T.n_abs boot_abs (AI (AU B_ Cv (Ao Ab BH (dv 1) (NZ hr (Ao Ab BH (dv 0) AE) (AI (dv 2) AM))) (Ao Ab BH (dv 1) (NZ hr (Ao Ab BH (dv 0) AE) (AI (dv 3) AM)))) AM))))) (fun ss n Pd hl hw=>Gk hw)
theorem Js:An ["net","thing"] ["net","thing"] (AH Cg):=by constructor <;> first | rfl | decide +kernel
theorem J2{f:Addr}{fd:FuncData}(T:Txt K mg)(G_are_prices:Got P w K mg base "are_prices" 2 ["net","thing"] .sh En)(G_price_gap:Got P w K mg base "price_gap" 1 ["net","prices","a","b"] .sh Nu)(F:Fun K "is_fair" "is_fair" Cg f fd):Bh P w K mg base DR 3 f fd ["net","thing"] (FK K .sh FJ 2):=by
 exact IE F Js (by decide) (fun cdv A outer s H E hr=>(AG (Bx (E6 (Ct (AJ G_are_prices (hr.mono (by decide)) rfl (AA (AR (dv 0)) (AA (AR (dv 1)) AK))))) (AL (Ar CC)) A4)
 (AL (Ar (Ac (Je rfl) PZ rfl T.n_all PyProof.Rows.boot_all (AI (Be rfl [("net" : Str),("thing" : Str),("a" : Str),("b" : Str),("length" : Str)] [some 0,some 1,none,none,none] (Cd (Ao Ab BH (dv 0) AE)) (fun _ _ _ _ _=>(GN rfl (BR (Af (i:=2) (show List.Nodup [("net" : Str),("thing" : Str),("a" : Str),("b" : Str),("length" : Str)] by decide +kernel) rfl (Or.inl rfl)) (BR (Af (i:=3) (show List.Nodup [("net" : Str),("thing" : Str),("a" : Str),("b" : Str),("length" : Str)] by decide +kernel) rfl (Or.inl rfl)) (BR (Af (i:=4) (show List.Nodup [("net" : Str),("thing" : Str),("a" : Str),("b" : Str),("length" : Str)] by decide +kernel) rfl (Or.inl rfl)) Ee))))) (fun _ _ _ _ _=>Bd) (fun _ _ _ _ _=>(DH Hu LN (AJ G_price_gap (hr.mono (by decide)) rfl (AA (AR (dv 0)) (AA (AR (dv 1)) (AA (AR (dv 2)) (AA (AR (dv 3)) AK))))) (dv 4) (Aj _))) (by kernel_rfl)) AM)))))) (fun ss n Pd hl hw=>JC hw)
theorem sc_prices_from:An ["net","place","most","found"] ["net","place","most"] (AH BU):=by constructor <;> first | rfl | decide +kernel
theorem Fl{f:Addr}{fd:FuncData}(T:Txt K mg)(G_least_ways:Got P w K mg base "least_ways" 2 ["net","start"] .fr Gb)(F:Fun K "prices_from" "prices_from" BU f fd):Bh P w K mg base DR 3 f fd ["net","place","most"] (FK K .sh E9 3):=by
 exact IE F sc_prices_from (by decide) (fun cdv A outer s H E hr=>(AG (Ad (i:=3) sc_prices_from.nd rfl (Or.inr rfl) (AJ G_least_ways (hr.mono (by decide)) rfl (AA (AR (dv 0)) (AA (AR (dv 1)) AK))))
 (AL (Ar (A5 Au By rfl T.n_tuple boot_tuple (AI (Be rfl [("most" : Str),("found" : Str),("other" : Str)] [some 2,some 3,none] (Cd (Ao Ab BH (dv 0) AE)) (fun _ _ _ _ _=>(Af (i:=2) (show List.Nodup [("most" : Str),("found" : Str),("other" : Str)] by decide +kernel) rfl (Or.inl rfl))) (fun _ _ _ _ _=>Bd) (fun _ _ _ _ _=>(LD (A0 (M_ hr) PY (dv 2) (dv 1) (by with_unfolding_all rfl)) (Ac (HN rfl) Nm rfl T.n_min boot_min (AI (dv 0) (AI (Ao Ab BH (CA hr (dv 1) (dv 2)) AE) AM))) (dv 0))) (by kernel_rfl)) AM)))))) (fun ss n Pd hl hw=>FL hw)
theorem Gj:An ["_law_thing","_law_least_here","_law_most"] ["_law_thing","_law_least_here","_law_most"] (AH Bq):=by constructor <;> first | rfl | decide +kernel
theorem Gv{f:Addr}{fd:FuncData}(T:Txt K mg)(F:Fun K "_law_whole" "_law_whole" Bq f fd):Bh P w K mg base DR 1 f fd ["_law_thing","_law_least_here","_law_most"] (FK K .sh Eo 3):=by
 exact IE F Gj (by decide) (fun cdv A outer s H E hr=>(AL (Ar (DJ (C6 IA (dv 0) rfl T.n_isinstance rfl T.n_int (by decide +kernel)) (DJ (Na (C6 Fx (dv 0) rfl T.n_isinstance rfl T.n_bool (by decide +kernel))) (EH (Nc Hu LN Hu LN (dv 1) (dv 0) (dv 2)))))))) (fun ss n Pd hl hw=>Hl hw)
theorem sc__law_places:An ["_law_feed_here","_law_many","_law_way","_law_words","_law_first","_law_letters","_law_word","_law_at","_law_names","_law_k","_law_sign"] ["_law_feed_here","_law_many"] (AH BX):=by constructor <;> first | rfl | decide +kernel
theorem Fo{f:Addr}{fd:FuncData}(T:Txt K mg)(G__law_next:Got P w K mg base "_law_next" 1 ["_law_feed_here","_law_many"] .sh Ax)(F:Fun K "_law_places" "_law_places" BX f fd):Bh P w K mg base DR 2 f fd ["_law_feed_here","_law_many"] (FK K .fr DL 2):=by
 exact IE F sc__law_places (by decide) (fun cdv A outer s H E hr=>(AG (Ad (i:=2) sc__law_places.nd rfl (Or.inl rfl) (AJ G__law_next (hr.mono (by decide)) rfl (AA (Ay 0) (AA (AR AE) AK))))
 (AG (Ad (i:=3) sc__law_places.nd rfl (Or.inr rfl) (Bm (AB BI (AB BI (AB BI (AB BI (AB BI (AB BI (AB BI (AB BI (AB BI (AB BI (AB BI (AB BI AS))))))))))))))
 (AG (Bx (DTW.dt (KC (A0 CP Dn (dv 2) AE (Aj _)) (IL (A0 (Fk hr) Jh (dv 1) AE (Aj _))))) (AG (Ad (i:=4) sc__law_places.nd rfl (Or.inr rfl) (AJ G__law_next (hr.mono (by decide)) rfl (AA (Ay 0) (AA (AR AE) AK))))
 (AL (Ar (Ac GQ LL rfl T.n_sorted boot_sorted (AI (Be rfl [("_law_words" : Str),("_law_first" : Str),("_law_k" : Str)] [some 3,some 4,none] (DI.c (CL rfl T.n_range (AI (dv 1) AM))) (fun _ _ _ _ _=>(Af (i:=2) (show List.Nodup [("_law_words" : Str),("_law_first" : Str),("_law_k" : Str)] by decide +kernel) rfl (Or.inl rfl))) (fun _ _ _ _ _=>Bd) (fun _ _ _ _ _=>(Ao Ab BH (dv 0) (AU C4 B3 (AU AW Ag (dv 1) (dv 2)) AE))) (by kernel_rfl)) AM))))) A4)
 (AG (Ad (i:=5) sc__law_places.nd rfl (Or.inr rfl) BI)
 (AG (Ad (i:=6) sc__law_places.nd rfl (Or.inr rfl) (Rp PySem.F.plainAttrs_str PySem.F.slot_str_join PySem.F.type_str_join OK Qk BI (AI (Be rfl [("_law_letters" : Str),("_law_feed_here" : Str),("_law_k" : Str)] [some 5,some 0,none] (DI.c (CL rfl T.n_range (AI AE AM))) (fun _ _ _ _ _=>(Af (i:=2) (show List.Nodup [("_law_letters" : Str),("_law_feed_here" : Str),("_law_k" : Str)] by decide +kernel) rfl (Or.inl rfl))) (fun _ _ _ _ _=>Bd) (fun _ _ _ _ _=>(Ao Ab BH (dv 0) (AJ G__law_next (hr.mono (by decide)) rfl (AA (Ay 1) (AA (AR AE) AK))))) (by kernel_rfl)) AM)))
 (AG (Bx (DTW.dt (KC (A0 CP Dn (dv 2) AE (Aj _)) (IL (A0 (Fk hr) Jh (dv 1) AE (Aj _))))) (AL (Ar (Be rfl [("_law_word" : Str),("_law_k" : Str)] [some 6,none] (DI.c (CL rfl T.n_range (AI (dv 1) AM))) (fun _ _ _ _ _=>(Af (i:=1) (show List.Nodup [("_law_word" : Str),("_law_k" : Str)] by decide +kernel) rfl (Or.inl rfl))) (fun _ _ _ _ _=>Bd) (fun _ _ _ _ _=>(CW Dx CY (dv 0) Bc (BB (AU AW Ag AE (dv 1))))) (by kernel_rfl)))) A4)
 (AG (Ad (i:=7) sc__law_places.nd rfl (Or.inl rfl) (AJ G__law_next (hr.mono (by decide)) rfl (AA (Ay 0) (AA (AR AE) AK))))
 (AG (Ad (i:=4) sc__law_places.nd rfl (Or.inr rfl) (AJ G__law_next (hr.mono (by decide)) rfl (AA (Ay 0) (AA (AR AE) AK))))
 (AG (C2 (i:=8) sc__law_places.nd rfl (Or.inl rfl) (Bm AS))
 (AG (DF PassesOwn.never rfl (CL rfl T.n_range (AI (dv 1) AM)) (Af (i:=9) sc__law_places.nd rfl (Or.inl rfl)) (AG (Ad (i:=10) sc__law_places.nd rfl (Or.inl rfl) (Ao Ab BH (dv 5) (AU C4 B3 (AU AW Ag (dv 4) (dv 9)) AE)))
 (AL (JX 8 PySem.F.plainAttrs_list PySem.F.slot_list_append PySem.F.type_list_append C_ LO (pv 8) (AB (AU AW Ag (AU AW Ag (AU AW Ag (CW Dx CY (dv 6) Bc (BB (dv 7))) (dv 10)) (CW Dx CY (dv 6) (BB (AU AW Ag (dv 7) AE)) (BB AE))) (AU Kq Nl BI (AU C4 B3 (dv 9) AE))) AS)))))
 (AL (Ar (Ac GQ LL rfl T.n_sorted boot_sorted (AI (Ii 8) AM))))))))))))))) (fun ss n Pd hl hw=>La hw)
theorem Fd:An ["_law_feed_here","_law_scale"] ["_law_feed_here","_law_scale"] (AH BY):=by constructor <;> first | rfl | decide +kernel
theorem Fp{f:Addr}{fd:FuncData}(T:Txt K mg)(G__law_next:Got P w K mg base "_law_next" 1 ["_law_feed_here","_law_many"] .sh Ax)(F:Fun K "_law_length" "_law_length" BY f fd):Bh P w K mg base DR 2 f fd ["_law_feed_here","_law_scale"] (FK K .sh Jj 2):=by
 exact IE F Fd (by decide) (fun cdv A outer s H E hr=>(AG (Bx (A0 CP Dn (dv 1) AE (Aj _)) (AL (Ar (AU AW Ag AE (AJ G__law_next (hr.mono (by decide)) rfl (AA (Ay 0) (AA (AR AE) AK)))))) A4)
 (AG (Bx (A0 CP Dn (dv 1) AE (Aj _)) (AL (Ar (AU AW Ag AE (AJ G__law_next (hr.mono (by decide)) rfl (AA (Ay 0) (AA (AR AE) AK)))))) A4)
 (AL (Ar (LD (A0 CP Dn (dv 1) AE (Aj _)) (AU B_ Cv (AU CT B3 AE AE) (AJ G__law_next (hr.mono (by decide)) rfl (AA (Ay 0) (AA (AR AE) AK)))) (AU AW Ag AE (AJ G__law_next (hr.mono (by decide)) rfl (AA (Ay 0) (AA (AR (AU CT B3 AE AE)) AK)))))))))) (fun ss n Pd hl hw=>Lb hw)
theorem sc__law_net:An ["_law_feed_here","_law_most","_law_ties","_law_places_here","_law_few","_law_scale","_law_found","_law_one","_law_other"] ["_law_feed_here","_law_most","_law_ties"] (AH CJ):=by constructor <;> first | rfl | decide +kernel
theorem JL{f:Addr}{fd:FuncData}(T:Txt K mg)(G__law_length:Got P w K mg base "_law_length" 2 ["_law_feed_here","_law_scale"] .sh Jj)(G__law_next:Got P w K mg base "_law_next" 1 ["_law_feed_here","_law_many"] .sh Ax)(G__law_places:Got P w K mg base "_law_places" 2 ["_law_feed_here","_law_many"] .fr DL)(F:Fun K "_law_net" "_law_net" CJ f fd):Bh P w K mg base DR 3 f fd ["_law_feed_here","_law_most","_law_ties"] (FK K .sh Nq 3):=by
 exact IE F sc__law_net (by decide) (fun cdv A outer s H E hr=>(AG (Ad (i:=3) sc__law_net.nd rfl (Or.inl rfl) (AJ G__law_places (hr.mono (by decide)) rfl (AA (Ay 0) (AA (AR (AU AW Ag AE (AJ G__law_next (hr.mono (by decide)) rfl (AA (Ay 0) (AA (AR (dv 1)) AK))))) AK))))
 (AG (Ad (i:=4) sc__law_net.nd rfl (Or.inl rfl) (AU AW Ag AE (AJ G__law_next (hr.mono (by decide)) rfl (AA (Ay 0) (AA (AR AE) AK)))))
 (AG (Ad (i:=5) sc__law_net.nd rfl (Or.inl rfl) (AJ G__law_next (hr.mono (by decide)) rfl (AA (Ay 0) (AA (AR AE) AK))))
 (AG (C2 (i:=6) sc__law_net.nd rfl (Or.inl rfl) (Bm AS))
 (AG (DF PassesOwn.never rfl (CL rfl T.n_range (AI (Ac A2 Cw rfl T.n_len PySem.boot_len (AI (dv 3) AM)) AM)) (Af (i:=7) sc__law_net.nd rfl (Or.inl rfl)) (AL (DF PassesOwn.never rfl (ME rfl T.n_range (AI (AU AW Ag (dv 7) AE) (AI (Ac A2 Cw rfl T.n_len PySem.boot_len (AI (dv 3) AM)) AM))) (Af (i:=8) sc__law_net.nd rfl (Or.inl rfl)) (AL (Bx (DTW.dt (KC (A0 Hu LN (AJ G__law_next (hr.mono (by decide)) rfl (AA (Ay 0) (AA (AR AE) AK))) (dv 4) (Aj _)) (IL (A0 (Fk hr) Jh (Ac A2 Cw rfl T.n_len PySem.boot_len (AI (Ii 6) AM)) (dv 2) (Aj _))))) (AL (JX 6 PySem.F.plainAttrs_list PySem.F.slot_list_append PySem.F.type_list_append C_ LO (pv 6) (AB (BE (AB (Ao Ab BH (dv 3) (dv 7)) (AB (Ao Ab BH (dv 3) (dv 8)) (AB (AJ G__law_length (hr.mono (by decide)) rfl (AA (Ay 0) (AA (AR (dv 5)) AK))) AS)))) AS))) A4)))))
 (AL (Ar (BE (AB (A5 Au By rfl T.n_tuple boot_tuple (AI (dv 3) AM)) (AB (A5 Au By rfl T.n_tuple boot_tuple (AI (Ii 6) AM)) AS))))))))))) (fun ss n Pd hl hw=>Px hw)
theorem sc__law_odd:An ["_law_feed_here","_law_thing","_law_some","_law_at"] ["_law_feed_here","_law_thing"] (AH CI):=by constructor <;> first | rfl | decide +kernel
theorem JK{f:Addr}{fd:FuncData}(T:Txt K mg)(G__law_next:Got P w K mg base "_law_next" 1 ["_law_feed_here","_law_many"] .sh Ax)(F:Fun K "_law_odd" "_law_odd" CI f fd):Bh P w K mg base DR 2 f fd ["_law_feed_here","_law_thing"] (FK K .sh MN 2):=by
 exact IE F sc__law_odd (by decide) (fun cdv A outer s H E hr=>(AG (C2 (i:=2) sc__law_odd.nd rfl (Or.inl rfl) (Bm (AB IR (AB CC (AB AE (AB AE (AB (KH AE) (AB BI (AB BI (AB (BE AS) (AB (Bm AS) (AB (AU CT B3 AE AE) (AB (AU AW Ag (AU CT B3 AE AE) AE) (AB BI (AB BI (AB (dv 1) AS))))))))))))))))
 (AG (Bx (Ct (IQ kit_tuple Dg (dv 1) rfl T.n_isinstance rfl T.n_tuple (by decide +kernel) rfl T.n_list (by decide +kernel))) (AG (Ad (i:=3) sc__law_odd.nd rfl (Or.inl rfl) (AJ G__law_next (hr.mono (by decide)) rfl (AA (Ay 0) (AA (AR (AU AW Ag (Ac A2 Cw rfl T.n_len PySem.boot_len (AI (dv 1) AM)) AE)) AK))))
 (AG (C2 (i:=2) sc__law_odd.nd rfl (Or.inl rfl) (AU Hw E8 (Ii 2) (Bm (AB (A5 DK LM rfl T.n_list boot_list (AI (dv 1) AM)) (AB (A5 Au By rfl T.n_tuple boot_tuple (AI (dv 1) AM)) (AB (QZ (dv 1) (KH AE)) (AB (AU AW Ag (CW Dx CY (dv 1) Bc (BB (dv 3))) (CW Dx CY (dv 1) (BB (AU AW Ag (dv 3) AE)) Bc)) AS)))))))
 (AL (JX 2 PySem.F.plainAttrs_list PySem.F.slot_list_append PySem.F.type_list_append C_ LO (pv 2) (AB (AU AW Ag (AU AW Ag (CW Dx CY (dv 1) Bc (BB (dv 3))) (CW Dx CY (dv 1) (BB (dv 3)) (BB (AU AW Ag (dv 3) AE)))) (CW Dx CY (dv 1) (BB (dv 3)) Bc)) AS))))) A4)
 (AG (Bx (Ct (C6 IA (dv 1) rfl T.n_isinstance rfl T.n_int (by decide +kernel))) (AL (C2 (i:=2) sc__law_odd.nd rfl (Or.inl rfl) (AU Hw E8 (Ii 2) (Bm (AB (AU AW Ag (dv 1) AE) (AB (AU B_ Cv (dv 1) AE) (AB (DH (QH hr) Ry (dv 1) AE (Aj _)) (AB (A5 MJ Qi rfl T.n_str boot_str (AI (dv 1) AM)) (AB (AU B_ Cv AE (dv 1)) AS))))))))) A4)
 (AL (Ar (Ao Ab BH (Ii 2) (AJ G__law_next (hr.mono (by decide)) rfl (AA (Ay 0) (AA (AR (Ac A2 Cw rfl T.n_len PySem.boot_len (AI (Ii 2) AM))) AK)))))))))) (fun ss n Pd hl hw=>Pw hw)
theorem sc__law_bent:An ["_law_feed_here","_law_thing","_law_deep","_law_at","_law_part"] ["_law_feed_here","_law_thing","_law_deep"] (AH B7):=by constructor <;> first | rfl | decide +kernel
theorem EW{f:Addr}{fd:FuncData}(T:Txt K mg)(G__law_next:Got P w K mg base "_law_next" 1 ["_law_feed_here","_law_many"] .sh Ax)(G__law_odd:Got P w K mg base "_law_odd" 2 ["_law_feed_here","_law_thing"] .sh MN)(F:Fun K "_law_bent" "_law_bent" B7 f fd)(m:mg "_law_bent"=some (.ref f))(b:Binds K fd ["_law_feed_here","_law_thing","_law_deep"] []):∀j,Bh P w K mg base DR (3+j) f fd ["_law_feed_here","_law_thing","_law_deep"] (FK K .sh (EI j) 3)
 | 0=>by
  have G__law_bent:Got P w K mg base "_law_bent" 2 ["_law_feed_here","_law_thing","_law_deep"] .sh (fun _ _ _=>False):=BC F m b (fun _ _ _ h=>h.elim) (F.ok (k:=1) sc__law_bent (fun vs H Q E h=>h.1) (fun cdv A outer s H vs Q E hr h=>by obtain⟨_,_,_,_,_,_,_,_,_,hw,_⟩:=h; exact hw.elim))
  exact IE (k:=2) F sc__law_bent (by decide) (fun cdv A outer s H E hr=>(AG (Bx (DTW.dt (Eb (E6 (Ct (IQ kit_tuple Dg (dv 1) rfl T.n_isinstance rfl T.n_tuple (by decide +kernel) rfl T.n_list (by decide +kernel)))) (Eb (A0 CP Dn (Ac A2 Cw rfl T.n_len PySem.boot_len (AI (dv 1) AM)) AE (Aj _)) (Eb (A0 CP Dn (dv 2) AE (Aj _)) (GI (A0 CP Dn (AJ G__law_next (hr.mono (by omega)) rfl (AA (Ay 0) (AA (AR AE) AK))) AE (Aj _))))))) (AL (Ar (AJ G__law_odd (hr.mono (by omega)) rfl (AA (Ay 0) (AA (AR (dv 1)) AK))))) A4)
 (AG (Ad (i:=3) sc__law_bent.nd rfl (Or.inl rfl) (AJ G__law_next (hr.mono (by omega)) rfl (AA (Ay 0) (AA (AR (Ac A2 Cw rfl T.n_len PySem.boot_len (AI (dv 1) AM))) AK))))
 (AG (Ad (i:=4) sc__law_bent.nd rfl (Or.inl rfl) (AJ G__law_bent (hr.mono (Nat.le_refl _)) rfl (AA (Ay 0) (AA (AR (Ao Ab BH (dv 1) (dv 3))) (AA (AR (AU B_ Cv (dv 2) AE)) AK)))))
 (AL (Ar (AU AW Ag (AU AW Ag (CW Dx CY (dv 1) Bc (BB (dv 3))) (LD (Ct (C6 Dg (dv 1) rfl T.n_isinstance rfl T.n_list (by decide +kernel))) (DE.sh (Bm (AB (dv 4) AS))) (BE (AB (dv 4) AS)))) (CW Dx CY (dv 1) (BB (AU AW Ag (dv 3) AE)) Bc)))))))) (fun ss n Pd hl hw=>Ke (fun _ _ _ h _=>absurd rfl h) hw)
 | j+1=>by
  have G__law_bent:Got P w K mg base "_law_bent" (3+j) ["_law_feed_here","_law_thing","_law_deep"] .sh (EI j):=BC F m b (fun _ _ _ h=>by obtain⟨_,_,_,e,_⟩:=h; rw [e]; rfl) (EW T G__law_next G__law_odd F m b j)
  exact IE (k:=3+j) F sc__law_bent (by decide) (fun cdv A outer s H E hr=>(AG (Bx (DTW.dt (Eb (E6 (Ct (IQ kit_tuple Dg (dv 1) rfl T.n_isinstance rfl T.n_tuple (by decide +kernel) rfl T.n_list (by decide +kernel)))) (Eb (A0 CP Dn (Ac A2 Cw rfl T.n_len PySem.boot_len (AI (dv 1) AM)) AE (Aj _)) (Eb (A0 CP Dn (dv 2) AE (Aj _)) (GI (A0 CP Dn (AJ G__law_next (hr.mono (by omega)) rfl (AA (Ay 0) (AA (AR AE) AK))) AE (Aj _))))))) (AL (Ar (AJ G__law_odd (hr.mono (by omega)) rfl (AA (Ay 0) (AA (AR (dv 1)) AK))))) A4)
 (AG (Ad (i:=3) sc__law_bent.nd rfl (Or.inl rfl) (AJ G__law_next (hr.mono (by omega)) rfl (AA (Ay 0) (AA (AR (Ac A2 Cw rfl T.n_len PySem.boot_len (AI (dv 1) AM))) AK))))
 (AG (Ad (i:=4) sc__law_bent.nd rfl (Or.inl rfl) (AJ G__law_bent (hr.mono (Nat.le_refl _)) rfl (AA (Ay 0) (AA (AR (Ao Ab BH (dv 1) (dv 3))) (AA (AR (AU B_ Cv (dv 2) AE)) AK)))))
 (AL (Ar (AU AW Ag (AU AW Ag (CW Dx CY (dv 1) Bc (BB (dv 3))) (LD (Ct (C6 Dg (dv 1) rfl T.n_isinstance rfl T.n_list (by decide +kernel))) (DE.sh (Bm (AB (dv 4) AS))) (BE (AB (dv 4) AS)))) (CW Dx CY (dv 1) (BB (AU AW Ag (dv 3) AE)) Bc)))))))) (fun ss n Pd hl hw=>Ke (j:=j+1) (fun _ _ _ _ h=>h) hw)
theorem sc__law_least:An ["_law_ties","_law_place","_law_known","_law_going","_law_one","_law_other","_law_length_here","_law_here","_law_there","_law_reach"] ["_law_ties","_law_place"] (AH Br):=by constructor <;> first | rfl | decide +kernel
theorem Gw{f:Addr}{fd:FuncData}(T:Txt K mg)(F:Fun K "_law_least" "_law_least" Br f fd):Bh P w K mg base DR 1 f fd ["_law_ties","_law_place"] (FK K .fr DB 2):=by
 exact IE F sc__law_least (by decide) (fun cdv A outer s H E hr=>(AG (C2 (i:=2) sc__law_least.nd rfl (Or.inl rfl) (Jb (dv 1) AE))
 (AG (Ad (i:=3) sc__law_least.nd rfl (Or.inl rfl) CC)
 (AG (JW PassesOwn.never (Ct (dv 3)) (AG (Ad (i:=3) sc__law_least.nd rfl (Or.inl rfl) CC)
 (AL (OX PassesOwn.never rfl (pv 0) (GN rfl (BR (Af (i:=4) sc__law_least.nd rfl (Or.inl rfl)) (BR (Af (i:=5) sc__law_least.nd rfl (Or.inl rfl)) (BR (Af (i:=6) sc__law_least.nd rfl (Or.inl rfl)) Ee)))) (AL (DF PassesOwn.never rfl (GL (Bm (AB (BE (AB (dv 4) (AB (dv 5) AS))) (AB (BE (AB (dv 5) (AB (dv 4) AS))) AS)))) (GN rfl (BR (Af (i:=7) sc__law_least.nd rfl (Or.inl rfl)) (BR (Af (i:=8) sc__law_least.nd rfl (Or.inl rfl)) Ee))) (AL (Bx (A0 (M_ hr) PY (dv 7) (Ii 2) (by with_unfolding_all rfl)) (AG (Ad (i:=9) sc__law_least.nd rfl (Or.inl rfl) (AU AW Ag (CA hr (Ii 2) (dv 7)) (dv 6)))
 (AL (Bx (A0 (Fk hr) Jh (dv 9) (LE hr (Ii 2) (dv 8) (AU AW Ag (dv 9) AE)) (Aj _)) (AG (IM (i:=2) hr (pv 2) (dv 8) (dv 9))
 (AL (Ad (i:=3) sc__law_least.nd rfl (Or.inl rfl) CC))) A4))) A4))))))))
 (AL (LA 2 (pv 2))))))) (fun ss n Pd hl hw=>Ff hw)
theorem sc__law_is_fair:An ["_law_net_here","_law_thing","_law_price","_law_one","_law_other","_law_length_here"] ["_law_net_here","_law_thing"] (AH BQ):=by constructor <;> first | rfl | decide +kernel
theorem FN{f:Addr}{fd:FuncData}(T:Txt K mg)(G__law_whole:Got P w K mg base "_law_whole" 1 ["_law_thing","_law_least_here","_law_most"] .sh Eo)(F:Fun K "_law_is_fair" "_law_is_fair" BQ f fd):Bh P w K mg base DR 2 f fd ["_law_net_here","_law_thing"] (FK K .sh Ga 2):=by
 exact IE F sc__law_is_fair (by decide) (fun cdv A outer s H E hr=>(AG (Bx (DTW.dt (Eb (E6 (Ct (C6 kit_tuple (dv 1) rfl T.n_isinstance rfl T.n_tuple (by decide +kernel)))) (GI (A0 PD Rv (Ac A2 Cw rfl T.n_len PySem.boot_len (AI (dv 1) AM)) (Ac A2 Cw rfl T.n_len PySem.boot_len (AI (Ao Ab BH (dv 0) AE) AM)) (Aj _))))) (AL (Ar CC)) A4)
 (AG (Bx (A0 (QF hr) Rw CC (Be rfl [("_law_one" : Str)] [none] (Cd (dv 1)) (fun _ _ _ _ _=>(Af (i:=0) (show List.Nodup [("_law_one" : Str)] by decide +kernel) rfl (Or.inl rfl))) (fun _ _ _ _ _=>Bd) (fun _ _ _ _ _=>(AJ G__law_whole (hr.mono (by decide)) rfl (AA (AR (dv 0)) (AA (AR AE) (AA (AR (AU CT B3 AE AE)) AK))))) (by kernel_rfl)) (by with_unfolding_all rfl)) (AL (Ar CC)) A4)
 (AG (Ad (i:=2) sc__law_is_fair.nd rfl (Or.inl rfl) (A5 (KL rfl) Oi rfl T.n_dict boot_dict (AI (Be rfl [("_law_thing" : Str),("_law_net_here" : Str),("_law_k" : Str)] [some 1,some 0,none] (DI.c (CL rfl T.n_range (AI (Ac A2 Cw rfl T.n_len PySem.boot_len (AI (dv 1) AM)) AM))) (fun _ _ _ _ _=>(Af (i:=2) (show List.Nodup [("_law_thing" : Str),("_law_net_here" : Str),("_law_k" : Str)] by decide +kernel) rfl (Or.inl rfl))) (fun _ _ _ _ _=>Bd) (fun _ _ _ _ _=>(BE (AB (Ao Ab BH (Ao Ab BH (dv 1) AE) (dv 2)) (AB (Ao Ab BH (dv 0) (dv 2)) AS)))) (by kernel_rfl)) AM)))
 (AG (DF PassesOwn.never rfl (GL (Ao Ab BH (dv 0) AE)) (GN rfl (BR (Af (i:=3) sc__law_is_fair.nd rfl (Or.inl rfl)) (BR (Af (i:=4) sc__law_is_fair.nd rfl (Or.inl rfl)) (BR (Af (i:=5) sc__law_is_fair.nd rfl (Or.inl rfl)) Ee)))) (AL (Bx (DTW.dt (Eb (A0 M9 PX (AU B_ Cv (CA hr (dv 2) (dv 3)) (CA hr (dv 2) (dv 4))) (dv 5) (Aj _)) (GI (A0 M9 PX (AU B_ Cv (CA hr (dv 2) (dv 4)) (CA hr (dv 2) (dv 3))) (dv 5) (Aj _))))) (AL (Ar CC)) A4)))
 (AL (Ar CC))))))) (fun ss n Pd hl hw=>Hn hw)
theorem sc__law_asked:An ["_law_net_here","_law_thing","_law_kept","_law_found"] ["_law_net_here","_law_thing"] (AH Bs):=by constructor <;> first | rfl | decide +kernel
theorem Gx{f:Addr}{fd:FuncData}(T:Txt K mg)(G__law_is_fair:Got P w K mg base "_law_is_fair" 2 ["_law_net_here","_law_thing"] .sh Ga)(G_is_fair:Got P w K mg base "is_fair" 3 ["net","thing"] .sh FJ)(F:Fun K "_law_asked" "_law_asked" Bs f fd):Bh P w K mg base DR 4 f fd ["_law_net_here","_law_thing"] (FK K .sh Dv 2):=by
 exact IE F sc__law_asked (by decide) (fun cdv A outer s H E hr=>(AG (Ad (i:=2) sc__law_asked.nd rfl (Or.inl rfl) (Ac (Ci hr) E7 rfl T.n_repr boot_repr (AI (BE (AB (dv 0) (AB (dv 1) AS))) AM)))
 (AG (Ad (i:=3) sc__law_asked.nd rfl (Or.inl rfl) (AJ G_is_fair (hr.mono (by decide)) rfl (AA (AR (dv 0)) (AA (AR (dv 1)) AK))))
 (AL (Ar (DJ (C6 Fx (dv 3) rfl T.n_isinstance rfl T.n_bool (by decide +kernel)) (DJ (DH CP Dn (dv 3) (AJ G__law_is_fair (hr.mono (by decide)) rfl (AA (AR (dv 0)) (AA (AR (dv 1)) AK))) (Aj _)) (EH (DH CP Dn (Ac (Ci hr) E7 rfl T.n_repr boot_repr (AI (BE (AB (dv 0) (AB (dv 1) AS))) AM)) (dv 2) (Aj _)))))))))) (fun ss n Pd hl hw=>Gp hw)
theorem sc__law_line:An ["_law_feed_here","_law_places_here"] ["_law_feed_here"] (AH B5):=by constructor <;> first | rfl | decide +kernel
theorem Hy{f:Addr}{fd:FuncData}(T:Txt K mg)(G__law_length:Got P w K mg base "_law_length" 2 ["_law_feed_here","_law_scale"] .sh Jj)(G__law_places:Got P w K mg base "_law_places" 2 ["_law_feed_here","_law_many"] .fr DL)(F:Fun K "_law_line" "_law_line" B5 f fd):Bh P w K mg base DR 3 f fd ["_law_feed_here"] (FK K .sh GZ 1):=by
 exact IE F sc__law_line (by decide) (fun cdv A outer s H E hr=>(AG (Ad (i:=1) sc__law_line.nd rfl (Or.inr rfl) (AJ G__law_places (hr.mono (by decide)) rfl (AA (Ay 0) (AA (AR AE) AK))))
 (AL (Ar (BE (AB (A5 Au By rfl T.n_tuple boot_tuple (AI (dv 1) AM)) (AB (A5 Au By rfl T.n_tuple boot_tuple (AI (Be rfl [("_law_places_here" : Str),("_law_feed_here" : Str),("_law_k" : Str)] [some 1,some 0,none] (DI.c (CL rfl T.n_range (AI AE AM))) (fun _ _ _ _ _=>(Af (i:=2) (show List.Nodup [("_law_places_here" : Str),("_law_feed_here" : Str),("_law_k" : Str)] by decide +kernel) rfl (Or.inl rfl))) (fun _ _ _ _ _=>Bd) (fun _ _ _ _ _=>(BE (AB (Ao Ab BH (dv 0) (dv 2)) (AB (Ao Ab BH (dv 0) (AU AW Ag (dv 2) AE)) (AB (AJ G__law_length (hr.mono (by decide)) rfl (AA (Ay 1) (AA (AR AE) AK))) AS))))) (by kernel_rfl)) AM)) AS))))))) (fun ss n Pd hl hw=>Hm hw)
end
section
variable {P:Program}{w:World}{K:Frag}{mg:Str->Option Value}{base:Heap}
theorem Hg:An ["_law_script"] ["_law_script"] (AH B6):=by constructor <;> first | rfl | decide +kernel
theorem Hz{f:Addr}{fd:FuncData}(T:Txt K mg)(F:Fun K "_law_feed" "_law_feed" B6 f fd):Bh P w K mg base DR 1 f fd ["_law_script"] (HZ K):=by
 refine F.ok Hg (fun vs H Q E h=>?_) (fun cdv A outer s H vs Q E hr h=>?_)
 ·obtain⟨a,ns,rfl,_⟩:=h
  rfl
 ·obtain⟨a,ns,rfl,⟨hl,hS⟩,q⟩:=h
  refine⟨_,Cy (EA (J0 (BN (G_ DK rfl T.n_list boot_list (BN (JE sl_list (pv 0) Km (Kl Aq)) CS)) (BN Aq (BN Aq CS))))),?_⟩
  refine⟨_,rfl,63,rfl,a,_,rfl,hS,fun p hp=>⟨p,_,rfl,.inl (SqL.of AX),fun c hc=>⟨by show 3<=sizeLine; decide,fun g hg=>?_⟩⟩⟩
  rw [Rq hl] at hg ⊢
  have ncg:c≠g:=fun z=>by rw [← z,AX] at hg; cases hg
  exact q c g _ ncg (by rw [AO ncg,AX]) AX
theorem sc_law:An ["_law_script","_law_feed_here","_law_net_here","_law_known","_law_found","_law_place","_law_most","_law_due","_law_at","_law_more","_law_bent_here","_law_by_draws","_law_shifted","_law_others","_law_thing","_law_odd_here"] ["_law_script"] (AH ER):=by constructor <;> first | rfl | decide +kernel
theorem QI{f ff:Addr}{fd fdf:FuncData}(T:Txt K mg)(Gf:Bh P w K mg base DR 1 ff fdf ["_law_script"] (HZ K))(mf:mg "_law_feed"=some (.ref ff))(kf:keepIn K (.ref ff)=true)(bf:Binds K fdf ["_law_script"] [])
  (G__law_asked:Got P w K mg base "_law_asked" 4 ["_law_net_here","_law_thing"] .sh Dv) (G__law_bent:Got P w K mg base "_law_bent" 4 ["_law_feed_here","_law_thing","_law_deep"] .sh ((EI 1))) (G__law_least:Got P w K mg base "_law_least" 1 ["_law_ties","_law_place"] .fr DB) (G__law_line:Got P w K mg base "_law_line" 3 ["_law_feed_here"] .sh GZ) (G__law_net:Got P w K mg base "_law_net" 3 ["_law_feed_here","_law_most","_law_ties"] .sh Nq) (G__law_next:Got P w K mg base "_law_next" 1 ["_law_feed_here","_law_many"] .sh Ax) (G_is_fair:Got P w K mg base "is_fair" 3 ["net","thing"] .sh FJ) (G_prices_from:Got P w K mg base "prices_from" 3 ["net","place","most"] .sh E9) (F:Fun K "law" "law" ER f fd):Bh P w K mg base DR 5 f fd ["_law_script"] (I0 K):=by
 exact Ri (n0:=3000) F sc_law rfl (by decide) (fun cdv A outer s H E hr=>DZ (i:=1) sc_law.nd rfl (Or.inr rfl) (Kp Gf (hr.mono (by decide)) rfl mf kf bf .nil PC (BN (pv 0) CS)))
  (fun cdv A outer s H E hr=>(AG (Bx (A0 CP Dn (AJ G__law_next (hr.mono (by decide)) rfl (AA (Ay 1) (AA (AR AE) AK))) AE (Aj _)) (AG (Ad (i:=2) sc_law.nd rfl (Or.inl rfl) (AJ G__law_line (hr.mono (by decide)) rfl (AA (Ay 1) AK)))
 (AG (Ad (i:=3) sc_law.nd rfl (Or.inr rfl) (AJ G__law_least (hr.mono (by decide)) rfl (AA (LF (Ao Ab BH (dv 2) AE)) (AA (AR (Ao Ab BH (Ao Ab BH (dv 2) AE) AE)) AK))))
 (AG (Ad (i:=4) sc_law.nd rfl (Or.inl rfl) (AJ G_prices_from (hr.mono (by decide)) rfl (AA (AR (dv 2)) (AA (AR (Ao Ab BH (Ao Ab BH (dv 2) AE) AE)) (AA (AR (AU CT B3 AE AE)) AK)))))
 (AL (Ar (DJ (DH CP Dn (Ac (Ci hr) E7 rfl T.n_repr boot_repr (AI (dv 4) AM)) (Ac (Ci hr) E7 rfl T.n_repr boot_repr (AI (A5 Au By rfl T.n_tuple boot_tuple (AI (Be rfl [("_law_known" : Str),("_law_other" : Str)] [some 3,none] (Cd (Ao Ab BH (dv 2) AE)) (fun _ _ _ _ _=>(Af (i:=1) (show List.Nodup [("_law_known" : Str),("_law_other" : Str)] by decide +kernel) rfl (Or.inl rfl))) (fun _ _ _ _ _=>Bd) (fun _ _ _ _ _=>(CA hr (dv 0) (dv 1))) (by kernel_rfl)) AM)) AM)) (Aj _)) (EH (DH QE PV (AJ G_is_fair (hr.mono (by decide)) rfl (AA (AR (dv 2)) (AA (AR (dv 4)) AK))) CC (Aj _))))))))) A4)
 (AG (Ad (i:=2) sc_law.nd rfl (Or.inl rfl) (AJ G__law_net (hr.mono (by decide)) rfl (AA (Ay 1) (AA (AR AE) (AA (AR AE) AK)))))
 (AG (DF PassesOwn.never rfl (GL (Ao Ab BH (dv 2) AE)) (Af (i:=5) sc_law.nd rfl (Or.inl rfl)) (AG (Ad (i:=3) sc_law.nd rfl (Or.inr rfl) (AJ G__law_least (hr.mono (by decide)) rfl (AA (LF (Ao Ab BH (dv 2) AE)) (AA (AR (dv 5)) AK))))
 (AG (Ad (i:=6) sc_law.nd rfl (Or.inr rfl) (Ao Ab BH (Bm (AB AE (AB (AJ G__law_next (hr.mono (by decide)) rfl (AA (Ay 1) (AA (AR AE) AK))) (AB (AU CT B3 AE AE) (AB (AU CT B3 AE AE) (AB (AJ G__law_next (hr.mono (by decide)) rfl (AA (Ay 1) (AA (AR (AU Kq Nl AE (AU CT B3 AE AE))) AK))) AS)))))) (AJ G__law_next (hr.mono (by decide)) rfl (AA (Ay 1) (AA (AR AE) AK)))))
 (AG (Ad (i:=4) sc_law.nd rfl (Or.inl rfl) (AJ G_prices_from (hr.mono (by decide)) rfl (AA (AR (dv 2)) (AA (AR (dv 5)) (AA (AR (dv 6)) AK)))))
 (AG (Ad (i:=7) sc_law.nd rfl (Or.inl rfl) (A5 Au By rfl T.n_tuple boot_tuple (AI (Be rfl [("_law_most" : Str),("_law_known" : Str),("_law_other" : Str)] [some 6,some 3,none] (Cd (Ao Ab BH (dv 2) AE)) (fun _ _ _ _ _=>(Af (i:=2) (show List.Nodup [("_law_most" : Str),("_law_known" : Str),("_law_other" : Str)] by decide +kernel) rfl (Or.inl rfl))) (fun _ _ _ _ _=>Bd) (fun _ _ _ _ _=>(Ac (HN rfl) Nm rfl T.n_min boot_min (AI (dv 0) (AI (LE hr (dv 1) (dv 2) (dv 0)) AM)))) (by kernel_rfl)) AM)))
 (AG (Bx (DTW.dt (Eb (A0 PD Rv (Ac (Ci hr) E7 rfl T.n_repr boot_repr (AI (dv 4) AM)) (Ac (Ci hr) E7 rfl T.n_repr boot_repr (AI (dv 7) AM)) (Aj _)) (GI (A0 Ll PV (AJ G_is_fair (hr.mono (by decide)) rfl (AA (AR (dv 2)) (AA (AR (dv 4)) AK))) CC (Aj _))))) (AL (Ar CC)) A4)
 (AG (Ad (i:=8) sc_law.nd rfl (Or.inl rfl) (AJ G__law_next (hr.mono (by decide)) rfl (AA (Ay 1) (AA (AR (Ac A2 Cw rfl T.n_len PySem.boot_len (AI (dv 7) AM))) AK))))
 (AG (Ad (i:=9) sc_law.nd rfl (Or.inl rfl) (Bm (AB (AU B_ Cv (AU B_ Cv AE (Ao Ab BH (dv 7) (dv 8))) AE) (AB (AU AW Ag (Ao Ab BH (dv 7) (dv 8)) AE) (AB (AU B_ Cv (Ao Ab BH (dv 7) (dv 8)) AE) (AB (DH CP Dn (Ao Ab BH (dv 7) (dv 8)) AE (Aj _)) (AB (AU AW Ag (Ao Ab BH (dv 7) (dv 8)) (AU CT B3 AE AE)) (AB IR AS))))))))
 (AG (Ad (i:=10) sc_law.nd rfl (Or.inl rfl) (AU AW Ag (AU AW Ag (CW Dx CY (dv 7) Bc (BB (dv 8))) (BE (AB (Ao Ab BH (dv 9) (AJ G__law_next (hr.mono (by decide)) rfl (AA (Ay 1) (AA (AR AE) AK)))) AS))) (CW Dx CY (dv 7) (BB (AU AW Ag (dv 8) AE)) Bc)))
 (AG (Ad (i:=11) sc_law.nd rfl (Or.inl rfl) (A5 Au By rfl T.n_tuple boot_tuple (AI (Be rfl [("_law_feed_here" : Str),("_law_other" : Str)] [some 1,none] (Cd (Ao Ab BH (dv 2) AE)) (fun _ _ _ _ _=>(Af (i:=1) (show List.Nodup [("_law_feed_here" : Str),("_law_other" : Str)] by decide +kernel) rfl (Or.inl rfl))) (fun _ _ _ _ _=>Bd) (fun _ _ _ _ _=>(AJ G__law_next (hr.mono (by decide)) rfl (AA (Ay 0) (AA (AR AE) AK)))) (by kernel_rfl)) AM)))
 (AG (Ad (i:=12) sc_law.nd rfl (Or.inl rfl) (A5 Au By rfl T.n_tuple boot_tuple (AI (Be rfl [("_law_price" : Str)] [none] (Cd (dv 7)) (fun _ _ _ _ _=>(Af (i:=0) (show List.Nodup [("_law_price" : Str)] by decide +kernel) rfl (Or.inl rfl))) (fun _ _ _ _ _=>Bd) (fun _ _ _ _ _=>(AU AW Ag (dv 0) (AU CT B3 AE AE))) (by kernel_rfl)) AM)))
 (AG (Ad (i:=13) sc_law.nd rfl (Or.inl rfl) (Bm (AB (A5 DK LM rfl T.n_list boot_list (AI (dv 7) AM)) (AB (AU AW Ag (dv 7) (CW Dx CY (dv 7) Bc (BB AE))) (AB (CW Dx CY (dv 7) (BB AE) Bc) (AB (AJ G__law_bent (hr.mono (by decide)) rfl (AA (Ay 1) (AA (AR (dv 7)) (AA (AR AE) AK)))) AS))))))
 (AL (DF PassesOwn.never rfl (GL (AU AW Ag (Bm (AB (dv 10) (AB (dv 11) (AB (dv 12) AS)))) (dv 13))) (Af (i:=14) sc_law.nd rfl (Or.inl rfl)) (AL (Bx (E6 (Ct (AJ G__law_asked (hr.mono (by decide)) rfl (AA (AR (dv 2)) (AA (AR (dv 14)) AK))))) (AL (Ar CC)) A4))))))))))))))))
 (AG (DF PassesOwn.never rfl (GL (Bm (AB IR (AB CC (AB AE (AB (BE AS) (AB (Bm AS) (AB BI (AB (BE (AB AE AS)) (AB (BE (AB CC AS)) (AB (BE (AB (KH AE) AS)) (AB (BE (AB BI AS)) (AB (dv 2) AS))))))))))))) (Af (i:=15) sc_law.nd rfl (Or.inl rfl)) (AL (Bx (E6 (Ct (AJ G__law_asked (hr.mono (by decide)) rfl (AA (AR (dv 2)) (AA (AR (dv 15)) AK))))) (AL (Ar CC)) A4)))
 (AL (Ar CC))))))) Ju
end
theorem Kx{β:Type}{g k:List Value->β}(us:List Value)(h:us.length=1)(c:∀a0:Value,g [a0]=k [a0]):g us=k us:=by
 match us,h with
 | [a0],_=>exact c a0
theorem DP{β:Type}{g k:List Value->β}(us:List Value)(h:us.length=2)(c:∀a0 a1:Value,g [a0,a1]=k [a0,a1]):g us=k us:=by
 match us,h with
 | [a0,a1],_=>exact c a0 a1
theorem Kw{β:Type}{g k:List Value->β}(us:List Value)(h:us.length=3)(c:∀a0 a1 a2:Value,g [a0,a1,a2]=k [a0,a1,a2]):g us=k us:=by
 match us,h with
 | [a0,a1,a2],_=>exact c a0 a1 a2
theorem Ra{β:Type}{g k:List Value->β}(us:List Value)(h:us.length=4)(c:∀a0 a1 a2 a3:Value,g [a0,a1,a2,a3]=k [a0,a1,a2,a3]):g us=k us:=by
 match us,h with
 | [a0,a1,a2,a3],_=>exact c a0 a1 a2 a3
theorem all_mk{l:PySem.W.OpenLaw}{w:World}{K:Frag}{h:Heap}{mg:Str->Option Value}{fa:Addr}(X:K.In h)(G:h.Ns mainGlobals mg)(hfa:mg "law"=some (.ref fa))
  {f0 f1 f2 f3 f4 f5 f6 f7 f8 f9 f10 f11 f12 f13 f14 f15 f16 f17 f18 f19 f20 f21:Addr} {od0 an0 od1 an1 od2 an2 od3 an3 od4 an4 od5 an5 od6 an6 od7 an7 od8 an8 od9 an9 od10 an10 od11 an11 od12 an12 od13 an13 od14 an14 od15 an15 od16 an16 od17 an17 od18 an18 od19 an19 od20 an20 od21 an21:Option Addr} {sl0 sl1 sl2 sl3 sl4 sl5 sl6 sl7 sl8 sl9 sl10 sl11 sl12 sl13 sl14 sl15 sl16 sl17 sl18 sl19 sl20 sl21:Array (Option Value)} {oc0 kV0 dc0 pm0 cd0 ct0 oc1 kV1 dc1 pm1 cd1 ct1 oc2 kV2 dc2 pm2 cd2 ct2 oc3 kV3 dc3 pm3 cd3 ct3 oc4 kV4 dc4 pm4 cd4 ct4 oc5 kV5 dc5 pm5 cd5 ct5 oc6 kV6 dc6 pm6 cd6 ct6 oc7 kV7 dc7 pm7 cd7 ct7 oc8 kV8 dc8 pm8 cd8 ct8 oc9 kV9 dc9 pm9 cd9 ct9 oc10 kV10 dc10 pm10 cd10 ct10 oc11 kV11 dc11 pm11 cd11 ct11 oc12 kV12 dc12 pm12 cd12 ct12 oc13 kV13 dc13 pm13 cd13 ct13 oc14 kV14 dc14 pm14 cd14 ct14 oc15 kV15 dc15 pm15 cd15 ct15 oc16 kV16 dc16 pm16 cd16 ct16 oc17 kV17 dc17 pm17 cd17 ct17 oc18 kV18 dc18 pm18 cd18 ct18 oc19 kV19 dc19 pm19 cd19 ct19 oc20 kV20 dc20 pm20 cd20 ct20 oc21 kV21 dc21 pm21 cd21 ct21:Value}
  (a0:nsIn K mainGlobals "is_whole"=some (some (.ref f0))) (l0:K.lookup f0=some ⟨oc0,od0,.func (fnOf "is_whole" "is_whole" (Am CH) (Ah CH) (AH CH) .none kV0 dc0 pm0 an0 cd0 ct0),sl0⟩) (c0:codeIn K cd0 "is_whole"=true) (k0:keepIn K (.ref f0)=true)
  (a1:nsIn K mainGlobals "is_tuple_of"=some (some (.ref f1))) (l1:K.lookup f1=some ⟨oc1,od1,.func (fnOf "is_tuple_of" "is_tuple_of" (Am BV) (Ah BV) (AH BV) .none kV1 dc1 pm1 an1 cd1 ct1),sl1⟩) (c1:codeIn K cd1 "is_tuple_of"=true) (k1:keepIn K (.ref f1)=true)
  (a2:nsIn K mainGlobals "steps_of"=some (some (.ref f2))) (l2:K.lookup f2=some ⟨oc2,od2,.func (fnOf "steps_of" "steps_of" (Am CG) (Ah CG) (AH CG) .none kV2 dc2 pm2 an2 cd2 ct2),sl2⟩) (c2:codeIn K cd2 "steps_of"=true) (k2:keepIn K (.ref f2)=true)
  (a3:nsIn K mainGlobals "nearest_of"=some (some (.ref f3))) (l3:K.lookup f3=some ⟨oc3,od3,.func (fnOf "nearest_of" "nearest_of" (Am Bn) (Ah Bn) (AH Bn) .none kV3 dc3 pm3 an3 cd3 ct3),sl3⟩) (c3:codeIn K cd3 "nearest_of"=true) (k3:keepIn K (.ref f3)=true)
  (a4:nsIn K mainGlobals "least_ways"=some (some (.ref f4))) (l4:K.lookup f4=some ⟨oc4,od4,.func (fnOf "least_ways" "least_ways" (Am Bo) (Ah Bo) (AH Bo) .none kV4 dc4 pm4 an4 cd4 ct4),sl4⟩) (c4:codeIn K cd4 "least_ways"=true) (k4:keepIn K (.ref f4)=true)
  (a5:nsIn K mainGlobals "are_prices"=some (some (.ref f5))) (l5:K.lookup f5=some ⟨oc5,od5,.func (fnOf "are_prices" "are_prices" (Am Bp) (Ah Bp) (AH Bp) .none kV5 dc5 pm5 an5 cd5 ct5),sl5⟩) (c5:codeIn K cd5 "are_prices"=true) (k5:keepIn K (.ref f5)=true)
  (a6:nsIn K mainGlobals "price_gap"=some (some (.ref f6))) (l6:K.lookup f6=some ⟨oc6,od6,.func (fnOf "price_gap" "price_gap" (Am B4) (Ah B4) (AH B4) .none kV6 dc6 pm6 an6 cd6 ct6),sl6⟩) (c6:codeIn K cd6 "price_gap"=true) (k6:keepIn K (.ref f6)=true)
  (a7:nsIn K mainGlobals "is_fair"=some (some (.ref f7))) (l7:K.lookup f7=some ⟨oc7,od7,.func (fnOf "is_fair" "is_fair" (Am Cg) (Ah Cg) (AH Cg) .none kV7 dc7 pm7 an7 cd7 ct7),sl7⟩) (c7:codeIn K cd7 "is_fair"=true) (k7:keepIn K (.ref f7)=true)
  (a8:nsIn K mainGlobals "prices_from"=some (some (.ref f8))) (l8:K.lookup f8=some ⟨oc8,od8,.func (fnOf "prices_from" "prices_from" (Am BU) (Ah BU) (AH BU) .none kV8 dc8 pm8 an8 cd8 ct8),sl8⟩) (c8:codeIn K cd8 "prices_from"=true) (k8:keepIn K (.ref f8)=true)
  (a9:nsIn K mainGlobals "_law_feed"=some (some (.ref f9))) (l9:K.lookup f9=some ⟨oc9,od9,.func (fnOf "_law_feed" "_law_feed" (Am B6) (Ah B6) (AH B6) .none kV9 dc9 pm9 an9 cd9 ct9),sl9⟩) (c9:codeIn K cd9 "_law_feed"=true) (k9:keepIn K (.ref f9)=true)
  (a10:nsIn K mainGlobals "_law_next"=some (some (.ref f10))) (l10:K.lookup f10=some ⟨oc10,od10,.func (fnOf "_law_next" "_law_next" (Am Bj) (Ah Bj) (AH Bj) .none kV10 dc10 pm10 an10 cd10 ct10),sl10⟩) (c10:codeIn K cd10 "_law_next"=true) (k10:keepIn K (.ref f10)=true)
  (a11:nsIn K mainGlobals "_law_whole"=some (some (.ref f11))) (l11:K.lookup f11=some ⟨oc11,od11,.func (fnOf "_law_whole" "_law_whole" (Am Bq) (Ah Bq) (AH Bq) .none kV11 dc11 pm11 an11 cd11 ct11),sl11⟩) (c11:codeIn K cd11 "_law_whole"=true) (k11:keepIn K (.ref f11)=true)
  (a12:nsIn K mainGlobals "_law_places"=some (some (.ref f12))) (l12:K.lookup f12=some ⟨oc12,od12,.func (fnOf "_law_places" "_law_places" (Am BX) (Ah BX) (AH BX) .none kV12 dc12 pm12 an12 cd12 ct12),sl12⟩) (c12:codeIn K cd12 "_law_places"=true) (k12:keepIn K (.ref f12)=true)
  (a13:nsIn K mainGlobals "_law_length"=some (some (.ref f13))) (l13:K.lookup f13=some ⟨oc13,od13,.func (fnOf "_law_length" "_law_length" (Am BY) (Ah BY) (AH BY) .none kV13 dc13 pm13 an13 cd13 ct13),sl13⟩) (c13:codeIn K cd13 "_law_length"=true) (k13:keepIn K (.ref f13)=true)
  (a14:nsIn K mainGlobals "_law_net"=some (some (.ref f14))) (l14:K.lookup f14=some ⟨oc14,od14,.func (fnOf "_law_net" "_law_net" (Am CJ) (Ah CJ) (AH CJ) .none kV14 dc14 pm14 an14 cd14 ct14),sl14⟩) (c14:codeIn K cd14 "_law_net"=true) (k14:keepIn K (.ref f14)=true)
  (a15:nsIn K mainGlobals "_law_odd"=some (some (.ref f15))) (l15:K.lookup f15=some ⟨oc15,od15,.func (fnOf "_law_odd" "_law_odd" (Am CI) (Ah CI) (AH CI) .none kV15 dc15 pm15 an15 cd15 ct15),sl15⟩) (c15:codeIn K cd15 "_law_odd"=true) (k15:keepIn K (.ref f15)=true)
  (a16:nsIn K mainGlobals "_law_bent"=some (some (.ref f16))) (l16:K.lookup f16=some ⟨oc16,od16,.func (fnOf "_law_bent" "_law_bent" (Am B7) (Ah B7) (AH B7) .none kV16 dc16 pm16 an16 cd16 ct16),sl16⟩) (c16:codeIn K cd16 "_law_bent"=true) (k16:keepIn K (.ref f16)=true)
  (a17:nsIn K mainGlobals "_law_least"=some (some (.ref f17))) (l17:K.lookup f17=some ⟨oc17,od17,.func (fnOf "_law_least" "_law_least" (Am Br) (Ah Br) (AH Br) .none kV17 dc17 pm17 an17 cd17 ct17),sl17⟩) (c17:codeIn K cd17 "_law_least"=true) (k17:keepIn K (.ref f17)=true)
  (a18:nsIn K mainGlobals "_law_is_fair"=some (some (.ref f18))) (l18:K.lookup f18=some ⟨oc18,od18,.func (fnOf "_law_is_fair" "_law_is_fair" (Am BQ) (Ah BQ) (AH BQ) .none kV18 dc18 pm18 an18 cd18 ct18),sl18⟩) (c18:codeIn K cd18 "_law_is_fair"=true) (k18:keepIn K (.ref f18)=true)
  (a19:nsIn K mainGlobals "_law_asked"=some (some (.ref f19))) (l19:K.lookup f19=some ⟨oc19,od19,.func (fnOf "_law_asked" "_law_asked" (Am Bs) (Ah Bs) (AH Bs) .none kV19 dc19 pm19 an19 cd19 ct19),sl19⟩) (c19:codeIn K cd19 "_law_asked"=true) (k19:keepIn K (.ref f19)=true)
  (a20:nsIn K mainGlobals "_law_line"=some (some (.ref f20))) (l20:K.lookup f20=some ⟨oc20,od20,.func (fnOf "_law_line" "_law_line" (Am B5) (Ah B5) (AH B5) .none kV20 dc20 pm20 an20 cd20 ct20),sl20⟩) (c20:codeIn K cd20 "_law_line"=true) (k20:keepIn K (.ref f20)=true)
  (a21:nsIn K mainGlobals "law"=some (some (.ref f21))) (l21:K.lookup f21=some ⟨oc21,od21,.func (fnOf "law" "law" (Am ER) (Ah ER) (AH ER) .none kV21 dc21 pm21 an21 cd21 ct21),sl21⟩) (c21:codeIn K cd21 "law"=true) (k21:keepIn K (.ref f21)=true)
  (z_abs:nsIn K mainGlobals "abs"=some none)
  (z_all:nsIn K mainGlobals "all"=some none)
  (z_bool:nsIn K mainGlobals "bool"=some none)
  (z_dict:nsIn K mainGlobals "dict"=some none)
  (z_int:nsIn K mainGlobals "int"=some none)
  (z_isinstance:nsIn K mainGlobals "isinstance"=some none)
  (z_len:nsIn K mainGlobals "len"=some none)
  (z_list:nsIn K mainGlobals "list"=some none)
  (z_min:nsIn K mainGlobals "min"=some none)
  (z_range:nsIn K mainGlobals "range"=some none)
  (z_repr:nsIn K mainGlobals "repr"=some none)
  (z_sorted:nsIn K mainGlobals "sorted"=some none)
  (z_str:nsIn K mainGlobals "str"=some none)
  (z_tuple:nsIn K mainGlobals "tuple"=some none)
  : ∃fd:FuncData,(∀(s:Shared) (v:Value),BindsTo s fd ⟨[v],[]⟩ [("_law_script",v)])/\∀base:Heap,K.In base->base.Ns mainGlobals mg->Bh l.prog w K mg base DR 5 fa fd ["_law_script"] (I0 K):=by
 have e:=hfa.symm.trans (mg_of X G a21)
 cases e
 have T:Txt K mg:=⟨mg_none_of X G z_abs,mg_none_of X G z_all,mg_none_of X G z_bool,mg_none_of X G z_dict,mg_none_of X G z_int,mg_none_of X G z_isinstance,mg_none_of X G z_len,mg_none_of X G z_list,mg_none_of X G z_min,mg_none_of X G z_range,mg_none_of X G z_repr,mg_none_of X G z_sorted,mg_none_of X G z_str,mg_none_of X G z_tuple⟩
 have F0:=BD (st:=CH) l0 c0 k0
 have b0:=F0.binds (ps:=["thing"]) fun _ _ _ _ _ _ us hl=>by revert hl; revert us; exact fun us hl=>Kx (g:=fun us=>bindArgs _ ⟨us,[]⟩) (k:=fun us=>pure (List.zip _ us)) us hl fun _=>rfl
 have F1:=BD (st:=BV) l1 c1 k1
 have b1:=F1.binds (ps:=["count","thing"]) fun _ _ _ _ _ _ us hl=>by revert hl; revert us; exact fun us hl=>DP (g:=fun us=>bindArgs _ ⟨us,[]⟩) (k:=fun us=>pure (List.zip _ us)) us hl fun _ _=>rfl
 have F2:=BD (st:=CG) l2 c2 k2
 have b2:=F2.binds (ps:=["net"]) fun _ _ _ _ _ _ us hl=>by revert hl; revert us; exact fun us hl=>Kx (g:=fun us=>bindArgs _ ⟨us,[]⟩) (k:=fun us=>pure (List.zip _ us)) us hl fun _=>rfl
 have F3:=BD (st:=Bn) l3 c3 k3
 have b3:=F3.binds (ps:=["waiting","found"]) fun _ _ _ _ _ _ us hl=>by revert hl; revert us; exact fun us hl=>DP (g:=fun us=>bindArgs _ ⟨us,[]⟩) (k:=fun us=>pure (List.zip _ us)) us hl fun _ _=>rfl
 have F4:=BD (st:=Bo) l4 c4 k4
 have b4:=F4.binds (ps:=["net","start"]) fun _ _ _ _ _ _ us hl=>by revert hl; revert us; exact fun us hl=>DP (g:=fun us=>bindArgs _ ⟨us,[]⟩) (k:=fun us=>pure (List.zip _ us)) us hl fun _ _=>rfl
 have F5:=BD (st:=Bp) l5 c5 k5
 have b5:=F5.binds (ps:=["net","thing"]) fun _ _ _ _ _ _ us hl=>by revert hl; revert us; exact fun us hl=>DP (g:=fun us=>bindArgs _ ⟨us,[]⟩) (k:=fun us=>pure (List.zip _ us)) us hl fun _ _=>rfl
 have F6:=BD (st:=B4) l6 c6 k6
 have b6:=F6.binds (ps:=["net","prices","a","b"]) fun _ _ _ _ _ _ us hl=>by revert hl; revert us; exact fun us hl=>Ra (g:=fun us=>bindArgs _ ⟨us,[]⟩) (k:=fun us=>pure (List.zip _ us)) us hl fun _ _ _ _=>rfl
 have F7:=BD (st:=Cg) l7 c7 k7
 have b7:=F7.binds (ps:=["net","thing"]) fun _ _ _ _ _ _ us hl=>by revert hl; revert us; exact fun us hl=>DP (g:=fun us=>bindArgs _ ⟨us,[]⟩) (k:=fun us=>pure (List.zip _ us)) us hl fun _ _=>rfl
 have F8:=BD (st:=BU) l8 c8 k8
 have b8:=F8.binds (ps:=["net","place","most"]) fun _ _ _ _ _ _ us hl=>by revert hl; revert us; exact fun us hl=>Kw (g:=fun us=>bindArgs _ ⟨us,[]⟩) (k:=fun us=>pure (List.zip _ us)) us hl fun _ _ _=>rfl
 have F9:=BD (st:=B6) l9 c9 k9
 have b9:=F9.binds (ps:=["_law_script"]) fun _ _ _ _ _ _ us hl=>by revert hl; revert us; exact fun us hl=>Kx (g:=fun us=>bindArgs _ ⟨us,[]⟩) (k:=fun us=>pure (List.zip _ us)) us hl fun _=>rfl
 have F10:=BD (st:=Bj) l10 c10 k10
 have b10:=F10.binds (ps:=["_law_feed_here","_law_many"]) fun _ _ _ _ _ _ us hl=>by revert hl; revert us; exact fun us hl=>DP (g:=fun us=>bindArgs _ ⟨us,[]⟩) (k:=fun us=>pure (List.zip _ us)) us hl fun _ _=>rfl
 have F11:=BD (st:=Bq) l11 c11 k11
 have b11:=F11.binds (ps:=["_law_thing","_law_least_here","_law_most"]) fun _ _ _ _ _ _ us hl=>by revert hl; revert us; exact fun us hl=>Kw (g:=fun us=>bindArgs _ ⟨us,[]⟩) (k:=fun us=>pure (List.zip _ us)) us hl fun _ _ _=>rfl
 have F12:=BD (st:=BX) l12 c12 k12
 have b12:=F12.binds (ps:=["_law_feed_here","_law_many"]) fun _ _ _ _ _ _ us hl=>by revert hl; revert us; exact fun us hl=>DP (g:=fun us=>bindArgs _ ⟨us,[]⟩) (k:=fun us=>pure (List.zip _ us)) us hl fun _ _=>rfl
 have F13:=BD (st:=BY) l13 c13 k13
 have b13:=F13.binds (ps:=["_law_feed_here","_law_scale"]) fun _ _ _ _ _ _ us hl=>by revert hl; revert us; exact fun us hl=>DP (g:=fun us=>bindArgs _ ⟨us,[]⟩) (k:=fun us=>pure (List.zip _ us)) us hl fun _ _=>rfl
 have F14:=BD (st:=CJ) l14 c14 k14
 have b14:=F14.binds (ps:=["_law_feed_here","_law_most","_law_ties"]) fun _ _ _ _ _ _ us hl=>by revert hl; revert us; exact fun us hl=>Kw (g:=fun us=>bindArgs _ ⟨us,[]⟩) (k:=fun us=>pure (List.zip _ us)) us hl fun _ _ _=>rfl
 have F15:=BD (st:=CI) l15 c15 k15
 have b15:=F15.binds (ps:=["_law_feed_here","_law_thing"]) fun _ _ _ _ _ _ us hl=>by revert hl; revert us; exact fun us hl=>DP (g:=fun us=>bindArgs _ ⟨us,[]⟩) (k:=fun us=>pure (List.zip _ us)) us hl fun _ _=>rfl
 have F16:=BD (st:=B7) l16 c16 k16
 have b16:=F16.binds (ps:=["_law_feed_here","_law_thing","_law_deep"]) fun _ _ _ _ _ _ us hl=>by revert hl; revert us; exact fun us hl=>Kw (g:=fun us=>bindArgs _ ⟨us,[]⟩) (k:=fun us=>pure (List.zip _ us)) us hl fun _ _ _=>rfl
 have F17:=BD (st:=Br) l17 c17 k17
 have b17:=F17.binds (ps:=["_law_ties","_law_place"]) fun _ _ _ _ _ _ us hl=>by revert hl; revert us; exact fun us hl=>DP (g:=fun us=>bindArgs _ ⟨us,[]⟩) (k:=fun us=>pure (List.zip _ us)) us hl fun _ _=>rfl
 have F18:=BD (st:=BQ) l18 c18 k18
 have b18:=F18.binds (ps:=["_law_net_here","_law_thing"]) fun _ _ _ _ _ _ us hl=>by revert hl; revert us; exact fun us hl=>DP (g:=fun us=>bindArgs _ ⟨us,[]⟩) (k:=fun us=>pure (List.zip _ us)) us hl fun _ _=>rfl
 have F19:=BD (st:=Bs) l19 c19 k19
 have b19:=F19.binds (ps:=["_law_net_here","_law_thing"]) fun _ _ _ _ _ _ us hl=>by revert hl; revert us; exact fun us hl=>DP (g:=fun us=>bindArgs _ ⟨us,[]⟩) (k:=fun us=>pure (List.zip _ us)) us hl fun _ _=>rfl
 have F20:=BD (st:=B5) l20 c20 k20
 have b20:=F20.binds (ps:=["_law_feed_here"]) fun _ _ _ _ _ _ us hl=>by revert hl; revert us; exact fun us hl=>Kx (g:=fun us=>bindArgs _ ⟨us,[]⟩) (k:=fun us=>pure (List.zip _ us)) us hl fun _=>rfl
 have F21:=BD (st:=ER) l21 c21 k21
 refine⟨fnOf "law" "law" (Am ER) (Ah ER) (AH ER) .none kV21 dc21 pm21 an21 cd21 ct21,fun s v=>.of_eq rfl,fun base _ _=>?_⟩
 have G_is_whole:Got l.prog w K mg base "is_whole" 1 ["thing"] .sh GY:=BC F0 (mg_of X G a0) b0 (fun _ _ _ h=>Lc h) (JJ T  F0)
 have G_is_tuple_of:Got l.prog w K mg base "is_tuple_of" 1 ["count","thing"] .sh Do:=BC F1 (mg_of X G a1) b1 (fun _ _ _ h=>by obtain⟨_,_,e,_⟩:=h; rw [e]; rfl) (Fn T  F1)
 have G_steps_of:Got l.prog w K mg base "steps_of" 1 ["net"] .sh Ie:=BC F2 (mg_of X G a2) b2 (fun _ _ _ h=>by obtain⟨_,e,_⟩:=h; rw [e]; rfl) (JI F2)
 have G_nearest_of:Got l.prog w K mg base "nearest_of" 1 ["waiting","found"] .sh Ji:=BC F3 (mg_of X G a3) b3 (fun _ _ _ h=>by obtain⟨_,_,_,_,e,_⟩:=h; rw [e]; rfl) (Gr T  F3)
 have G_least_ways:Got l.prog w K mg base "least_ways" 2 ["net","start"] .fr Gb:=BC F4 (mg_of X G a4) b4 (fun _ _ _ h=>by obtain⟨_,_,e,_⟩:=h; rw [e]; rfl) (Gs T G_nearest_of G_steps_of F4)
 have G_are_prices:Got l.prog w K mg base "are_prices" 2 ["net","thing"] .sh En:=BC F5 (mg_of X G a5) b5 (fun _ _ _ h=>by obtain⟨_,_,e,_⟩:=h; rw [e]; rfl) (Gu T G_is_tuple_of G_is_whole F5)
 have G_price_gap:Got l.prog w K mg base "price_gap" 1 ["net","prices","a","b"] .sh Nu:=BC F6 (mg_of X G a6) b6 (fun _ _ _ h=>by obtain⟨_,_,_,_,e,_⟩:=h; rw [e]; rfl) (Hx T  F6)
 have G_is_fair:Got l.prog w K mg base "is_fair" 3 ["net","thing"] .sh FJ:=BC F7 (mg_of X G a7) b7 (fun _ _ _ h=>by obtain⟨_,_,e,_⟩:=h; rw [e]; rfl) (J2 T G_are_prices G_price_gap F7)
 have G_prices_from:Got l.prog w K mg base "prices_from" 3 ["net","place","most"] .sh E9:=BC F8 (mg_of X G a8) b8 (fun _ _ _ h=>by obtain⟨_,_,_,e,_⟩:=h; rw [e]; rfl) (Fl T G_least_ways F8)
 have Gf:=Hz (P:=l.prog) (w:=w) (base:=base) T F9
 have G__law_next:Got l.prog w K mg base "_law_next" 1 ["_law_feed_here","_law_many"] .sh Ax:=BC F10 (mg_of X G a10) b10 (fun _ _ _ h=>by obtain⟨_,e,_⟩:=h; rw [e]; rfl) (OH F10 T.n_len)
 have G__law_whole:Got l.prog w K mg base "_law_whole" 1 ["_law_thing","_law_least_here","_law_most"] .sh Eo:=BC F11 (mg_of X G a11) b11 (fun _ _ _ h=>by obtain⟨_,_,_,e,_⟩:=h; rw [e]; rfl) (Gv T  F11)
 have G__law_places:Got l.prog w K mg base "_law_places" 2 ["_law_feed_here","_law_many"] .fr DL:=BC F12 (mg_of X G a12) b12 (fun _ _ _ h=>by obtain⟨_,e,_⟩:=h; rw [e]; rfl) (Fo T G__law_next F12)
 have G__law_length:Got l.prog w K mg base "_law_length" 2 ["_law_feed_here","_law_scale"] .sh Jj:=BC F13 (mg_of X G a13) b13 (fun _ _ _ h=>by obtain⟨_,e,_⟩:=h; rw [e]; rfl) (Fp T G__law_next F13)
 have G__law_net:Got l.prog w K mg base "_law_net" 3 ["_law_feed_here","_law_most","_law_ties"] .sh Nq:=BC F14 (mg_of X G a14) b14 (fun _ _ _ h=>by obtain⟨_,_,e,_⟩:=h; rw [e]; rfl) (JL T G__law_length G__law_next G__law_places F14)
 have G__law_odd:Got l.prog w K mg base "_law_odd" 2 ["_law_feed_here","_law_thing"] .sh MN:=BC F15 (mg_of X G a15) b15 (fun _ _ _ h=>by obtain⟨_,_,e,_⟩:=h; rw [e]; rfl) (JK T G__law_next F15)
 have G__law_bent:Got l.prog w K mg base "_law_bent" 4 ["_law_feed_here","_law_thing","_law_deep"] .sh ((EI 1)):=BC F16 (mg_of X G a16) b16 (fun _ _ _ h=>by obtain⟨_,_,_,e,_⟩:=h; rw [e]; rfl) (EW T G__law_next G__law_odd F16 (mg_of X G a16) b16 1)
 have G__law_least:Got l.prog w K mg base "_law_least" 1 ["_law_ties","_law_place"] .fr DB:=BC F17 (mg_of X G a17) b17 (fun _ _ _ h=>by obtain⟨_,_,_,_,e,_⟩:=h; rw [e]; rfl) (Gw T  F17)
 have G__law_is_fair:Got l.prog w K mg base "_law_is_fair" 2 ["_law_net_here","_law_thing"] .sh Ga:=BC F18 (mg_of X G a18) b18 (fun _ _ _ h=>by obtain⟨_,_,e,_⟩:=h; rw [e]; rfl) (FN T G__law_whole F18)
 have G__law_asked:Got l.prog w K mg base "_law_asked" 4 ["_law_net_here","_law_thing"] .sh Dv:=BC F19 (mg_of X G a19) b19 (fun _ _ _ h=>by obtain⟨_,_,e,_⟩:=h; rw [e]; rfl) (Gx T G__law_is_fair G_is_fair F19)
 have G__law_line:Got l.prog w K mg base "_law_line" 3 ["_law_feed_here"] .sh GZ:=BC F20 (mg_of X G a20) b20 (fun _ _ _ h=>by obtain⟨e,_⟩:=h; rw [e]; rfl) (Hy T G__law_length G__law_places F20)
 exact QI T Gf (mg_of X G a9) F9.kp b9 G__law_asked G__law_bent G__law_least G__law_line G__law_net G__law_next G_is_fair G_prices_from F21
theorem walk{l:PySem.W.OpenLaw}{q:Program}{loose:List Str}{XP:(Str->Option Value)->Heap->Prop}{YP:World->Heap->Prop}{d:DefRec}{K:Params->Frag}(hn:l.most=some 63)(hdf:d.params.defaults=[])
  (hY:∀(w:World) (h:Heap),YP w h->(K w.params).In h)
  (F:∀(w:World) (mg:Str->Option Value) (fa:Addr) (h:Heap),(K w.params).In h->h.Ns mainGlobals mg->mg d.name=some (.ref fa) ->
   ∃fd:FuncData,(∀(s:Shared) (u:Value),BindsTo s fd ⟨[u],[]⟩ [("_law_script",u)])/\∀base:Heap,(K w.params).In base->base.Ns mainGlobals mg->Bh l.prog w (K w.params) mg base DR 5 fa fd ["_law_script"] (I0 (K w.params))) :
  PySem.W.WalkO q loose XP YP l.row.toRowW d [] (fun f vs=>PySem.call f vs) :=
 L2.KQ (n:=63) (k:=5) (x := "_law_script") (CX:=fun _=>DR) (sp:=fun w=>I0 (K w.params)) hn (by decide) hdf ⟨rfl,by decide,by decide,rfl⟩ hY F (fun _ _ a ns hl _ hS=>⟨a,ns,rfl,⟨hl,hS⟩,fun _=>rfl⟩) fun _ _ _ _ _ z=>z
end K07
open PySem PySem.W PyProof.Rows
set_option maxRecDepth 100000 in
set_option maxHeartbeats 0 in
theorem PySem.Challenge.cw_thinnet_k07_prices_holds : PySem.Challenge.rw_thinnet_k07_prices.Holds := by
 w_on; o_law; k_head; (case hw=>w_witness2)
 k_fill
 refine K07.walk (l:=PySem.Challenge.rw_thinnet_k07_prices) rfl rfl (fun w h Y=>PySem.W.kIn_of Y) ?F
 case F =>
  intro w mg fa h KX G hmg
  refine' K07.all_mk KX G hmg ?a0 ?l0 ?c0 ?k0 ?a1 ?l1 ?c1 ?k1 ?a2 ?l2 ?c2 ?k2 ?a3 ?l3 ?c3 ?k3 ?a4 ?l4 ?c4 ?k4 ?a5 ?l5 ?c5 ?k5 ?a6 ?l6 ?c6 ?k6 ?a7 ?l7 ?c7 ?k7 ?a8 ?l8 ?c8 ?k8 ?a9 ?l9 ?c9 ?k9 ?a10 ?l10 ?c10 ?k10 ?a11 ?l11 ?c11 ?k11 ?a12 ?l12 ?c12 ?k12 ?a13 ?l13 ?c13 ?k13 ?a14 ?l14 ?c14 ?k14 ?a15 ?l15 ?c15 ?k15 ?a16 ?l16 ?c16 ?k16 ?a17 ?l17 ?c17 ?k17 ?a18 ?l18 ?c18 ?k18 ?a19 ?l19 ?c19 ?k19 ?a20 ?l20 ?c20 ?k20 ?a21 ?l21 ?c21 ?k21 ?z_abs ?z_all ?z_bool ?z_dict ?z_int ?z_isinstance ?z_len ?z_list ?z_min ?z_range ?z_repr ?z_sorted ?z_str ?z_tuple
  case a0=>k_is
  case l0=>k_is
  case c0=>k_is
  case k0=>k_is
  case a1=>k_is
  case l1=>k_is
  case c1=>k_is
  case k1=>k_is
  case a2=>k_is
  case l2=>k_is
  case c2=>k_is
  case k2=>k_is
  case a3=>k_is
  case l3=>k_is
  case c3=>k_is
  case k3=>k_is
  case a4=>k_is
  case l4=>k_is
  case c4=>k_is
  case k4=>k_is
  case a5=>k_is
  case l5=>k_is
  case c5=>k_is
  case k5=>k_is
  case a6=>k_is
  case l6=>k_is
  case c6=>k_is
  case k6=>k_is
  case a7=>k_is
  case l7=>k_is
  case c7=>k_is
  case k7=>k_is
  case a8=>k_is
  case l8=>k_is
  case c8=>k_is
  case k8=>k_is
  case a9=>k_is
  case l9=>k_is
  case c9=>k_is
  case k9=>k_is
  case a10=>k_is
  case l10=>k_is
  case c10=>k_is
  case k10=>k_is
  case a11=>k_is
  case l11=>k_is
  case c11=>k_is
  case k11=>k_is
  case a12=>k_is
  case l12=>k_is
  case c12=>k_is
  case k12=>k_is
  case a13=>k_is
  case l13=>k_is
  case c13=>k_is
  case k13=>k_is
  case a14=>k_is
  case l14=>k_is
  case c14=>k_is
  case k14=>k_is
  case a15=>k_is
  case l15=>k_is
  case c15=>k_is
  case k15=>k_is
  case a16=>k_is
  case l16=>k_is
  case c16=>k_is
  case k16=>k_is
  case a17=>k_is
  case l17=>k_is
  case c17=>k_is
  case k17=>k_is
  case a18=>k_is
  case l18=>k_is
  case c18=>k_is
  case k18=>k_is
  case a19=>k_is
  case l19=>k_is
  case c19=>k_is
  case k19=>k_is
  case a20=>k_is
  case l20=>k_is
  case c20=>k_is
  case k20=>k_is
  case a21=>k_is
  case l21=>k_is
  case c21=>k_is
  case k21=>k_is
  case z_abs=>k_is
  case z_all=>k_is
  case z_bool=>k_is
  case z_dict=>k_is
  case z_int=>k_is
  case z_isinstance=>k_is
  case z_len=>k_is
  case z_list=>k_is
  case z_min=>k_is
  case z_range=>k_is
  case z_repr=>k_is
  case z_sorted=>k_is
  case z_str=>k_is
  case z_tuple=>k_is
#print axioms PySem.Challenge.cw_thinnet_k07_prices_holds

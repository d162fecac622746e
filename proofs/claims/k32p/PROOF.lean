import PyProof.Rows.All
import Wide.All
import OpenK.AllK
import Wide.FinOn
import Lean
import PyProof.EqAt
import PyProof.EqKinds
import PyProof.TupleCall
import PyProof.P3In
import PyProof.NeData
import PyProof.ReprLen
import PyProof.CompUse
import KE.KSortTup
import PyProof.SumAny
import PyProof.Rows.SeqCalls
import KE.KRevIter
import PyProof.TupleOfGen
import PyProof.CollectIter
import KE.KEqDict
import KE.KDictSum
import PySem.Challenge.RW_thinnet_k32_trees_from_a_place
open PySem.W (Frag nsIn keepIn fnOf codeIn mg_of mg_none_of)
set_option Elab.async false
set_option linter.all false
set_option maxRecDepth 100000
namespace L2
open PySem PySem.Spec PyProof.Rows
abbrev AY:=Sum Int Str
def Je:AY->Value->Bool
 | .inl k,v=>Value.isInt k v
 | .inr x,v=>Value.isStrOf x v
def Vb(w:World):AY->Int
 | .inl k=>hashInt k
 | .inr x=>hashStr w x
theorem BF:∀{k:AY} {v:Value},Je k v=true->(∃i t,k=Sum.inl i/\v=Value.int i t)\/(∃x t,k=Sum.inr x/\v=Value.str x t)
 | .inl i,v,h=>by
  obtain⟨t,e⟩:=Value.isInt_shape (k:=i) (v:=v) h
  exact .inl ⟨i,t,rfl,e⟩
 | .inr x,v,h=>by
  obtain⟨t,e⟩:=Value.isStrOf_shape (x:=x) (v:=v) h
  exact .inr ⟨x,t,rfl,e⟩
theorem OS(i:Int)(t:Tok):Je (.inl i) (.int i t)=true:=by simp [Je,Value.isInt]
theorem OR(x:Str)(t:Tok):Je (.inr x) (.str x t)=true:=by simp [Je,Value.isStrOf]
theorem TB(a b:Int):decide ((Sum.inl a:AY)=Sum.inl b)=(a==b):=by
 by_cases e:a=b
 ·subst e; simp
 ·have h:¬(Sum.inl a:AY)=Sum.inl b:=fun q=>e (Sum.inl.inj q)
  rw [decide_eq_false h]
  exact(beq_eq_false_iff_ne.mpr e).symm
theorem S8(a b:Str):decide ((Sum.inr a:AY)=Sum.inr b)=decide (a=b):=by
 by_cases e:a=b
 ·subst e; simp
 ·have h:¬(Sum.inr a:AY)=Sum.inr b:=fun q=>e (Sum.inr.inj q)
  rw [decide_eq_false h,decide_eq_false e]
theorem S_(a:Int)(b:Str):decide ((Sum.inl a:AY)=Sum.inr b)=false:=decide_eq_false (fun q=>nomatch q)
theorem S9(a:Str)(b:Int):decide ((Sum.inr a:AY)=Sum.inl b)=false:=decide_eq_false (fun q=>nomatch q)
def A5(prog:Program)(w:World):PySem.KeyKind prog w AY where
 is:=Je
 hash:=Vb w
 inj:=fun v a b ha hb=>by
  rcases BF ha with ⟨i,t,rfl,rfl⟩ | ⟨x,t,rfl,rfl⟩
  ·rcases BF hb with ⟨j,u,rfl,e⟩ | ⟨y,u,rfl,e⟩
   ·injection e with e1 _; rw [e1]
   ·exact nomatch e
  ·rcases BF hb with ⟨j,u,rfl,e⟩ | ⟨y,u,rfl,e⟩
   ·exact nomatch e
   ·injection e with e1 _; rw [e1]
 byValue:=fun k v h=>by
  rcases BF h with ⟨i,t,rfl,rfl⟩ | ⟨x,t,rfl,rfl⟩ <;> rfl
 pyHash:=fun hv h=>by
  rcases BF hv with ⟨i,t,rfl,rfl⟩ | ⟨x,t,rfl,rfl⟩
  ·exact wpAny_pyHash_int h
  ·exact wpAny_pyHash_str h
 eqBool:=fun hu hv h=>by
  rcases BF hu with ⟨i,t,rfl,rfl⟩ | ⟨x,t,rfl,rfl⟩
  ·rcases BF hv with ⟨j,u,rfl,rfl⟩ | ⟨y,u,rfl,rfl⟩
   ·rw [TB] at h; exact wpAny_eqBool_int h
   ·rw [S_] at h; exact SeqAt.EqAt.int_str i t y u _ _ _ _ h
  ·rcases BF hv with ⟨j,u,rfl,rfl⟩ | ⟨y,u,rfl,rfl⟩
   ·rw [S9] at h; exact SeqAt.EqAt.str_int x t j u _ _ _ _ h
   ·rw [S8] at h; exact wpAny_eqBool_str h
 «strs»:=fun k x t v h=>by
  rcases BF h with ⟨i,u,rfl,e⟩ | ⟨y,u,rfl,e⟩
  ·exact nomatch e
  ·injection e with e1 _
   subst e1
   cases v <;> rfl
theorem Lg(prog:Program)(w:World)(i:Int)(t:Tok):(A5 prog w).is (.inl i) (.int i t)=true:=OS i t
theorem Lf(prog:Program)(w:World)(x:Str)(t:Tok):(A5 prog w).is (.inr x) (.str x t)=true:=OR x t
inductive V where
 | non | bl (b:Bool) | int (i:Int) | str (x:Str) | byt (b:Array UInt8) | flt (b:UInt64) | ref (a:Addr) | ty (n:String)
 deriving DecidableEq
def RelV:V->Value->Prop
 | .non,u=>u=Value.none
 | .bl b,u=>u=Value.bool b
 | .int i,u=>∃t,u=Value.int i t
 | .str x,u=>∃t,u=Value.str x t
 | .byt b,u=>∃t,u=Value.bytes b t
 | .flt b,u=>∃t,u=Value.float b t
 | .ref a,u=>u=Value.ref a
 | .ty n,u=>u=Value.type n
abbrev Vals:List V->List Value->Prop:=Paired RelV
theorem Vals.length{xs:List V}{us:List Value}(r:Vals xs us):xs.length=us.length:=Paired.length r
theorem Vals.get:∀{xs:List V} {us:List Value} {i:Nat} {x:V},Vals xs us->xs[i]?=some x->∃u,us[i]?=some u/\RelV x u
 | _,_,_,_,.nil,e=>by simp at e
 | _,_,0,_,.cons r _,e=>by simp at e; subst e; exact⟨_,rfl,r⟩
 | _,_,i+1,x,.cons _ t,e=>by
  obtain⟨u,h1,h2⟩:=Vals.get (i:=i) (x:=x) t (by simpa using e)
  exact⟨u,by simpa using h1,h2⟩
theorem Vals.set{x:V}{u:Value}(r:RelV x u):∀{xs:List V} {us:List Value} (i:Nat),Vals xs us->Vals (xs.set i x) (us.set i u)
 | _,_,_,.nil=>.nil
 | _,_,0,.cons _ t=>.cons r t
 | _,_,i+1,.cons q t=>.cons q (Vals.set r i t)
theorem Vals.append:∀{xs ys:List V} {us ws:List Value},Vals xs us->Vals ys ws->Vals (xs++ys) (us++ws)
 | _,_,_,_,.nil,s=>s
 | _,_,_,_,.cons r t,s=>.cons r (Vals.append t s)
theorem Vals.take:∀{xs:List V} {us:List Value} (n:Nat),Vals xs us->Vals (xs.take n) (us.take n)
 | _,_,0,_=>.nil
 | _,_,_+1,.nil=>.nil
 | _,_,n+1,.cons r t=>.cons r (Vals.take n t)
theorem Vals.drop:∀{xs:List V} {us:List Value} (n:Nat),Vals xs us->Vals (xs.drop n) (us.drop n)
 | _,_,0,r=>r
 | _,_,_+1,.nil=>.nil
 | _,_,n+1,.cons _ t=>Vals.drop n t
def RelO:Option V->Option Value->Prop
 | some v,some u=>RelV v u
 | none,none=>True
 | _,_=>False
def KV{κ:Type}:List (κ×V)->List (κ×Value)->Prop:=Paired fun(p:κ×V) (q:κ×Value)=>p.1=q.1/\RelV p.2 q.2
def kV:AY->V
 | .inl i=>.int i
 | .inr x=>.str x
inductive HO where
 | lst (xs:List V)
 | tup (xs:List V)
 | dK (kvs:List (AY×V)) | dT (kvs:List (List AY×V))
 | set (S:Int->Bool) (n:Nat)
 | ins (C dx:Addr) (fs:List (Str×V))
 | own (x:Addr)
 | xd (fs:List (Str×V))
 | met (f x:Addr)
 | rng (lo hi:Int)
 | frz (o:Obj) (u:HO)
 | tbl (ps:Array Value)
 | ext (φ:Heap->Prop)
abbrev Hp:=Addr->Option HO
def BA(H:Hp)(a:Addr)(o:HO):Hp:=fun b=>if b=a then some o else H b
theorem Ab{H:Hp}{a:Addr}{o:HO}:BA H a o a=some o:=by unfold BA; rw [if_pos rfl]
theorem AU{H:Hp}{a b:Addr}{o:HO}(h:b≠a):BA H a o b=H b:=by unfold BA; rw [if_neg h]
theorem Uf{H:Hp}{a b:Addr}{o u:HO}(h:H a=some o)(h':H b=some u)(d:o≠u):a≠b:=by
 intro e; subst e; rw [h] at h'; exact d (Option.some.inj h')
theorem BB{H:Hp}{a b:Addr}{o:HO}(h:H a=some o)(h':H b=none):a≠b:=by
 intro e; subst e; rw [h] at h'; cases h'
section
variable (P:Program)(w:World)
def ObjOk(H:Hp)(h:Heap)(a:Addr):HO->Prop
 | .lst xs=>xs.length<=sizeLine/\∃(its:List Value) (n:Nat),Vals xs its/\h.get? a=some { cls:=.type "list",data:=.seq its.toArray n }
 | .tup xs=>xs.length<=sizeLine/\∃its:List Value,Vals xs its/\IsTup h a its.toArray
 | .dK kvs=>kvs.length<=sizeLine/\(a==sysModules)=false/\∃vs,KV kvs vs/\h.DictOf (A5 P w) a vs
 | .dT kvs=>kvs.length<=sizeLine/\(a==sysModules)=false/\∃xs:List (List AY×Addr×Value),
   Paired (fun(p:List AY×V) (q:List AY×Addr×Value)=>p.1=q.1/\H q.2.1=some (.tup (p.1.map kV))/\RelV p.2 q.2.2) kvs xs /\
   ∃o es ep,h.get? a=some o/\o.ExactDict/\o.data=.dict es ep/\es.toList=xs.map (entryOfKey (tupleKind (A5 P w)))/\(xs.map (·.1)).Nodup
 | .set S n=>h.SetOf (intKind P w) a S n
 | .ins C dx fs=>H dx=some (.own a)/\fs.length<=1000/\dx≠a/\h.get? a=some (PySem.W.instObj C dx) /\
   ∃mA,h.Ns1 dx mA/\(∀f,RelO (fs.lookup f) (mA f))/\PySem.Within mA (fs.map (·.1))
 | .own _=>∃o,h.get? a=some o
 | .xd fs=>∃mA,h.Ns1 a mA/\∀f,RelO (fs.lookup f) (mA f)
 | .rng lo hi=>∃t u v,h.get? a=some { cls:=.type "range",data:=.fields #[.int lo t,.int hi u,.int 1 v] }
 | .frz o u=>h.get? a=some o/\ObjOk H h a u
 | .tbl ps=>h.get? a=some { cls:=.none,data:=.fields ps }
 | .met f x=>h.get? a=some (PySem.W.methodObj (.ref f) (.ref x))
 | .ext φ=>φ h/\(∃o,h.get? a=some o)/\∀h1 h2:Heap,φ h1->(∀o,h1.get? a=some o->h2.get? a=some o)->φ h2
def HOk(H:Hp)(h:Heap):Prop:=∀a o,H a=some o->ObjOk P w H h a o
end
section
variable {P:Program}{w:World}{H H':Hp}{h h':Heap}{a:Addr}{o:HO}
theorem ObjOk.lt(x:ObjOk P w H h a o):a<h.objs.size:=by
 cases o with
 | lst xs=>obtain⟨_,_,_,_,e⟩:=x; exact Heap.lt_size e
 | tup xs=>obtain⟨_,_,_,p⟩:=x; exact p.lt
 | dK kvs=>obtain⟨_,_,_,_,o,_,_,e,_⟩:=x; exact Heap.lt_size e
 | dT kvs=>obtain⟨_,_,_,_,o,_,_,e,_⟩:=x; exact Heap.lt_size e
 | set S n=>obtain⟨o,_,_,_,e,_⟩:=x; exact Heap.lt_size e
 | ins C dx fs=>obtain⟨_,_,_,e,_⟩:=x; exact Heap.lt_size e
 | own y=>obtain⟨_,e⟩:=x; exact Heap.lt_size e
 | xd fs=>obtain⟨_,⟨_,_,_,e,_⟩,_⟩:=x; exact Heap.lt_size e
 | rng lo hi=>obtain⟨_,_,_,e⟩:=x; exact Heap.lt_size e
 | frz ob u=>obtain⟨e,_⟩:=x; exact Heap.lt_size e
 | tbl ps=>exact Heap.lt_size (show h.get? a=some _ from x)
 | met f y=>exact Heap.lt_size (show h.get? a=some _ from x)
 | ext φ=>obtain⟨_,⟨_,e⟩,_⟩:=x; exact Heap.lt_size e
theorem Paired.mapP{α β:Type}{F G:α->β->Prop}:∀{l₁:List α} {l₂:List β},Paired F l₁ l₂->(∀a b,F a b->G a b)->Paired G l₁ l₂
 | _,_,.nil,_=>.nil
 | _,_,.cons r t,f=>.cons (f _ _ r) (Paired.mapP t f)
theorem ObjOk.stay(x:ObjOk P w H h a o)(k:∀b u,(b=a\/H b=some (.own a))->h.get? b=some u->h'.get? b=some u)
  (ho:∀b,H b=some (.own a)->H' b=some (.own a)) (ht:∀b xs,H b=some (.tup xs)->H' b=some (.tup xs)):ObjOk P w H' h' a o:=by
 induction o with
 | lst xs=>obtain⟨z,its,n,r,e⟩:=x; exact⟨z,its,n,r,k _ _ (.inl rfl) e⟩
 | tup xs=>obtain⟨z,its,r,ob,e,c⟩:=x; exact⟨z,its,r,ob,k _ _ (.inl rfl) e,c⟩
 | dK kvs=>obtain⟨z,y,vs,r,ob,es,ep,e,c⟩:=x; exact⟨z,y,vs,r,ob,es,ep,k _ _ (.inl rfl) e,c⟩
 | dT kvs =>
  obtain⟨z,y,xs,r,ob,es,ep,e,c⟩:=x
  exact⟨z,y,xs,Paired.mapP r fun p q z=>⟨z.1,ht _ _ z.2.1,z.2.2⟩,ob,es,ep,k _ _ (.inl rfl) e,c⟩
 | set S n=>obtain⟨ob,es,ep,t,e,c⟩:=x; exact⟨ob,es,ep,t,k _ _ (.inl rfl) e,c⟩
 | ins C dx fs =>
  obtain⟨d,z,ne,e,mA,⟨od,es,ep,e2,c⟩,r⟩:=x
  exact⟨ho _ d,z,ne,k _ _ (.inl rfl) e,mA,⟨od,es,ep,k _ _ (.inr d) e2,c⟩,r⟩
 | own y=>obtain⟨ob,e⟩:=x; exact⟨ob,k _ _ (.inl rfl) e⟩
 | xd fs=>obtain⟨mA,⟨od,es,ep,e,c⟩,r⟩:=x; exact⟨mA,⟨od,es,ep,k _ _ (.inl rfl) e,c⟩,r⟩
 | rng lo hi=>obtain⟨t,u,v,e⟩:=x; exact⟨t,u,v,k _ _ (.inl rfl) e⟩
 | frz ob u ih=>obtain⟨e,q⟩:=x; exact⟨k _ _ (.inl rfl) e,ih q⟩
 | tbl ps =>
  have e:h.get? a=some { cls:=.none,data:=.fields ps }:=x
  show h'.get? a=some { cls:=.none,data:=.fields ps }
  exact k a _ (.inl rfl) e
 | met f y =>
  have e:h.get? a=some (PySem.W.methodObj (.ref f) (.ref y)):=x
  show h'.get? a=some (PySem.W.methodObj (.ref f) (.ref y))
  exact k a _ (.inl rfl) e
 | ext φ=>obtain⟨p,⟨o,e⟩,st⟩:=x; exact⟨st _ _ p fun o q=>k _ _ (.inl rfl) q,⟨o,k _ _ (.inl rfl) e⟩,st⟩
theorem HOk.lt(x:HOk P w H h)(e:H a=some o):a<h.objs.size:=(x a o e).lt
theorem HOk.fresh(x:HOk P w H h)(e:h.objs.size<=a):H a=none:=by
 cases q:H a with
 | none=>rfl
 | some u=>exact absurd (Nat.lt_of_lt_of_le (x.lt q) e) (Nat.lt_irrefl _)
theorem HOk.kept(x:HOk P w H h)(k:∀b u,h.get? b=some u->h'.get? b=some u):HOk P w H h':=fun a o e =>
 (x a o e).stay (fun b u _ q=>k b u q) (fun _ q=>q) fun _ _ q=>q
theorem HOk.laid(x:HOk P w H h)(k:∀b u,h.get? b=some u->h'.get? b=some u)(hp:h.objs.size<=a)(new:ObjOk P w (BA H a o) h' a o):HOk P w (BA H a o) h':=fun b u e=>by
 have hn:=x.fresh hp
 by_cases hb:b=a
 ·subst hb; rw [Ab] at e; cases e; exact new
 ·rw [AU hb] at e
  exact(x b u e).stay (fun c v _ q=>k c v q) (fun c q=>by rw [AU (BB q hn)]; exact q) fun c xs q=>by rw [AU (BB q hn)]; exact q
end
def Rd(H:Hp)(a:Addr)(u:HO):Prop:=H a=some u\/∃o,H a=some (.frz o u)
theorem Rd.ok{P:Program}{w:World}{H:Hp}{h:Heap}{a:Addr}{u:HO}(r:Rd H a u)(x:HOk P w H h):ObjOk P w H h a u:=by
 rcases r with r | ⟨o,r⟩
 ·exact x a u r
 ·obtain⟨_,q⟩:=x a _ r
  exact q
def U4:Option HO->Prop
 | some (.lst _)=>True
 | some (.dK _)=>True
 | some (.dT _)=>True
 | some (.set _ _)=>True
 | some (.ins _ _ _)=>True
 | some (.ext _)=>True
 | _=>False
section
variable {P:Program}{w:World}{H:Hp}{h h':Heap}{x e:Addr}{o':HO}
theorem HOk.write(ok:HOk P w H h)(mu:U4 (H x))(he:e=x\/H e=some (.own x))(k:∀b u,b≠e->h.get? b=some u->h'.get? b=some u)(heo:∃u,h'.get? e=some u)
  (new:ObjOk P w (BA H x o') h' x o'):HOk P w (BA H x o') h':=fun b u q=>by
 have nown:∀c y,H c=some (.own y)->c≠x:=fun c y r z=>by subst z; rw [r] at mu; exact mu
 have ntup:∀c xs,H c=some (.tup xs)->c≠x:=fun c xs r z=>by subst z; rw [r] at mu; exact mu
 by_cases hb:b=x
 ·subst hb; rw [Ab] at q; cases q; exact new
 ·rw [AU hb] at q
  by_cases hbe:b=e
  ·have q':H b=some (.own x):=by
    rcases he with z | z
    ·exact absurd (hbe.trans z) hb
    ·rw [hbe]; exact z
   rw [q] at q'; cases q'
   obtain⟨v,hv⟩:=heo
   exact⟨v,by rw [hbe]; exact hv⟩
  ·refine(ok b u q).stay (fun c v hc r=>k c v ?_ r) (fun c r=>by rw [AU (nown c b r)]; exact r) fun c xs r=>by rw [AU (ntup c xs r)]; exact r
   rcases hc with rfl | hc
   ·exact hbe
   ·rintro rfl
    rcases he with z | z
    ·exact nown c b hc z
    ·rw [hc] at z; cases z; exact hb rfl
end
structure Un (fs ex:List Addr) (H H':Hp) (h h':Heap):Prop where
 keep:∀b o,h.get? b=some o->H b=none->b∉fs->b∉ex->h'.get? b=some o
 slot:∀b o,h.get? b=some o->H b=none->b∈fs->b∉ex->∃sl,h'.get? b=some { o with slots:=sl }
 free:∀b o,h.get? b=some o->H b=none->b∉ex->H' b=none
 there:∀b o,h.get? b=some o->b∉ex->∃o',h'.get? b=some o'
 tups:∀b xs,H b=some (.tup xs)->H' b=some (.tup xs)
 frzs:∀b o u,H b=some (.frz o u)->H' b=some (.frz o u)
 tbls:∀b ps,H b=some (.tbl ps)->∃more,H' b=some (.tbl (ps++more))
section
variable {fs fs' ex ex':List Addr}{H H1 H2:Hp}{h h1 h2 h':Heap}{a x e:Addr}{o:HO}
theorem Un.any(u:Un fs ex H H1 h h1){b:Addr}{ob:Obj}(q:h.get? b=some ob)(n:H b=none)(hx:b∉ex):∃sl,h1.get? b=some { ob with slots:=sl }:=by
 by_cases hb:b∈fs
 ·exact u.slot b ob q n hb hx
 ·exact⟨ob.slots,u.keep b ob q n hb hx⟩
theorem Un.kept(k:∀b u,h.get? b=some u->h'.get? b=some u):Un fs ex H H h h' :=
 ⟨fun b ob q _ _ _=>k b ob q,fun b ob q _ _ _=>⟨ob.slots,k b ob q⟩,fun _ _ _ n _=>n,fun b ob q _=>⟨ob,k b ob q⟩,fun _ _ q=>q,fun _ _ _ q=>q,fun _ ps q=>⟨#[],by rw [q]; simp⟩⟩
theorem Un.refl:Un fs ex H H h h:=Un.kept fun _ _ q=>q
theorem Un.laid(k:∀b u,h.get? b=some u->h'.get? b=some u)(hp:h.objs.size<=a)(hn:H a=none):Un fs ex H (BA H a o) h h' where
 keep:=fun b u q _ _ _=>k b u q
 slot:=fun b u q _ _ _=>⟨u.slots,k b u q⟩
 free:=fun b u q n _=>by rw [AU (Nat.ne_of_lt (Nat.lt_of_lt_of_le (Heap.lt_size q) hp))]; exact n
 there:=fun b u q _=>⟨u,k b u q⟩
 tups:=fun b xs q=>by rw [AU (BB q hn)]; exact q
 frzs:=fun b u xs q=>by rw [AU (BB q hn)]; exact q
 tbls:=fun b ps q=>⟨#[],by rw [AU (BB q hn),q]; simp⟩
theorem Un.write(mu:U4 (H x))(he:e=x\/H e=some (.own x))(k:∀b u,b≠e->h.get? b=some u->h'.get? b=some u)(heo:∃u,h'.get? e=some u):Un fs ex H (BA H x o) h h':=by
 have hx:∀b,H b=none->b≠x:=fun b n z=>by subst z; rw [n] at mu; exact mu
 have hb:∀b,H b=none->b≠e:=fun b n z=>by
  subst z
  rcases he with r | r
  ·exact hx b n r
  ·rw [n] at r; cases r
 have hm:∀b u,H b=some u->¬U4 (some u)->b≠x:=fun b u q nm z=>by subst z; rw [q] at mu; exact nm mu
 refine⟨fun b u q n _ _=>k b u (hb b n) q,fun b u q n _ _=>⟨u.slots,k b u (hb b n) q⟩,fun b u q n _=>by rw [AU (hx b n)]; exact n,fun b u q _=>?_,
  fun b xs q=>by rw [AU (hm b _ q fun z=>z)]; exact q,fun b u xs q=>by rw [AU (hm b _ q fun z=>z)]; exact q,fun b ps q=>⟨#[],by rw [AU (hm b _ q fun z=>z),q]; simp⟩⟩
 by_cases hbe:b=e
 ·subst hbe; exact heo
 ·exact⟨u,k b u hbe q⟩
end
def U9(h:Heap)(H:Hp):List Addr:=(List.range h.objs.size).filter fun a=>(H a).isSome
def KY(h:Heap)(H:Hp):Heap:=PySem.W.hideAll h (U9 h H)
theorem OW(h:Heap)(H:Hp):(KY h H).objs.size=h.objs.size:=PySem.W.hideAll_size _ _
theorem P9{h:Heap}{H:Hp}{b:Addr}{o:Obj}(e:h.get? b=some o)(n:H b=none):(KY h H).get? b=some o :=
 PySem.W.hideAll_get _ e fun hm=>by
  have q:(H b).isSome=true:=(List.mem_filter.mp hm).2
  rw [n] at q; simp at q
theorem RO{h:Heap}{H:Hp}{b:Addr}{o:Obj}(e:(KY h H).get? b=some o):h.get? b=some o/\H b=none:=by
 have e':h.get? b=some o:=PySem.W.of_hideAll (U9 h H) e
 refine⟨e',?_⟩
 cases q:H b with
 | none=>rfl
 | some x =>
  have hm:b∈U9 h H:=List.mem_filter.mpr ⟨List.mem_range.mpr (Heap.lt_size e'),by simp [q]⟩
  have z:(KY h H).get? b=none:=PySem.W.hideAll_none (U9 h H) hm
  rw [z] at e; cases e
structure Mod (K:Frag) (mg:Str->Option Value) (base:Heap):Prop where
 kin:K.In base
 glob:base.Ns mainGlobals mg
 blt:∃mb,base.Ns builtinsNs mb/\∀x:Str,x ≠ "__name__"->mb x=bootBuiltins x
 nolimit:base.NoLimit
/-- the context: a def's body (or a comprehension's block) running. base: fixed through the whole law; s₀, H₀: the entry; outer: the frames whose slots others may change (a def's callers); stack: all frames that run;
   ex: iterators that were made ahead of the entry and are walked here (a comprehension's); fn: the names whose cells were made at the entry (a def: all; a comprehension's block: its own); calm: not within an except suite; pn: pins that every state bears; xe: what is wanted of an exception that leaves the code -/
structure Cx where
 prog:Program
 w:World
 K:Frag
 mg:Str->Option Value
 base:Heap
 A:Around
 N:List Str
 s₀:Shared
 H₀:Hp
 env:Env
 outer:List Env
 stack:List Env
 ex:List Addr
 fn:Str->Bool
 calm:Bool
 pn:List (Addr×Obj)
 xe:Value->Shared->Prop
def P_(l:List Env):List Addr:=l.filterMap (·.frame)
abbrev Cx.fs(X:Cx):List Addr:=P_ X.outer
def Tz(sc:Scope)(x:Str):Prop:=sc.names.lookup x=some .local\/sc.names.lookup x=some .cell\/sc.names.lookup x=some .free
def Rs(sc:Scope)(x:Str):Prop:=sc.names.lookup x=some .local\/sc.names.lookup x=some .cell
def Vt(env:Env)(h:Heap)(m:Str->Option Value)(x:Str)(u:Value):Prop :=
 (env.kindOf x=some .local/\m x=some u)\/((env.kindOf x=some .cell\/env.kindOf x=some .free)/\∃c,env.cells.lookup x=some c/\h.IsCell c (some u))
structure Cx.Ok (X:Cx):Prop where
 mod:Mod X.K X.mg X.base
 kind:X.env.scope.kind=.function
 glob:X.env.globals=mainGlobals
 blt:X.env.builtins=builtinsNs
 above:X.s₀.heap.objs.size<=X.env.locals
 inj:∀x y c,X.env.cells.lookup x=some c->X.env.cells.lookup y=some c->x=y
 has:∀x,(X.env.kindOf x=some .cell\/X.env.kindOf x=some .free)->∃c,X.env.cells.lookup x=some c
 cab:∀x c,X.fn x=true->X.env.cells.lookup x=some c->X.s₀.heap.objs.size<=c
 hd:X.calm=true->X.A.handled=none
 frames:X.A.frames=some X.stack
 stk:X.stack=X.outer\/(X.stack=X.env::X.outer/\X.env.frame=some X.env.locals)
 exf:∀b∈X.ex,b≠X.env.locals/\∀x c,X.env.cells.lookup x=some c->c≠b
 bs:∀b o,X.base.get? b=some o->X.s₀.heap.get? b=some o/\X.H₀ b=none
 bsz:X.base.objs.size<=X.s₀.heap.objs.size
 noex:∀b o,X.base.get? b=some o->b∉X.ex
 exfs:∀b∈X.ex,b∉X.fs
 funs:X.s₀.heap.FunFrames X.base X.outer
 frf:∀b∈X.fs,X.H₀ b=none
structure Inv (X:Cx) (pins:List (Addr×Obj)) (σ:List (Option V)) (H:Hp) (s:Shared):Prop where
 ok:X.Ok
 os:s.os=X.s₀.os
 bare:AllBare s.gens
 base:Un X.fs X.ex X.H₀ H X.s₀.heap s.heap
 loc:∃m,s.heap.Ns X.env.locals m/\∀(i:Nat) (x:Str) (v:V),X.N[i]?=some x->σ[i]?=some (some v)->Tz X.env.scope x->∃u,RelV v u/\Vt X.env s.heap m x u
 cell:∀x c,X.env.cells.lookup x=some c->∃v,s.heap.IsCell c v
 free:H X.env.locals=none
 freeC:∀x c,X.env.cells.lookup x=some c->H c=none
 pin:∀p∈X.pn++pins,s.heap.get? p.1=some p.2/\H p.1=none/\p.1≠X.env.locals/\p.1∉X.fs/\∀v,p.2.data≠.cell v
 hok:HOk X.prog X.w H s.heap
 len:σ.length=X.N.length
section
variable {X:Cx}{pins:List (Addr×Obj)}{σ:List (Option V)}{H H':Hp}{s:Shared}{h':Heap}
theorem Cx.Ok.nofr(ok:X.Ok){b:Addr}{o:Obj}(e:X.base.get? b=some o):b∉X.fs:=fun hb=>by
 have:=(ok.funs.mem hb).1
 rw [e] at this; cases this
theorem Inv.bs(I:Inv X pins σ H s):∀b o,X.base.get? b=some o->s.heap.get? b=some o/\H b=none:=fun b o e =>
 ⟨I.base.keep b o (I.ok.bs b o e).1 (I.ok.bs b o e).2 (I.ok.nofr e) (I.ok.noex b o e),I.base.free b o (I.ok.bs b o e).1 (I.ok.bs b o e).2 (I.ok.noex b o e)⟩
theorem Inv.bk(I:Inv X pins σ H s):∀b o,X.base.get? b=some o->s.heap.get? b=some o:=fun b o e=>(I.bs b o e).1
theorem Inv.mod(I:Inv X pins σ H s):Mod X.K X.mg X.base:=I.ok.mod
theorem Inv.kIn(I:Inv X pins σ H s):X.K.In s.heap:=I.ok.mod.kin.keeps I.bk
theorem Inv.lt(I:Inv X pins σ H s):X.env.locals<s.heap.objs.size:=let ⟨_,hn,_⟩:=I.loc; hn.lt
theorem Inv.sz(I:Inv X pins σ H s):X.s₀.heap.objs.size<=s.heap.objs.size:=Nat.le_trans I.ok.above (Nat.le_of_lt I.lt)
theorem Inv.nofs(I:Inv X pins σ H s){a:Addr}(h:s.heap.objs.size<=a):a∉X.fs:=fun hb=>by
 obtain⟨_,o,ho,_⟩:=I.ok.funs.mem hb
 exact absurd (Nat.lt_of_lt_of_le (Heap.lt_size ho) (Nat.le_trans I.sz h)) (Nat.lt_irrefl _)
theorem Inv.cne(I:Inv X pins σ H s):∀x c,X.env.cells.lookup x=some c->c≠X.env.locals:=fun x c e z=>by
 obtain⟨v,o,ho,hd⟩:=I.cell x c e
 obtain⟨m,⟨o',es,ep,ho',hd',_⟩,_⟩:=I.loc
 rw [z,ho'] at ho; cases ho; rw [hd'] at hd; cases hd
theorem Inv.funs(I:Inv X pins σ H s):s.heap.FunFrames X.base X.outer:=by
 have all:∀(l:List Env),(∀b∈P_ l,b∈X.fs)->X.s₀.heap.FunFrames X.base l->s.heap.FunFrames X.base l:=by
  intro l
  induction l with
  | nil=>intro _ _; trivial
  | cons env r ih =>
   intro hs hl
   obtain⟨hk,⟨L,o,hf,hn,ho,hd⟩,hr⟩:=hl
   have hL:L∈X.fs:=hs L (by unfold P_; rw [List.filterMap_cons,hf]; exact List.mem_cons_self)
   obtain⟨sl,e⟩:=I.base.slot L o ho (I.ok.frf L hL) hL fun z=>I.ok.exfs L z hL
   exact⟨hk,⟨L,_,hf,hn,e,hd⟩,ih (fun b hb=>hs b (by unfold P_; rw [List.filterMap_cons,hf]; exact List.mem_cons_of_mem _ hb)) hr⟩
 exact all X.outer (fun _ hb=>hb) I.ok.funs
theorem Inv.stack(I:Inv X pins σ H s):s.heap.FunFrames X.base X.stack:=by
 rcases I.ok.stk with e | ⟨e,hf⟩
 ·rw [e]; exact I.funs
 ·rw [e]
  obtain⟨m,hn,_⟩:=I.loc
  refine .cons (by rw [I.ok.kind]; decide) hf hn ?_ I.funs
  exact Heap.get?_none_of_le (Nat.le_trans I.ok.bsz I.ok.above)
theorem Inv.stkSub(I:Inv X pins σ H s):∀b∈P_ X.stack,b∈X.env.locals::X.fs:=fun b hb=>by
 rcases I.ok.stk with e | ⟨e,hf⟩
 ·rw [e] at hb; exact List.mem_cons_of_mem _ hb
 ·rw [e] at hb
  unfold P_ at hb
  rw [List.filterMap_cons,hf] at hb
  exact hb
theorem Inv.stkFree(I:Inv X pins σ H s):∀b∈P_ X.stack,H b=none:=fun b hb=>by
 rcases List.mem_cons.mp (I.stkSub b hb) with e | hb
 ·rw [e]; exact I.free
 ·obtain⟨_,o,ho,_⟩:=I.ok.funs.mem hb
  exact I.base.free b o ho (I.ok.frf b hb) fun z=>I.ok.exfs b z hb
theorem Inv.step{g':Array GenState}{t':Nat}{d':Drawn}{ch:List Addr}(I:Inv X pins σ H s)
  (hch:∀b∈ch,(b∈X.ex\/X.s₀.heap.objs.size<=b)/\b≠X.env.locals/\(∀x c,X.env.cells.lookup x=some c->c≠b)/\∀p∈X.pn++pins,p.1≠b)
  (keep:∀b o,b≠X.env.locals->b∉X.fs->b∉ch->s.heap.get? b=some o->H b=none->h'.get? b=some o)
  (slot:∀b o,b≠X.env.locals->b∈X.fs->b∉ch->s.heap.get? b=some o->H b=none->∃sl,h'.get? b=some { o with slots:=sl }) (free:∀b o,b∉ch->s.heap.get? b=some o->H b=none->H' b=none)
  (there:∀b o,b∉ch->s.heap.get? b=some o->∃o',h'.get? b=some o')
  (tups:∀b xs,H b=some (.tup xs)->H' b=some (.tup xs)) (frzs:∀b o u,H b=some (.frz o u)->H' b=some (.frz o u)) (tbls:∀b ps,H b=some (.tbl ps)->∃more,H' b=some (.tbl (ps++more)))
  (ns:∀m,s.heap.Ns X.env.locals m->h'.Ns X.env.locals m) (hok:HOk X.prog X.w H' h') (hg:AllBare g') :
  Inv X pins σ H' { s with heap:=h',gens:=g',drawn:=d',toks:=t' }:=by
 have neL:∀b o,X.s₀.heap.get? b=some o->b≠X.env.locals:=fun b o e=>Nat.ne_of_lt (Nat.lt_of_lt_of_le (Heap.lt_size e) I.ok.above)
 have neC:∀b o,X.s₀.heap.get? b=some o->b∉X.ex->b∉ch:=fun b o e hx hb=>by
  rcases (hch b hb).1 with z | z
  ·exact hx z
  ·exact absurd (Nat.lt_of_lt_of_le (Heap.lt_size e) z) (Nat.lt_irrefl _)
 have cellK:∀x c,X.env.cells.lookup x=some c->∀v,s.heap.IsCell c v->h'.IsCell c v:=fun x c e v ⟨o,ho,hd⟩=>by
  have nch:c∉ch:=fun z=>(hch c z).2.2.1 x c e rfl
  by_cases hc:c∈X.fs
  ·obtain⟨sl,q⟩:=slot c o (I.cne x c e) hc nch ho (I.freeC x c e)
   exact⟨_,q,hd⟩
  ·exact⟨o,keep c o (I.cne x c e) hc nch ho (I.freeC x c e),hd⟩
 refine⟨I.ok,I.os,hg,⟨fun b o e n hb hx=>?_,fun b o e n hb hx=>?_,fun b o e n hx=>?_,fun b o e hx=>?_,fun b xs e=>tups b xs (I.base.tups b xs e),fun b o xs e=>frzs b o xs (I.base.frzs b o xs e),fun b ps e=>?_⟩,?_,fun x c e=>?_,?_,fun x c e=>?_,fun p hp=>?_,hok,I.len⟩
 ·exact keep b o (neL b o e) hb (neC b o e hx) (I.base.keep b o e n hb hx) (I.base.free b o e n hx)
 ·obtain⟨sl,e1⟩:=I.base.slot b o e n hb hx
  obtain⟨sl',e2⟩:=slot b _ (neL b o e) hb (neC b o e hx) e1 (I.base.free b o e n hx)
  exact⟨sl',e2⟩
 ·obtain⟨o',e1⟩:=I.base.there b o e hx
  exact free b o' (neC b o e hx) e1 (I.base.free b o e n hx)
 ·obtain⟨o',e1⟩:=I.base.there b o e hx
  exact there b o' (neC b o e hx) e1
 ·obtain⟨m1,e1⟩:=I.base.tbls b ps e
  obtain⟨m2,e2⟩:=tbls b _ e1
  exact⟨m1++m2,by rw [e2,Array.append_assoc]⟩
 ·obtain⟨m,hn,hl⟩:=I.loc
  refine⟨m,ns m hn,fun i x v e1 e2 e3=>?_⟩
  obtain⟨u,r,l⟩:=hl i x v e1 e2 e3
  refine⟨u,r,?_⟩
  rcases l with l | ⟨k,c,e,z⟩
  ·exact .inl l
  ·exact .inr ⟨k,c,e,cellK x c e _ z⟩
 ·obtain⟨v,z⟩:=I.cell x c e
  exact⟨v,cellK x c e v z⟩
 ·obtain⟨m,⟨o,_,_,ho,_⟩,_⟩:=I.loc
  exact free _ o (fun z=>(hch _ z).2.1 rfl) ho I.free
 ·obtain⟨v,o,ho,hd⟩:=I.cell x c e
  exact free c o (fun z=>(hch c z).2.2.1 x c e rfl) ho (I.freeC x c e)
 ·obtain⟨e,n,ne,nf,d⟩:=I.pin p hp
  have nch:p.1∉ch:=fun z=>(hch p.1 z).2.2.2 p hp rfl
  exact⟨keep p.1 p.2 ne nf nch e n,free p.1 p.2 nch e n,ne,nf,d⟩
theorem Inv.un{t':Nat}(I:Inv X pins σ H s)(u:Un X.fs [] H H' s.heap h')(hok:HOk X.prog X.w H' h'):Inv X pins σ H' { s with heap:=h',toks:=t' }:=by
 obtain⟨m,⟨o,es,ep,ho,r⟩,_⟩:=id I.loc
 obtain⟨sl,hL⟩:=u.any ho I.free (by simp)
 exact I.step (g':=s.gens) (d':=s.drawn) (ch:=[]) (fun _ z=>nomatch z) (fun b o _ hb _ e n=>u.keep b o e n hb (by simp)) (fun b o _ hb _ e n=>u.slot b o e n hb (by simp)) (fun b o _ e n=>u.free b o e n (by simp)) (fun b o _ e=>u.there b o e (by simp)) u.tups u.frzs u.tbls (fun m' hm=>by
  obtain⟨o',es',ep',ho',r'⟩:=hm
  rw [ho] at ho'; cases ho'
  exact⟨_,es',ep',hL,r'⟩) hok I.bare
theorem Inv.call{g':Array GenState}{t':Nat}{d':Drawn}{ch:List Addr}(I:Inv X pins σ H s)(u:Un (P_ X.stack) ch H H' s.heap h')(hok:HOk X.prog X.w H' h')(hg:AllBare g')
  (hch:∀b∈ch,(b∈X.ex\/X.s₀.heap.objs.size<=b)/\b≠X.env.locals/\(∀x c,X.env.cells.lookup x=some c->c≠b)/\∀p∈X.pn++pins,p.1≠b) :
  Inv X pins σ H' { s with heap:=h',gens:=g',drawn:=d',toks:=t' }:=by
 obtain⟨m,⟨o,es,ep,ho,r⟩,_⟩:=id I.loc
 obtain⟨sl,hL⟩:=u.any ho I.free fun z=>(hch _ z).2.1 rfl
 exact I.step (ch:=ch) hch (fun b o hL hb hc e n=>u.keep b o e n (fun z=>(List.mem_cons.mp (I.stkSub b z)).elim hL hb) hc) (fun b o _ _ hc e n=>u.any e n hc) (fun b o hc e n=>u.free b o e n hc) (fun b o hc e=>u.there b o e hc) u.tups u.frzs u.tbls (fun m' hm=>by
  obtain⟨o',es',ep',ho',r'⟩:=hm
  rw [ho] at ho'; cases ho'
  exact⟨_,es',ep',hL,r'⟩) hok hg
theorem Inv.turned{t':Nat}{it:Addr}(I:Inv X pins σ H s)(k:∀b o,b≠it->s.heap.get? b=some o->h'.get? b=some o)(hn:H it=none)(hL:it≠X.env.locals)
  (h1:it∈X.ex\/X.s₀.heap.objs.size<=it) (h2:∀x c,X.env.cells.lookup x=some c->c≠it) (h3:∀p∈X.pn++pins,p.1≠it):Inv X pins σ H { s with heap:=h',toks:=t' }:=by
 have nit:∀b u,H b=some u->b≠it:=fun b u e z=>by rw [z,hn] at e; cases e
 refine I.step (g':=s.gens) (d':=s.drawn) (ch:=[it]) (fun b hb=>?_) (fun b o _ _ hc e _=>k b o (fun z=>hc (by simp [z])) e) (fun b o _ _ hc e _=>⟨o.slots,k b o (fun z=>hc (by simp [z])) e⟩) (fun _ _ _ _ n=>n)
  (fun b o hc e=>⟨o,k b o (fun z=>hc (by simp [z])) e⟩) (fun _ _ e=>e) (fun _ _ _ e=>e) (fun b ps e=>⟨#[],by rw [e]; simp⟩) (fun m hm=>?_) (fun b u e=>?_) I.bare
 ·have e:b=it:=by simpa using hb
  subst e
  exact⟨h1,hL,h2,h3⟩
 ·obtain⟨o,es,ep,ho,r⟩:=hm
  exact⟨o,es,ep,k _ o (Ne.symm hL) ho,r⟩
 ·refine(I.hok b u e).stay (fun c v hc q=>k c v ?_ q) (fun _ q=>q) fun _ _ q=>q
  rcases hc with z | z
  ·rw [z]; exact nit b u e
  ·exact nit c _ z
theorem Inv.tok(I:Inv X pins σ H s)(t:Nat):Inv X pins σ H { s with toks:=t }:=I.un (h':=s.heap) (t':=t) Un.refl I.hok
theorem Inv.kept{t':Nat}(I:Inv X pins σ H s)(k:∀b u,s.heap.get? b=some u->h'.get? b=some u):Inv X pins σ H { s with heap:=h',toks:=t' }:=I.un (Un.kept k) (I.hok.kept k)
theorem Inv.laid{a:Addr}{o:HO}{t':Nat}(I:Inv X pins σ H s)(k:∀b u,s.heap.get? b=some u->h'.get? b=some u)(hp:s.heap.objs.size<=a)(new:ObjOk X.prog X.w (BA H a o) h' a o) :
  Inv X pins σ (BA H a o) { s with heap:=h',toks:=t' }:=I.un (Un.laid k hp (I.hok.fresh hp)) (I.hok.laid k hp new)
theorem Inv.write{x e:Addr}{o:HO}{t':Nat}(I:Inv X pins σ H s)(mu:U4 (H x))(he:e=x\/H e=some (.own x))(k:∀b u,b≠e->s.heap.get? b=some u->h'.get? b=some u)(heo:∃u,h'.get? e=some u)
  (new:ObjOk X.prog X.w (BA H x o) h' x o):Inv X pins σ (BA H x o) { s with heap:=h',toks:=t' }:=I.un (Un.write mu he k heo) (I.hok.write mu he k heo new)
theorem Inv.pins_of{pins':List (Addr×Obj)}(I:Inv X pins σ H s)(h:∀p∈pins',s.heap.get? p.1=some p.2/\H p.1=none/\p.1≠X.env.locals/\p.1∉X.fs/\∀v,p.2.data≠.cell v):Inv X pins' σ H s :=
 ⟨I.ok,I.os,I.bare,I.base,I.loc,I.cell,I.free,I.freeC,fun p hp=>(List.mem_append.mp hp).elim (fun z=>I.pin p (List.mem_append_left _ z)) (h p),I.hok,I.len⟩
theorem Lc{N:List Str}(hN:N.Nodup){i j:Nat}{x:Str}(a:N[i]?=some x)(b:N[j]?=some x):i=j:=by
 obtain⟨h1,e1⟩:=List.getElem?_eq_some_iff.mp a
 obtain⟨h2,e2⟩:=List.getElem?_eq_some_iff.mp b
 exact(List.getElem_inj hN).mp (e1.trans e2.symm)
theorem JM{M:Model}{A:Around}{E:Value->Shared->Prop}{i:Nat}{x:Str}{v:V}{u:Value}{Q:Unit->Shared->Prop}(I:Inv X pins σ H s)(hN:X.N.Nodup)(hi:X.N[i]?=some x)(hx:Rs X.env.scope x)(r:RelV v u)
  (h:∀s',Inv X pins (σ.set i (some v)) H s'->(∃a,Heap.SameBut a s.heap s'.heap/\(a=X.env.locals\/X.env.cells.lookup x=some a))->Q () s') (hf:X.fn x=true\/X.env.scope.names.lookup x=some .local:=by first | exact .inl rfl | exact .inr rfl | assumption):wpAny M A (storeName X.env x u) Q E s:=by
 obtain⟨m,hn,hl⟩:=id I.loc
 have hcls:(X.env.scope.kind==.class||(X.env.scope.kind==.module&&X.env.locals != X.env.globals))=false:=by rw [I.ok.kind]; rfl
 have hiσ:i<σ.length:=by rw [I.len]; exact(List.getElem?_eq_some_iff.mp hi).1
 have cne:=I.cne
 have tracked:∀{a:Addr} {h':Heap},(∃o,s.heap.get? a=some o/\H a=none)->Heap.SameBut a s.heap h'->HOk X.prog X.w H h':=fun {a h'} ha hs b ob e=>by
  obtain⟨_,_,hfree⟩:=ha
  refine(I.hok b ob e).stay (fun c w' hc q=>(hs.2 c ?_).trans q) (fun _ q=>q) fun _ _ q=>q
  rintro rfl
  rcases hc with rfl | hc
  ·rw [hfree] at e; cases e
  ·rw [hfree] at hc; cases hc
 rcases hx with hk | hk
 ·refine wpAny_storeName_local hk hn (fun h' hn' hs=>?_) hcls
  obtain⟨oL,_,_,hoL,_⟩:=id hn
  refine h _ ⟨I.ok,I.os,I.bare,⟨fun b o e n hb hx=>?_,fun b o e n hb hx=>?_,I.base.free,fun b o e hx=>?_,I.base.tups,I.base.frzs,I.base.tbls⟩,⟨_,hn',fun j y v' e1 e2 e3=>?_⟩,fun y c e=>?_,I.free,I.freeC,fun p hp=>?_,tracked ⟨oL,hoL,I.free⟩ hs,by simpa using I.len⟩ ⟨_,hs,.inl rfl⟩
  ·exact(hs.2 b (Nat.ne_of_lt (Nat.lt_of_lt_of_le (Heap.lt_size e) I.ok.above))).trans (I.base.keep b o e n hb hx)
  ·obtain⟨sl,e1⟩:=I.base.slot b o e n hb hx
   exact⟨sl,(hs.2 b (Nat.ne_of_lt (Nat.lt_of_lt_of_le (Heap.lt_size e) I.ok.above))).trans e1⟩
  ·obtain⟨o',e1⟩:=I.base.there b o e hx
   exact⟨o',(hs.2 b (Nat.ne_of_lt (Nat.lt_of_lt_of_le (Heap.lt_size e) I.ok.above))).trans e1⟩
  ·by_cases hj:j=i
   ·subst hj
    rw [hi] at e1; cases e1
    rw [List.getElem?_set_self hiσ] at e2
    cases e2
    exact⟨u,r,.inl ⟨hk,by simp⟩⟩
   ·rw [List.getElem?_set_ne (Ne.symm hj)] at e2
    obtain⟨u',r',q⟩:=hl j y v' e1 e2 e3
    refine⟨u',r',?_⟩
    rcases q with ⟨k,e⟩ | ⟨k,c,e,z⟩
    ·refine .inl ⟨k,?_⟩
     have:y≠x:=fun e=>hj (Lc hN e1 (e▸hi))
     simp [this,e]
    ·exact .inr ⟨k,c,e,z.sameBut hs (cne y c e)⟩
  ·obtain⟨w',z⟩:=I.cell y c e
   exact⟨w',z.sameBut hs (cne y c e)⟩
  ·obtain⟨e,n,ne,nf,d⟩:=I.pin p hp
   exact⟨(hs.2 p.1 ne).trans e,n,ne,nf,d⟩
 ·have hfn:X.fn x=true:=by
   rcases hf with z | z
   ·exact z
   ·rw [z] at hk; cases hk
  obtain⟨c,hc⟩:=I.ok.has x (.inl hk)
  obtain⟨w',z⟩:=I.cell x c hc
  refine wpAny_storeName_cell I.ok.kind hk hc z (fun h' hc' hs=>?_)
  obtain⟨oc,hoc,hocd⟩:=id z
  refine h { s with heap:=h' } ⟨I.ok,I.os,I.bare,⟨fun b o e n hb hx=>?_,fun b o e n hb hx=>?_,I.base.free,fun b o e hx=>?_,I.base.tups,I.base.frzs,I.base.tbls⟩,⟨m,hn.sameBut hs (Ne.symm (cne x c hc)),fun j y v' e1 e2 e3=>?_⟩,fun y c' e=>?_,I.free,I.freeC,fun p hp=>?_,tracked ⟨oc,hoc,I.freeC x c hc⟩ hs,by simpa using I.len⟩ ⟨c,hs,.inr hc⟩
  ·exact(hs.2 b (Nat.ne_of_lt (Nat.lt_of_lt_of_le (Heap.lt_size e) (I.ok.cab x c hfn hc)))).trans (I.base.keep b o e n hb hx)
  ·obtain⟨sl,e1⟩:=I.base.slot b o e n hb hx
   exact⟨sl,(hs.2 b (Nat.ne_of_lt (Nat.lt_of_lt_of_le (Heap.lt_size e) (I.ok.cab x c hfn hc)))).trans e1⟩
  ·obtain⟨o',e1⟩:=I.base.there b o e hx
   exact⟨o',(hs.2 b (Nat.ne_of_lt (Nat.lt_of_lt_of_le (Heap.lt_size e) (I.ok.cab x c hfn hc)))).trans e1⟩
  ·by_cases hj:j=i
   ·subst hj
    rw [hi] at e1; cases e1
    rw [List.getElem?_set_self hiσ] at e2
    cases e2
    exact⟨u,r,.inr ⟨.inl hk,c,hc,hc'⟩⟩
   ·rw [List.getElem?_set_ne (Ne.symm hj)] at e2
    obtain⟨u',r',q⟩:=hl j y v' e1 e2 e3
    refine⟨u',r',?_⟩
    rcases q with q | ⟨k,c',e,z'⟩
    ·exact .inl q
    ·refine .inr ⟨k,c',e,z'.sameBut hs ?_⟩
     rintro rfl
     exact hj (Lc hN e1 (I.ok.inj _ _ _ e hc▸hi))
  ·by_cases hcc:c'=c
   ·subst hcc; exact⟨_,hc'⟩
   ·obtain⟨w2,z2⟩:=I.cell y c' e
    exact⟨w2,z2.sameBut hs hcc⟩
  ·obtain⟨e,n,ne,nf,d⟩:=I.pin p hp
   refine⟨(hs.2 p.1 ?_).trans e,n,ne,nf,d⟩
   intro q
   rw [q,hoc] at e
   have q':oc=p.2:=Option.some.inj e
   exact d w' (by rw [← q']; exact hocd)
theorem LO{M:Model}{A:Around}{E:Value->Shared->Prop}{i:Nat}{x:Str}{v:V}{u:Value}{Q:Unit->Shared->Prop}(I:Inv X pins σ H s)(hN:X.N.Nodup)(hi:X.N[i]?=some x)(hx:Rs X.env.scope x)(r:RelV v u)
  (h:∀s',Inv X pins (σ.set i (some v)) H s'->Q () s') (hf:X.fn x=true\/X.env.scope.names.lookup x=some .local:=by first | exact .inl rfl | exact .inr rfl | assumption):wpAny M A (storeName X.env x u) Q E s :=
 JM I hN hi hx r (fun s' I' _=>h s' I') hf
theorem Inv.call'{s':Shared}{ch:List Addr}(I:Inv X pins σ H s)(ho:s'.os=s.os)(u:Un (P_ X.stack) ch H H' s.heap s'.heap)(hok:HOk X.prog X.w H' s'.heap)(hg:AllBare s'.gens)
  (hch:∀b∈ch,(b∈X.ex\/X.s₀.heap.objs.size<=b)/\b≠X.env.locals/\(∀x c,X.env.cells.lookup x=some c->c≠b)/\∀p∈X.pn++pins,p.1≠b):Inv X pins σ H' s':=by
 obtain⟨h',g',d',t',o'⟩:=s'
 have e:o'=s.os:=ho
 subst e
 exact I.call (g':=g') (t':=t') (d':=d') u hok hg hch
end
abbrev XK:=Value->Option Addr->Hp->Prop
abbrev St:=List (Option V)
abbrev VK:=V->Hp->Prop
abbrev TE:=St->Hp->VK->Prop
abbrev TT:=St->Hp->(Bool->Hp->Prop)->Prop
abbrev TA:=St->Hp->(List V->Hp->Prop)->Prop
structure JB where
 nx:St->Hp->Prop
 rt:VK
 bk:St->Hp->Prop:=fun _ _=>False
 ct:St->Hp->Prop:=fun _ _=>False
abbrev TS:=JB->St->Hp->Prop
def EP(X:Cx)(pins:List (Addr×Obj))(σ:St)(Q:VK)(u:Value)(s':Shared):Prop:=∃v H',Inv X pins σ H' s'/\RelV v u/\Q v H'
def TP(X:Cx)(pins:List (Addr×Obj))(σ:St)(Q:Bool->Hp->Prop)(b:Bool)(s':Shared):Prop:=∃H',Inv X pins σ H' s'/\Q b H'
def AP(X:Cx)(pins:List (Addr×Obj))(σ:St)(Q:List V->Hp->Prop)(us:List Value)(s':Shared):Prop:=∃vs H',Inv X pins σ H' s'/\Vals vs us/\Q vs H'
def SP(X:Cx)(pins:List (Addr×Obj))(D:JB)(f:Flow)(s':Shared):Prop :=
 match f with
 | .next=>∃σ' H',Inv X pins σ' H' s'/\D.nx σ' H'
 | .brk=>∃σ' H',Inv X pins σ' H' s'/\D.bk σ' H'
 | .cont=>∃σ' H',Inv X pins σ' H' s'/\D.ct σ' H'
 | .ret u=>∃v σ' H',Inv X pins σ' H' s'/\RelV v u/\D.rt v H'
def PE(X:Cx)(e:Expr)(t:TE):Prop :=
 ∀(pins:List (Addr×Obj)) (s:Shared) (σ:St) (H:Hp) (Q:VK),Inv X pins σ H s->t σ H Q->wpAny (model X.prog X.w) X.A (eval e X.env) (EP X pins σ Q) X.xe s
def PT(X:Cx)(e:Expr)(t:TT):Prop :=
 ∀(pins:List (Addr×Obj)) (s:Shared) (σ:St) (H:Hp) (Q:Bool->Hp->Prop),Inv X pins σ H s->t σ H Q->wpAny (model X.prog X.w) X.A (isTrue e X.env (eval e X.env)) (TP X pins σ Q) X.xe s
def PW(X:Cx)(e:Expr)(t:TT):Prop :=
 ∀(whole:Sem Value) (pins:List (Addr×Obj)) (s:Shared) (σ:St) (H:Hp) (Q:Bool->Hp->Prop),Inv X pins σ H s->t σ H Q->wpAny (model X.prog X.w) X.A (isTrue e X.env whole) (TP X pins σ Q) X.xe s
theorem PW.pt{X:Cx}{e:Expr}{t:TT}(h:PW X e t):PT X e t:=h _
def PA(X:Cx)(es:List Expr)(t:TA):Prop :=
 ∀(pos:Pos) (pins:List (Addr×Obj)) (s:Shared) (σ:St) (H:Hp) (Q:List V->Hp->Prop),Inv X pins σ H s->t σ H Q->wpAny (model X.prog X.w) X.A (spliced (backTo pos (starEach es X.env))) (AP X pins σ Q) X.xe s
def PS(X:Cx)(st:Stmt)(t:TS):Prop :=
 ∀(pins:List (Addr×Obj)) (s:Shared) (σ:St) (H:Hp) (D:JB),Inv X pins σ H s->t D σ H->wpAny (model X.prog X.w) X.A (exec st X.env) (SP X pins D) X.xe s
def PSs(X:Cx)(st:List Stmt)(t:TS):Prop :=
 ∀(pins:List (Addr×Obj)) (s:Shared) (σ:St) (H:Hp) (D:JB),Inv X pins σ H s->t D σ H->wpAny (model X.prog X.w) X.A (execs st X.env) (SP X pins D) X.xe s
theorem Bp{α:Type}{t:Sem α}{Q Q':α->Shared->Prop}{M:Model}{A:Around}{E:Value->Shared->Prop}{s:Shared}(h:wpAny M A t Q E s)(hQ:∀a s,Q a s->Q' a s):wpAny M A t Q' E s:=wpAny_mono h hQ fun _ _ x=>x
section
variable {X:Cx}
def CB(i:Nat):TE:=fun σ H Q=>∃v,σ[i]?=some (some v)/\Q v H
def tC(v:V):TE:=fun _ H Q=>Q v H
theorem KI{i:Nat}{x:Str}{pos:Pos}(hN:X.N[i]?=some x)(hv:Tz X.env.scope x)(hd:(x==("__debug__" : Str))=false:=by decide)(hcd:(x==("__classdict__" : Str))=false:=by decide):PE X (.Name x pos) (CB i):=by
 intro pins s σ H Q I h
 obtain⟨v,e,h⟩:=h
 obtain⟨m,hn,hl⟩:=I.loc
 obtain⟨u,r,l⟩:=hl i x v hN e hv
 have fin:EP X pins σ Q u s:=⟨v,H,I,r,h⟩
 rcases l with ⟨hk,hm⟩ | ⟨hk,c,hc,hcell⟩
 ·exact wpAny_Name (wpAny_loadName_local I.ok.kind hk hn hm fin) hd
 ·rcases hk with hk | hk
  ·exact wpAny_Name (wpAny_loadName_cell I.ok.kind hk hc hcell fin) hd
  ·exact wpAny_Name (wpAny_loadName_free I.ok.kind hk hc hcell fin hcd) hd
theorem A0{i j pos}:PE X (.Constant (.int i) j pos) (tC (.int i)):=fun _ _ _ H _ I h=>wpAny_Constant_int ⟨.int i,H,I.tok _,⟨_,rfl⟩,h⟩
theorem Uc{b j pos}:PE X (.Constant (.bool b) j pos) (tC (.bl b)):=fun _ _ _ H _ I h=>Constant_bool ⟨.bl b,H,I,rfl,h⟩
theorem Sz{j pos}:PE X (.Constant .none j pos) (tC .non):=fun _ _ _ H _ I h=>Constant_none ⟨.non,H,I,rfl,h⟩
theorem Sv{x j pos}:PE X (.Constant (.str x) j pos) (tC (.str x)):=fun _ _ _ H _ I h=>Calls.Constant_str ⟨.str x,H,I.tok _,⟨_,rfl⟩,h⟩
def Gl(X:Cx)(x:Str):Prop:=X.env.kindOf x=some .globalImplicit
theorem RT{E:Value->Shared->Prop}{pins:List (Addr×Obj)}{s:Shared}{σ:St}{H:Hp}{x:Str}{u:Value}{pos:Pos}{Q:Value->Shared->Prop}(I:Inv X pins σ H s)(hg:Gl X x)(hm:X.mg x=some u)(h:Q u s)
  (hd:(x==("__debug__" : Str))=false:=by decide):wpAny (model X.prog X.w) X.A (eval (.Name x pos) X.env) Q E s :=
 Calls.Name_function_global I.ok.kind hg (Calls.loadGlobal_global (by rw [I.ok.glob]; exact I.mod.glob.keeps I.bk) hm h) hd
theorem FQ{E:Value->Shared->Prop}{pins:List (Addr×Obj)}{s:Shared}{σ:St}{H:Hp}{x:Str}{u:Value}{pos:Pos}{Q:Value->Shared->Prop}(I:Inv X pins σ H s)(hg:Gl X x)(hm:X.mg x=none)(hv:bootBuiltins x=some u)(h:Q u s)
  (hn:x ≠ "__name__":=by decide) (hd:(x==("__debug__" : Str))=false:=by decide):wpAny (model X.prog X.w) X.A (eval (.Name x pos) X.env) Q E s:=by
 obtain⟨mb,h1,h2⟩:=I.mod.blt
 exact Calls.Name_function_global I.ok.kind hg (Calls.loadGlobal_builtin (by rw [I.ok.glob]; exact I.mod.glob.keeps I.bk) hm (by rw [I.ok.blt]; exact h1.keeps I.bk) ((h2 x hn).trans hv) h) hd
theorem RI{x:Str}{v:V}{u:Value}{pos:Pos}(hg:Gl X x)(hm:X.mg x=none)(hv:bootBuiltins x=some u)(r:RelV v u)(hn:x ≠ "__name__":=by decide)(hd:(x==("__debug__" : Str))=false:=by decide):PE X (.Name x pos) (tC v) :=
 fun _ _ _ H _ I h=>FQ I hg hm hv ⟨v,H,I,r,h⟩ hn hd
variable {a b:Expr}{ta tb:TE}{pos:Pos}
def tB(t:TE):TT:=fun σ H Q=>t σ H fun x H1=>∃c,x=.bl c/\Q c H1
theorem Sq{e:Expr}{t:TE}(h:PE X e t)(he:∀whole,isTrue e X.env whole=(do let v ← whole; standAt e.pos; holding [v] (truthy v)):=by intro _; rfl):PT X e (tB t):=by
 intro pins s σ H Q I hw
 refine isTrue_plain (Bp (h pins s σ H _ I hw) fun v s1 ⟨x,H1,I1,r1,q1⟩=>?_) (he _)
 obtain⟨d,rfl,q⟩:=q1
 cases r1
 exact wpAny_truthy_bool ⟨H1,I1,q⟩
variable {tA tB':TT}{rest:List Expr}
def UK(t u:TT):TT:=fun σ H Q=>t σ H fun c H1=>if c=true then u σ H1 Q else Q false H1
def V_(t u:TT):TT:=fun σ H Q=>t σ H fun c H1=>if c=true then Q true H1 else u σ H1 Q
def VS(t:TT):TT:=fun σ H Q=>t σ H fun c H1=>Q (!c) H1
theorem NC(ha:PT X a tA):PW X (.BoolOp .And [a] pos) tA:=by
 intro wh pins s σ H Q I h
 refine isTrue_and (Bp (ha pins s σ H Q I h) fun c s1 e=>?_)
 cases c with
 | true=>exact isTrue_and_nil e
 | false=>exact e
theorem Sm(ha:PT X a tA):PW X (.BoolOp .Or [a] pos) tA:=by
 intro wh pins s σ H Q I h
 refine isTrue_or (Bp (ha pins s σ H Q I h) fun c s1 e=>?_)
 cases c with
 | false=>exact isTrue_or_nil e
 | true=>exact e
theorem PZ(ha:PT X a tA)(hb:PW X (.BoolOp .And (b::rest) pos) tB'):PW X (.BoolOp .And (a::b::rest) pos) (UK tA tB'):=by
 intro wh pins s σ H Q I h
 refine isTrue_and (Bp (ha pins s σ H _ I h) fun c s1 ⟨H1,I1,q1⟩=>?_)
 cases c with
 | true=>exact hb wh pins s1 σ H1 Q I1 q1
 | false=>exact⟨H1,I1,q1⟩
theorem Ua(ha:PT X a tA)(hb:PW X (.BoolOp .Or (b::rest) pos) tB'):PW X (.BoolOp .Or (a::b::rest) pos) (V_ tA tB'):=by
 intro wh pins s σ H Q I h
 refine isTrue_or (Bp (ha pins s σ H _ I h) fun c s1 ⟨H1,I1,q1⟩=>?_)
 cases c with
 | true=>exact⟨H1,I1,q1⟩
 | false=>exact hb wh pins s1 σ H1 Q I1 q1
theorem Sr(ha:PT X a tA):PT X (.UnaryOp .Not a pos) (VS tA):=by
 intro pins s σ H Q I h
 exact isTrue_not (ha pins s σ H (fun c H1=>Q (!c) H1) I h)
def UJ(ta tb:TE):TE:=fun σ H Q=>ta σ H fun x H1=>∃c,x=.bl c/\if c=true then tb σ H1 Q else Q (.bl false) H1
def UE(ta:TE):TE:=fun σ H Q=>ta σ H fun x H1=>∃c,x=.bl c/\Q (.bl (!c)) H1
theorem Sx{op}{t:TE}(h:PE X a t):PE X (.BoolOp op [a] pos) t:=fun pins s σ H Q I hw=>BoolOp_one (h pins s σ H Q I hw)
theorem S0(ha:PE X a ta)(hb:PE X (.BoolOp .And (b::rest) pos) tb):PE X (.BoolOp .And (a::b::rest) pos) (UJ ta tb):=by
 intro pins s σ H Q I h
 refine BoolOp_and (Bp (ha pins s σ H _ I h) fun v s1 ⟨x,H1,I1,r1,q1⟩=>?_)
 obtain⟨c,rfl,q1⟩:=q1
 cases r1
 refine wpAny_truthy_bool ?_
 cases c with
 | true=>exact hb pins s1 σ H1 Q I1 q1
 | false=>exact⟨.bl false,H1,I1,rfl,q1⟩
theorem Sy(ha:PE X a ta):PE X (.UnaryOp .Not a pos) (UE ta):=by
 intro pins s σ H Q I h
 refine UnaryOp_ (Bp (ha pins s σ H _ I h) fun v s1 ⟨x,H1,I1,r1,q1⟩=>?_)
 obtain⟨c,rfl,q1⟩:=q1
 cases r1
 exact not_of (wpAny_truthy_bool ⟨.bl (!c),H1,I1,rfl,q1⟩)
def WA(t:TT)(ta tb:TE):TE:=fun σ H Q=>t σ H fun c H1=>if c=true then ta σ H1 Q else tb σ H1 Q
theorem Pk{c:Expr}(hc:PT X c tA)(ha:PE X a ta)(hb:PE X b tb):PE X (.IfExp c a b pos) (WA tA ta tb):=by
 intro pins s σ H Q I h
 refine wpAny_IfExp (Bp (hc pins s σ H _ I h) fun d s1 ⟨H1,I1,q1⟩=>?_)
 cases d with
 | true=>exact ha pins s1 σ H1 Q I1 q1
 | false=>exact hb pins s1 σ H1 Q I1 q1
end
def SqL(K:Frag)(H:Hp)(a:Addr)(xs:List V):Prop :=
 Rd H a (.lst xs) \/
  ∃(o:Obj) (its:Array Value) (n:Nat),K.lookup a=some o/\o.cls=.type "list"/\o.dict=none/\o.data=.seq its n/\its.size<=sizeLine/\Vals xs its.toList
def SqT(K:Frag)(H:Hp)(a:Addr)(xs:List V):Prop :=
 Rd H a (.tup xs) \/
  ∃(o:Obj) (its:Array Value) (n:Nat),K.lookup a=some o/\o.cls=.type "tuple"/\o.data=.seq its n/\its.size<=sizeLine/\Vals xs its.toList
def Vo:Value->Option V
 | .none=>some .non
 | .bool b=>some (.bl b)
 | .int i _=>some (.int i)
 | .str x _=>some (.str x)
 | .bytes b _=>some (.byt b)
 | .float b _=>some (.flt b)
 | .ref a=>some (.ref a)
 | .type n=>some (.ty n)
 | _=>none
theorem RelV.abs{x:V}{u:Value}(r:RelV x u):Vo u=some x:=by
 cases x with
 | non=>cases r; rfl
 | bl _=>cases r; rfl
 | int _=>obtain⟨t,rfl⟩:=r; rfl
 | str _=>obtain⟨t,rfl⟩:=r; rfl
 | byt _=>obtain⟨t,rfl⟩:=r; rfl
 | flt _=>obtain⟨t,rfl⟩:=r; rfl
 | ref _=>cases r; rfl
 | ty _=>cases r; rfl
theorem RelV.inj{x y:V}{u:Value}(r:RelV x u)(q:RelV y u):x=y:=Option.some.inj (r.abs.symm.trans q.abs)
theorem Vals.inj:∀{xs ys:List V} {us:List Value},Vals xs us->Vals ys us->xs=ys
 | _,_,_,.nil,.nil=>rfl
 | _,_,_,.cons r t,.cons r' t'=>by rw [r.inj r',Vals.inj t t']
section
variable {X:Cx}{pins:List (Addr×Obj)}{σ:St}{H:Hp}{s:Shared}{a:Addr}{xs ys:List V}
theorem SqL.of{K:Frag}(h:H a=some (.lst xs)):SqL K H a xs:=.inl (.inl h)
theorem SqT.of{K:Frag}(h:H a=some (.tup xs)):SqT K H a xs:=.inl (.inl h)
theorem Inv.list(I:Inv X pins σ H s)(h:SqL X.K H a xs):∃its:List Value,Vals xs its/\PlainL s.heap a its.toArray/\xs.length<=sizeLine:=by
 rcases h with h | ⟨o,its,n,hk,hc,hd,hs,hz,r⟩
 ·obtain⟨z,its,n,r,e⟩:=h.ok I.hok
  exact⟨its,r,⟨_,n,e,rfl,rfl,rfl⟩,z⟩
 ·refine⟨its.toList,r,⟨o,n,I.kIn a o hk,hc,hd,by simpa using hs⟩,?_⟩
  have e:=r.length
  simp only [Array.length_toList] at e
  omega
theorem Inv.tuple(I:Inv X pins σ H s)(h:SqT X.K H a xs):∃its:List Value,Vals xs its/\IsTup s.heap a its.toArray/\xs.length<=sizeLine:=by
 rcases h with h | ⟨o,its,n,hk,hc,hs,hz,r⟩
 ·obtain⟨z,its,r,p⟩:=h.ok I.hok
  exact⟨its,r,p,z⟩
 ·refine⟨its.toList,r,⟨o,I.kIn a o hk,hc,n,by simpa using hs⟩,?_⟩
  have e:=r.length
  simp only [Array.length_toList] at e
  omega
theorem Inv.list_inj(I:Inv X pins σ H s)(h:SqL X.K H a xs)(h':SqL X.K H a ys):xs=ys:=by
 obtain⟨its,r,⟨o,n,e,_,_,d⟩,_⟩:=I.list h
 obtain⟨its',r',⟨o',n',e',_,_,d'⟩,_⟩:=I.list h'
 rw [e] at e'; cases e'
 rw [d] at d'
 injection d' with d1 _
 have:its=its':=by simpa using congrArg Array.toList d1
 subst this
 exact r.inj r'
theorem Inv.tuple_inj(I:Inv X pins σ H s)(h:SqT X.K H a xs)(h':SqT X.K H a ys):xs=ys:=by
 obtain⟨its,r,⟨o,e,_,n,d⟩,_⟩:=I.tuple h
 obtain⟨its',r',⟨o',e',_,n',d'⟩,_⟩:=I.tuple h'
 rw [e] at e'; cases e'
 rw [d] at d'
 injection d' with d1 _
 have:its=its':=by simpa using congrArg Array.toList d1
 subst this
 exact r.inj r'
end
abbrev Cx.wish(X:Cx)(E:Value->Shared->Prop):Cx:={ X with xe:=E }
abbrev Cx.nox(X:Cx):Cx:=X.wish fun _ _=>False
theorem Cx.Ok.wish{X:Cx}(ok:X.Ok)(E:Value->Shared->Prop):(X.wish E).Ok :=
 ⟨ok.mod,ok.kind,ok.glob,ok.blt,ok.above,ok.inj,ok.has,ok.cab,ok.hd,ok.frames,ok.stk,ok.exf,ok.bs,ok.bsz,ok.noex,ok.exfs,ok.funs,ok.frf⟩
theorem Cx.Ok.unwish{X:Cx}{E:Value->Shared->Prop}(ok:(X.wish E).Ok):X.Ok :=
 ⟨ok.mod,ok.kind,ok.glob,ok.blt,ok.above,ok.inj,ok.has,ok.cab,ok.hd,ok.frames,ok.stk,ok.exf,ok.bs,ok.bsz,ok.noex,ok.exfs,ok.funs,ok.frf⟩
section
variable {X:Cx}{pins:List (Addr×Obj)}{σ:St}{H:Hp}{s:Shared}{E:Value->Shared->Prop}
theorem Inv.wish(I:Inv X pins σ H s)(E:Value->Shared->Prop):Inv (X.wish E) pins σ H s:=⟨I.ok.wish E,I.os,I.bare,I.base,I.loc,I.cell,I.free,I.freeC,I.pin,I.hok,I.len⟩
theorem Inv.unwish(I:Inv (X.wish E) pins σ H s):Inv X pins σ H s:=⟨I.ok.unwish,I.os,I.bare,I.base,I.loc,I.cell,I.free,I.freeC,I.pin,I.hok,I.len⟩
theorem SP.unwish{D:JB}{f:Flow}{s':Shared}(h:SP (X.wish E) pins D f s'):SP X pins D f s':=by
 cases f with
 | next=>obtain⟨σ',H',I,q⟩:=h; exact⟨σ',H',I.unwish,q⟩
 | brk=>obtain⟨σ',H',I,q⟩:=h; exact⟨σ',H',I.unwish,q⟩
 | cont=>obtain⟨σ',H',I,q⟩:=h; exact⟨σ',H',I.unwish,q⟩
 | ret u=>obtain⟨v,σ',H',I,r,q⟩:=h; exact⟨v,σ',H',I.unwish,r,q⟩
theorem PSs.nox{st:List Stmt}{t:TS}(h:PSs X.nox st t):PSs X st t:=fun pins s σ H D I hw =>
 wpAny_mono (h pins s σ H D (I.wish _) hw) (fun _ _ q=>q.unwish) fun _ _ z=>False.elim z
end
section
variable {X:Cx}{st:Stmt}{rest:List Stmt}{t u:TS}{e:Expr}{te:TE}{pos:Pos}
def Rw:TS:=fun D σ H=>D.nx σ H
def Ny(t u:TS):TS:=fun D σ H=>t { D with nx:=u D } σ H
theorem KD:PSs X [] Rw:=fun _ _ σ H _ I h=>wpAny_execs_nil ⟨σ,H,I,h⟩
theorem BU(h1:PS X st t)(h2:PSs X rest u):PSs X (st::rest) (Ny t u):=by
 intro pins s σ H D I h
 refine wpAny_execs_cons (Bp (h1 pins s σ H { D with nx:=u D } I h) fun f s1 q=>?_)
 cases f with
 | next =>
  obtain⟨σ',H',I',q⟩:=q
  exact h2 pins s1 σ' H' D I' q
 | ret v=>exact q
 | brk=>exact q
 | cont=>exact q
theorem DZ(h1:PS X st t):PSs X [st] t:=by
 intro pins s σ H D I h
 refine wpAny_execs_cons (Bp (h1 pins s σ H D I h) fun f s1 q=>?_)
 cases f with
 | next=>exact wpAny_execs_nil q
 | ret v=>exact q
 | brk=>exact q
 | cont=>exact q
theorem Inv.quiet{pins:List (Addr×Obj)}{σ:St}{H:Hp}{s:Shared}(I:Inv X pins σ H s):interactive X.env=false:=by simp [interactive,I.ok.kind]
def UG(te:TE):TS:=fun D σ H=>te σ H fun _ H1=>D.nx σ H1
theorem RB(he:PE X e te)(hs:swapsWith e none pos.line X.env=pure false:=by rfl):PS X (.Expr e pos) (UG te):=by
 intro pins s σ H D I h
 exact wpAny_Expr_any (Bp (he pins s σ H _ I h) fun v s1 ⟨x,H1,I1,r1,q1⟩=>⟨σ,H1,I1,q1⟩) I.quiet hs
def Q3(te:TE):TS:=fun D σ H=>te σ H D.rt
theorem FN(he:PE X e te):PS X (.Return (some e) pos) (Q3 te):=by
 intro pins s σ H D I h
 exact wpAny_Return_some (Bp (he pins s σ H _ I h) fun v s1 ⟨x,H1,I1,r1,q1⟩=>⟨x,σ,H1,I1,r1,q1⟩)
def UF(c:TT)(t u:TS):TS:=fun D σ H=>c σ H fun b H1=>if b=true then t D σ H1 else u D σ H1
theorem Pe{c:Expr}{a b:List Stmt}{tc:TT}(hc:PT X c tc)(ha:PSs X a t)(hb:PSs X b u):PS X (.If c a b pos) (UF tc t u):=by
 intro pins s σ H D I h
 refine wpAny_If (Bp (hc pins s σ H _ I h) fun d s1 ⟨H1,I1,q1⟩=>?_)
 cases d with
 | true=>exact ha pins s1 σ H1 D I1 q1
 | false=>exact hb pins s1 σ H1 D I1 q1
end
abbrev TG:=V->St->Hp->(St->Hp->Prop)->Prop
abbrev Tq:=List V->St->Hp->(St->Hp->Prop)->Prop
def PG(X:Cx)(target:Expr)(t:TG):Prop :=
 ∀(pins:List (Addr×Obj)) (s:Shared) (σ:St) (H:Hp) (v:V) (u:Value) (Q:St->Hp->Prop),Inv X pins σ H s->RelV v u->t v σ H Q ->
  wpAny (model X.prog X.w) X.A (assign target X.env u) (fun _ s'=>∃σ' H',Inv X pins σ' H' s'/\Q σ' H') X.xe s
def U2(X:Cx)(ts:List Expr)(t:Tq):Prop :=
 ∀(pins:List (Addr×Obj)) (s:Shared) (σ:St) (H:Hp) (vs:List V) (us:List Value) (Q:St->Hp->Prop),Inv X pins σ H s->Vals vs us->t vs σ H Q ->
  wpAny (model X.prog X.w) X.A (assignInOrder ((assignEach ts X.env).map (·.2)) us) (fun _ s'=>∃σ' H',Inv X pins σ' H' s'/\Q σ' H') X.xe s
abbrev Tp:=V->V->V->Hp->(Hp->Prop)->Prop
def U0(X:Cx)(t:Tp):Prop :=
 ∀(pins:List (Addr×Obj)) (s:Shared) (σ:St) (H:Hp) (o i v:V) (ov iv u:Value) (Q:Hp->Prop),Inv X pins σ H s->RelV o ov->RelV i iv->RelV v u->t o i v H Q ->
  wpAny (model X.prog X.w) X.A (setItem ov iv u) (fun _ s'=>∃H',Inv X pins σ H' s'/\Q H') X.xe s
section
variable {X:Cx}{pos:Pos}
def Gw(i:Nat):TG:=fun v σ H Q=>Q (σ.set i (some v)) H
theorem Fq{i:Nat}{x:Str}(hN:X.N.Nodup)(hi:X.N[i]?=some x)(hx:Rs X.env.scope x)(hf:X.fn x=true\/X.env.scope.names.lookup x=some .local:=by first | exact .inl rfl | exact .inr rfl | assumption):PG X (.Name x pos) (Gw i):=by
 intro pins s σ H v u Q I r h
 exact wpAny_assign_Name (LO I hN hi hx r (fun s' I'=>⟨_,H,I',h⟩) hf)
def Vi:Tq:=fun vs σ H Q=>vs=[]/\Q σ H
def Uj(t:TG)(u:Tq):Tq:=fun vs σ H Q=>∃v r,vs=v::r/\t v σ H fun σ' H'=>u r σ' H' Q
theorem NH:U2 X [] Vi:=by
 intro pins s σ H vs us Q I r h
 obtain⟨e,h⟩:=h
 subst e
 cases r
 exact assignInOrder_nil ⟨σ,H,I,h⟩
theorem Fp{e:Expr}{es:List Expr}{t:TG}{u:Tq}(h1:PG X e t)(h2:U2 X es u)
  (hs:(assignEach (e::es) X.env).map (·.2)=assign e X.env::(assignEach es X.env).map (·.2):=by rfl):U2 X (e::es) (Uj t u):=by
 intro pins s σ H vs us Q I r h
 obtain⟨v,vr,e1,h⟩:=h
 subst e1
 cases r with
 | cons r rr =>
  rw [hs]
  refine assignInOrder_cons (Bp (h1 pins s σ H _ _ _ I r h) fun _ s1 ⟨σ1,H1,I1,q1⟩=>?_)
  exact h2 pins s1 σ1 H1 _ _ Q I1 rr q1
def Vh(K:Frag)(n:Nat)(t:Tq):TG:=fun v σ H Q=>∃a xs,v=.ref a/\SqT K H a xs/\xs.length=n/\t xs σ H Q
theorem Pj{es:List Expr}{k:Nat}{t:Tq}{n:Nat}(hc:X.calm=true)(h:U2 X es t)
  (hn:(assignEach es X.env).length=n:=by rfl) (hst:(assignEach es X.env).findIdx? (·.1)=none:=by rfl):PG X (.Tuple es k pos) (Vh X.K n t):=by
 intro pins s σ H v u Q I r hw
 obtain⟨a,xs,e1,hq,hl,hw⟩:=hw
 subst e1
 cases r
 obtain⟨its,rv,ht,hz⟩:=I.tuple hq
 refine assign_Tuple_tuple (I.ok.hd hc) ht (by simp [hn,← hl,rv.length]) hst fun h' hx=>?_
 have I1:Inv X pins σ H { s with heap:=h' }:=I.kept (t':=s.toks) fun b o e=>hx b o (Nat.ne_of_lt (Heap.lt_size e)) e
 exact h pins _ σ H xs _ Q I1 (by simpa using rv) hw
def Ui(to ti:TE)(t:Tp):TG:=fun v σ H Q=>to σ H fun o H1=>ti σ H1 fun i H2=>t o i v H2 fun H3=>Q σ H3
theorem MR{o i:Expr}{to ti:TE}{t:Tp}(ho:PE X o to)(hi:PE X i ti)(hs:U0 X t)
  (ha:∀v,assign (.Subscript o i pos) X.env v=(do
   let ov ← holding [v] (eval o X.env)
   let iv ← holding [v,ov] (eval i X.env)
   standAt pos
   holding [v,ov,iv] (setItem ov iv v)
   release [v,ov,iv] []):=by intro _; rfl):PG X (.Subscript o i pos) (Ui to ti t):=by
 intro pins s σ H v u Q I r h
 rw [ha]
 refine wpAny_bind (wpAny_holding (Bp (ho pins s σ H _ I h) fun ov s1 ⟨x,H1,I1,r1,q1⟩=>?_))
 refine wpAny_bind (wpAny_holding (Bp (hi pins s1 σ H1 _ I1 q1) fun iv s2 ⟨y,H2,I2,r2,q2⟩=>?_))
 refine wpAny_bind (wpAny_standAt (wpAny_bind (wpAny_holding (Bp (hs pins s2 σ H2 x y v ov iv u _ I2 r1 r2 r q2) fun _ s3 ⟨H3,I3,q3⟩=>?_))))
 exact wpAny_release ⟨σ,H3,I3,q3⟩
def LL(te:TE)(g:TG):TS:=fun D σ H=>te σ H fun x H1=>g x σ H1 D.nx
theorem KG{tg e:Expr}{te:TE}{g:TG}(he:PE X e te)(hg:PG X tg g)(hs:swapsWithSole [tg] e pos.line X.env=pure false:=by rfl)(hw:swappedStores [tg] e X.env=pure none:=by rfl)
  (h1:(assignEach [tg] X.env).map (·.2)=[assign tg X.env]:=by rfl):PS X (.Assign [tg] e pos) (LL te g):=by
 intro pins s σ H D I h
 refine wpAny_Assign_stores (Bp (he pins s σ H _ I h) fun v s1 ⟨x,H1,I1,r1,q1⟩=>?_) hs hw
 rw [h1]
 exact Bp (hg pins s1 σ H1 x v _ I1 r1 q1) fun _ s2 q=>q
theorem EW{i:Nat}{x:Str}{e:Expr}{te:TE}{pos':Pos}(hN:X.N.Nodup)(hi:X.N[i]?=some x)(hx:Rs X.env.scope x)(he:PE X e te)(hs:swapsWith e (some (.Name x pos')) pos.line X.env=pure false:=by rfl)(hf:X.fn x=true\/X.env.scope.names.lookup x=some .local:=by first | exact .inl rfl | exact .inr rfl | assumption) :
  PS X (.Assign [.Name x pos'] e pos) (LL te (Gw i)):=by
 intro pins s σ H D I h
 refine wpAny_Assign_Name (Bp (he pins s σ H _ I h) fun v s1 ⟨y,H1,I1,r1,q1⟩=>?_) hs
 exact LO I1 hN hi hx r1 (fun s2 I2=>⟨_,H1,I2,q1⟩) hf
end
section
variable {X:Cx}{pos:Pos}
def SZ(c:TT)(tb:TS):TS:=fun D σ H=>∃W:Nat->St->Hp->Prop,(∃m,W m σ H)/\∀m σ H,W m σ H ->
 c σ H fun b H1=>if b=true then ∃N:St->Hp->Prop,(∀σ' H',N σ' H'->∃m',m'<m/\W m' σ' H')/\tb { D with nx:=N,ct:=N,bk:=D.nx } σ H1 else D.nx σ H1
theorem Pc{c:Expr}{body:List Stmt}{tc:TT}{tb:TS}(hp:PassesOwn (model X.prog X.w) X.A X.env X.xe)(hc:PT X c tc)(hb:PSs X body tb):PS X (.While c body [] pos) (SZ tc tb):=by
 intro pins s σ H D I h
 obtain⟨W,⟨m0,w0⟩,turn⟩:=h
 refine wpAny_While (codeAny_whileLoop (fun n s'=>∃σ' H',Inv X pins σ' H' s'/\W n σ' H') ?_ m0 ⟨σ,H,I,w0⟩)
 rintro n s1 ⟨σ1,H1,I1,w1⟩
 refine wpAny_passesOwn hp (Bp (hc pins s1 σ1 H1 _ I1 (turn n σ1 H1 w1)) fun b s2 ⟨H2,I2,q2⟩=>?_)
 cases b with
 | true =>
  obtain⟨N,hN,q2⟩:=q2
  rw [if_pos rfl]
  refine wpAny_passesOwn hp (Bp (hb pins s2 σ1 H2 _ I2 q2) fun f s3 q3=>?_)
  cases f with
  | next =>
   obtain⟨σ3,H3,I3,n3⟩:=q3
   obtain⟨m',hm,w3⟩:=hN σ3 H3 n3
   exact⟨m',hm,σ3,H3,I3,w3⟩
  | cont =>
   obtain⟨σ3,H3,I3,n3⟩:=q3
   obtain⟨m',hm,w3⟩:=hN σ3 H3 n3
   exact⟨m',hm,σ3,H3,I3,w3⟩
  | brk=>exact q3
  | ret v=>exact q3
 | false =>
  rw [if_neg Bool.false_ne_true]
  exact wpAny_execs_nil ⟨σ1,H2,I2,q2⟩
end
structure It where
 go:Nat->Hp->Prop
 yld:Nat->Hp->V->Hp->Prop
 stop:Nat->Hp->Prop
def GI(X:Cx)(pins:List (Addr×Obj))(H:Hp)(b:Addr):Prop :=
 H b=none/\b≠X.env.locals/\b∉X.fs/\(b∈X.ex\/X.s₀.heap.objs.size<=b)/\(∀x c,X.env.cells.lookup x=some c->c≠b)/\∀p∈X.pn++pins,p.1≠b
theorem Inv.fpOk{X:Cx}{pins:List (Addr×Obj)}{σ:St}{H H':Hp}{s:Shared}{b:Addr}(I:Inv X pins σ H s)(hb:s.heap.objs.size<=b)(hn:H' b=none):GI X pins H' b:=by
 refine⟨hn,Nat.ne_of_gt (Nat.lt_of_lt_of_le I.lt hb),I.nofs hb,.inr (Nat.le_trans I.sz hb),fun x c e z=>?_,fun p hp z=>?_⟩
 ·obtain⟨v,q⟩:=I.cell x c e
  exact absurd (Nat.lt_of_lt_of_le q.lt (by rw [z]; exact hb)) (Nat.lt_irrefl _)
 ·exact absurd (Nat.lt_of_lt_of_le (Heap.lt_size (I.pin p hp).1) (by rw [z]; exact hb)) (Nat.lt_irrefl _)
structure L8 (P:Program) (w:World) (K:Frag) (tg:Expr) (J:It) (fp:List Addr) (it:Addr) (tn:Nat->Heap->Prop):Prop where
 mem:it∈fp
 obj:∀i h,tn i h->∀b∈fp,∃o,h.get? b=some o/\∀v,o.data≠.cell v
 keep:∀i h h',tn i h->(∀b∈fp,∀o,h.get? b=some o->h'.get? b=some o)->tn i h'
 item:∀(X:Cx),X.prog=P->X.w=w->X.K=K->X.calm=true->∀(i:Nat) (pins:List (Addr×Obj)) (s:Shared) (σ:St) (H:Hp) (E:Value->Shared->Prop),Inv X pins σ H s->(∀b∈fp,GI X pins H b)->tn i s.heap->J.go i H ->
  wpAny (model P w) X.A (pyNext (.ref it)) (fun r s1=>∃u,r=some u /\
   wpAny (model P w) X.A (letOwnedTupleGo tg (.ref it) u) (fun _ s2=>∃x H',Inv X pins σ H' s2/\RelV x u/\J.yld i H x H'/\tn (i+1) s2.heap/\∀b∈fp,H' b=none) E s1) E s
 done:∀(X:Cx),X.prog=P->X.w=w->X.K=K->X.calm=true->∀(i:Nat) (pins:List (Addr×Obj)) (s:Shared) (σ:St) (H:Hp) (E:Value->Shared->Prop),Inv X pins σ H s->(∀b∈fp,GI X pins H b)->tn i s.heap->J.stop i H ->
  wpAny (model P w) X.A (pyNext (.ref it)) (fun r s1=>r=none/\Inv X pins σ H s1) E s
 self:∀(A:Around) (i:Nat) (s:Shared) (Q:Value->Shared->Prop) (E:Value->Shared->Prop),tn i s.heap->Q (.ref it) s->wpAny (model P w) A (pyIter (.ref it)) Q E s
abbrev TI:=St->Hp->(It->Hp->Prop)->Prop
def V5(X:Cx)(pins:List (Addr×Obj))(σ:St)(tg:Expr)(R:It->Hp->Prop)(itv:Value)(s2:Shared):Prop :=
 ∃(it:Addr) (fp:List Addr) (tn:Nat->Heap->Prop) (J:It) (H':Hp),itv=.ref it/\Inv X pins σ H' s2/\L8 X.prog X.w X.K tg J fp it tn/\tn 0 s2.heap/\(∀b∈fp,GI X pins H' b)/\R J H'
def PI(X:Cx)(tg iter:Expr)(wi:TI):Prop :=
 ∀(pins:List (Addr×Obj)) (s:Shared) (σ:St) (H:Hp) (R:It->Hp->Prop),Inv X pins σ H s->wi σ H R ->
  wpAny (model X.prog X.w) X.A (eval iter X.env) (fun v s1=>wpAny (model X.prog X.w) X.A (pyIter v) (V5 X pins σ tg R) X.xe s1) X.xe s
theorem NQ {M : Model} {A : Around} {E : Value → Shared → Prop} {s : Shared} {tg : Expr} {it : Addr} {u : Value} {o : Obj} {n : String} {vs : Array Value} {Q : Unit → Shared → Prop} (ho : s.heap.get? it = some o) (hc : o.cls = .type n) (hd : o.data = .fields vs)
    (hn : ["enumerate", "zip", "dict_itemiterator", "dict_reverseitemiterator", "odict_iterator", "itertools.zip_longest", "itertools.pairwise"].contains n = false) (hQ : Q () s) : wpAny M A (letOwnedTupleGo tg (.ref it) u) Q E s := by
  unfold letOwnedTupleGo
  cases tg <;> first
    | exact wpAny_pure hQ
    | (cases u <;> first
        | exact wpAny_pure hQ
        | (refine wpAny_bind (wpAny_load ho ?_)
           rw [hc, hd]
           show wpAny M A (if (["enumerate", "zip", "dict_itemiterator", "dict_reverseitemiterator", "odict_iterator", "itertools.zip_longest", "itertools.pairwise"].contains n && vs[0]? == some (rawInt _)) = true then _ else _) Q E s
           rw [if_neg (by intro h; rw [hn, Bool.false_and] at h; cases h)]
           exact wpAny_pure hQ))
def Vw(K:Frag)(a:Addr):It :=
 ⟨fun i H=>∃xs x,SqL K H a xs/\xs[i]?=some x,fun i H x H'=>H'=H/\∀xs,SqL K H a xs->xs[i]?=some x,fun i H=>∃xs,SqL K H a xs/\xs.length<=i⟩
def Tu(K:Frag)(a:Addr):It :=
 ⟨fun i H=>∃xs x,SqT K H a xs/\xs[i]?=some x,fun i H x H'=>H'=H/\∀xs,SqT K H a xs->xs[i]?=some x,fun i H=>∃xs,SqT K H a xs/\xs.length<=i⟩
def VI(lo:Int)(n:Nat):It:=⟨fun i _=>i<n,fun i H x H'=>H'=H/\x=.int (lo+i),fun i _=>n<=i⟩
theorem Nu{P:Program}{w:World}{K:Frag}{tg:Expr}(a it:Addr):L8 P w K tg (Vw K a) [it] it (fun i h=>h.IsListIter it a i) where
 mem:=by simp
 obj:=fun i h st b hb=>by
  have e:b=it:=by simpa using hb
  subst e
  obtain⟨o,e,c,d⟩:=st
  exact⟨o,e,fun v z=>by rw [d] at z; cases z⟩
 keep:=fun i h h' st k=>st.at fun o e=>k it (by simp) o e
 item:=by
  intro X hP hw hK hc i pins s σ H E I hf st hg
  subst hP hw hK
  obtain⟨xs,x,hq,hx⟩:=hg
  obtain⟨its,rv,p,hz⟩:=I.list hq
  obtain⟨u,hu,ru⟩:=rv.get hx
  obtain⟨f0,f1,f2,f3,f4,f5⟩:=hf it (by simp)
  refine wpAny_pyNext_list_item st p.isList (x:=u) (by simpa using hu) fun h' st' sb=>?_
  have I1:Inv X pins σ H { s with heap:=h' }:=I.turned (t':=s.toks) (fun b o hb e=>(sb.2 b hb).trans e) f0 f1 f3 f4 f5
  obtain⟨o,e,c,d⟩:=id st'
  exact⟨u,rfl,NQ (s:={ s with heap:=h' }) e c d (by decide) ⟨x,H,I1,ru,⟨rfl,fun ys hy=>by rw [I.list_inj hy hq]; exact hx⟩,st',fun b hb=>(hf b hb).1⟩⟩
 done:=by
  intro X hP hw hK hc i pins s σ H E I hf st hg
  subst hP hw hK
  obtain⟨xs,hq,hx⟩:=hg
  obtain⟨its,rv,p,hz⟩:=I.list hq
  obtain⟨f0,f1,f2,f3,f4,f5⟩:=hf it (by simp)
  have hl:=rv.length
  exact wpAny_pyNext_list_end (I.ok.hd hc) st p.isList (by simp; omega) fun h' eb=>⟨rfl,I.turned (t':=s.toks) (fun b o hb e=>eb b o hb e) f0 f1 f3 f4 f5⟩
 self:=fun _ _ _ _ _ st h=>wpAny_pyIter_listiter st h
theorem HR{P:Program}{w:World}{K:Frag}{tg:Expr}(a it:Addr):L8 P w K tg (Tu K a) [it] it (fun i h=>h.IsTupleIter it a i) where
 mem:=by simp
 obj:=fun i h st b hb=>by
  have e:b=it:=by simpa using hb
  subst e
  obtain⟨o,e,c,d⟩:=st
  exact⟨o,e,fun v z=>by rw [d] at z; cases z⟩
 keep:=fun i h h' st k=>st.at fun o e=>k it (by simp) o e
 item:=by
  intro X hP hw hK hc i pins s σ H E I hf st hg
  subst hP hw hK
  obtain⟨xs,x,hq,hx⟩:=hg
  obtain⟨its,rv,p,hz⟩:=I.tuple hq
  obtain⟨u,hu,ru⟩:=rv.get hx
  obtain⟨f0,f1,f2,f3,f4,f5⟩:=hf it (by simp)
  refine wpAny_pyNext_tuple_item st (show s.heap.IsTuple a its.toArray from p) (x:=u) (by simpa using hu) fun h' st' sb=>?_
  have I1:Inv X pins σ H { s with heap:=h' }:=I.turned (t':=s.toks) (fun b o hb e=>(sb.2 b hb).trans e) f0 f1 f3 f4 f5
  obtain⟨o,e,c,d⟩:=id st'
  exact⟨u,rfl,NQ (s:={ s with heap:=h' }) e c d (by decide) ⟨x,H,I1,ru,⟨rfl,fun ys hy=>by rw [I.tuple_inj hy hq]; exact hx⟩,st',fun b hb=>(hf b hb).1⟩⟩
 done:=by
  intro X hP hw hK hc i pins s σ H E I hf st hg
  subst hP hw hK
  obtain⟨xs,hq,hx⟩:=hg
  obtain⟨its,rv,p,hz⟩:=I.tuple hq
  obtain⟨f0,f1,f2,f3,f4,f5⟩:=hf it (by simp)
  have hl:=rv.length
  exact wpAny_pyNext_tuple_end (I.ok.hd hc) st (show s.heap.IsTuple a its.toArray from p) (by simp; omega) fun h' eb=>⟨rfl,I.turned (t':=s.toks) (fun b o hb e=>eb b o hb e) f0 f1 f3 f4 f5⟩
 self:=fun _ _ _ _ _ st h=>wpAny_pyIter_tupleiter st h
theorem MC{P:Program}{w:World}{K:Frag}{tg:Expr}(it:Addr)(lo:Int)(n:Nat):L8 P w K tg (VI lo n) [it] it (fun i h=>IsRangeIter h it (lo+(i:Nat)*1) ((n:Int) - (i:Nat)) 1) where
 mem:=by simp
 obj:=fun i h st b hb=>by
  have e:b=it:=by simpa using hb
  subst e
  exact⟨_,st,fun v z=>by
   have z':Data.fields _=Data.cell v:=z
   cases z'⟩
 keep:=fun i h h' st k=>k it (by simp) _ st
 item:=by
  intro X hP hw hK hc i pins s σ H E I hf st hg
  subst hP hw hK
  obtain⟨f0,f1,f2,f3,f4,f5⟩:=hf it (by simp)
  have W:=Walks.range (prog:=X.prog) (w:=X.w) (I.ok.hd hc) it lo 1 n
  refine W.item i s _ _ hg st fun v h' tk hv st' kk=>?_
  obtain⟨t,rfl⟩:=hv
  have I1:Inv X pins σ H { s with heap:=h',toks:=tk }:=I.turned (fun b o hb e=>kk b o (by simpa using hb) e) f0 f1 f3 f4 f5
  refine⟨_,rfl,NQ (s:={ s with heap:=h',toks:=tk }) (n := "range_iterator") st' rfl rfl (by decide) ⟨.int (lo+i),H,I1,⟨t,?_⟩,⟨rfl,rfl⟩,st',fun b hb=>(hf b hb).1⟩⟩
  rw [Int.mul_one]
 done:=by
  intro X hP hw hK hc i pins s σ H E I hf st hg
  subst hP hw hK
  obtain⟨f0,f1,f2,f3,f4,f5⟩:=hf it (by simp)
  exact wpAny_pyNext_range_end (I.ok.hd hc) st (by have:n<=i:=hg; omega) fun h' eb=>⟨rfl,I.turned (t':=s.toks) (fun b o hb e=>eb b o hb e) f0 f1 f3 f4 f5⟩
 self:=fun _ _ _ _ _ st h=>wpAny_pyIter_rangeiter st h
section
variable {X:Cx}{tg:Expr}
def Vf(K:Frag)(tl:TE):TI:=fun σ H R=>tl σ H fun x H1=>∃a,x=.ref a/\(∃xs,SqT K H1 a xs)/\R (Tu K a) H1
theorem Ph{l:Expr}{tl:TE}(hl:PE X l tl):PI X tg l (Vf X.K tl):=by
 intro pins s σ H R I h
 refine Bp (hl pins s σ H _ I h) fun v s1 ⟨x,H1,I1,r1,q1⟩=>?_
 obtain⟨a,e,⟨xs,hq⟩,q⟩:=q1
 subst e
 cases r1
 obtain⟨its,rv,p,hz⟩:=I1.tuple hq
 refine wpAny_pyIter_tuple (show s1.heap.IsTuple a its.toArray from p) ?_
 refine⟨s1.heap.objs.size,[s1.heap.objs.size],_,_,H1,rfl,I1.kept (t':=s1.toks) fun b o e=>Heap.get?_push_of_some _ e,HR a _,⟨_,Heap.get?_push_size _ rfl,rfl,rfl⟩,fun b hb=>?_,q⟩
 have e:b=s1.heap.objs.size:=by simpa using hb
 subst e
 exact I1.fpOk (Nat.le_refl _) (I1.hok.fresh (Nat.le_refl _))
theorem PP{pins:List (Addr×Obj)}{σ:St}{H:Hp}{s:Shared}{R:It->Hp->Prop}{E:Value->Shared->Prop}{lo hi:Int}{t u v:Tok}{tk:Nat}(I:Inv X pins σ H s)(h1:-(2 ^ 62)<=lo)(h2:lo<2 ^ 62)(h3:-(2 ^ 62)<=hi)(h4:hi<2 ^ 62)
  (q:R (VI lo (hi - lo).toNat) H):wpAny (model X.prog X.w) X.A (pyIter (.ref s.heap.objs.size)) (V5 X pins σ tg R) E { s with heap:=s.heap.push { cls:=.type "range",data:=.fields #[.int lo t,.int hi u,.int 1 v] },toks:=tk }:=by
 refine wpAny_pyIter_range (IsRange.new ..) (small_one h1 h2 h3 h4) ?_
 have I1:Inv X pins σ H { s with heap:=s.heap.push { cls:=.type "range",data:=.fields #[.int lo t,.int hi u,.int 1 v] },toks:=tk }:=I.kept fun b o e=>Heap.get?_push_of_some _ e
 refine⟨(s.heap.push { cls:=.type "range",data:=.fields #[.int lo t,.int hi u,.int 1 v] }).objs.size,[(s.heap.push { cls:=.type "range",data:=.fields #[.int lo t,.int hi u,.int 1 v] }).objs.size],_,_,H,rfl,
  I1.kept (t':=tk) fun b o e=>Heap.get?_push_of_some _ e,MC _ lo (hi - lo).toNat,?_,fun b hb=>?_,q⟩
 ·have e1:lo+((0:Nat):Int)*1=lo:=by simp
  have e2:(((hi - lo).toNat:Nat):Int) - ((0:Nat):Int)=Builtin.Range.rangeSize lo hi 1:=by rw [rangeSize_one]; split <;> omega
  show IsRangeIter _ _ (lo+((0:Nat):Int)*1) ((((hi - lo).toNat:Nat):Int) - ((0:Nat):Int)) 1
  rw [e1,e2]
  exact Heap.get?_push_size _ rfl
 ·have e:b=(s.heap.push { cls:=.type "range",data:=.fields #[.int lo t,.int hi u,.int 1 v] }).objs.size:=by simpa using hb
  subst e
  exact I1.fpOk (Nat.le_refl _) (I1.hok.fresh (Nat.le_refl _))
def Uh(ta:TA):TI:=fun σ H R=>ta σ H fun vs H1=>∃j:Int,vs=[.int j]/\-(2 ^ 62)<=j/\j<2 ^ 62/\R (VI 0 j.toNat) H1
theorem N8{a:Expr}{ta:TA}{p pos:Pos}(hg:Gl X "range")(hm:X.mg "range"=none)(ha:PA X [a] ta)(hs:starEach [a] X.env=[(false,eval a X.env)]:=by rfl):PI X tg (.Call (.Name "range" p) [a] [] pos) (Uh ta):=by
 intro pins s σ H R I h
 refine Call_ (FQ I hg hm boot_range (PyProof.Rows.callWith_type1 (Bp (ha pos pins s σ H _ I h) fun us s1 ⟨vs,H1,I1,r1,q1⟩=>?_) hs rfl))
 obtain⟨j,e,q1,q2,q⟩:=q1
 subst e
 cases r1 with
 | cons r rr =>
  cases rr
  obtain⟨t,rfl⟩:=r
  exact call_range_1 (PP I1 (by omega) (by omega) q1 q2 (by simpa using q))
def VW(wi:TI)(g:TG)(tb:TS):TS:=fun D σ H=>wi σ H fun J H1=>∃W:Nat->Nat->St->Hp->Prop,(∃m,W 0 m σ H1)/\∀i m σ H,W i m σ H ->
 (J.stop i H/\D.nx σ H)\/(J.go i H/\∃N:St->Hp->Prop,(∀σ' H',N σ' H'->∃m',m'<m/\W (i+1) m' σ' H')/\∀x H',J.yld i H x H'->g x σ H' fun σ2 H2=>tb { D with nx:=N,ct:=N,bk:=D.nx } σ2 H2)
def Hm(fp:List Addr)(h:Heap):List (Addr×Obj):=fp.filterMap fun b=>(h.get? b).map fun o=>(b,o)
theorem D6{fp:List Addr}{h:Heap}{b:Addr}{o:Obj}(hb:b∈fp)(e:h.get? b=some o):(b,o)∈Hm fp h:=List.mem_filterMap.mpr ⟨b,hb,by rw [e]; rfl⟩
theorem OB{fp:List Addr}{h:Heap}{p:Addr×Obj}(hp:p∈Hm fp h):p.1∈fp/\h.get? p.1=some p.2:=by
 obtain⟨b,hb,e⟩:=List.mem_filterMap.mp hp
 cases q:h.get? b with
 | none=>rw [q] at e; cases e
 | some o =>
  rw [q] at e
  have e':(b,o)=p:=Option.some.inj e
  subst e'
  exact⟨hb,q⟩
theorem Inv.pinned{pins:List (Addr×Obj)}{σ:St}{H:Hp}{s:Shared}{fp:List Addr}(I:Inv X pins σ H s)(hf:∀b∈fp,GI X pins H b)(ho:∀b∈fp,∃o,s.heap.get? b=some o/\∀v,o.data≠.cell v):Inv X (pins++Hm fp s.heap) σ H s :=
 I.pins_of fun p hp=>(List.mem_append.mp hp).elim (fun z=>I.pin p (List.mem_append_right _ z)) fun z=>by
  obtain⟨hb,e⟩:=OB z
  obtain⟨f0,f1,f2,_⟩:=hf p.1 hb
  obtain⟨o,e',d⟩:=ho p.1 hb
  rw [e] at e'; cases e'
  exact⟨e,f0,f1,f2,d⟩
theorem Inv.unpinned{pins pl:List (Addr×Obj)}{σ:St}{H:Hp}{s:Shared}(I:Inv X (pins++pl) σ H s):Inv X pins σ H s:=I.pins_of fun p hp=>I.pin p (List.mem_append_right _ (List.mem_append_left _ hp))
theorem KF{iter:Expr}{body:List Stmt}{wi:TI}{g:TG}{tb:TS}{pos:Pos}(hp:PassesOwn (model X.prog X.w) X.A X.env X.xe)(hc:X.calm=true)(hi:PI X tg iter wi)(hg:PG X tg g)(hb:PSs X body tb)
  (hs:∀x,foldedSetIterable iter X.env x=pure x:=by intro _; rfl):PS X (.For tg iter body [] pos) (VW wi g tb):=by
 intro pins s σ H D I h
 refine wpAny_For (Bp (hi pins s σ H _ I h) fun v s1 h1=>Bp h1 fun itv s2 h2=>?_) hs
 obtain⟨it,fp,tn,J,H2,e,I2,T,st2,f2,W,⟨m0,w0⟩,turn⟩:=h2
 subst e
 have stat:∀{H':Hp},(∀b∈fp,H' b=none)->∀b∈fp,GI X pins H' b:=fun hn b hb=>⟨hn b hb,(f2 b hb).2⟩
 refine codeAny_forLoop_any (fun n s'=>∃i σ' H',Inv X pins σ' H' s'/\tn i s'.heap/\(∀b∈fp,H' b=none)/\W i n σ' H') ?_ m0 ⟨0,σ,H2,I2,st2,fun b hb=>(f2 b hb).1,w0⟩
 rintro n s3 ⟨i,σ3,H3,I3,st3,fr3,w3⟩
 rcases turn i n σ3 H3 w3 with ⟨stop,qn⟩ | ⟨go,N,hN,step⟩
 ·refine wpAny_passesOwn hp (Bp (T.done X rfl rfl rfl hc i pins s3 σ3 H3 X.xe I3 (stat fr3) st3 stop) fun r s4 ⟨hr,I4⟩=>?_)
  subst hr
  exact wpAny_execs_nil ⟨σ3,H3,I4,qn⟩
 ·refine wpAny_passesOwn hp (Bp (T.item X rfl rfl rfl hc i pins s3 σ3 H3 X.xe I3 (stat fr3) st3 go) fun r s4 ⟨u,hr,h4⟩=>?_)
  subst hr
  refine wpAny_passesOwn hp (Bp h4 fun _ s5 ⟨x,H5,I5,r5,y5,st5,fr5⟩=>?_)
  have I5':=I5.pinned (stat fr5) (T.obj _ _ st5)
  refine wpAny_passesOwn hp (Bp (hg _ s5 σ3 H5 x u _ I5' r5 (step x H5 y5)) fun _ s6 ⟨σ6,H6,I6,q6⟩=>?_)
  refine wpAny_passesOwn hp (Bp (hb _ s6 σ6 H6 _ I6 q6) fun f s7 q7=>?_)
  have again:∀{σ7:St} {H7:Hp},Inv X (pins++Hm fp s5.heap) σ7 H7 s7->N σ7 H7->∃m,m<n/\∃i σ' H',Inv X pins σ' H' s7/\tn i s7.heap/\(∀b∈fp,H' b=none)/\W i m σ' H':=fun {σ7 H7} I7 n7=>by
   obtain⟨m',hm,w7⟩:=hN σ7 H7 n7
   refine⟨m',hm,i+1,σ7,H7,I7.unpinned,T.keep _ _ _ st5 fun b hb o e=>(I7.pin (b,o) (List.mem_append_right _ (List.mem_append_right _ (D6 hb e)))).1,fun b hb=>?_,w7⟩
   obtain⟨o,e,d⟩:=T.obj _ _ st5 b hb
   exact(I7.pin (b,o) (List.mem_append_right _ (List.mem_append_right _ (D6 hb e)))).2.1
  cases f with
  | next=>obtain⟨σ7,H7,I7,n7⟩:=q7; exact again I7 n7
  | cont=>obtain⟨σ7,H7,I7,n7⟩:=q7; exact again I7 n7
  | brk=>obtain⟨σ7,H7,I7,q7⟩:=q7; exact⟨σ7,H7,I7.unpinned,q7⟩
  | ret v=>obtain⟨x7,σ7,H7,I7,r7,q7⟩:=q7; exact⟨x7,σ7,H7,I7.unpinned,r7,q7⟩
end
theorem NR{K:Frag}{a:Addr}{xs:List V}{g:TG}{tb:TS}{D:JB}{σ:St}{H:Hp}(Pv:Nat->St->Hp->Prop)(h0:Pv 0 σ H)(hl:∀i σ H,i<=xs.length->Pv i σ H->SqT K H a xs)
  (hs:∀i x σ H,xs[i]?=some x->Pv i σ H->g x σ H fun σ2 H2=>tb { D with nx:=Pv (i+1),ct:=Pv (i+1),bk:=D.nx } σ2 H2) (hd:∀σ H,Pv xs.length σ H->D.nx σ H) :
  ∃W:Nat->Nat->St->Hp->Prop,(∃m,W 0 m σ H)/\∀i m σ H,W i m σ H ->
   ((Tu K a).stop i H/\D.nx σ H)\/((Tu K a).go i H/\∃N:St->Hp->Prop,(∀σ' H',N σ' H'->∃m',m'<m/\W (i+1) m' σ' H')/\∀x H',(Tu K a).yld i H x H'->g x σ H' fun σ2 H2=>tb { D with nx:=N,ct:=N,bk:=D.nx } σ2 H2):=by
 refine⟨fun i m σ H=>m=xs.length - i/\i<=xs.length/\Pv i σ H,⟨xs.length,by simp,Nat.zero_le _,h0⟩,?_⟩
 rintro i m σ H ⟨rfl,hi,p⟩
 have q:=hl i σ H hi p
 by_cases hlt:i<xs.length
 ·refine .inr ⟨⟨xs,xs[i],q,by simp [hlt]⟩,Pv (i+1),fun σ' H' p'=>⟨xs.length - (i+1),by omega,rfl,hlt,p'⟩,fun x H' y=>?_⟩
  obtain⟨e,y⟩:=y
  subst e
  exact hs i x σ _ (y xs q) p
 ·have e:i=xs.length:=by omega
  subst e
  exact .inl ⟨⟨xs,q,Nat.le_refl _⟩,hd σ H p⟩
abbrev R2:=V->V->Hp->VK->Prop
def OpR(X:Cx)(f:Value->Value->Sem Value)(r:R2):Prop :=
 ∀(pins:List (Addr×Obj)) (s:Shared) (σ:St) (H:Hp) (x y:V) (v u:Value) (Q:VK),Inv X pins σ H s->RelV x v->RelV y u->r x y H Q ->
  wpAny (model X.prog X.w) X.A (f v u) (EP X pins σ Q) X.xe s
def Vp(X:Cx)(f:Value->Sem Value)(r:V->Hp->VK->Prop):Prop :=
 ∀(pins:List (Addr×Obj)) (s:Shared) (σ:St) (H:Hp) (x:V) (v:Value) (Q:VK),Inv X pins σ H s->RelV x v->r x H Q ->
  wpAny (model X.prog X.w) X.A (f v) (EP X pins σ Q) X.xe s
def C8(X:Cx)(f:Value)(r:List V->Hp->VK->Prop):Prop :=
 ∀(pins:List (Addr×Obj)) (s:Shared) (σ:St) (H:Hp) (xs:List V) (us:List Value) (Q:VK),Inv X pins σ H s->Vals xs us->r xs H Q ->
  wpAny (model X.prog X.w) X.A (call f us) (EP X pins σ Q) X.xe s
def Vq(X:Cx)(r:V->Hp->(Bool->Hp->Prop)->Prop):Prop :=
 ∀(pins:List (Addr×Obj)) (s:Shared) (σ:St) (H:Hp) (x:V) (v:Value) (Q:Bool->Hp->Prop),Inv X pins σ H s->RelV x v->r x H Q ->
  wpAny (model X.prog X.w) X.A (truthy v) (TP X pins σ Q) X.xe s
def Dl(r:R2)(ta tb:TE):TE:=fun σ H Q=>ta σ H fun x H1=>tb σ H1 fun y H2=>r x y H2 Q
def V8(r:V->Hp->VK->Prop)(ta:TE):TE:=fun σ H Q=>ta σ H fun x H1=>r x H1 Q
def rI(C:Int->Int->Prop)(g:Int->Int->V):R2:=fun x y H Q=>∃i j,x=.int i/\y=.int j/\C i j/\Q (g i j) H
def Hj(g:Int->Int->V):R2:=fun x y H Q=>∃i j,x=.int i/\y=.int j/\Q (g i j) H
def rU(g:Int->V):V->Hp->VK->Prop:=fun x H Q=>∃i,x=.int i/\Q (g i) H
section
variable {X:Cx}{a b c:Expr}{ta tb tc:TE}{pos:Pos}
theorem Te(ha:PE X a ta)(hb:PE X b tb){pins:List (Addr×Obj)}{s:Shared}{σ:St}{H:Hp}{R:V->V->Hp->Prop}(I:Inv X pins σ H s)
  (h:ta σ H fun x H1=>tb σ H1 fun y H2=>R x y H2) {Q:Value->Shared->Prop} {f:Value->Value->Sem Value}
  (hf:∀v u s2 x y H2,Inv X pins σ H2 s2->RelV x v->RelV y u->R x y H2->wpAny (model X.prog X.w) X.A (f v u) Q X.xe s2) :
  wpAny (model X.prog X.w) X.A (eval a X.env) (fun v s₁=>wpAny (model X.prog X.w) X.A (eval b X.env) (fun u s₂=>wpAny (model X.prog X.w) X.A (f v u) Q X.xe s₂) X.xe s₁) X.xe s:=by
 refine Bp (ha pins s σ H _ I h) fun v s1 ⟨x,H1,I1,r1,q1⟩=>?_
 refine Bp (hb pins s1 σ H1 _ I1 q1) fun u s2 ⟨y,H2,I2,r2,q2⟩=>?_
 exact hf v u s2 x y H2 I2 r1 r2 q2
theorem B0{op:Operator}{r:R2}(ho:OpR X (binaryOp op) r)(ha:PE X a ta)(hb:PE X b tb):PE X (.BinOp a op b pos) (Dl r ta tb):=by
 intro pins s σ H Q I h
 exact wpAny_BinOp (Te ha hb I h fun v u s2 x y H2 I2 rx ry q=>ho pins s2 σ H2 x y v u Q I2 rx ry q)
theorem Ub{op:UnaryOp}{r:V->Hp->VK->Prop}(ho:Vp X (unaryOp op) r)(ha:PE X a ta):PE X (.UnaryOp op a pos) (V8 r ta):=by
 intro pins s σ H Q I h
 exact UnaryOp_ (Bp (ha pins s σ H _ I h) fun v s1 ⟨x,H1,I1,r1,q1⟩=>ho pins s1 σ H1 x v Q I1 r1 q1)
theorem VB{f:Value->Value->Sem Value}{C:Int->Int->Prop}{g:Int->Int->Int}
  (rule:∀(i j:Int) (t u:Tok) (s:Shared) (Q:Value->Shared->Prop) (E:Value->Shared->Prop),C i j->Q (.int (g i j) s.toks) { s with toks:=s.toks+1 }->wpAny (model X.prog X.w) X.A (f (.int i t) (.int j u)) Q E s) :
  OpR X f (rI C fun i j=>.int (g i j)):=by
 intro pins s σ H x y v u Q I rx ry h
 obtain⟨i,j,rfl,rfl,hc,q⟩:=h
 obtain⟨t,rfl⟩:=rx
 obtain⟨t',rfl⟩:=ry
 exact rule i j t t' s _ _ hc ⟨.int (g i j),H,I.tok _,⟨_,rfl⟩,q⟩
theorem Ue{f:Value->Value->Sem Value}{g:Int->Int->Int}
  (rule:∀(i j:Int) (t u:Tok) (s:Shared) (Q:Value->Shared->Prop) (E:Value->Shared->Prop),Q (.int (g i j) s.toks) { s with toks:=s.toks+1 }->wpAny (model X.prog X.w) X.A (f (.int i t) (.int j u)) Q E s) :
  OpR X f (Hj fun i j=>.int (g i j)):=by
 intro pins s σ H x y v u Q I rx ry h
 obtain⟨i,j,rfl,rfl,q⟩:=h
 obtain⟨t,rfl⟩:=rx
 obtain⟨t',rfl⟩:=ry
 exact rule i j t t' s _ _ ⟨.int (g i j),H,I.tok _,⟨_,rfl⟩,q⟩
theorem S4{f:Value->Value->Sem Value}{g:Int->Int->Bool}
  (rule:∀(i j:Int) (t u:Tok) (s:Shared) (Q:Value->Shared->Prop) (E:Value->Shared->Prop),Q (.bool (g i j)) s->wpAny (model X.prog X.w) X.A (f (.int i t) (.int j u)) Q E s) :
  OpR X f (Hj fun i j=>.bl (g i j)):=by
 intro pins s σ H x y v u Q I rx ry h
 obtain⟨i,j,rfl,rfl,q⟩:=h
 obtain⟨t,rfl⟩:=rx
 obtain⟨t',rfl⟩:=ry
 exact rule i j t t' s _ _ ⟨.bl (g i j),H,I,rfl,q⟩
def Qv(i j:Int):Prop:=0<j/\j<1073741824
def Mt(i j:Int):Prop:=0<=j/\j<=1000000/\i.natAbs<2 ^ 64
def CMul(i j:Int):Prop:=(-(2 ^ 64)<i/\i<2 ^ 64)\/(-(2 ^ 64)<j/\j<2 ^ 64)
theorem CMul.ok{i j:Int}(h:CMul i j):IntMulOk i j:=by
 rcases h with ⟨h1,h2⟩ | ⟨h1,h2⟩
 ·exact .of_left (intBits_le_64 h1 h2)
 ·exact .of_right (intBits_le_64 h1 h2)
theorem op_add:OpR X (binaryOp .Add) (Hj fun i j=>.int (i+j)):=Ue fun _ _ _ _ _ _ _ q=>add_int q
theorem op_sub:OpR X (binaryOp .Sub) (Hj fun i j=>.int (i - j)):=Ue fun _ _ _ _ _ _ _ q=>sub_int q
theorem GS:OpR X (binaryOp .Mult) (rI CMul fun i j=>.int (i*j)):=VB fun _ _ _ _ _ _ _ hc q=>mul_int q hc.ok
theorem HC:OpR X (binaryOp .FloorDiv) (rI Qv fun i j=>.int (i / j)):=VB fun i j _ _ _ _ _ hc q=>by
 have h1:(0:Int)<j:=hc.1
 have h2:j<1073741824:=hc.2
 exact floordiv_int (by omega) (by rw [Int.fdiv_eq_ediv_of_nonneg i (by omega)]; exact q) (.inl (PyProof.noPylong_small (by omega)))
theorem D1:OpR X (binaryOp .Mod) (rI (fun _ j=>0<j) fun i j=>.int (i % j)):=VB fun i j _ _ _ _ _ hc q=>by
 have h1:(0:Int)<j:=hc
 exact mod_int' (by omega) (by rw [Int.fmod_eq_emod_of_nonneg i (by omega)]; exact q)
theorem GR:OpR X (binaryOp .Pow) (rI Mt fun i j=>.int (i ^ j.toNat)):=VB fun _ _ _ _ _ _ _ hc q=>pow_int_small hc.1 hc.2.1 hc.2.2 q
theorem V7{f:Value->Sem Value}{g:Int->Int}
  (rule:∀(i:Int) (t:Tok) (s:Shared) (Q:Value->Shared->Prop) (E:Value->Shared->Prop),Q (.int (g i) s.toks) { s with toks:=s.toks+1 }->wpAny (model X.prog X.w) X.A (f (.int i t)) Q E s) :
  Vp X f (rU fun i=>.int (g i)):=by
 intro pins s σ H x v Q I rx h
 obtain⟨i,rfl,q⟩:=h
 obtain⟨t,rfl⟩:=rx
 exact rule i t s _ _ ⟨.int (g i),H,I.tok _,⟨_,rfl⟩,q⟩
theorem SV:Vp X (unaryOp .USub) (rU fun i=>.int (-i)):=V7 fun _ _ _ _ _ q=>neg_int q
end
def UL:V->V->Bool
 | .non,.non=>true | .non,.int _=>true | .int _,.non=>true | .non,.bl _=>true | .bl _,.non=>true | .non,.str _=>true | .str _,.non=>true
 | .int _,.int _=>true | .bl _,.bl _=>true | .str _,.str _=>true | .byt _,.byt _=>true
 | .int _,.str _=>true | .str _,.int _=>true | .bl _,.str _=>true | .str _,.bl _=>true
 | _,_=>false
def V2:R2:=fun x y H Q=>UL x y=true/\Q (.bl (decide (x=y))) H
def Vz:R2:=fun x y H Q=>UL x y=true/\Q (.bl (!decide (x=y))) H
theorem HJ{i j:Int}:decide (V.int i=V.int j)=(i==j):=by
 rw [Bool.eq_iff_iff]
 simp
theorem Kk{i j:Bool}:decide (V.bl i=V.bl j)=(i==j):=by
 rw [Bool.eq_iff_iff]
 simp
theorem HI{i j:Str}:decide (V.str i=V.str j)=(i==j):=by
 rw [Bool.eq_iff_iff]
 simp
theorem Na{i j:Array UInt8}:decide (V.byt i=V.byt j)=(i.toList==j.toList):=by
 rw [Bool.eq_iff_iff]
 cases i
 cases j
 simp
section
variable {X:Cx}{a b c:Expr}{ta tb tc:TE}{pos:Pos}
theorem A2{pins:List (Addr×Obj)}{σ:St}{H:Hp}{s:Shared}{Q:VK}{k k':Bool}(I:Inv X pins σ H s)(q:Q (.bl k) H)(e:k=k'):EP X pins σ Q (.bool k') s:=by
 subst e
 exact⟨.bl k,H,I,rfl,q⟩
theorem C5:OpR X (compareOp .Eq) V2:=by
 intro pins s σ H x y v u Q I rx ry h
 obtain⟨hs,q⟩:=h
 cases x with
 | non =>
  cases rx
  cases y with
  | non=>cases ry; exact PySem.EqNone.eq_none_none (A2 I q (by simp))
  | bl j=>cases ry; exact PySem.EqNone.eq_none_bool (A2 I q (by simp))
  | int j=>obtain⟨t',rfl⟩:=ry; exact PySem.EqNone.eq_none_int (A2 I q (by simp))
  | str j=>obtain⟨t',rfl⟩:=ry; exact PySem.EqNone.eq_none_str (A2 I q (by simp))
  | _=>exact absurd (show false=true from hs) Bool.false_ne_true
 | bl i =>
  cases rx
  cases y with
  | non=>cases ry; exact PySem.EqNone.eq_bool_none (A2 I q (by simp))
  | bl j=>cases ry; exact eq_bool (A2 I q Kk)
  | str j=>obtain⟨t',rfl⟩:=ry; exact PySem.EqMixed.eq_bool_str (A2 I q (by simp))
  | _=>exact absurd (show false=true from hs) Bool.false_ne_true
 | int i =>
  obtain⟨t,rfl⟩:=rx
  cases y with
  | non=>cases ry; exact PySem.EqNone.eq_int_none (A2 I q (by simp))
  | int j=>obtain⟨t',rfl⟩:=ry; exact eq_int (A2 I q HJ)
  | str j=>obtain⟨t',rfl⟩:=ry; exact PySem.EqMixed.eq_int_str (A2 I q (by simp))
  | _=>exact absurd (show false=true from hs) Bool.false_ne_true
 | str i =>
  obtain⟨t,rfl⟩:=rx
  cases y with
  | non=>cases ry; exact PySem.EqNone.eq_str_none (A2 I q (by simp))
  | bl j=>cases ry; exact PySem.EqMixed.eq_str_bool (A2 I q (by simp))
  | int j=>obtain⟨t',rfl⟩:=ry; exact PySem.EqMixed.eq_str_int (A2 I q (by simp))
  | str j=>obtain⟨t',rfl⟩:=ry; exact eq_str (A2 I q HI)
  | _=>exact absurd (show false=true from hs) Bool.false_ne_true
 | byt i =>
  obtain⟨t,rfl⟩:=rx
  cases y with
  | byt j=>obtain⟨t',rfl⟩:=ry; exact PySem.W.eq_bytes (A2 I q Na)
  | _=>exact absurd (show false=true from hs) Bool.false_ne_true
 | _=>cases y <;> exact absurd (show false=true from hs) Bool.false_ne_true
theorem Pn:OpR X (compareOp .NotEq) Vz:=by
 intro pins s σ H x y v u Q I rx ry h
 obtain⟨hs,q⟩:=h
 cases x with
 | non =>
  cases rx
  cases y with
  | non=>cases ry; exact PySem.EqNone.ne_none_none (A2 I q (by simp))
  | bl j=>cases ry; exact PySem.EqNone.ne_none_bool (A2 I q (by simp))
  | int j=>obtain⟨t',rfl⟩:=ry; exact PySem.EqNone.ne_none_int (A2 I q (by simp))
  | str j=>obtain⟨t',rfl⟩:=ry; exact PySem.EqNone.ne_none_str (A2 I q (by simp))
  | _=>exact absurd (show false=true from hs) Bool.false_ne_true
 | bl i =>
  cases rx
  cases y with
  | non=>cases ry; exact PySem.EqNone.ne_bool_none (A2 I q (by simp))
  | bl j=>cases ry; exact ne_bool (A2 I q (congrArg not Kk))
  | str j=>obtain⟨t',rfl⟩:=ry; exact PySem.EqMixed.ne_bool_str (A2 I q (by simp))
  | _=>exact absurd (show false=true from hs) Bool.false_ne_true
 | int i =>
  obtain⟨t,rfl⟩:=rx
  cases y with
  | non=>cases ry; exact PySem.EqNone.ne_int_none (A2 I q (by simp))
  | int j=>obtain⟨t',rfl⟩:=ry; exact ne_int (A2 I q (congrArg not HJ))
  | str j=>obtain⟨t',rfl⟩:=ry; exact PySem.EqMixed.ne_int_str (A2 I q (by simp))
  | _=>exact absurd (show false=true from hs) Bool.false_ne_true
 | str i =>
  obtain⟨t,rfl⟩:=rx
  cases y with
  | non=>cases ry; exact PySem.EqNone.ne_str_none (A2 I q (by simp))
  | bl j=>cases ry; exact PySem.EqMixed.ne_str_bool (A2 I q (by simp))
  | int j=>obtain⟨t',rfl⟩:=ry; exact PySem.EqMixed.ne_str_int (A2 I q (by simp))
  | str j=>obtain⟨t',rfl⟩:=ry; exact ne_str (A2 I q (congrArg not HI))
  | _=>exact absurd (show false=true from hs) Bool.false_ne_true
 | byt i =>
  obtain⟨t,rfl⟩:=rx
  cases y with
  | byt j=>obtain⟨t',rfl⟩:=ry; exact PySem.W.ne_bytes (A2 I q (congrArg not Na))
  | _=>exact absurd (show false=true from hs) Bool.false_ne_true
 | _=>cases y <;> exact absurd (show false=true from hs) Bool.false_ne_true
theorem op_lt:OpR X (compareOp .Lt) (Hj fun i j=>.bl (decide (i<j))):=S4 fun _ _ _ _ _ _ _ q=>lt_int q
theorem SE:OpR X (compareOp .Gt) (Hj fun i j=>.bl (decide (j<i))):=S4 fun _ _ _ _ _ _ _ q=>gt_int q
theorem Ud:OpR X (compareOp .GtE) (Hj fun i j=>.bl (decide (j<=i))):=S4 fun _ _ _ _ _ _ _ q=>ge_int q
theorem OA:OpR X (compareOp .Lt) (fun x y H Q=>∃i j,x=.str i/\y=.str j/\Q (.bl (decide (i.cps.toList<j.cps.toList))) H):=by
 intro pins s σ H x y v u Q I rx ry h
 obtain⟨i,j,rfl,rfl,q⟩:=h
 obtain⟨t,rfl⟩:=rx
 obtain⟨t',rfl⟩:=ry
 exact lt_str (A2 I q rfl)
theorem OpR.or{f:Value->Value->Sem Value}{r r':R2}(h:OpR X f r)(h':OpR X f r'):OpR X f (fun x y H Q=>r x y H Q\/r' x y H Q):=by
 intro pins s σ H x y v u Q I rx ry q
 rcases q with q | q
 ·exact h pins s σ H x y v u Q I rx ry q
 ·exact h' pins s σ H x y v u Q I rx ry q
theorem Ah(b:Expr){op:CmpOp}(h:op≠.In:=by decide)(h2:op≠.NotIn:=by decide):behindInMarks op b=false:=by
 have e1:(op==CmpOp.In)=false:=by cases op <;> first | rfl | exact absurd rfl h
 have e2:(op==CmpOp.NotIn)=false:=by cases op <;> first | rfl | exact absurd rfl h2
 cases b <;> simp [behindInMarks,e1,e2]
theorem RH{op:CmpOp}{r:R2}(ho:OpR X (compareOp op) r)(ha:PE X a ta)(hb:PE X b tb)(hm:behindInMarks op b=false):PE X (.Compare a [op] [b] pos) (Dl r ta tb):=by
 intro pins s σ H Q I h
 exact wpAny_Compare1 (Te ha hb I h fun v u s2 x y H2 I2 rx ry q=>ho pins s2 σ H2 x y v u Q I2 rx ry q) hm
def Ox(t:TE):TT:=fun σ H Q=>t σ H fun x H'=>∃k,x=.bl k/\Q k H'
theorem Fo{op:CmpOp}{r:R2}(ho:OpR X (compareOp op) r)(ha:PE X a ta)(hb:PE X b tb)(hm:behindInMarks op b=false):PT X (.Compare a [op] [b] pos) (Ox (Dl r ta tb)):=by
 intro pins s σ H Q I h
 refine wpAny_isTrue_Compare1 (Bp (ha pins s σ H _ I h) fun v s1 ⟨x,H1,I1,r1,q1⟩=>Bp (hb pins s1 σ H1 _ I1 q1) fun u s2 ⟨y,H2,I2,r2,q2⟩ =>
  Bp (ho pins s2 σ H2 x y v u _ I2 r1 r2 q2) fun c s3 ⟨z,H3,I3,r3,k,e,q3⟩=>?_) hm
 subst e
 cases r3
 exact wpAny_truthy_bool ⟨H3,I3,q3⟩
def Tm(K:Frag)(x:V)(H:Hp)(k:Bool):Prop :=
 match x with
 | .non=>k=false
 | .bl b=>k=b
 | .int i=>k=(i != 0)
 | .str y=>y.length<=sizeLine/\k=((y.length:Int) != 0)
 | .byt y=>y.size<=sizeLine/\k=((y.size:Int) != 0)
 | .ref p=>(∃xs,SqL K H p xs/\k=!xs.isEmpty)\/(∃xs,SqT K H p xs/\k=!xs.isEmpty)\/∃kvs,H p=some (.dK kvs)/\k=!kvs.isEmpty
 | _=>False
theorem Mg{κ:Type}{kvs:List (κ×V)}{vs:List (κ×Value)}(r:KV kvs vs):(!vs.isEmpty)=!kvs.isEmpty:=by
 cases r <;> rfl
theorem IC{xs:List V}{its:List Value}(r:Vals xs its):(!its.toArray.isEmpty)=!xs.isEmpty:=by
 cases r <;> simp
theorem GU:(sizeLine:Nat)<2 ^ 63:=by rw [sizeLine_eq]; decide
theorem SX:Vq X (fun x H Q=>∃k,Tm X.K x H k/\Q k H):=by
 intro pins s σ H x v Q I rx h
 obtain⟨k,e,q⟩:=h
 have hl:=GU
 have hs:sizeLine=16777216:=sizeLine_eq
 cases x with
 | non =>
  cases rx
  have e':k=false:=e
  subst e'
  exact truthy_none ⟨H,I,q⟩
 | bl b =>
  cases rx
  have e':k=b:=e
  subst e'
  exact wpAny_truthy_bool ⟨H,I,q⟩
 | int i =>
  obtain⟨t,rfl⟩:=rx
  have e':k=(i != 0):=e
  subst e'
  exact PySem.P.truthy_int ⟨H,I,q⟩
 | str y =>
  obtain⟨t,rfl⟩:=rx
  obtain⟨hy,e'⟩:y.length<=sizeLine/\k=((y.length:Int) != 0):=e
  subst e'
  exact PySem.P.truthy_str (by omega) ⟨H,I.tok _,q⟩
 | byt y =>
  obtain⟨t,rfl⟩:=rx
  obtain⟨hy,e'⟩:y.size<=sizeLine/\k=((y.size:Int) != 0):=e
  subst e'
  exact PySem.W.truthy_bytes (by omega) ⟨H,I.tok _,q⟩
 | ref p =>
  cases rx
  have e':(∃xs,SqL X.K H p xs/\k=!xs.isEmpty)\/(∃xs,SqT X.K H p xs/\k=!xs.isEmpty)\/∃kvs,H p=some (.dK kvs)/\k=!kvs.isEmpty:=e
  rcases e' with ⟨xs,hx,e'⟩ | ⟨xs,hx,e'⟩ | ⟨kvs,hx,e'⟩
  ·subst e'
   obtain⟨its,r,pl,hz⟩:=I.list hx
   have hlen:=r.length
   exact wpAny_truthy_list pl.isList (by simp only [List.size_toArray]; omega) ⟨H,I.tok _,by rw [IC r]; exact q⟩
  ·subst e'
   obtain⟨its,r,pl,hz⟩:=I.tuple hx
   have hlen:=r.length
   exact truthy_tuple pl (by simp only [List.size_toArray]; omega) ⟨H,I.tok _,by rw [IC r]; exact q⟩
  ·subst e'
   obtain⟨hz,hS,vs,r,m⟩:kvs.length<=sizeLine/\(p==sysModules)=false/\∃vs,KV kvs vs/\s.heap.DictOf (A5 X.prog X.w) p vs:=I.hok p _ hx
   have hlen:kvs.length=vs.length:=Paired.length r
   exact wpAny_truthy_dict hS m (by omega) ⟨H,I.tok _,by rw [Mg r]; exact q⟩
 | _=>exact(show False from e).elim
theorem Pb(ha:PE X a ta)(he:∀whole,isTrue a X.env whole=(do let v ← whole; standAt a.pos; holding [v] (truthy v))) :
  PT X a (fun σ H Q=>ta σ H fun x H'=>∃k,Tm X.K x H' k/\Q k H'):=by
 intro pins s σ H Q I h
 exact isTrue_plain (Bp (ha pins s σ H _ I h) fun v s1 ⟨x,H1,I1,r1,q1⟩=>SX pins s1 σ H1 x v Q I1 r1 q1) (he _)
theorem MW:OpR X (binaryOp .Add) (fun x y H Q=>∃i j,x=.str i/\y=.str j/\i.length+j.length<=sizeLine/\Q (.str (i++j)) H):=by
 intro pins s σ H x y v u Q I rx ry h
 obtain⟨i,j,rfl,rfl,hz,q⟩:=h
 obtain⟨t,rfl⟩:=rx
 obtain⟨t',rfl⟩:=ry
 exact add_str (fun t' tk=>⟨.str (i++j),H,I.tok _,⟨_,rfl⟩,q⟩) hz
theorem Fc{x:V}{us:List Value}(r:Vals [x] us):∃u,us=[u]/\RelV x u:=by
 cases r with
 | cons r1 r2=>cases r2; exact⟨_,rfl,r1⟩
theorem Mv{x y:V}{us:List Value}(r:Vals [x,y] us):∃u w',us=[u,w']/\RelV x u/\RelV y w':=by
 cases r with
 | cons r1 r2 =>
  cases r2 with
  | cons r3 r4=>cases r4; exact⟨_,_,rfl,r1,r3⟩
theorem Od(hc:X.calm=true):C8 X (.builtin "max") (fun xs H Q=>∃i j,xs=[.int i,.int j]/\Q (.int (if j > i then j else i)) H):=by
 intro pins s σ H xs us Q I r h
 obtain⟨i,j,rfl,q⟩:=h
 obtain⟨u,w',rfl,⟨t,rfl⟩,⟨t',rfl⟩⟩:=Mv r
 refine max_two_ints (I.ok.hd hc) fun h' tk k=>⟨_,H,I.kept k,?_,q⟩
 by_cases hj:j > i
 ·rw [if_pos hj,if_pos hj]; exact⟨_,rfl⟩
 ·rw [if_neg hj,if_neg hj]; exact⟨_,rfl⟩
theorem Jm(hc:X.calm=true):C8 X (.builtin "min") (fun xs H Q=>∃i j,xs=[.int i,.int j]/\Q (.int (if j<i then j else i)) H):=by
 intro pins s σ H xs us Q I r h
 obtain⟨i,j,rfl,q⟩:=h
 obtain⟨u,w',rfl,⟨t,rfl⟩,⟨t',rfl⟩⟩:=Mv r
 refine min_two_ints (I.ok.hd hc) fun h' tk k=>⟨_,H,I.kept k,?_,q⟩
 by_cases hj:j<i
 ·rw [if_pos hj,if_pos hj]; exact⟨_,rfl⟩
 ·rw [if_neg hj,if_neg hj]; exact⟨_,rfl⟩
def Tt(K:Frag)(x:V)(H:Hp)(n:Nat):Prop :=
 match x with
 | .str y=>y.length<=sizeLine/\n=y.length
 | .byt y=>y.size<=sizeLine/\n=y.size
 | .ref p=>(∃xs,SqL K H p xs/\n=xs.length)\/∃xs,SqT K H p xs/\n=xs.length
 | _=>False
theorem Au:C8 X (.builtin "len") (fun xs H Q=>∃x n,xs=[x]/\Tt X.K x H n/\Q (.int n) H):=by
 intro pins s σ H xs us Q I r h
 obtain⟨x,n,rfl,e,q⟩:=h
 obtain⟨u,rfl,rx⟩:=Fc r
 have hl:=GU
 have hs:sizeLine=16777216:=sizeLine_eq
 cases x with
 | str y =>
  obtain⟨t,rfl⟩:=rx
  obtain⟨hy,e'⟩:y.length<=sizeLine/\n=y.length:=e
  subst e'
  exact len_str (by omega) ⟨.int _,H,I.tok _,⟨_,rfl⟩,q⟩
 | byt y =>
  obtain⟨t,rfl⟩:=rx
  obtain⟨hy,e'⟩:y.size<=sizeLine/\n=y.size:=e
  subst e'
  exact PySem.W.len_bytes (by omega) ⟨.int _,H,I.tok _,⟨_,rfl⟩,q⟩
 | ref p =>
  cases rx
  have e':(∃xs,SqL X.K H p xs/\n=xs.length)\/∃xs,SqT X.K H p xs/\n=xs.length:=e
  rcases e' with ⟨xs,hx,e'⟩ | ⟨xs,hx,e'⟩
  ·subst e'
   obtain⟨its,r',pl,hz⟩:=I.list hx
   have hlen:=r'.length
   exact Calls.call_len_list pl.isList (by simp only [List.size_toArray]; omega) ⟨.int xs.length,H,I.tok _,⟨_,by simp only [List.size_toArray]; rw [hlen]⟩,q⟩
  ·subst e'
   obtain⟨its,r',pl,hz⟩:=I.tuple hx
   have hlen:=r'.length
   exact len_tuple pl (by simp only [List.size_toArray]; omega) ⟨.int xs.length,H,I.tok _,⟨_,by simp only [List.size_toArray]; rw [hlen]⟩,q⟩
 | _=>exact(show False from e).elim
end
structure ObjM (h:Heap) (x dx C:Addr) (mA:Str->Option Value):Prop where
 obj:h.get? x=some (PySem.W.instObj C dx)
 ns:h.Ns1 dx mA
 ne:dx≠x
theorem OO{h:Heap}{dx:Addr}{mA:Str->Option Value}(n:h.Ns1 dx mA):∃od,h.get? dx=some od/\∀name,PySem.W.lookIn name od=some (mA name):=by
 obtain⟨o,es,ep,ho,hd,hk,_,hm⟩:=n
 refine⟨o,ho,fun name=>?_⟩
 have e:=hm name
 unfold nsFind findBy at e
 rw [← Array.find?_toList] at e
 unfold PySem.W.lookIn
 rw [hd]
 dsimp only
 split
 ·rename_i y q
  rw [q] at e
  exact congrArg some e
 ·rename_i q
  rw [q] at e
  have a:es.toList.any (·.refKey)=false:=by
   rw [List.any_eq_false]
   intro y hy
   obtain⟨z,t,hkey⟩:=hk y (Array.mem_toList_iff.mp hy)
   simp [DictEntry.refKey,hkey]
  have a':¬es.toList.any (·.refKey)=true:=by rw [a]; exact Bool.false_ne_true
  rw [if_neg a']
  exact congrArg some e
theorem ObjM.look{h:Heap}{x dx C:Addr}{mA:Str->Option Value}(I:ObjM h x dx C mA):∃od,PySem.W.InstAt h x (PySem.W.instObj C dx) C (some od)/\∀name,PySem.W.lookIn name od=some (mA name) :=
 let ⟨od,ho,hl⟩:=OO I.ns
 ⟨od,⟨I.obj,rfl,rfl,ho⟩,hl⟩
section
variable {prog:Program}{w:World}{A:Around}{E:Value->Shared->Prop}{s:Shared}{K:Frag}{x dx C f:Addr}{mA:Str->Option Value}{name:Str}{v:Value}
end
theorem RelO.some_of{v:V}{o:Option Value}(r:RelO (some v) o):∃u,o=some u/\RelV v u:=by
 cases o with
 | none=>exact(show False from r).elim
 | some u=>exact⟨u,rfl,r⟩
section
variable {P:Program}{w:World}{H H':Hp}{h h':Heap}{a C dx:Addr}{fs fs':List (Str×V)}
theorem RZ(hok:HOk P w H h)(e:H a=some (.ins C dx fs)):∃mA,ObjM h a dx C mA/\(∀f,RelO (fs.lookup f) (mA f))/\PySem.Within mA (fs.map (·.1))/\fs.length<=1000/\H dx=some (.own a):=by
 obtain⟨d,z,ne,ob,mA,n,r,q⟩:=(show ObjOk P w H h a (.ins C dx fs) from hok a _ e)
 exact⟨mA,⟨ob,n,ne⟩,r,q,z,d⟩
end
structure Cls (K:Frag) (C:Addr):Prop where
 pg:PySem.W.plainGet K C Str.empty=true
 hd:PySem.W.hasDictIn K C=true
 po:PySem.W.plainOver K C=true
 sa:PySem.W.findIn K (.ref C) "__setattr__"=some (some (.builtin "object.__setattr__"))
theorem Cls.get{K:Frag}{C:Addr}(c:Cls K C)(f:Str):PySem.W.plainGet K C f=true:=c.pg
structure WG (K:Frag) (C:Addr) (f:Str) (v:V) (u:Value):Prop where
 at_:PySem.W.findIn K (.ref C) f=some (some u)
 rel:RelV v u
 get:PySem.W.specialIn K u "__get__"=some none
 cp:PySem.W.copiedNames.contains f=false
structure WF (K:Frag) (C:Addr) (m:Str) (f:Addr):Prop where
 at_:PySem.W.findIn K (.ref C) m=some (some (.ref f))
 fn:PySem.W.isFn K (.ref f)=true
 kp:keepIn K (.ref f)=true
section
variable {X:Cx}{pins:List (Addr×Obj)}{σ:St}{H:Hp}{s:Shared}{a C dx:Addr}{fs:List (Str×V)}{f:Str}{v:V}{A:Around}{E:Value->Shared->Prop}
end
section
variable {X:Cx}{o e value:Expr}{f:Str}{pos pos' tpos:Pos}{ta tv:TE}
end
section
variable {X:Cx}{pins:List (Addr×Obj)}{σ:St}{H:Hp}{s:Shared}{A:Around}{E:Value->Shared->Prop}{Q:Value->Shared->Prop}{c:Value}{b:Bool}
inductive FZ (K:Frag) (H:Hp):V->Value->Prop where
 | non:FZ K H .non (.type "NoneType")
 | bl (x:Bool):FZ K H (.bl x) (.type "bool")
 | int (i:Int):FZ K H (.int i) (.type "int")
 | str (x:Str):FZ K H (.str x) (.type "str")
 | flt (x:UInt64):FZ K H (.flt x) (.type "float")
 | lst {a:Addr} {xs:List V} (e:H a=some (.lst xs)):FZ K H (.ref a) (.type "list")
 | frz {a:Addr} {o:Obj} {xs:List V} (e:H a=some (.frz o (.lst xs))):FZ K H (.ref a) (.type "list")
 | tup {a:Addr} {xs:List V} (e:H a=some (.tup xs)):FZ K H (.ref a) (.type "tuple")
 | dF {a:Addr} {o:Obj} {kvs:List (AY×V)} (e:H a=some (.frz o (.dK kvs))):FZ K H (.ref a) (.type "dict")
 | dK {a:Addr} {kvs:List (AY×V)} (e:H a=some (.dK kvs)):FZ K H (.ref a) (.type "dict")
 | dT {a:Addr} {kvs:List (List AY×V)} (e:H a=some (.dT kvs)):FZ K H (.ref a) (.type "dict")
 | ins {a C dx:Addr} {fs:List (Str×V)} (e:H a=some (.ins C dx fs)) (cl:Cls K C) (ha:PySem.W.findIn K (.ref C) "__class__"=some (some (.builtin "object.__class__")))
   (hn:PySem.W.specialIn K (.builtin "object.__class__") "__get__"=some (some (.builtin "getset_descriptor.__get__"))) (htk:PySem.W.takesIn K (.builtin "object.__class__")=some true)
   (hm:PySem.W.mroIn K C (.type "object")=some true):FZ K H (.ref a) (.ref C)
theorem OT{x:V}{u t:Value}(I:Inv X pins σ H s)(rx:RelV x u)(ty:FZ X.K H x t)(e:PySem.W.kitOne X.K t c=some b)(h:∀tk,Q (.bool b) { s with toks:=tk }) :
  wpAny (model X.prog X.w) A (call (.builtin "isinstance") [u,c]) Q E s:=by
 cases ty with
 | non=>cases (show u=Value.none from rx); exact PySem.W.kia_one PySem.W.kitx_none I.kIn True.intro e (fun z=>nomatch z) h
 | bl y=>cases (show u=Value.bool y from rx); exact PySem.W.kia_one PySem.W.kitx_bool I.kIn True.intro e (fun z=>nomatch z) h
 | int i=>obtain⟨t,q⟩:=(show ∃t,u=Value.int i t from rx); cases q; exact PySem.W.kia_one PySem.W.kitx_int I.kIn True.intro e (fun z=>nomatch z) h
 | str y=>obtain⟨t,q⟩:=(show ∃t,u=Value.str y t from rx); cases q; exact PySem.W.kia_one PySem.W.kitx_str I.kIn True.intro e (fun z=>nomatch z) h
 | flt y=>obtain⟨t,q⟩:=(show ∃t,u=Value.float y t from rx); cases q; exact PySem.W.kia_one PySem.W.kitx_float I.kIn True.intro e (fun z=>nomatch z) h
 | @lst a xs ea =>
  cases (show u=Value.ref a from rx)
  obtain⟨_,_,n,_,h1⟩:=(show ObjOk X.prog X.w H s.heap a (.lst xs) from I.hok a _ ea)
  exact PySem.W.kia_one PySem.W.kitx_list I.kIn ⟨_,h1,rfl⟩ e (fun z=>nomatch z) h
 | @frz a ob xs ea =>
  cases (show u=Value.ref a from rx)
  obtain⟨_,_,_,n,_,h1⟩:=(show ObjOk X.prog X.w H s.heap a (.frz ob (.lst xs)) from I.hok a _ ea)
  exact PySem.W.kia_one PySem.W.kitx_list I.kIn ⟨_,h1,rfl⟩ e (fun z=>nomatch z) h
 | @tup a xs ea =>
  cases (show u=Value.ref a from rx)
  obtain⟨_,_,_,p⟩:=(show ObjOk X.prog X.w H s.heap a (.tup xs) from I.hok a _ ea)
  obtain⟨o,h1,h2,_⟩:=p
  exact PySem.W.kia_one PySem.W.kitx_tuple I.kIn ⟨o,h1,h2⟩ e (fun z=>nomatch z) h
 | @dF a ob kvs ea =>
  cases (show u=Value.ref a from rx)
  obtain⟨_,_,_,vs,_,p⟩:=(show ObjOk X.prog X.w H s.heap a (.frz ob (.dK kvs)) from I.hok a _ ea)
  obtain⟨o,es,ep,h1,h2,_⟩:=p
  exact PySem.W.kia_one PySem.W.kitx_dict I.kIn ⟨o,h1,h2.1⟩ e (fun z=>nomatch z) h
 | @dK a kvs ea =>
  cases (show u=Value.ref a from rx)
  obtain⟨_,_,vs,_,p⟩:=(show ObjOk X.prog X.w H s.heap a (.dK kvs) from I.hok a _ ea)
  obtain⟨o,es,ep,h1,h2,_⟩:=p
  exact PySem.W.kia_one PySem.W.kitx_dict I.kIn ⟨o,h1,h2.1⟩ e (fun z=>nomatch z) h
 | @dT a kvs ea =>
  cases (show u=Value.ref a from rx)
  obtain⟨_,_,xs,_,o,es,ep,h1,h2,_⟩:=(show ObjOk X.prog X.w H s.heap a (.dT kvs) from I.hok a _ ea)
  exact PySem.W.kia_one PySem.W.kitx_dict I.kIn ⟨o,h1,h2.1⟩ e (fun z=>nomatch z) h
 | @ins a C dx fs ea cl ha hn htk hm =>
  cases (show u=Value.ref a from rx)
  obtain⟨mA,O,_⟩:=RZ I.hok ea
  obtain⟨od,J,_⟩:=O.look
  exact PySem.W.kia_one (PySem.W.kitx_own (cl.get _) cl.hd ha hn htk hm) I.kIn J e (fun z=>nomatch z) h
end
structure Room (k:Nat) (A:Around):Prop where
 hd:A.handled=none
 dp:A.depth+3*k+5<recursionLimit
 un:A.units+16*k+200<cLine
 gd:A.guards=some []
theorem Room.mono{j k:Nat}{A:Around}(r:Room k A)(h:j<=k):Room j A:=⟨r.hd,by have:=r.dp; omega,by have:=r.un; omega,by first | exact r.gd | (show pushGuards _ _=_; rw [r.gd]; rfl) | (simp [Around.under,pushGuards,Code.guards,Code.isGuard,r.gd])⟩
theorem Room.deeper{k:Nat}{A:Around}(r:Room (k+1) A)(env:Env):Room k (A.deeper env) :=
 ⟨r.hd,by have:=r.dp; show A.depth+1+3*k+5<_; omega,by have:=r.un; show A.units+3+16*k+200<_; omega,by first | exact r.gd | (show pushGuards _ _=_; rw [r.gd]; rfl) | (simp [Around.under,pushGuards,Code.guards,Code.isGuard,r.gd])⟩
theorem Room.depth{k:Nat}{A:Around}(r:Room k A):A.depth<recursionLimit:=by have:=r.dp; omega
theorem Room.units{k:Nat}{A:Around}(r:Room k A):A.units+64<cLine:=by have:=r.un; omega
theorem Room.units0{k:Nat}{A:Around}(r:Room k A):A.units<cLine:=by have:=r.un; omega
def Q5:TA:=fun _ H Q=>Q [] H
def M5(ta:TE)(tr:TA):TA:=fun σ H Q=>ta σ H fun x H1=>tr σ H1 fun xs H2=>Q (x::xs) H2
section
variable {X:Cx}{e:Expr}{es:List Expr}{te:TE}{t:TA}{pos:Pos}
theorem DM:PA X [] Q5:=fun _ _ _ _ H Q I h=>Calls.spliced_nil ⟨[],H,I,.nil,h⟩
theorem B8(ha:PE X e te)(hr:PA X es t)(hs:starEach (e::es) X.env=(false,eval e X.env)::starEach es X.env:=by rfl):PA X (e::es) (M5 te t):=by
 intro pos pins s σ H Q I h
 rw [hs]
 show wpAny _ _ (spliced ((false,eval e X.env)::backTo pos (starEach es X.env))) _ _ s
 refine Calls.spliced_cons (Bp (ha pins s σ H _ I h) fun u s1 ⟨x,H1,I1,r1,q1⟩=>?_)
 exact Bp (hr pos pins s1 σ H1 _ I1 q1) fun us s2 ⟨xs,H2,I2,r2,q2⟩=>⟨x::xs,H2,I2,.cons r1 r2,q2⟩
def VP(t:TA):TE:=fun σ H Q=>t σ H fun xs H1=>xs.length<=sizeLine/\∀p,H1 p=none->Q (.ref p) (BA H1 p (.tup xs))
def VT(t:TA):TE:=fun σ H Q=>t σ H fun xs H1=>xs.length<=sizeLine/\∀p,H1 p=none->Q (.ref p) (BA H1 p (.lst xs))
theorem Su{x1}(h:PA X es t):PE X (.Tuple es x1 pos) (VP t):=by
 intro pins s σ H Q I hq
 refine wpAny_Tuple_spliced (Bp (h pos pins s σ H _ I hq) fun us s1 ⟨xs,H1,I1,r,z,q⟩=>⟨by rw [← r.length]; exact z,?_⟩)
 have hf:H1 s1.heap.objs.size=none:=I1.hok.fresh (Nat.le_refl _)
 refine⟨.ref s1.heap.objs.size,BA H1 s1.heap.objs.size (.tup xs),I1.laid (t':=s1.toks) (fun b u e=>Heap.get?_push_of_some _ e) (Nat.le_refl _) ?_,rfl,q _ hf⟩
 exact⟨z,us,r,⟨_,Heap.get?_push_size _ rfl,rfl,_,rfl⟩⟩
theorem MT(h:PA X es t):PE X (.List es pos) (VT t):=by
 intro pins s σ H Q I hq
 refine wpAny_List_spliced (Bp (h pos pins s σ H _ I hq) fun us s1 ⟨xs,H1,I1,r,z,q⟩=>⟨by rw [← r.length]; exact z,?_⟩)
 have hf:H1 s1.heap.objs.size=none:=I1.hok.fresh (Nat.le_refl _)
 refine⟨.ref s1.heap.objs.size,BA H1 s1.heap.objs.size (.lst xs),I1.laid (t':=s1.toks) (fun b u e=>Heap.get?_push_of_some _ e) (Nat.le_refl _) ?_,rfl,q _ hf⟩
 exact⟨z,us,0,r,Heap.get?_push_size _ rfl⟩
end
abbrev Sp:=List V->Hp->VK->XK->Prop
abbrev Qu:=List Env->Hp->Shared->XK->Value->Shared->Prop
structure Rt (P:Program) (w:World) (K:Frag) (mg:Str->Option Value) (base:Heap) (A:Around) (outer:List Env) (s:Shared) (H:Hp):Prop where
 frames:A.frames=some outer
 mod:Mod K mg base
 bs:∀b o,base.get? b=some o->s.heap.get? b=some o/\H b=none
 bsz:base.objs.size<=s.heap.objs.size
 funs:s.heap.FunFrames base outer
 frf:∀b∈P_ outer,H b=none
 hok:HOk P w H s.heap
 bare:AllBare s.gens
def CE(outer:List Env)(P:Program)(w:World)(H:Hp)(s:Shared)(Q:VK)(u:Value)(s':Shared):Prop :=
 ∃v H',s'.os=s.os/\AllBare s'.gens/\Un (P_ outer) [] H H' s.heap s'.heap/\HOk P w H' s'.heap/\RelV v u/\Q v H'
def CR(CX:Qu)(outer:List Env)(P:Program)(w:World)(H:Hp)(s:Shared)(Q:VK)(E:XK)(r:Result)(s':Shared):Prop :=
 match r with
 | .ok (.ret u)=>CE outer P w H s Q u s'
 | .ok _=>False
 | .error e=>CX outer H s E e s'
structure Bq (P:Program) (w:World) (K:Frag) (mg:Str->Option Value) (base:Heap) (CX:Qu) (k:Nat) (f:Addr) (fd:FuncData) (ps:List Str) (sp:Sp):Prop where
 len:∀vs H Q E,sp vs H Q E->vs.length=ps.length
 run:∀(A:Around) (outer:List Env) (s:Shared) (H:Hp) (args:Args) (us:List Value) (vs:List V) (Q:VK) (E:XK),Room k A->Rt P w K mg base A outer s H->BindsTo s fd args (ps.zip us)->Vals vs us->sp vs H Q E ->
  codeAny (model P w) A (.call (.ref f) args) (CR CX outer P w H s Q E) s
section
variable {X:Cx}{pins:List (Addr×Obj)}{σ:St}{H:Hp}{s s':Shared}
theorem Inv.env0(I:Inv X pins σ H s):Rt X.prog X.w X.K X.mg X.base X.A X.stack s H :=
 ⟨I.ok.frames,I.ok.mod,I.bs,Nat.le_trans I.ok.bsz I.sz,I.stack,I.stkFree,I.hok,I.bare⟩
theorem Inv.after{Q:VK}{u:Value}(I:Inv X pins σ H s)(h:CE X.stack X.prog X.w H s Q u s'):EP X pins σ Q u s':=by
 obtain⟨v,H',os,bare,un,hok,r,q⟩:=h
 obtain⟨hh,g,d,t,os'⟩:=s'
 obtain rfl:os'=s.os:=os
 exact⟨v,H',I.call (h':=hh) (g':=g) (d':=d) (t':=t) (ch:=[]) un hok bare (fun b z=>absurd z (by simp)),r,q⟩
end
def Oz(sp:Sp)(dvs:List V)(E:XK)(t:TA):TE:=fun σ H Q=>t σ H fun vs H1=>sp (vs++dvs) H1 Q E
def Binds(K:Frag)(fd:FuncData)(ps:List Str)(ds:List Value):Prop :=
 ∀(s:Shared) (us:List Value),K.In s.heap->(us++ds).length=ps.length->BindsTo s fd ⟨us,[]⟩ (ps.zip (us++ds))
theorem Binds.all{K:Frag}{fd:FuncData}{ps:List Str}(h:∀us:List Value,us.length=ps.length->bindArgs fd ⟨us,[]⟩=pure (ps.zip us)):Binds K fd ps []:=fun s us _ hl=>by
 rw [List.append_nil] at hl ⊢
 exact .of_eq (h us hl)
def Ms(CX:Qu)(X:Cx)(E:XK):Prop:=∀(pins:List (Addr×Obj)) (σ:St) (H:Hp) (s:Shared) (e:Value) (s':Shared),Inv X pins σ H s->CX X.stack H s E e s'->X.xe e s'
section
variable {X:Cx}{CX:Qu}{k:Nat}{f C:Addr}{fd:FuncData}{ps:List Str}{sp:Sp}{dvs:List V}{ds:List Value}{E:XK}{x m:Str}{p pos apos:Pos}{e o:Expr}{es:List Expr}{ta:TE}{t:TA}
theorem Sg{pins:List (Addr×Obj)}{σ:St}{H:Hp}{s:Shared}{Q:VK}{us:List Value}{vs:List V}(F:Bq X.prog X.w X.K X.mg X.base CX k f fd ps sp)(hr:Room k X.A)(hb:Binds X.K fd ps ds)(hd:Vals dvs ds)(hx:Ms CX X E)
  (I:Inv X pins σ H s) (r:Vals vs us) (h:sp (vs++dvs) H Q E):wpAny (model X.prog X.w) X.A (call (.ref f) us) (EP X pins σ Q) X.xe s:=by
 have r2:Vals (vs++dvs) (us++ds):=r.append hd
 have hl:(us++ds).length=ps.length:=by rw [← r2.length]; exact F.len _ _ _ _ h
 refine wpAny_call (codeAny_mono (F.run X.A X.stack s H ⟨us,[]⟩ (us++ds) (vs++dvs) Q E hr I.env0 (hb s us I.kIn hl) r2 h) fun r s' hq=>?_)
 cases r with
 | error e=>exact hx pins σ H s e s' I hq
 | ok fl =>
  cases fl with
  | ret u=>exact I.after hq
  | next=>exact False.elim hq
  | brk=>exact False.elim hq
  | cont=>exact False.elim hq
theorem NI(F:Bq X.prog X.w X.K X.mg X.base CX k f fd ps sp)(hr:Room k X.A)(hg:Gl X x)(hm:X.mg x=some (.ref f))(hk:keepIn X.K (.ref f)=true)(hb:Binds X.K fd ps ds)(hd:Vals dvs ds)(hx:Ms CX X E)
  (ha:PA X (e::es) t) (hdb:(x==("__debug__" : Str))=false:=by decide) (he:starEach (e::es) X.env=(false,eval e X.env)::starEach es X.env:=by rfl) (hpl:(backTo pos (starEach es X.env)).any (·.1)=false:=by rfl) :
  PE X (.Call (.Name x p) (e::es) [] pos) (Oz sp dvs E t):=by
 intro pins s σ H Q I h
 refine wpAny_Call_Name_kw (RT I hg hm ?_ hdb)
 refine PySem.W.callWith_K (h₀:=X.base) I.ok.mod.kin hk (Bp (ha pos pins s σ H _ I h) fun us s1 ⟨vs,H1,I1,r,q⟩=>⟨I1.kIn,?_⟩) he hpl
 exact Sg F hr hb hd hx I1 r q
structure Mk (K:Frag) (C f:Addr):Prop where
 makes:PySem.W.makesIn K C=true
 init:PySem.W.findIn K (.ref C) "__init__"=some (some (.ref f))
 fn:PySem.W.isFn K (.ref f)=true
 kp:keepIn K (.ref C)=true
end
section
variable {X:Cx}{CX:Qu}{k:Nat}{f C:Addr}{fd:FuncData}{ps ks:List Str}{sp:Sp}{E:XK}{x m:Str}{p pos apos kpos:Pos}{e o:Expr}{es:List Expr}{kws:List Keyword}{te ta:TE}{t tk:TA}{nm:Option Str}
structure Vu (K:Frag) (fd:FuncData) (ps ks:List Str) (g:List Value->List Value->List Value) (gV:List V->List V->List V):Prop where
 to:∀(s:Shared) (us ws:List Value),K.In s.heap->(g us ws).length=ps.length->BindsTo s fd ⟨us,ks.zip ws⟩ (ps.zip (g us ws))
 rel:∀{vs:List V} {us:List Value} {zs:List V} {ws:List Value},Vals vs us->Vals zs ws->Vals (gV vs zs) (g us ws)
variable {g:List Value->List Value->List Value}{gV:List V->List V->List V}
end
structure Ar (N P:List Str) (sc:Scope):Prop where
 kind:sc.kind=.function
 co:sc.isCoroutine=false
 gen:sc.isGenerator=false
 nd:N.Nodup
 pre:N.take P.length=P
 par:∀x∈P,sc.names.lookup x=some .local\/sc.names.lookup x=some .cell
 nofree:∀y∈sc.names,y.2≠.free
theorem Jo{kindOf:Str->Option NameKind}{x:Str}:∀{binds:List (Str×Value)} {m:Str->Option Value},(∀v,(x,v)∉binds)->bindL kindOf binds m x=m x
 | [],_,_=>rfl
 | (n,v)::r,m,h=>by
  unfold bindL
  rw [Jo fun w hw=>h w (List.mem_cons_of_mem _ hw)]
  split
  ·have:x≠n:=by rintro rfl; exact h v List.mem_cons_self
   simp [this]
  ·rfl
theorem Jq{kindOf:Str->Option NameKind}{x:Str}:∀{binds:List (Str×Value)} {m:Str->Option Value},(∀v,(x,v)∉binds)->bindC kindOf binds m x=m x
 | [],_,_=>rfl
 | (n,v)::r,m,h=>by
  unfold bindC
  rw [Jq fun w hw=>h w (List.mem_cons_of_mem _ hw)]
  split
  ·rfl
  ·have:x≠n:=by rintro rfl; exact h v List.mem_cons_self
   simp [this]
theorem Jp{kindOf:Str->Option NameKind}{x:Str}{v:Value}:∀{P:List Str} {vs:List Value} {i:Nat} {m:Str->Option Value},P.Nodup->P[i]?=some x->vs[i]?=some v->kindOf x=some .local ->
  bindL kindOf (P.zip vs) m x=some v
 | [],_,_,_,_,h,_,_=>by simp at h
 | _::_,[],_,_,_,_,h,_=>by simp at h
 | p::P,w::vs,0,m,nd,h1,h2,hk=>by
  simp at h1 h2; subst h1; subst h2
  show bindL kindOf ((p,w)::P.zip vs) m p=_
  unfold bindL
  rw [Jo fun v hv=>(List.nodup_cons.mp nd).1 (List.of_mem_zip hv).1,if_pos hk]
  simp
 | p::P,w::vs,i+1,m,nd,h1,h2,hk=>by
  show bindL kindOf ((p,w)::P.zip vs) m x=_
  unfold bindL
  exact Jp (i:=i) (List.nodup_cons.mp nd).2 (by simpa using h1) (by simpa using h2) hk
theorem Jr{kindOf:Str->Option NameKind}{x:Str}{v:Value}:∀{P:List Str} {vs:List Value} {i:Nat} {m:Str->Option Value},P.Nodup->P[i]?=some x->vs[i]?=some v->kindOf x≠some .local ->
  bindC kindOf (P.zip vs) m x=some v
 | [],_,_,_,_,h,_,_=>by simp at h
 | _::_,[],_,_,_,_,h,_=>by simp at h
 | p::P,w::vs,0,m,nd,h1,h2,hk=>by
  simp at h1 h2; subst h1; subst h2
  show bindC kindOf ((p,w)::P.zip vs) m p=_
  unfold bindC
  rw [Jq fun v hv=>(List.nodup_cons.mp nd).1 (List.of_mem_zip hv).1,if_neg hk]
  simp
 | p::P,w::vs,i+1,m,nd,h1,h2,hk=>by
  show bindC kindOf ((p,w)::P.zip vs) m x=_
  unfold bindC
  exact Jr (i:=i) (List.nodup_cons.mp nd).2 (by simpa using h1) (by simpa using h2) hk
def start(N:List Str)(vs:List V):St:=vs.map some++List.replicate (N.length - vs.length) none
def Km(CX:Qu)(P:Program)(w:World)(K:Frag)(mg:Str->Option Value)(base:Heap)(N:List Str)(qual:Str)(scope:Scope)(f:Addr)(cd:Value)(A:Around)(outer:List Env)(s:Shared)(H:Hp)(E:XK):Cx where
 prog:=P
 w:=w
 K:=K
 mg:=mg
 base:=base
 A:=A.deeper (envOfC qual scope s.heap.objs.size f cd)
 N:=N
 s₀:=s
 H₀:=H
 env:=envOfC qual scope s.heap.objs.size f cd
 outer:=outer
 stack:=envOfC qual scope s.heap.objs.size f cd::outer
 ex:=[]
 calm:=true
 fn:=fun _=>true
 pn:=[]
 xe:=fun e s'=>wpAny (model P w) (A.deeper (envOfC qual scope s.heap.objs.size f cd)) (leaving (envOfC qual scope s.heap.objs.size f cd) e) (fun _ s''=>CX outer H s E e s'') (fun e' s''=>CX outer H s E e' s'') s'
theorem Ly{sc:Scope}{n:Nat}{x:Str}(h:sc.names.lookup x=some .cell):∃c,(cellsFrom n sc.names []).lookup x=some c:=by
 have q:=PySem.W.cellsFrom_some sc.names n [] (.inl h)
 exact Option.isSome_iff_exists.mp q
theorem OV{CX:Qu}{P:Program}{w:World}{K:Frag}{mg:Str->Option Value}{base:Heap}{N ps:List Str}{qual:Str}{scope:Scope}{f:Addr}{cd:Value}{A:Around}{outer:List Env}{s s1:Shared}{H:Hp}{E:XK}{us:List Value}{vs:List V}
  (S:Ar N ps scope) (hd:A.handled=none) (e0:Rt P w K mg base A outer s H) (hl:vs.length=ps.length) (r:Vals vs us)
  (x:InCallC s s.heap.objs.size (bindL (envOfC qual scope s.heap.objs.size f cd).kindOf (ps.zip us) fun _=>none) (cellsFrom (s.heap.objs.size+1) scope.names []) (bindC (envOfC qual scope s.heap.objs.size f cd).kindOf (ps.zip us) fun _=>none) s1) :
  Inv (Km CX P w K mg base N qual scope f cd A outer s H E) [] (start N vs) H s1:=by
 have hpl:ps.length<=N.length:=by have:=congrArg List.length S.pre; rw [List.length_take] at this; omega
 obtain⟨h1,tk,rfl,hk⟩:=x.done
 have noA:∀b:Addr,b∉(Km CX P w K mg base N qual scope f cd A outer s H E).ex:=fun b z=>absurd (show b∈([]:List Addr) from z) (by simp)
 refine⟨⟨e0.mod,S.kind,rfl,rfl,Nat.le_refl _,fun y z c h1 h2=>?_,fun y hy=>?_,fun y c _ h=>?_,fun _=>hd,Around.frames_deeper e0.frames,.inr ⟨rfl,rfl⟩,fun b z=>absurd z (noA b),e0.bs,e0.bsz,fun b _ _=>noA b,fun b z=>absurd z (noA b),e0.funs,e0.frf⟩,
  rfl,e0.bare,Un.kept hk,⟨_,x.toInCall.ns,fun i y v h1 h2 h3=>?_⟩,fun y c h=>⟨_,x.cell y c h⟩,e0.hok.fresh (Nat.le_refl _),fun y c h=>?_,fun p hp=>absurd (show p∈([]:List (Addr×Obj)) from hp) (by simp),e0.hok.kept hk,?_⟩
 ·exact name_of_addr x.apart (PySem.mem_of_lookup h1) (PySem.mem_of_lookup h2)
 ·have hy:scope.names.lookup y=some .cell\/scope.names.lookup y=some .free:=hy
  rcases hy with hy | hy
  ·exact Ly hy
  ·exact absurd rfl (S.nofree _ (PySem.mem_of_lookup hy))
 ·exact Nat.le_of_lt (x.above y c (PySem.mem_of_lookup h))
 ·have hi:i<vs.length:=by
   unfold start at h2
   by_cases hi:i<vs.length
   ·exact hi
   ·rw [List.getElem?_append_right (by simpa using hi)] at h2
    rw [List.getElem?_replicate] at h2
    split at h2 <;> cases h2
  have ha:vs[i]?=some v:=by
   unfold start at h2
   rw [List.getElem?_append_left (by simpa using hi),List.getElem?_map] at h2
   cases e:vs[i]? with
   | none=>rw [e] at h2; cases h2
   | some a=>rw [e] at h2; cases h2; rfl
  obtain⟨u,hu,rv⟩:=r.get ha
  have hp:ps[i]?=some y:=by
   rw [← S.pre,List.getElem?_take_of_lt (by omega)]; exact h1
  have ndP:ps.Nodup:=by rw [← S.pre]; exact S.nd.sublist (List.take_sublist _ _)
  refine⟨u,rv,?_⟩
  rcases S.par y (List.mem_of_getElem? hp) with k | k
  ·exact .inl ⟨k,Jp ndP hp hu k⟩
  ·obtain⟨c,e⟩:=Ly (n:=s.heap.objs.size+1) k
   refine .inr ⟨.inl k,c,e,?_⟩
   have q:=x.cell y c e
   rw [Jr ndP hp hu (by show scope.names.lookup y≠_; rw [k]; decide)] at q
   exact q
 ·exact e0.hok.fresh (Nat.le_of_lt (x.above y c (PySem.mem_of_lookup h)))
 ·unfold start
  show _=N.length
  rw [List.length_append,List.length_map,List.length_replicate]
  omega
theorem Uk{CX:Qu}{P:Program}{w:World}{K:Frag}{mg:Str->Option Value}{base:Heap}{k:Nat}{f:Addr}{name qual:Str}{params:Arguments}{body:List Stmt}{scope:Scope}{dV kV doc pm cdv ct oc:Value}{an od:Option Addr}
  {osl:Array (Option Value)} {N ps:List Str} {sp:Sp} (lk:K.lookup f=some ⟨oc,od,.func (fnOf name qual params body scope dV kV doc pm an cdv ct),osl⟩) (hcd:codeIn K cdv qual=true) (S:Ar N ps scope)
  (len:∀vs H Q E,sp vs H Q E->vs.length=ps.length)
  (hbody:∀(A:Around) (outer:List Env) (s:Shared) (H:Hp) (vs:List V) (Q:VK) (E:XK),Room k (A.deeper (envOfC qual scope s.heap.objs.size f cdv))->sp vs H Q E ->
   ∃t,PSs (Km CX P w K mg base N qual scope f cdv A outer s H E) body t/\t { nx:=fun _ H'=>Q .non H',rt:=Q } (start N vs) H) :
  Bq P w K mg base CX (k+1) f (fnOf name qual params body scope dV kV doc pm an cdv ct) ps sp:=by
 refine⟨len,fun A outer s H args us vs Q E hr e0 hb r hsp=>?_⟩
 have hl:=len _ _ _ _ hsp
 have KX:K.In s.heap:=e0.mod.kin.keeps fun b o e=>(e0.bs b o e).1
 have lim:s.heap.NoLimit:=e0.mod.nolimit.keeps fun b o e=>(e0.bs b o e).1
 have hkind:∀y∈ps.zip us,scope.names.lookup y.1=some .local\/(scope.names.lookup y.1=some .cell/\((cellsFrom (s.heap.objs.size+1) scope.names []).lookup y.1).isSome=true):=fun⟨n,v⟩ hy=>by
  rcases S.par n (List.of_mem_zip hy).1 with q | q
  ·exact .inl q
  ·exact .inr ⟨q,PySem.W.cellsFrom_some _ _ _ (.inl q)⟩
 refine codeAny_call_function hr.depth (KX _ _ lk) rfl S.co S.gen rfl (PySem.W.codeRec_of KX hcd) (hb _ _ _ _ ?_)
 refine wpAny_newFunctionEnv_cells S.kind hkind fun env he s1 x=>?_
 subst he
 refine⟨lim.keeps x.toInCall.keep,codeAny_func ?_⟩
 obtain⟨t,ht,hq⟩:=hbody A outer s H vs Q E (hr.deeper _) hsp
 have I:Inv (Km CX P w K mg base N qual scope f cdv A outer s H E) [] (start N vs) H s1:=OV S hr.hd e0 hl r x
 refine wpAny_mono (ht [] s1 (start N vs) H _ I hq) (fun fl s' hs=>?_) fun e s' hs=>hs
 have fin:∀{σ':St} {H':Hp} {v:V} {u:Value},Inv (Km CX P w K mg base N qual scope f cdv A outer s H E) [] σ' H' s'->RelV v u->Q v H'->CE outer P w H s Q u s' :=
  fun {σ' H' v u} J rv q=>⟨v,H',J.os,J.bare,J.base,J.hok,rv,q⟩
 cases fl with
 | ret u =>
  obtain⟨v,σ',H',J,rv,q⟩:=hs
  exact fin J rv q
 | next =>
  obtain⟨σ',H',J,q⟩:=hs
  exact fin (v:=V.non) (u:=Value.none) J rfl q
 | brk =>
  obtain⟨_,_,_,q⟩:=hs
  exact False.elim q
 | cont =>
  obtain⟨_,_,_,q⟩:=hs
  exact False.elim q
section
variable {X:Cx}{x:Str}{p pos:Pos}{e:Expr}{es:List Expr}{t:TA}{id T:String}{r:List V->Hp->VK->Prop}
def U_(r:List V->Hp->VK->Prop)(t:TA):TE:=fun σ H Q=>t σ H fun vs H1=>r vs H1 Q
theorem Fr(hc:C8 X (.builtin id) r)(hg:Gl X x)(hm:X.mg x=none)(hv:bootBuiltins x=some (.builtin id))(ha:PA X (e::es) t)(hn:x ≠ "__name__":=by decide)(hdb:(x==("__debug__" : Str))=false:=by decide)
  (he:starEach (e::es) X.env=(false,eval e X.env)::starEach es X.env:=by rfl) (hpl:(backTo pos (starEach es X.env)).any (·.1)=false:=by rfl):PE X (.Call (.Name x p) (e::es) [] pos) (U_ r t):=by
 intro pins s σ H Q I h
 refine wpAny_Call_Name_kw (FQ I hg hm hv ?_ hn hdb)
 exact PyProof.Rows.callWith_builtin1 (Bp (ha pos pins s σ H _ I h) fun us s1 ⟨vs,H1,I1,r1,q1⟩=>hc pins s1 σ H1 vs us Q I1 r1 q1) he hpl
theorem JS(hc:C8 X (.type T) r)(hg:Gl X x)(hm:X.mg x=none)(hv:bootBuiltins x=some (.type T))(ha:PA X (e::es) t)(hn:x ≠ "__name__":=by decide)(hdb:(x==("__debug__" : Str))=false:=by decide)
  (he:starEach (e::es) X.env=(false,eval e X.env)::starEach es X.env:=by rfl) (hpl:(backTo pos (starEach es X.env)).any (·.1)=false:=by rfl):PE X (.Call (.Name x p) (e::es) [] pos) (U_ r t):=by
 intro pins s σ H Q I h
 refine wpAny_Call_Name_kw (FQ I hg hm hv ?_ hn hdb)
 exact PyProof.Rows.callWith_type1 (Bp (ha pos pins s σ H _ I h) fun us s1 ⟨vs,H1,I1,r1,q1⟩=>hc pins s1 σ H1 vs us Q I1 r1 q1) he hpl
end
end L2
namespace HT
open PySem PyProof.Rows
section
open PySem.SeqAt
open PySem.AutoSeq1 (wpAny_loadPart')
open PySem.MeetsSeq PySem.MeetsSeq2 PySem.MeetsSeq3
end
section
variable {prog:Program}{w:World}{A:Around}{E:Value->Shared->Prop}{s:Shared}
theorem cat_tup{t b:Addr}{vs ws:List Value}{Q:Value->Shared->Prop}(ht:IsTup s.heap t vs.toArray)(hb:IsTup s.heap b ws.toArray)(hv:vs≠[])
  (h1:ws=[]->Q (.ref t) s) (h2:ws≠[]->Q (.ref s.heap.objs.size) { s with heap:=s.heap.push { cls:=.type "tuple",data:=.seq (vs++ws).toArray } })
  (hsz:vs.length+ws.length<=sizeLine):wpAny (model prog w) A (binaryOp .Add (.ref t) (.ref b)) Q E s:=by
 obtain⟨⟨cls,dd,data,sl⟩,ho,hc,n,hd⟩:=id ht
 obtain⟨⟨cls2,dd2,data2,sl2⟩,ho2,hc2,n2,hd2⟩:=id hb
 simp only at hc hd hc2 hd2
 subst hc hd hc2 hd2
 have e:vs.toArray++ws.toArray=(vs++ws).toArray:=by simp
 by_cases hw:ws=[]
 ·exact concat_meets ⟨_,ho,rfl⟩ ⟨_,ho2,rfl⟩ noFill_tuple_add seq_tuple_add PySem.F.slot_tuple_add PySem.F.entry_tuple_add (PySem.F.args_tuple_add_2 _ _)
   (tuple_addW1 t b vs.toArray ws.toArray n n2 dd dd2 sl sl2 (by simpa using hv) (by simp [hw])) ⟨ho,ho2,h1 hw⟩
 ·refine concat_meets ⟨_,ho,rfl⟩ ⟨_,ho2,rfl⟩ noFill_tuple_add seq_tuple_add PySem.F.slot_tuple_add PySem.F.entry_tuple_add (PySem.F.args_tuple_add_2 _ _)
   (tuple_addW2 t b vs.toArray ws.toArray n n2 dd dd2 sl sl2 (by simpa using hv) (by simpa using hw) (by rw [List.size_toArray,List.size_toArray]; exact hsz)) ⟨ho,ho2,?_⟩
  rw [e]
  exact h2 hw
def sIx(n d:Nat):Option Int->Nat
 | none=>d
 | some v=>if v<0 then (v+(n:Int)).toNat else min v.toNat n
theorem sIx_none(n d:Nat):sIx n d none=d:=rfl
theorem sIx_nat(n d k:Nat):sIx n d (some (k:Int))=min k n:=by
 show (if (k:Int)<0 then ((k:Int)+(n:Int)).toNat else min (k:Int).toNat n)=min k n
 rw [if_neg (by omega),Int.toNat_natCast]
theorem Sf(n d:Nat)(hd:d<=n)(o:Option Int):sIx n d o<=n:=by
 cases o with
 | none=>exact hd
 | some v =>
  show (if v<0 then (v+(n:Int)).toNat else min v.toNat n)<=n
  by_cases hv:v<0
  ·rw [if_pos hv]; omega
  ·rw [if_neg hv]; exact Nat.min_le_right _ _
theorem Nc(v:Int)(n d:Nat):(if v<0 then max (v+(n:Int)) 0 else min v (n:Int))=((sIx n d (some v):Nat):Int):=by
 show (if v<0 then max (v+(n:Int)) 0 else min v (n:Int))=(((if v<0 then (v+(n:Int)).toNat else min v.toNat n):Nat):Int)
 by_cases hv:v<0
 ·simp only [if_pos hv]; omega
 ·simp only [if_neg hv]; omega
theorem Mr(lo hi:Option Int)(n:Nat):Builtin.Slice.sliceAdjust lo hi 1 (n:Int)=(((sIx n 0 lo:Nat):Int),((sIx n n hi:Nat):Int)):=by
 have h1:¬((1:Int)<0):=by omega
 unfold Builtin.Slice.sliceAdjust
 simp only [h1,if_false]
 refine Prod.ext ?_ ?_
 ·cases lo with
  | none=>rfl
  | some v=>exact Nc v n 0
 ·cases hi with
  | none=>rfl
  | some v=>exact Nc v n n
theorem MP(i j:Nat):Builtin.Slice.slicePlaces (i:Int) (j:Int) 1=j - i:=by
 unfold Builtin.Slice.slicePlaces
 have h1:(1:Int) > 0:=by omega
 simp only [h1,if_true,Int.ediv_one]
 split <;> omega
theorem slicePart_{v:Value}{o:Option Int}{Q:Option Int->Shared->Prop}(p:IsPart v o)(h:Q o s):wpAny (model prog w) A (Builtin.Slice.slicePartIndex v) Q E s:=by
 cases p with
 | none=>exact slicePart_none h
 | int i t=>exact slicePart_int h
theorem sliceApplied_gen{sl:Addr}{vl vu:Value}{lo hi:Option Int}{n:Nat}{Q:Int×Int×Nat->Shared->Prop}(hs:s.heap.IsSliceOf sl vl vu .none)(pl:IsPart vl lo)(pu:IsPart vu hi)
  (h:Q (((sIx n 0 lo:Nat):Int),1,sIx n n hi - sIx n 0 lo) s):wpAny (model prog w) A (Builtin.Slice.sliceApplied (.ref sl) (pure (n:Int))) Q E s:=by
 obtain⟨os,hos,hcs,hds⟩:=id hs
 unfold Builtin.Slice.sliceApplied Builtin.Slice.sliceFields
 refine wpAny_bind (wpAny_bind (wpAny_field hos hds (x:=vl) rfl (wpAny_bind (wpAny_field hos hds (x:=vu) rfl (wpAny_bind (wpAny_field hos hds (x:=.none) rfl (wpAny_pure ?_)))))))
 refine wpAny_bind (slicePart_none ?_)
 show wpAny _ _ (if ((1:Int)==0)=true then _ else _) _ _ s
 rw [if_neg (by decide)]
 refine wpAny_bind (slicePart_ pl (wpAny_bind (slicePart_ pu (wpAny_bind (wpAny_pure ?_)))))
 show wpAny _ _ (match Builtin.Slice.sliceAdjust lo hi 1 (n:Int) with | (lo,hi)=>pure (lo,(1:Int),Builtin.Slice.slicePlaces lo hi 1)) _ _ s
 rw [Mr lo hi n]
 show wpAny _ _ (pure (((sIx n 0 lo:Nat):Int),(1:Int),Builtin.Slice.slicePlaces ((sIx n 0 lo:Nat):Int) ((sIx n n hi:Nat):Int) 1)) _ _ s
 rw [MP]
 exact wpAny_pure h
theorem Pg(xs:Array Value)(i k:Nat):((List.range k).filterMap fun(m:Nat)=>xs[((i:Int)+(m:Int)*1).toNat]?).toArray=((xs.toList.drop i).take k).toArray:=by
 have e:(fun(m:Nat)=>xs[((i:Int)+(m:Int)*1).toNat]?)=fun m=>xs[i+m]?:=by
  funext m
  have:((i:Int)+(m:Int)*1).toNat=i+m:=by omega
  rw [this]
 rw [e]
 have:=pick_run xs i k
 rw [List.filterMap_map] at this
 have e2:((fun x=>xs[x]?)∘fun x=>i+x)=fun m=>xs[i+m]?:=rfl
 rw [e2] at this
 rw [this]
theorem getItem_tuple_cut{t sl:Addr}{items:Array Value}{vl vu:Value}{lo hi:Option Int}{Q:Value->Shared->Prop}(ht:IsTup s.heap t items)(hs:s.heap.IsSliceOf sl vl vu .none)(pl:IsPart vl lo)(pu:IsPart vu hi)
  (hw:¬(sIx items.size 0 lo=0/\sIx items.size items.size hi=items.size))
  (h:Q (.ref s.heap.objs.size) { s with heap:=s.heap.push { cls:=.type "tuple",data:=.seq ((items.toList.drop (sIx items.size 0 lo)).take (sIx items.size items.size hi - sIx items.size 0 lo)).toArray } })
  (hsz:items.size<=sizeLine):wpAny (model prog w) A (getItem (.ref t) (.ref sl)) Q E s:=by
 have htake:sizeOk (.seq ((items.toList.drop (sIx items.size 0 lo)).take (sIx items.size items.size hi - sIx items.size 0 lo)).toArray):=by
  show ((items.toList.drop (sIx items.size 0 lo)).take (sIx items.size items.size hi - sIx items.size 0 lo)).toArray.size<=sizeLine
  rw [List.size_toArray,List.length_take,List.length_drop,Array.length_toList]
  omega
 have hj:sIx items.size items.size hi<=items.size:=Sf _ _ (Nat.le_refl _) hi
 obtain⟨os,hos,hcs,hds⟩:=id hs
 have hTs:s.TypeIs (.ref sl) "slice":=⟨os,hos,hcs⟩
 unfold getItem
 try with_reducible refine wpAny_holding ?_
 first | refine wpAny_bind (wpAny_pure ?_) | skip
 refine wpAny_bind (wpAny_sequenceKey ht.typeIs (by decide) ?_)
 refine wpAny_bind (wpAny_callSpecial?_slot (name:=Str.ofString "__getitem__") ht.typeIs PyProof.Rows.slot_tuple_getitem
  (wpAny_call_entry PyProof.Rows.slot_tuple_getitem ht.typeIs entry_tuple_getitem ?_ (args_tuple_getitem _ _)))
 show wpAny _ _ (Builtin.Tuple.tupleItemsOf (.ref t) >>= _) _ _ s
 refine wpAny_bind (tupleItemsOf_ ht ?_)
 refine wpAny_bind (wpAny_typeOf hTs ?_)
 rw [if_pos (by decide)]
 refine wpAny_bind (sliceApplied_gen hs pl pu ?_)
 have hno:¬((((sIx items.size 0 lo:Nat):Int)==0&&(1:Int)==1&&(sIx items.size items.size hi - sIx items.size 0 lo)==items.size)=true):=by
  intro q
  rw [Bool.and_eq_true,Bool.and_eq_true] at q
  have q1:((sIx items.size 0 lo:Nat):Int)=0:=eq_of_beq q.1.1
  have q2:sIx items.size items.size hi - sIx items.size 0 lo=items.size:=eq_of_beq q.2
  exact hw ⟨by omega,by omega⟩
 show wpAny _ _ (if (((sIx items.size 0 lo:Nat):Int)==0&&(1:Int)==1&&(sIx items.size items.size hi - sIx items.size 0 lo)==items.size)=true then _ else _) _ _ s
 rw [if_neg hno,Pg]
 first
  | exact wpAny_bind (m:=Builtin.Tuple.tupleExact _) (wpAny_newObj_type (wpAny_pure ⟨_,rfl,wpAny_pure h⟩) htake)
  | exact wpAny_bind (m:=Builtin.Tuple.tupleExact _) (wpAny_newObj_type (wpAny_bind (wpAny_pure (wpAny_pure ⟨_,rfl,wpAny_pure h⟩))) htake)
  | exact wpAny_bind (wpAny_bind (m:=Builtin.Tuple.tupleExact _) (wpAny_newObj_type (wpAny_pure (wpAny_pure ⟨_,rfl,wpAny_pure h⟩)) htake))
  | exact wpAny_bind (wpAny_bind (m:=Builtin.Tuple.tupleExact _) (wpAny_newObj_type (wpAny_pure ⟨_,rfl,wpAny_pure h⟩) htake))
end
end HT
namespace L2
open PySem PySem.Spec PyProof.Rows
abbrev TO:=St->Hp->(Option Int->Hp->Prop)->Prop
def PO(X:Cx)(e:Option Expr)(t:TO):Prop :=
 ∀(pins:List (Addr×Obj)) (s:Shared) (σ:St) (H:Hp) (Q:Option Int->Hp->Prop),Inv X pins σ H s->t σ H Q ->
  wpAny (model X.prog X.w) X.A (evalPart e X.env) (fun u s'=>∃o H',Inv X pins σ H' s'/\IsPart u o/\Q o H') X.xe s
def Q4:TO:=fun _ H Q=>Q none H
def UD(t:TE):TO:=fun σ H Q=>t σ H fun x H1=>∃i,x=.int i/\Q (some i) H1
section
variable {X:Cx}{e:Expr}{te:TE}{lo hi:Option Expr}{tl th:TO}{pos p2:Pos}
theorem NG:PO X none Q4:=by
 intro pins s σ H Q I h
 rw [evalPart_none]
 exact wpAny_pure ⟨none,H,I,.none,h⟩
theorem NF(h:PE X e te):PO X (some e) (UD te):=by
 intro pins s σ H Q I hw
 rw [evalPart_some]
 refine Bp (h pins s σ H _ I hw) fun u s1 ⟨x,H1,I1,r1,q1⟩=>?_
 obtain⟨i,rfl,q⟩:=q1
 obtain⟨t,rfl⟩:=r1
 exact⟨some i,H1,I1,.int i t,q⟩
def SlR(X:Cx)(r:V->Option Int->Option Int->Hp->VK->Prop):Prop :=
 ∀(pins:List (Addr×Obj)) (s:Shared) (σ:St) (H:Hp) (x:V) (v vl vu:Value) (lo hi:Option Int) (sl:Addr) (Q:VK),Inv X pins σ H s->RelV x v->s.heap.IsSliceOf sl vl vu .none->IsPart vl lo->IsPart vu hi->r x lo hi H Q ->
  ∃T id,typeLookup (.type T) "__getitem__"=pure (some (.builtin id))/\s.TypeIs v T/\wpAny (model X.prog X.w) X.A (getItem v (.ref sl)) (EP X pins σ Q) X.xe s
theorem SlR.or{r r':V->Option Int->Option Int->Hp->VK->Prop}(h:SlR X r)(h':SlR X r'):SlR X (fun x lo hi H Q=>r x lo hi H Q\/r' x lo hi H Q):=by
 intro pins s σ H x v vl vu lo hi sl Q I rx hs pl pu q
 rcases q with q | q
 ·exact h pins s σ H x v vl vu lo hi sl Q I rx hs pl pu q
 ·exact h' pins s σ H x v vl vu lo hi sl Q I rx hs pl pu q
def V9(r:V->Option Int->Option Int->Hp->VK->Prop)(te:TE)(tl th:TO):TE:=fun σ H Q=>te σ H fun x H1=>tl σ H1 fun l H2=>th σ H2 fun u H3=>r x l u H3 Q
theorem LV{r:V->Option Int->Option Int->Hp->VK->Prop}(hr:SlR X r)(he:PE X e te)(hl:PO X lo tl)(hu:PO X hi th):PE X (.Subscript e (.Slice lo hi none p2) pos) (V9 r te tl th):=by
 intro pins s σ H Q I h
 refine Subscript_ (Bp (he pins s σ H _ I h) fun v s1 ⟨x,H1,I1,r1,q1⟩=>?_)
 refine wpAny_Slice (Bp (hl pins s1 σ H1 _ I1 q1) fun vl s2 ⟨l,H2,I2,pl,q2⟩=>Bp (hu pins s2 σ H2 _ I2 q2) fun vu s3 ⟨u,H3,I3,pu,q3⟩=>?_)
 rw [evalPart_none]
 refine wpAny_pure ?_
 have I4:Inv X pins σ H3 { s3 with heap:=s3.heap.push { cls:=.type "slice",data:=.fields #[vl,vu,.none] } }:=I3.kept (t':=s3.toks) fun b ob q=>Heap.get?_push_of_some _ q
 obtain⟨T,id,hT,ht,hg⟩:=hr pins { s3 with heap:=s3.heap.push { cls:=.type "slice",data:=.fields #[vl,vu,.none] } } σ H3 x v vl vu l u s3.heap.objs.size Q I4 r1 (Heap.IsSliceOf.new ..) pl pu q3
 show wpAny (model X.prog X.w) X.A (subscriptTail e (.Slice lo hi none p2) v (.ref s3.heap.objs.size)) (EP X pins σ Q) X.xe { s3 with heap:=s3.heap.push { cls:=.type "slice",data:=.fields #[vl,vu,.none] } }
 exact tail_any (ops:=[.ref s3.heap.objs.size,v]) ht hT hg (by with_unfolding_all rfl)
def Iv(xs:List V)(lo hi:Option Int):List V:=(xs.drop (HT.sIx xs.length 0 lo)).take (HT.sIx xs.length xs.length hi - HT.sIx xs.length 0 lo)
theorem Gz(xs:List V)(lo hi:Option Int):(Iv xs lo hi).length<=xs.length:=by
 unfold Iv
 rw [List.length_take,List.length_drop]
 omega
def UP(K:Frag):V->Option Int->Option Int->Hp->VK->Prop:=fun x lo hi H Q=>∃a xs,x=.ref a/\SqT K H a xs /\
 ¬(HT.sIx xs.length 0 lo=0/\HT.sIx xs.length xs.length hi=xs.length)/\∀p,H p=none->Q (.ref p) (BA H p (.tup (Iv xs lo hi)))
theorem sl_tup:SlR X (UP X.K):=by
 intro pins s σ H x v vl vu lo hi sl Q I rx hs pl pu h
 obtain⟨a,xs,rfl,hx,hw,q⟩:=h
 cases rx
 obtain⟨its,r,ht,hz⟩:=I.tuple hx
 have hlen:its.toArray.size=xs.length:=by rw [List.size_toArray]; exact r.length.symm
 refine⟨"tuple",_,PyProof.Rows.slot_tuple_getitem.lookup,ht.typeIs,?_⟩
 refine HT.getItem_tuple_cut ht hs pl pu (by rw [hlen]; exact hw) ?_ (by rw [hlen]; exact hz)
 rw [hlen]
 refine⟨.ref s.heap.objs.size,_,I.laid (t':=s.toks) (o:=.tup (Iv xs lo hi)) (fun b ob q=>Heap.get?_push_of_some _ q) (Nat.le_refl _) ?_,rfl,q _ (I.hok.fresh (Nat.le_refl _))⟩
 exact⟨Nat.le_trans (Gz xs lo hi) hz,_,(r.drop (HT.sIx xs.length 0 lo)).take (HT.sIx xs.length xs.length hi - HT.sIx xs.length 0 lo),IsTup.new _ _⟩
def PX(K:Frag):R2:=fun x y H Q=>∃a b xs ys,x=.ref a/\y=.ref b/\SqT K H a xs/\SqT K H b ys/\xs≠[]/\xs.length+ys.length<=sizeLine /\
 (ys=[]->Q (.ref a) H)/\(ys≠[]->∀p,H p=none->Q (.ref p) (BA H p (.tup (xs++ys))))
theorem Vals.nil_iff{xs:List V}{us:List Value}(r:Vals xs us):us=[]↔xs=[]:=by
 cases r with
 | nil=>simp
 | cons _ _=>simp
theorem op_catT:OpR X (binaryOp .Add) (PX X.K):=by
 intro pins s σ H x y v u Q I rx ry h
 obtain⟨a,b,xs,ys,rfl,rfl,ha,hb,hx,hz,q1,q2⟩:=h
 cases rx
 cases ry
 obtain⟨its,r1,p1,_⟩:=I.tuple ha
 obtain⟨its2,r2,p2,_⟩:=I.tuple hb
 refine HT.cat_tup p1 p2 (fun z=>hx (r1.nil_iff.mp z)) (fun z=>⟨.ref a,H,I,rfl,q1 (r2.nil_iff.mp z)⟩) (fun z=>?_) (by rw [← r1.length,← r2.length]; exact hz)
 refine⟨.ref s.heap.objs.size,_,I.laid (t':=s.toks) (o:=.tup (xs++ys)) (fun b ob q=>Heap.get?_push_of_some _ q) (Nat.le_refl _) ?_,rfl,q2 (fun w=>z (r2.nil_iff.mpr w)) _ (I.hok.fresh (Nat.le_refl _))⟩
 exact⟨by rw [List.length_append]; exact hz,_,r1.append r2,IsTup.new _ _⟩
end
def RW(n:Nat)(i:Int):Option Nat:=if 0<=i then (if i<n then some i.toNat else none) else if -(n:Int)<=i then some (i+n).toNat else none
def atI{α:Type}(xs:List α)(i:Int):Option α:=(RW xs.length i).bind fun j=>xs[j]?
theorem KU{n:Nat}{i:Int}{j:Nat}(h:RW n i=some j):seqIndex? i n=some j/\j<n/\-(n:Int)<=i/\i<n:=by
 unfold RW at h
 by_cases h0:0<=i
 ·rw [if_pos h0] at h
  by_cases h1:i<n
  ·rw [if_pos h1] at h
   have e:i.toNat=j:=Option.some.inj h
   exact⟨by rw [seqIndex_of h0 h1,e],by omega,by omega,h1⟩
  ·rw [if_neg h1] at h; cases h
 ·rw [if_neg h0] at h
  by_cases h1:-(n:Int)<=i
  ·rw [if_pos h1] at h
   have e:(i+n).toNat=j:=Option.some.inj h
   exact⟨by rw [seqIndex_neg (by omega) h1,e],by omega,h1,by omega⟩
  ·rw [if_neg h1] at h; cases h
theorem K6{α:Type}{xs:List α}{i:Int}{v:α}(h:atI xs i=some v):∃j,seqIndex? i xs.length=some j/\xs[j]?=some v/\j<xs.length/\-(xs.length:Int)<=i/\i<xs.length:=by
 unfold atI at h
 cases e:RW xs.length i with
 | none=>rw [e] at h; cases h
 | some j =>
  rw [e] at h
  obtain⟨h1,h2,h3,h4⟩:=KU e
  exact⟨j,h1,h,h2,h3,h4⟩
theorem AH{α:Type}{xs:List α}{j:Nat}{v:α}(h:xs[j]?=some v):atI xs (j:Int)=some v:=by
 have hj:j<xs.length:=(List.getElem?_eq_some_iff.mp h).1
 have e:RW xs.length (j:Int)=some j:=by
  unfold RW
  rw [if_pos (by omega),if_pos (by omega)]; simp
 unfold atI; rw [e]; exact h
def Nm(b:Expr):Prop:=∀o i,subscripted b false o i=operate [o,i] (getItem o i)
def IxR(X:Cx)(r:R2):Prop :=
 ∀(value slice:Expr) (pins:List (Addr×Obj)) (s:Shared) (σ:St) (H:Hp) (x y:V) (v u:Value) (Q:VK),Inv X pins σ H s->RelV x v->RelV y u->r x y H Q ->
  subscripted slice false v u=operate [v,u] (getItem v u)->wpAny (model X.prog X.w) X.A (subscriptTail value slice v u) (EP X pins σ Q) X.xe s
def Vr(X:Cx)(id:String)(r:V->List V->Hp->VK->Prop):Prop :=
 ∀(pins:List (Addr×Obj)) (s:Shared) (σ:St) (H:Hp) (x:V) (xs:List V) (v:Value) (us:List Value) (Q:VK),Inv X pins σ H s->RelV x v->Vals xs us->r x xs H Q ->
  wpAny (model X.prog X.w) X.A (call (.builtin id) (v::us)) (EP X pins σ Q) X.xe s
section
variable {X:Cx}{a b:Expr}{ta tb:TE}{pos:Pos}
theorem IxR.or{r r':R2}(h:IxR X r)(h':IxR X r'):IxR X (fun x y H Q=>r x y H Q\/r' x y H Q):=by
 intro value slice pins s σ H x y v u Q I rx ry q hs
 rcases q with q | q
 ·exact h value slice pins s σ H x y v u Q I rx ry q hs
 ·exact h' value slice pins s σ H x y v u Q I rx ry q hs
theorem EJ{r:R2}(hr:IxR X r)(ha:PE X a ta)(hb:PE X b tb)(hs:Nm b):PE X (.Subscript a b pos) (Dl r ta tb):=by
 intro pins s σ H Q I h
 exact Subscript_ (Te ha hb I h fun v u s2 x y H2 I2 rx ry q=>hr a b pins s2 σ H2 x y v u Q I2 rx ry q (hs _ _))
def Sk(K:Frag):R2:=fun x y H Q=>∃p xs i v,x=.ref p/\y=.int i/\SqL K H p xs/\atI xs i=some v/\Q v H
def UV(K:Frag):R2:=fun x y H Q=>∃p xs i v,x=.ref p/\y=.int i/\SqT K H p xs/\atI xs i=some v/\Q v H
def UW:R2:=fun x y H Q=>∃z i c,x=.str z/\y=.int i/\z.length<=sizeLine/\atI z.cps.toList i=some c/\Q (.str ⟨#[c]⟩) H
theorem ix_list:IxR X (Sk X.K):=by
 intro value slice pins s σ H x y v u Q I rx ry h hs
 obtain⟨p,xs,i,z,rfl,rfl,hq,he,q⟩:=h
 cases rx
 obtain⟨t,rfl⟩:=ry
 obtain⟨its,r,pl,hz⟩:=I.list hq
 obtain⟨j,h1,h2,h3,h4,h5⟩:=K6 he
 obtain⟨w,ew,rw'⟩:=r.get h2
 have hl:=r.length
 have hn:=GU
 have fin:EP X pins σ Q w s:=⟨z,H,I,rw',q⟩
 by_cases h0:0<=i
 ·have hj:i.toNat=j:=by
   rw [seqIndex_of h0 h5] at h1
   exact Option.some.inj h1
  exact item_listR pl.isList h0 (by omega) (by rw [hj]; simpa using ew) fin hs
 ·have hj:(i+(its.toArray.size:Int)).toNat=j:=by
   rw [seqIndex_neg (by omega) h4] at h1
   rw [List.size_toArray,← hl]
   exact Option.some.inj h1
  exact subscriptTail_builtinR (x:=w) pl.isList.typeIs slot_list_getitem.lookup
   (wpAny_getItem_list_neg (Q:=fun r s'=>r=w/\EP X pins σ Q r s') pl.isList (by omega) (by rw [List.size_toArray] <;> omega) (by omega) (by rw [hj]; simpa using ew) ⟨rfl,fin⟩) hs
theorem ix_tup:IxR X (UV X.K):=by
 intro value slice pins s σ H x y v u Q I rx ry h hs
 obtain⟨p,xs,i,z,rfl,rfl,hq,he,q⟩:=h
 cases rx
 obtain⟨t,rfl⟩:=ry
 obtain⟨its,r,pl,hz⟩:=I.tuple hq
 obtain⟨j,h1,h2,h3,h4,h5⟩:=K6 he
 obtain⟨w,ew,rw'⟩:=r.get h2
 have hl:=r.length
 have hn:=GU
 have fin:EP X pins σ Q w s:=⟨z,H,I,rw',q⟩
 exact subscriptTail_builtinR (x:=w) pl.typeIs slot_tuple_getitem.lookup
  (getItem_tuple (j:=j) (Q:=fun r s'=>r=w/\EP X pins σ Q r s') pl (by omega) (by omega) (by rw [List.size_toArray,← hl]; exact h1) (by simpa using ew) ⟨rfl,fin⟩) hs
theorem TH:IxR X UW:=by
 intro value slice pins s σ H x y v u Q I rx ry h hs
 obtain⟨z,i,c,rfl,rfl,hz,he,q⟩:=h
 obtain⟨t,rfl⟩:=rx
 obtain⟨t',rfl⟩:=ry
 obtain⟨j,h1,h2,h3,h4,h5⟩:=K6 he
 have hl:z.cps.toList.length=z.length:=by simp [Str.length]
 rw [hl] at h1 h4 h5
 have hn:=GU
 exact tail_any (typeIs_str s z t) slot_str_getitem.lookup (getItem_str (c:=c) (by
  have e1:decide (i < -(2 ^ 63:Int))=false:=decide_eq_false (by omega)
  have e2:decide (i≥2 ^ 63)=false:=decide_eq_false (by omega)
  rw [e1,e2,Bool.or_false]) (by rw [h1]; simpa using h2) ⟨.str ⟨#[c]⟩,H,I.tok _,⟨_,rfl⟩,q⟩) hs
def V0(K:Frag):R2:=fun x y H Q=>Sk K x y H Q\/UV K x y H Q\/UW x y H Q
theorem AL:IxR X (V0 X.K):=ix_list.or (ix_tup.or TH)
theorem Md(its:List Value)(n j:Nat)(u:Value):Obj.mapSeq (·.setIfInBounds j u) { cls:=.type "list",data:=.seq its.toArray n }={ cls:=.type "list",data:=.seq (its.set j u).toArray n }:=by
 simp [Obj.mapSeq]
theorem Inv.lst{pins:List (Addr×Obj)}{σ:St}{H:Hp}{s:Shared}{p:Addr}{xs:List V}(I:Inv X pins σ H s)(h:H p=some (.lst xs)) :
  ∃(its:List Value) (n:Nat),Vals xs its/\s.heap.get? p=some { cls:=.type "list",data:=.seq its.toArray n }/\xs.length<=sizeLine:=by
 obtain⟨z,its,n,r,e⟩:=I.hok p _ h
 exact⟨its,n,r,e,z⟩
theorem Inv.lstUpd{pins:List (Addr×Obj)}{σ:St}{H:Hp}{s:Shared}{p:Addr}{xs ys:List V}{its its':List Value}{n n':Nat}{f:Obj->Obj}(I:Inv X pins σ H s)(h:H p=some (.lst xs))
  (ho:s.heap.get? p=some { cls:=.type "list",data:=.seq its.toArray n }) (hf:f { cls:=.type "list",data:=.seq its.toArray n }={ cls:=.type "list",data:=.seq its'.toArray n' }) (r:Vals ys its') (hz:ys.length<=sizeLine) (t:Nat) :
  Inv X pins σ (BA H p (.lst ys)) { s with heap:=s.heap.update p f,toks:=t }:=by
 have e:(s.heap.update p f).get? p=some { cls:=.type "list",data:=.seq its'.toArray n' }:=by
  rw [Heap.get?_update_self f ho (by rw [hf] <;> rfl),hf]
 refine I.write (x:=p) (e:=p) (by rw [h]; trivial) (.inl rfl) (fun b u hb q=>(Heap.get?_update_other _ _ (Ne.symm hb)).trans q) ⟨_,e⟩ ?_
 exact⟨hz,its',n',r,e⟩
def R0:V->V->V->Hp->(Hp->Prop)->Prop:=fun o i v H Q=>∃p xs k j,o=.ref p/\i=.int k/\H p=some (.lst xs)/\RW xs.length k=some j/\Q (BA H p (.lst (xs.set j v)))
theorem HY:U0 X R0:=by
 intro pins s σ H o i v ov iv u Q I ro ri rv h
 obtain⟨p,xs,k,j,rfl,rfl,hp,hj,q⟩:=h
 cases ro
 obtain⟨t,rfl⟩:=ri
 obtain⟨its,n,r,ho,hz⟩:=I.lst hp
 obtain⟨h1,h2,h3,h4⟩:=KU hj
 have hl:=r.length
 have hn:=GU
 have I':Inv X pins σ (BA H p (.lst (xs.set j v))) { s with heap:=s.heap.update p (Obj.mapSeq (·.setIfInBounds j u)) } :=
  I.lstUpd hp ho (Md its n j u) (r.set rv j) (by rw [List.length_set]; exact hz) s.toks
 by_cases h0:0<=k
 ·have hk:k.toNat=j:=by
   rw [seqIndex_of h0 h4] at h1
   exact Option.some.inj h1
  exact PySem.W.ki_setAt ho h0 (by omega) (by rw [List.size_toArray,← hl]; exact h4) (by rw [hk]; exact⟨_,I',q⟩)
 ·have hk:(k+(its.toArray.size:Int)).toNat=j:=by
   rw [seqIndex_neg (by omega) h3] at h1
   rw [List.size_toArray,← hl]
   exact Option.some.inj h1
  exact PySem.W.ki_setBack ho (by omega) (by rw [List.size_toArray,← hl]; exact h3) (by omega) (by rw [hk]; exact⟨_,I',q⟩)
theorem J4(lo hi:Option Int)(n:Nat):(sliceBounds lo hi none n).1=((HT.sIx n 0 lo:Nat):Int)/\(sliceBounds lo hi none n).2.1=((HT.sIx n n hi:Nat):Int)/\(sliceBounds lo hi none n).2.2=1:=by
 refine⟨?_,?_,rfl⟩
 ·cases lo with
  | none=>simp [sliceBounds,HT.sIx]
  | some i =>
   simp only [sliceBounds,HT.sIx,Option.getD_none,show (1:Int) > 0 by decide,if_true]
   by_cases h:i<0
   ·simp only [h,if_true] <;> omega
   ·simp only [h,if_false] <;> omega
 ·cases hi with
  | none=>simp [sliceBounds,HT.sIx]
  | some i =>
   simp only [sliceBounds,HT.sIx,Option.getD_none,show (1:Int) > 0 by decide,if_true]
   by_cases h:i<0
   ·simp only [h,if_true] <;> omega
   ·simp only [h,if_false] <;> omega
theorem Ic(its:List Value)(lo hi:Option Int):slicePick its.toArray lo hi none=((its.drop (HT.sIx its.length 0 lo)).take (HT.sIx its.length its.length hi - HT.sIx its.length 0 lo)).toArray:=by
 obtain⟨h1,h2,h3⟩:=J4 lo hi its.toArray.size
 unfold slicePick
 rw [h1,h2,h3]
 simp only [sliceRange_one,pick_run,List.size_toArray] <;> rfl
def UQ(K:Frag):V->Option Int->Option Int->Hp->VK->Prop:=fun x lo hi H Q=>∃a xs,x=.ref a/\SqL K H a xs/\∀p,H p=none->Q (.ref p) (BA H p (.lst (Iv xs lo hi)))
theorem sl_list:SlR X (UQ X.K):=by
 intro pins s σ H x v vl vu lo hi sl Q I rx hs pl pu h
 obtain⟨a,xs,rfl,hx,q⟩:=h
 cases rx
 obtain⟨its,r,ht,hz⟩:=I.list hx
 have hlen:=r.length
 refine⟨"list",_,slot_list_getitem.lookup,ht.isList.typeIs,?_⟩
 refine wpAny_getItem_list_slice ht.isList hs pl pu .none (by simp) ?_ (by rw [List.size_toArray] <;> omega)
 rw [Ic,← hlen]
 refine⟨.ref s.heap.objs.size,_,I.laid (t':=s.toks) (o:=.lst (Iv xs lo hi)) (fun b ob q=>Heap.get?_push_of_some _ q) (Nat.le_refl _) ?_,rfl,q _ (I.hok.fresh (Nat.le_refl _))⟩
 exact⟨Nat.le_trans (Gz xs lo hi) hz,_,0,(r.drop (HT.sIx xs.length 0 lo)).take (HT.sIx xs.length xs.length hi - HT.sIx xs.length 0 lo),Heap.get?_push_size _ rfl⟩
def SF:V->Bool
 | .non=>true
 | .bl _=>true
 | .int _=>true
 | .str _=>true
 | _=>false
def Uq:V->V->Bool
 | .non,.non=>true
 | .bl a,.bl b=>a==b
 | .bl a,.int b=>(if a then 1 else 0)==b
 | .int a,.bl b=>a==(if b then 1 else 0)
 | .int a,.int b=>a==b
 | .str a,.str b=>a==b
 | _,_=>false
theorem Kg{A:Around}{s:Shared}{y x:V}{u v:Value}(ry:RelV y u)(rx:RelV x v)(fy:SF y=true)(fx:SF x=true):SeqAt.EqAt A s u v (Uq y x):=by
 cases y with
 | non =>
  cases ry
  cases x with
  | non=>cases rx; exact SeqAt.EqAt.same _
  | bl b=>cases rx; exact SeqAt.EqAt.none_bool b
  | int b=>obtain⟨t,rfl⟩:=rx; exact SeqAt.EqAt.none_int b t
  | str b=>obtain⟨t,rfl⟩:=rx; exact SeqAt.EqAt.none_str b t
  | _=>exact absurd (show false=true from fx) Bool.false_ne_true
 | bl a =>
  cases ry
  cases x with
  | non=>cases rx; exact SeqAt.EqAt.bool_none a
  | bl b=>cases rx; exact SeqAt.EqAt.bool_bool a b
  | int b=>obtain⟨t,rfl⟩:=rx; exact SeqAt.EqAt.bool_int a b t
  | str b=>obtain⟨t,rfl⟩:=rx; exact SeqAt.EqAt.bool_str a b t
  | _=>exact absurd (show false=true from fx) Bool.false_ne_true
 | int a =>
  obtain⟨t',rfl⟩:=ry
  cases x with
  | non=>cases rx; exact SeqAt.EqAt.int_none a t'
  | bl b=>cases rx; exact SeqAt.EqAt.int_bool a t' b
  | int b=>obtain⟨t,rfl⟩:=rx; exact SeqAt.EqAt.int_int a t' b t
  | str b=>obtain⟨t,rfl⟩:=rx; exact SeqAt.EqAt.int_str a t' b t
  | _=>exact absurd (show false=true from fx) Bool.false_ne_true
 | str a =>
  obtain⟨t',rfl⟩:=ry
  cases x with
  | non=>cases rx; exact SeqAt.EqAt.str_none a t'
  | bl b=>cases rx; exact SeqAt.EqAt.str_bool a t' b
  | int b=>obtain⟨t,rfl⟩:=rx; exact SeqAt.EqAt.str_int a t' b t
  | str b=>obtain⟨t,rfl⟩:=rx; exact SeqAt.EqAt.str_str a t' b t
  | _=>exact absurd (show false=true from fx) Bool.false_ne_true
 | _=>exact absurd (show false=true from fy) Bool.false_ne_true
theorem Cc:C8 X (.type "list") (fun xs H Q=>∃p ys,xs=[.ref p]/\(SqL X.K H p ys\/SqT X.K H p ys)/\∀l,H l=none->Q (.ref l) (BA H l (.lst ys))):=by
 intro pins s σ H xs us Q I r h
 obtain⟨p,ys,rfl,hq,q⟩:=h
 obtain⟨u,rfl,rx⟩:=Fc r
 cases rx
 have fin:∀(its:List Value),Vals ys its->ys.length<=sizeLine->∀(h':Heap) (c':Nat),(∀b o',s.heap.get? b=some o'->h'.get? b=some o') ->
   h'.get? s.heap.objs.size=some { cls:=.type "list",dict:=none,data:=.seq its.toArray c',slots:=#[] }->EP X pins σ Q (.ref s.heap.objs.size) { s with heap:=h' }:=fun its r' hz h' c' kp e =>
  ⟨.ref s.heap.objs.size,_,I.laid (t':=s.toks) kp (Nat.le_refl _) (show ObjOk X.prog X.w _ h' _ (.lst ys) from⟨hz,its,c',r',e⟩),rfl,q _ (I.hok.fresh (Nat.le_refl _))⟩
 rcases hq with hq | hq
 ·obtain⟨its,r',pl,hz⟩:=I.list hq
  have hlen:=r'.length
  obtain⟨o,ho,hc,n,hd⟩:=pl.isList
  exact call_list_seq p (.inl rfl) ho hc hd (fun h' c' kp e=>fin its r' hz h' c' kp e) (by simp only [List.size_toArray] <;> omega)
 ·obtain⟨its,r',pl,hz⟩:=I.tuple hq
  have hlen:=r'.length
  obtain⟨o,ho,hc,n,hd⟩:=pl
  exact call_list_seq p (.inr rfl) ho hc hd (fun h' c' kp e=>fin its r' hz h' c' kp e) (by simp only [List.size_toArray] <;> omega)
theorem BD:C8 X (.type "tuple") (fun xs H Q=>∃p ys,xs=[.ref p]/\((SqL X.K H p ys/\∀l,H l=none->Q (.ref l) (BA H l (.tup ys)))\/(SqT X.K H p ys/\Q (.ref p) H))):=by
 intro pins s σ H xs us Q I r h
 obtain⟨p,ys,rfl,h⟩:=h
 obtain⟨u,rfl,rx⟩:=Fc r
 cases rx
 rcases h with ⟨hq,q⟩ | ⟨hq,q⟩
 ·obtain⟨its,r',pl,hz⟩:=I.list hq
  have hlen:=r'.length
  refine call_tuple_list pl.isList (fun h' kp=>?_) (by simp only [List.size_toArray] <;> omega)
  have I1:Inv X pins σ H { s with heap:=h' }:=I.kept (t':=s.toks) kp
  have I2:Inv X pins σ (BA H h'.objs.size (.tup ys)) { s with heap:=h'.push { cls:=.type "tuple",data:=.seq its.toArray } } :=
   I1.laid (t':=s.toks) (fun b o e=>Heap.get?_push_of_some _ e) (Nat.le_refl _) (show ObjOk X.prog X.w _ _ _ (.tup ys) from⟨hz,its,r',IsTup.new _ _⟩)
  exact⟨.ref h'.objs.size,_,I2,rfl,q _ (I1.hok.fresh (Nat.le_refl _))⟩
 ·obtain⟨its,r',pl,hz⟩:=I.tuple hq
  exact call_tuple_same pl ⟨.ref p,H,I,rfl,q⟩
def VM(K:Frag)(T:String)(x:V)(H:Hp):Prop:=match x with
 | .str _=>T = "str"
 | .int _=>T = "int"
 | .ref p=>(T = "list"/\∃xs,SqL K H p xs)\/(T = "tuple"/\∃o,K.lookup p=some o/\o.cls=.type "tuple"/\o.dict=none) \/
   (T = "dict"/\((∃kvs,H p=some (.dK kvs))\/∃kvs,H p=some (.dT kvs)))\/(T = "set"/\∃S n,H p=some (.set S n))
 | _=>False
theorem SW{pins:List (Addr×Obj)}{σ:St}{H:Hp}{s:Shared}{T:String}{x:V}{v:Value}(I:Inv X pins σ H s)(r:RelV x v)(ty:VM X.K T x H) :
  s.TypeIs v T/\∀a,v=.ref a->∃ob,s.heap.get? a=some ob/\ob.dict=none:=by
 cases x with
 | str z =>
  obtain⟨t,rfl⟩:=r
  cases (show T = "str" from ty)
  exact⟨typeIs_str s z t,fun _ e=>nomatch e⟩
 | int i =>
  obtain⟨t,rfl⟩:=r
  cases (show T = "int" from ty)
  exact⟨typeIs_int s i t,fun _ e=>nomatch e⟩
 | ref p =>
  cases r
  rcases ty with ⟨rfl,xs,hq⟩ | ⟨rfl,o,hk,hc,hd⟩ | ⟨rfl,hk⟩ | ⟨rfl,S,n,hk⟩
  ·obtain⟨its,_,pl,_⟩:=I.list hq
   refine⟨pl.isList.typeIs,fun a e=>?_⟩
   cases e
   obtain⟨o,n,e,c,hd,_⟩:=pl
   exact⟨o,e,hd⟩
  ·refine⟨⟨o,I.kIn p o hk,hc⟩,fun a e=>?_⟩
   cases e
   exact⟨o,I.kIn _ o hk,hd⟩
  ·have z:∃o,s.heap.get? p=some o/\o.ExactDict:=by
    rcases hk with ⟨kvs,hk⟩ | ⟨kvs,hk⟩
    ·obtain⟨_,_,_,_,o,_,_,e,ex,_⟩:=I.hok p _ hk
     exact⟨o,e,ex⟩
    ·obtain⟨_,_,_,_,o,_,_,e,ex,_⟩:=I.hok p _ hk
     exact⟨o,e,ex⟩
   obtain⟨o,e,ex⟩:=z
   refine⟨⟨o,e,ex.1⟩,fun a e2=>?_⟩
   cases e2
   exact⟨o,e,ex.2.1⟩
  ·obtain⟨o,_,_,_,e,ex,_⟩:=I.hok p _ hk
   refine⟨⟨o,e,ex.1⟩,fun a e2=>?_⟩
   cases e2
   exact⟨o,e,ex.2.1⟩
 | _=>exact False.elim ty
def WB(K:Frag)(T:String)(r:V->List V->Hp->VK->Prop)(to:TE)(t:TA):TE:=fun σ H Q=>to σ H fun x H1=>VM K T x H1/\t σ H1 fun xs H2=>r x xs H2 Q
variable {o e:Expr}{es:List Expr}{to:TE}{t:TA}{name:Str}{apos cpos:Pos}{T id:String}{r:V->List V->Hp->VK->Prop}
theorem SC(pa:PlainAttrs T)(slot:Slot T name id)(hty:typeOf (.builtin id)=pure (.type "method_descriptor"))(hm:Vr X id r)(ho:PE X o to)(ha:PA X (e::es) t)
  (hbase:attributeBase o name X.env (eval o X.env)=eval o X.env:=by rfl)
  (hfew:((backTo cpos (starEach (e::es) X.env)).all (fun x=>!x.1)&&(backToKw cpos (keywordEach [] X.env)).all (fun x=>x.1.isSome)
   && decide ((e::es).length+([]:List Keyword).length+(if ([]:List Keyword).isEmpty then 0 else 1)<30))=true:=by rfl)
  (hline:(apos.endLine==cpos.line)=true:=by rfl) (hs:starEach (e::es) X.env=(false,eval e X.env)::starEach es X.env:=by rfl) (hplain:(backTo cpos (starEach es X.env)).any (·.1)=false:=by rfl) :
  PE X (.Call (.Attribute o name apos) (e::es) [] cpos) (WB X.K T r to t):=by
 intro pins s σ H Q I h
 refine wpAny_Call_method_late hbase hfew hline rfl (Bp (ho pins s σ H _ I h) fun v s1 ⟨x,H1,I1,r1,ty,q1⟩=>?_)
 obtain⟨h1,h2⟩:=SW I1 r1 ty
 refine⟨T,id,pa,slot,hty,h1,h2,?_⟩
 have hA:=ha cpos pins s1 σ H1 _ I1 q1
 rw [hs] at hA ⊢
 refine Calls.callWith_builtin (by show (false||(backTo cpos (starEach es X.env)).any (·.1))=false; rw [hplain] <;> rfl) (Calls.evalArgs_plain ?_)
 exact Bp hA fun us s2 ⟨vs,H2,I2,r2,q2⟩=>hm pins s2 σ H2 x vs v us Q I2 r1 r2 q2
end
def Vs(X:Cx)(id:String)(r:V->List V->Hp->VK->Prop):Prop :=
 ∀(pins:List (Addr×Obj)) (s:Shared) (σ:St) (H:Hp) (x:V) (xs:List V) (v:Value) (us:List Value) (Q:VK),Inv X pins σ H s->RelV x v->Vals xs us->r x xs H Q ->
  wpAny (model X.prog X.w) X.A (call (.builtin id) (v::us)) (EP X pins σ Q) X.xe s
theorem Vals.one:∀{x:V} {us:List Value},Vals [x] us->∃u,us=[u]/\RelV x u
 | _,_,.cons r .nil=>⟨_,rfl,r⟩
theorem Vals.eraseIdx:∀{xs:List V} {us:List Value} (i:Nat),Vals xs us->Vals (xs.eraseIdx i) (us.eraseIdx i)
 | _,_,_,.nil=>.nil
 | _,_,0,.cons _ t=>t
 | _,_,i+1,.cons r t=>.cons r (Vals.eraseIdx i t)
theorem Vals.reverse{xs:List V}{us:List Value}(h:Vals xs us):Vals xs.reverse us.reverse:=by
 induction h with
 | nil=>exact .nil
 | cons r t ih=>rw [List.reverse_cons,List.reverse_cons]; exact Vals.append ih (.cons r .nil)
theorem GV{α:Type}:∀(l:List α) (i:Nat),(l.eraseIdx i).length<=l.length
 | [],_=>Nat.le_refl _
 | _::_,0=>Nat.le_succ _
 | _::r,i+1=>Nat.succ_le_succ (GV r i)
section
variable {X:Cx}{pins:List (Addr×Obj)}{σ:St}{H:Hp}{s:Shared}{l b:Addr}{xs ys zs:List V}
theorem Inv.lset{its its':List Value}{n:Nat}{f:Array Value->Array Value}{t':Nat}(I:Inv X pins σ H s)(hH:H l=some (.lst xs))
  (e:s.heap.get? l=some { cls:=.type "list",data:=.seq its.toArray n }) (hf:f its.toArray=its'.toArray) (hv:Vals ys its') (hz:ys.length<=sizeLine) :
  Inv X pins σ (BA H l (.lst ys)) { s with heap:=s.heap.update l (Obj.mapSeq f),toks:=t' }:=by
 have q:=PySem.IsL.update e f
 rw [hf] at q
 refine I.write (x:=l) (e:=l) (by rw [hH]; exact trivial) (.inl rfl) (fun b' u hb hu=>(Heap.get?_update_other s.heap (Obj.mapSeq f) (Ne.symm hb)).trans hu) ⟨_,q⟩ ?_
 exact⟨hz,its',_,hv,q⟩
theorem Inv.lnew{its:List Value}{t':Nat}(I:Inv X pins σ H s)(hv:Vals ys its)(hz:ys.length<=sizeLine) :
  Inv X pins σ (BA H s.heap.objs.size (.lst ys)) { s with heap:=s.heap.push { cls:=.type "list",data:=.seq its.toArray },toks:=t' } :=
 I.laid (fun _ _ q=>Heap.get?_push_of_some _ q) (Nat.le_refl _) ⟨hz,its,0,hv,Heap.get?_push_size _ rfl⟩
theorem Inv.fresh(I:Inv X pins σ H s):H s.heap.objs.size=none:=I.hok.fresh (Nat.le_refl _)
theorem Inv.lstM(I:Inv X pins σ H s)(hH:H l=some (.lst xs)):xs.length<=sizeLine/\∃(its:List Value) (n:Nat),Vals xs its/\xs.length=its.length/\s.heap.get? l=some { cls:=.type "list",data:=.seq its.toArray n }:=by
 obtain⟨z,its,n,r,e⟩:=I.hok l _ hH
 exact⟨z,its,n,r,r.length,e⟩
theorem Pp{n:Nat}(h:n<=sizeLine):Builtin.List.listTooLong n=false:=by
 unfold Builtin.List.listTooLong
 exact decide_eq_false (by omega)
end
section
variable {X:Cx}
def NB:V->List V->Hp->VK->Prop:=fun x vs H Q=>∃l xs y,x=.ref l/\vs=[y]/\H l=some (.lst xs)/\xs.length<sizeLine/\Q .non (BA H l (.lst (xs++[y])))
theorem BL:Vs X "list.append" NB:=by
 intro pins s σ H x vs v us Q I rx rv h
 obtain⟨l,xs,y,rfl,rfl,hH,hz,q⟩:=h
 cases rx
 obtain⟨u,rfl,ru⟩:=rv.one
 obtain⟨z,its,n,r,hl,e⟩:=I.lstM hH
 refine call_meets F.slot_list_append ⟨_,e,rfl⟩ F.entry_list_append (F.args_list_append_2 _ _) (PySem.list_append l its.toArray n u (by rw [List.size_toArray]; omega)) ⟨e,?_⟩
 refine⟨.non,_,I.lset (its':=its++[u]) hH e (by simp) (r.append (.cons ru .nil)) ?_,rfl,q⟩
 rw [List.length_append,List.length_singleton]
 omega
def NA:V->List V->Hp->VK->Prop:=fun x vs H Q=>∃l b xs zs,x=.ref l/\vs=[.ref b]/\H l=some (.lst xs)/\H b=some (.lst zs)/\xs.length+zs.length<=sizeLine/\Q .non (BA H l (.lst (xs++zs)))
theorem OI:Vs X "list.extend" NA:=by
 intro pins s σ H x vs v us Q I rx rv h
 obtain⟨l,b,xs,zs,rfl,rfl,hH,hB,hz,q⟩:=h
 cases rx
 obtain⟨u,rfl,ru⟩:=rv.one
 cases ru
 obtain⟨z,its,n,r,hl,e⟩:=I.lstM hH
 obtain⟨z2,its2,n2,r2,hl2,e2⟩:=I.lstM hB
 have hsz:its.toArray.size+its2.toArray.size<=sizeLine:=by rw [List.size_toArray,List.size_toArray]; omega
 have hlong:¬(!its.toArray.isEmpty&&Builtin.List.listTooLong (its.toArray.size+its2.toArray.size))=true:=by
  rw [Pp hsz,Bool.and_false]
  exact Bool.false_ne_true
 refine call_meets F.slot_list_extend ⟨_,e,rfl⟩ F.entry_list_extend (F.args_list_extend_2 _ _)
  (AutoSeq1.list_extend_list_list_0 l its.toArray n b its2.toArray n2 hlong (by rw [List.size_toArray]; omega) (by omega)) ⟨e,e2,?_⟩
 refine⟨.non,_,I.lset (its':=its++its2) hH e (by simp) (r.append r2) ?_,rfl,q⟩
 rw [List.length_append]
 omega
def Si:V->List V->Hp->VK->Prop:=fun x vs H Q=>∃l xs i k y,x=.ref l/\vs=[.int i]/\H l=some (.lst xs)/\-(2 ^ 63)<=i/\i<2 ^ 63/\seqIndex? i xs.length=some k/\xs[k]?=some y/\Q y (BA H l (.lst (xs.eraseIdx k)))
theorem Pq:Vs X "list.pop" Si:=by
 intro pins s σ H x vs v us Q I rx rv h
 obtain⟨l,xs,i,k,y,rfl,rfl,hH,h1,h2,hk,hy,q⟩:=h
 cases rx
 obtain⟨u,rfl,ru⟩:=rv.one
 obtain⟨t,rfl⟩:=ru
 obtain⟨z,its,n,r,hl,e⟩:=I.lstM hH
 obtain⟨w,hw,rw'⟩:=r.get hy
 refine call_meets F.slot_list_pop ⟨_,e,rfl⟩ F.entry_list_pop (F.args_list_pop_2 _ _)
  (MeetsSeq.list_pop_at l its.toArray n i t k w (fitsIndex_both h1 h2) (by rw [List.size_toArray,← hl]; exact hk) (by rw [← Array.getElem?_toList]; exact hw) (by rw [List.size_toArray]; omega)) ⟨e,?_⟩
 refine⟨y,_,I.lset (its':=its.eraseIdx k) hH e ?_ (r.eraseIdx k) ?_,rw',q⟩
 ·show its.toArray.eraseIdxIfInBounds k=(its.eraseIdx k).toArray
  rw [List.eraseIdxIfInBounds_toArray]
 ·have:=GV xs k
  omega
end
section
variable {prog:Program}{w:World}{A:Around}{E:Value->Shared->Prop}{s:Shared}
end
section
variable {X:Cx}
end
end L2
namespace Att
open PySem PySem.W PySem.Calls PyProof.Rows
theorem G7{P:Params}{h:Heap}:∀(ns:List Int) (vs:List Value),WellAll P h vs (ns.map WData.int)->IntsAre vs ns:=by
 intro ns
 induction ns with
 | nil =>
  intro vs w
  rw [List.map_nil] at w
  cases w
  exact .nil
 | cons n ns ih =>
  intro vs w
  rw [List.map_cons] at w
  cases w with
  | cons a b =>
   cases a
   exact .cons _ _ (ih _ b)
theorem N4{l:OpenLaw}{n:Nat}(hn:l.most=some n){P:Params}{h:Heap}{args:List WData}{vals:List Value}
  (hpre:l.row.toRowW.claim.pre args=true) (hwl:WellAll P h vals args) :
  ∃a vs ns,vals=[Value.ref a]/\args=[WData.list (ns.map WData.int)]/\h.get? a=some { cls:=.type "list",data:=.seq vs.toArray }/\IntsAre vs ns/\ns.length<=n:=by
 have hsh:WShape.hasAll [] args [.list .int]=true:=(pre_splitW hpre).1
 have hc:l.pre.holds [] { args:=args }=true:=(pre_splitW hpre).2
 obtain⟨d,r,rfl,h1,h2⟩:=hasAllW_cons hsh
 obtain rfl:=hasAllW_nil h2
 obtain⟨xs,rfl,h3⟩:=hasW_list h1
 obtain⟨ns,rfl⟩:=items_int h3
 have hlen:ns.length<=n:=by
  unfold OpenLaw.pre at hc
  have h4:(WTm.not (.lt (.lit (.int (n:Int))) (.len (.arg 0)))).holds [] { args:=[.list (ns.map .int)] }=true:=by
   have h4:=(holds_andW hc).1
   rw [hn] at h4
   exact h4
  have h5:=condW_of h4 (w_not (w_lt w_lit (w_len_list (w_arg rfl))))
  rw [List.length_map] at h5
  refine Nat.le_of_not_lt fun q=>?_
  have q':(n:Int)<((ns.length:Nat):Int):=by omega
  first
   | (rw [decide_eq_true q'] at h5; exact absurd h5 (by decide))
   | (simp at h5; omega)
 cases hwl with
 | cons w1 w2 =>
  cases w2
  cases w1 with
  | list ho hall=>exact⟨_,_,ns,rfl,rfl,ho,G7 ns _ hall,hlen⟩
theorem N7(l:OpenLaw)(args:List WData):l.row.toRowW.claim.post args (.bool true) args=true :=
 postW_of (r:=l.row.toRowW) (X:=(true==true))
  (show WShape.has [] (.bool true) .bool=true by first | rfl | decide | simp [WShape.has,WShape.arms,WShape.armsAll])
  (show (WTm.eq .res (.lit (.bool true))).value [] { args:=args,res:=some (.bool true),after:=args }=some (.bool (true==true)) from w_eq_bool (w_res rfl) w_lit) rfl
theorem attach_call{l:OpenLaw}{n:Nat}{q:Program}{loose:List Str}{XP:(Str->Option Value)->Heap->Prop}{YP:World->Heap->Prop}{d:DefRec}
  (hn:l.most=some n) (hdf:d.params.defaults=[])
  (call:∀(w:World) (s₀ s₁:Shared) (mg mb:Str->Option Value) (fa:Addr) (o:Obj) (pm cd doc:Value) (a:Addr) (vs:List Value) (ns:List Int),
   Ground q loose [] XP w s₀ mg mb s₁.heap->YP w s₁.heap ->
   s₁.heap.get? fa=some o->o.data=.func (docDef d.name d.params d.body d.scope pm cd doc)->s₁.heap.CodeRec cd d.name->mg d.name=some (.ref fa) ->
   s₁.heap.get? a=some { cls:=.type "list",data:=.seq vs.toArray }->IntsAre vs ns->ns.length<=n->s₁.gens=#[] ->
   codeAny (model l.prog w) callerA (.call (.ref fa) ⟨[.ref a],[]⟩) (fun r s'=>r=.ok (.ret (.bool true))/\OldK s₁.heap s'.heap/\s'.os=s₁.os/\AllBare s'.gens) s₁) :
  WalkO q loose XP YP l.row.toRowW d [] (fun f vs=>PySem.call f vs):=by
 intro w s₀ s₁ mg mb G Y fa o pm cd doc dV kV ho hd hcd hD hmg hg args vals as hpre hlay hrd hwl hlo
 obtain rfl:dV=.none:=Dflts.none hD hdf
 obtain rfl:kV=.none:=Dflts.noKw hD
 obtain⟨a,vs,ns,rfl,rfl,hobj,hints,hlen⟩:=N4 hn hpre hwl
 refine enter_call (codeAny_mono (call w s₀ s₁ mg mb fa o pm cd doc a vs ns G Y ho (fd_plain hd) hcd hmg hobj hints hlen hg) fun r s' hq=>?_)
 obtain⟨rfl,h2,h3,h4⟩:=hq
 exact⟨.inl ⟨.bool true,.bool true,[],rfl,fun _=>rfl,.bool true,N7 l _,fun _=>⟨List.Pairwise.nil,fun _ hm=>(nomatch hm)⟩⟩,h2,h3,h4⟩
section
variable {prog:Program}{w:World}{A:Around}{E:Value->Shared->Prop}{s:Shared}{K:Frag}
end
end Att
namespace L2
open PySem PySem.Spec PyProof.Rows
theorem JD:∀{vs:List Value} {ns:List Int},IntsAre vs ns->Vals (ns.map V.int) vs
 | _,_,.nil=>.nil
 | _,_,.cons n t h=>.cons ⟨t,rfl⟩ (JD h)
def Tr(H:Hp):Prop:=∀b,H b=none\/∃o xs,H b=some (.frz o (.lst xs))
theorem Px{P:Program}{w:World}{K:Frag}{mg mb:Str->Option Value}{CX:Qu}{k:Nat}{fa a:Addr}{fd:FuncData}{x:Str}{sp:Sp}{s₁:Shared}{vs:List Value}{ns:List Int}
  (KX:K.In s₁.heap) (hns:s₁.heap.Ns mainGlobals mg) (hb:s₁.heap.Ns builtinsNs mb) (hbb:∀x:Str,x ≠ "__name__"->mb x=bootBuiltins x) (hlim:s₁.heap.NoLimit) (hg:s₁.gens=#[])
  (ha:s₁.heap.get? a=some { cls:=.type "list",data:=.seq vs.toArray }) (hi:IntsAre vs ns) (hl:ns.length<=sizeLine) (hr:Room k callerA)
  (F:∀base:Heap,K.In base->base.Ns mainGlobals mg->Bq P w K mg base CX k fa fd [x] sp) (hbind:∀(s:Shared) (u:Value),BindsTo s fd ⟨[u],[]⟩ [(x,u)])
  (hsp:∀H:Hp,Tr H->SqL K H a (ns.map V.int)->sp [.ref a] H (fun v _=>v=.bl true) fun _ _ _=>False)
  (hCX:∀H e s',CX [] H s₁ (fun _ _ _=>False) e s'->False) :
  codeAny (model P w) callerA (.call (.ref fa) ⟨[.ref a],[]⟩) (fun r s'=>r=.ok (.ret (.bool true))/\OldK s₁.heap s'.heap/\s'.os=s₁.os/\AllBare s'.gens) s₁:=by
 have rv:=JD hi
 have lenV:=hi.length
 have core:∀H:Hp,Tr H->SqL K H a (ns.map V.int)->HOk P w H s₁.heap->(∀b,H b≠none->b=a)->(H a≠none->K.lookup a=none) ->
   codeAny (model P w) callerA (.call (.ref fa) ⟨[.ref a],[]⟩) (fun r s'=>r=.ok (.ret (.bool true))/\OldK s₁.heap s'.heap/\s'.os=s₁.os/\AllBare s'.gens) s₁:=by
  intro H hO hS hok hA hK
  have base_of:∀{b:Addr} {o:Obj},s₁.heap.get? b=some o->H b=none->(KY s₁.heap H).get? b=some o:=fun e n=>P9 e n
  have noA:∀{b:Addr} {o:Obj} {es:Array DictEntry} {ep:Nat},s₁.heap.get? b=some o->o.data=.dict es ep->H b=none:=fun {b o es ep} e d=>by
   cases q:H b with
   | none=>rfl
   | some u =>
    have e':b=a:=hA b (by rw [q]; simp)
    subst e'
    rw [ha] at e; cases e
    have d':Data.seq vs.toArray _=Data.dict es ep:=d
    cases d'
  have nsK:∀{b:Addr} {m:Str->Option Value},s₁.heap.Ns b m->(KY s₁.heap H).Ns b m:=fun {b m} ⟨o,es,ep,e,d,r⟩=>⟨o,es,ep,base_of e (noA e d),d,r⟩
  have hKb:K.In (KY s₁.heap H):=fun b o e=>base_of (KX b o e) (by
   cases q:H b with
   | none=>rfl
   | some u =>
    have e':b=a:=hA b (by rw [q]; simp)
    subst e'
    rw [hK (by rw [q]; simp)] at e; cases e)
  have hM:Mod K mg (KY s₁.heap H):=⟨hKb,nsK hns,⟨mb,nsK hb,hbb⟩,let ⟨mc,h1,h2⟩:=hlim; ⟨mc,nsK h1,h2⟩⟩
  have e0:Rt P w K mg (KY s₁.heap H) callerA [] s₁ H:=⟨rfl,hM,fun b o e=>RO e,Nat.le_of_eq (OW _ _),trivial,fun b hb=>absurd (show b∈([]:List Addr) from hb) (by simp),hok,.of_eq hg⟩
  refine codeAny_mono ((F _ hKb (nsK hns)).run callerA [] s₁ H ⟨[.ref a],[]⟩ [.ref a] [.ref a] _ _ hr e0 (hbind s₁ (.ref a)) (.cons rfl .nil) (hsp H hO hS)) fun r s' h=>?_
  cases r with
  | error e=>exact(hCX H e s' h).elim
  | ok fl =>
   cases fl with
   | next=>exact False.elim h
   | brk=>exact False.elim h
   | cont=>exact False.elim h
   | ret u =>
    obtain⟨v,H',os,bare,un,hok',r',q⟩:=h
    have q':v=.bl true:=q
    subst q'
    obtain rfl:u=Value.bool true:=r'
    refine⟨rfl,OldK.of_keep fun b o e=>?_,os,bare⟩
    cases q:H b with
    | none=>exact un.keep b o e q (by intro z; exact absurd (show b∈([]:List Addr) from z) (by simp)) (by simp)
    | some u =>
     rcases hO b with z | ⟨ob,xs,z⟩
     ·rw [q] at z; cases z
     ·have z2:=un.frzs b ob _ z
      obtain⟨e1,_⟩:=hok b _ z
      obtain⟨e2,_⟩:=hok' b _ z2
      rw [e] at e1; cases e1
      exact e2
 cases hk:K.lookup a with
 | some o =>
  have e:=KX a o hk
  rw [ha] at e
  cases e
  refine core (fun _=>none) (fun _=>.inl rfl) (.inr ⟨_,vs.toArray,_,hk,rfl,rfl,rfl,by rw [List.size_toArray,lenV]; exact hl,by simpa using rv⟩) (fun b u z=>by have z':(none:Option HO)=some u:=z; cases z') (fun b z=>absurd rfl z) fun z=>absurd rfl z
 | none =>
  refine core (fun b=>if b=a then some (.frz { cls:=.type "list",data:=.seq vs.toArray } (.lst (ns.map V.int))) else none) (fun b=>?_) (.inl (.inr ⟨{ cls:=.type "list",data:=.seq vs.toArray },if_pos rfl⟩)) (fun b u z=>?_) (fun b z=>?_) fun _=>hk
  ·by_cases hb:b=a
   ·exact .inr ⟨_,_,if_pos hb⟩
   ·exact .inl (if_neg hb)
  ·by_cases hb:b=a
   ·have z':=(if_pos hb).symm.trans z
    cases z'
    subst hb
    exact⟨ha,by rw [List.length_map]; exact hl,vs,_,rv,ha⟩
   ·have z':=(if_neg hb).symm.trans z
    cases z'
  ·by_cases hb:b=a
   ·exact hb
   ·exact absurd (if_neg hb) z
theorem Mu{l:PySem.W.OpenLaw}{n k:Nat}{q:Program}{loose:List Str}{XP:(Str->Option Value)->Heap->Prop}{YP:World->Heap->Prop}{d:DefRec}{K:Params->Frag}{CX:World->Qu}{sp:World->Sp}{x:Str}
  (hn:l.most=some n) (hn2:n<=sizeLine) (hdf:d.params.defaults=[]) (hr:Room k callerA)
  (hY:∀(w:World) (h:Heap),YP w h->(K w.params).In h)
  (F:∀(w:World) (mg:Str->Option Value) (fa:Addr) (h:Heap),(K w.params).In h->h.Ns mainGlobals mg->mg d.name=some (.ref fa) ->
   ∃fd:FuncData,(∀(s:Shared) (u:Value),BindsTo s fd ⟨[u],[]⟩ [(x,u)]) /\
    ∀base:Heap,(K w.params).In base->base.Ns mainGlobals mg->Bq l.prog w (K w.params) mg base (CX w) k fa fd [x] (sp w))
  (hsp:∀(w:World) (H:Hp) (a:Addr) (ns:List Int),ns.length<=n->Tr H->SqL (K w.params) H a (ns.map V.int)->sp w [.ref a] H (fun v _=>v=.bl true) fun _ _ _=>False)
  (hCX:∀(w:World) (H:Hp) (s:Shared) (e:Value) (s':Shared),CX w [] H s (fun _ _ _=>False) e s'->False) :
  PySem.W.WalkO q loose XP YP l.row.toRowW d [] (fun f vs=>PySem.call f vs):=by
 refine Att.attach_call hn hdf fun w s₀ s₁ mg mb fa o pm cd doc a vs ns G Y ho hd hcd hmg hobj hints hlen hg=>?_
 have KX:=hY w _ Y
 obtain⟨fd,hb,hF⟩:=F w mg fa _ KX G.T.g hmg
 exact Px KX G.T.g G.T.b G.T.builtins G.T.nolimit hg hobj hints (Nat.le_trans hlen hn2) hr hF hb (fun H hO hS=>hsp w H a ns hlen hO hS) fun H e s'=>hCX w H s₁ e s'
end L2
/- THE LAST THEOREM (shape; LID, My.* are yours):
   My.Adr: a structure of the addresses that your layer names (classes, functions); My.Txt K t: a structure (Prop) of the equations over K;
   My.txt_mk : {K} {implicit addresses ..} (e1 : nsIn K mainGlobals "law" = some (some (.ref f))) (e2 : K.lookup f = some ⟨oc, od, .func (fnOf "law" "law" params body scope dV kV doc pm an cdv ct), sl⟩) (e3 : codeIn K cdv "law" = true) .. : ∃ t, My.Txt K t
set_option maxRecDepth 100000 in
set_option maxHeartbeats 0 in
theorem PySem.Challenge.cw_LID_holds : PySem.Challenge.rw_LID.Holds := by
 w_on; o_law; k_head; (case hw=>w_witness2)
 k_fill
 refine L2.Mu (l:=PySem.Challenge.rw_LID) (n:=63) (k:=40) (x := "script") (CX:=fun w=>..) (sp:=fun _=>My.sp_law) rfl (by decide) rfl ⟨rfl,by decide,by decide⟩ (fun w h Y=>PySem.W.kIn_of Y) ?F ?S ?C
 case F =>
  intro w mg fa h KX G hmg
  have T:∃t,My.Txt (L2.KOf KX) t:=by
   dsimp only [L2.KOf]                          -- K must stand as «<heap const> w.params» for k_is
   refine' My.txt_mk ?e1 ?e2 ?e3 ..
   (case e1=>PySem.W.k_is)                    -- in the order: a name -> its address -> its object -> its parts
   (case e2=>PySem.W.k_is)
   ..
  obtain⟨t,T⟩:=T
  have e0:=hmg.symm.trans (mg_of KX G T.law)
  cases e0                                       -- fa is the law's own address
  exact⟨_,fun s u=>.of_eq rfl,fun base kb nb=>My.law_fn T kb nb⟩     -- if «.of_eq rfl» comes too early: refine' ⟨_,?b,fun base kb nb=>My.law_fn T kb nb⟩; exact fun s u=>.of_eq rfl
 case S=>exact fun w H a ns hl hO hS=>..
 case C=>exact ..
(the tactic k_is has no namespace: write k_is) -/
namespace L2
open PySem PySem.Spec PyProof.Rows
def Aq(s:Stmt):Arguments:=match s with
 | .FunctionDef _ a _ _ _ _ _ _ _ _=>a
 | _=>{ posonlyargs:=[],args:=[],vararg:=none,kwonlyargs:=[],kw_defaults:=[],kwarg:=none,defaults:=[] }
def Ao(s:Stmt):List Stmt:=match s with
 | .FunctionDef _ _ b _ _ _ _ _ _ _=>b
 | _=>[]
def AI(s:Stmt):Scope:=match s with
 | .FunctionDef _ _ _ _ _ _ sc _ _ _=>sc
 | _=>{ kind:=.function,names:=[],isGenerator:=false,isCoroutine:=false }
abbrev Dy:Qu:=fun _ _ _ _ _ _=>False
abbrev E0:XK:=fun _ _ _=>False
theorem SD{X:Cx}:Ms Dy X E0:=fun _ _ _ _ _ _ _ h=>h.elim
structure Fun (K:Frag) (x qual:Str) (st:Stmt) (f:Addr) (fd:FuncData):Prop where
 ex:∃(oc:Value) (od:Option Addr) (kV doc pm:Value) (an:Option Addr) (cdv ct:Value) (osl:Array (Option Value)),
  fd=fnOf x qual (Aq st) (Ao st) (AI st) .none kV doc pm an cdv ct/\K.lookup f=some ⟨oc,od,.func fd,osl⟩/\codeIn K cdv qual=true
 kp:keepIn K (.ref f)=true
section
variable {P:Program}{w:World}{K:Frag}{mg:Str->Option Value}{base:Heap}
theorem Fun.ok{x qual:Str}{st:Stmt}{f:Addr}{fd:FuncData}{N ps:List Str}{k:Nat}{sp:Sp}(F:Fun K x qual st f fd)(S:Ar N ps (AI st))(len:∀vs H Q E,sp vs H Q E->vs.length=ps.length)
  (hbody:∀(cdv:Value) (A:Around) (outer:List Env) (s:Shared) (H:Hp) (vs:List V) (Q:VK) (E:XK),Room k (A.deeper (envOfC qual (AI st) s.heap.objs.size f cdv))->sp vs H Q E ->
   ∃t,PSs (Km Dy P w K mg base N qual (AI st) f cdv A outer s H E).nox (Ao st) t/\t { nx:=fun _ H'=>Q .non H',rt:=Q } (start N vs) H):Bq P w K mg base Dy (k+1) f fd ps sp:=by
 obtain⟨oc,od,kV,doc,pm,an,cdv,ct,osl,rfl,lk,hcd⟩:=F.ex
 refine Uk lk hcd S len fun A outer s H vs Q E hr hsp=>?_
 obtain⟨t,h,q⟩:=hbody cdv A outer s H vs Q E hr hsp
 exact⟨t,h.nox,q⟩
theorem Fun.binds{x qual:Str}{st:Stmt}{f:Addr}{fd:FuncData}{ps:List Str}(F:Fun K x qual st f fd)
  (h:∀(kV doc pm:Value) (an:Option Addr) (cdv ct:Value) (us:List Value),us.length=ps.length->bindArgs (fnOf x qual (Aq st) (Ao st) (AI st) .none kV doc pm an cdv ct) ⟨us,[]⟩=pure (ps.zip us)):Binds K fd ps []:=by
 obtain⟨oc,od,kV,doc,pm,an,cdv,ct,osl,rfl,lk,hcd⟩:=F.ex
 exact .all (h kV doc pm an cdv ct)
theorem BH{x qual:Str}{st:Stmt}{f:Addr}{oc:Value}{od an:Option Addr}{osl:Array (Option Value)}{kV doc pm cdv ct:Value}(l:K.lookup f=some ⟨oc,od,.func (fnOf x qual (Aq st) (Ao st) (AI st) .none kV doc pm an cdv ct),osl⟩)
  (c:codeIn K cdv qual=true) (k:keepIn K (.ref f)=true):Fun K x qual st f (fnOf x qual (Aq st) (Ao st) (AI st) .none kV doc pm an cdv ct):=⟨⟨oc,od,kV,doc,pm,an,cdv,ct,osl,rfl,l,c⟩,k⟩
end
theorem Jg{A:Around}{k:Nat}(hr:Room k A):A.units+1<cLine:=Nat.lt_of_le_of_lt (Nat.add_le_add_left (by decide:1<=64) _) hr.units
section
variable {X:Cx}
theorem pv(i:Nat){x:Str}{pos:Pos}(hN:X.N[i]?=some x:=by rfl)(hv:Tz X.env.scope x:=by first | exact Or.inl rfl | exact Or.inr (Or.inl rfl) | exact Or.inr (Or.inr rfl))(hd:(x==("__debug__" : Str))=false:=by decide)
  (hcd:(x==("__classdict__" : Str))=false:=by decide):PE X (.Name x pos) (CB i):=KI hN hv hd hcd
end
theorem E5{A B:Prop}(h:B):if false=true then A else B:=by
 rw [if_neg Bool.false_ne_true]
 exact h
theorem Ef{A B:Prop}(h:A):if true=true then A else B:=by
 rw [if_pos rfl]
 exact h
theorem CY{c A B:Prop}[Decidable c](h1:c->A)(h2:¬c->B):if c then A else B:=by
 by_cases h:c
 ·rw [if_pos h]
  exact h1 h
 ·rw [if_neg h]
  exact h2 h
section
variable {κ:Type}[DecidableEq κ]
def C9(kvs:List (κ×V))(k:κ):Option V:=(kvs.find? fun kv=>decide (kv.1=k)).map (·.2)
def DL(kvs:List (κ×V))(k:κ)(v:V):List (κ×V) :=
 if (kvs.any fun kv=>decide (kv.1=k))=true then kvs.map (fun kv=>if kv.1=k then (kv.1,v) else kv) else kvs++[(k,v)]
theorem ER{p:κ×V}{r:List (κ×V)}{k:κ}(e:p.1=k):C9 (p::r) k=some p.2:=by simp [C9,List.find?_cons,e]
theorem ES{p:κ×V}{r:List (κ×V)}{k:κ}(e:¬p.1=k):C9 (p::r) k=C9 r k:=by simp [C9,List.find?_cons,e]
theorem LF(k:κ):∀kvs:List (κ×V),(kvs.any fun kv=>decide (kv.1=k))=(C9 kvs k).isSome
 | []=>rfl
 | p::r=>by
  rw [List.any_cons]
  by_cases e:p.1=k
  ·simp only [ER e,decide_eq_true e,Bool.true_or,Option.isSome_some]
  ·rw [ES e,decide_eq_false e,Bool.false_or]; exact LF k r
theorem Eb(kvs:List (κ×V))(k:κ)(v:V):(DL kvs k v).length<=kvs.length+1:=by
 unfold DL
 split
 ·rw [List.length_map]; omega
 ·rw [List.length_append,List.length_cons,List.length_nil]; omega
theorem RelO.isSome_eq{o:Option V}{u:Option Value}(r:RelO o u):o.isSome=u.isSome:=by
 cases o with
 | none=>cases u with
  | none=>rfl
  | some _=>exact(show False from r).elim
 | some _=>cases u with
  | none=>exact(show False from r).elim
  | some _=>rfl
theorem RelO.getD{o:Option V}{u:Option Value}{d:V}{d':Value}(r:RelO o u)(rd:RelV d d'):RelV (o.getD d) (u.getD d'):=by
 cases o with
 | none=>cases u with
  | none=>exact rd
  | some _=>exact(show False from r).elim
 | some _=>cases u with
  | none=>exact(show False from r).elim
  | some _=>exact r
theorem KV.val{kvs:List (κ×V)}{vs:List (κ×Value)}(r:KV kvs vs)(k:κ):RelO (C9 kvs k) (valueAt vs k):=by
 unfold KV at r
 induction r with
 | nil=>exact True.intro
 | @cons p q ps qs h t ih =>
  obtain⟨h1,h2⟩:=h
  by_cases e:p.1=k
  ·have e':q.1=k:=h1.symm.trans e
   have b:valueAt (q::qs) k=some q.2:=by simp [valueAt,List.find?_cons,e']
   rw [ER e,b]; exact h2
  ·have e':¬q.1=k:=fun z=>e (h1.trans z)
   have b:valueAt (q::qs) k=valueAt qs k:=by simp [valueAt,List.find?_cons,e']
   rw [ES e,b]; exact ih
theorem KV.any{kvs:List (κ×V)}{vs:List (κ×Value)}(r:KV kvs vs)(k:κ):(kvs.any fun kv=>decide (kv.1=k))=vs.any fun kv=>decide (kv.1=k):=by
 unfold KV at r
 induction r with
 | nil=>rfl
 | cons h t ih=>rw [List.any_cons,List.any_cons,ih,h.1]
theorem KV.repl{kvs:List (κ×V)}{vs:List (κ×Value)}(r:KV kvs vs)(k:κ){y:V}{u:Value}(ry:RelV y u) :
  KV (kvs.map fun kv=>if kv.1=k then (kv.1,y) else kv) (vs.map fun kv=>if kv.1=k then (kv.1,u) else kv):=by
 unfold KV at r ⊢
 induction r with
 | nil=>exact .nil
 | @cons p q ps qs h t ih =>
  rw [List.map_cons,List.map_cons]
  refine .cons ?_ ih
  obtain⟨h1,h2⟩:=h
  by_cases e:p.1=k
  ·rw [if_pos e,if_pos (h1.symm.trans e)]; exact⟨h1,ry⟩
  ·rw [if_neg e,if_neg (fun z=>e (h1.trans z))]; exact⟨h1,h2⟩
theorem KV.put{kvs:List (κ×V)}{vs:List (κ×Value)}(r:KV kvs vs)(k:κ){y:V}{u:Value}(ry:RelV y u):KV (DL kvs k y) (stored vs k u):=by
 unfold DL stored
 rw [r.any k]
 by_cases e:(vs.any fun kv=>decide (kv.1=k))=true
 ·rw [if_pos e,if_pos e]; exact r.repl k ry
 ·rw [if_neg e,if_neg e]; exact Paired.snoc r ⟨rfl,ry⟩
theorem KV.length{kvs:List (κ×V)}{vs:List (κ×Value)}(r:KV kvs vs):kvs.length=vs.length:=Paired.length r
end
theorem IB{P:Program}{w:World}{k:AY}{u:Value}(r:RelV (kV k) u):(A5 P w).is k u=true:=by
 cases k with
 | inl i=>obtain⟨t,e⟩:=(show ∃t,u=Value.int i t from r); subst e; exact Lg P w i t
 | inr x=>obtain⟨t,e⟩:=(show ∃t,u=Value.str x t from r); subst e; exact Lf P w x t
theorem Jf{P:Program}{w:World}:∀{ks:List AY} {us:List Value},Vals (ks.map kV) us->ItemsAre (A5 P w) ks us
 | [],_,r=>by rw [List.map_nil] at r; cases r; exact .nil
 | k::ks,_,r=>by
  rw [List.map_cons] at r
  cases r with
  | cons h t=>exact .cons (IB h) (Jf t)
abbrev KT(H:Hp):List (List AY×V)->List (List AY×Addr×Value)->Prop:=Paired fun p q=>p.1=q.1/\H q.2.1=some (.tup (p.1.map kV))/\RelV p.2 q.2.2
theorem KT.val{H:Hp}{kvs:List (List AY×V)}{xs:List (List AY×Addr×Value)}(r:KT H kvs xs)(k:List AY):RelO (C9 kvs k) ((atKey xs k).map (·.2)):=by
 induction r with
 | nil=>exact True.intro
 | @cons p q ps qs h t ih =>
  obtain⟨h1,_,h2⟩:=h
  by_cases e:p.1=k
  ·have e':q.1=k:=h1.symm.trans e
   have b:atKey (q::qs) k=some q.2:=by simp [atKey,List.find?_cons,e']
   rw [ER e,b]; exact h2
  ·have e':¬q.1=k:=fun z=>e (h1.trans z)
   have b:atKey (q::qs) k=atKey qs k:=by simp [atKey,List.find?_cons,e']
   rw [ES e,b]; exact ih
theorem KT.repl{H:Hp}{kvs:List (List AY×V)}{xs:List (List AY×Addr×Value)}(r:KT H kvs xs)(k:List AY){y:V}{u:Value}(ry:RelV y u) :
  KT H (kvs.map fun kv=>if kv.1=k then (kv.1,y) else kv) (xs.map (putAt k u)):=by
 induction r with
 | nil=>exact .nil
 | @cons p q ps qs h t ih =>
  rw [List.map_cons,List.map_cons]
  refine .cons ?_ ih
  obtain⟨h1,h2,h3⟩:=h
  unfold putAt
  by_cases e:p.1=k
  ·rw [if_pos e,if_pos (h1.symm.trans e)]; exact⟨h1,h2,ry⟩
  ·rw [if_neg e,if_neg (fun z=>e (h1.trans z))]; exact⟨h1,h2,h3⟩
theorem KT.put{H:Hp}{kvs:List (List AY×V)}{xs:List (List AY×Addr×Value)}(r:KT H kvs xs)(k:List AY){b:Addr}{y:V}{u:Value}(hb:H b=some (.tup (k.map kV)))(ry:RelV y u) :
  KT H (DL kvs k y) (storedH xs k b u):=by
 have e:(kvs.any fun kv=>decide (kv.1=k))=(atKey xs k).isSome:=by
  rw [LF,(r.val k).isSome_eq,Option.isSome_map]
 unfold DL storedH
 rw [e]
 by_cases q:(atKey xs k).isSome=true
 ·rw [if_pos q,if_pos q]; exact r.repl k ry
 ·rw [if_neg q,if_neg q]; exact Paired.snoc r ⟨rfl,hb,ry⟩
theorem KT.keeps{H H':Hp}{kvs:List (List AY×V)}{xs:List (List AY×Addr×Value)}(r:KT H kvs xs)(ht:∀b ys,H b=some (.tup ys)->H' b=some (.tup ys)):KT H' kvs xs :=
 Paired.mapP r fun _ _ z=>⟨z.1,ht _ _ z.2.1,z.2.2⟩
section
variable {P:Program}{w:World}{H:Hp}{h:Heap}{a:Addr}
theorem Rx{u:HO}(ok:HOk P w H h)(e:Rd H a u):ObjOk P w H h a u:=e.ok ok
theorem FF{kvs:List (AY×V)}(ok:HOk P w H h)(e:Rd H a (.dK kvs)):kvs.length<=sizeLine/\(a==sysModules)=false/\∃vs,KV kvs vs/\h.DictOf (A5 P w) a vs :=
 show ObjOk P w H h a (.dK kvs) from Rx ok e
theorem SJ{kvs:List (AY×V)}(ok:HOk P w H h)(e:H a=some (.dK kvs)):kvs.length<=sizeLine/\(a==sysModules)=false/\∃vs,KV kvs vs/\h.DictOf (A5 P w) a vs:=FF ok (.inl e)
theorem GZ{ks:List AY}(ok:HOk P w H h)(e:H a=some (.tup (ks.map kV))):(tupleKind (A5 P w)).is h ks a:=by
 obtain⟨_,its,r,o,h1,h2,n,h3⟩:=(show ObjOk P w H h a (.tup (ks.map kV)) from ok a _ e)
 exact⟨o,its.toArray,n,h1,h2,h3,by simpa using Jf r⟩
theorem IL{kvs:List (List AY×V)}(ok:HOk P w H h)(e:Rd H a (.dT kvs)):kvs.length<=sizeLine/\(a==sysModules)=false /\
  ∃xs,KT H kvs xs/\h.DictOfH (tupleKind (A5 P w)) a xs:=by
 obtain⟨z,y,xs,r,o,es,ep,h1,h2,h3,h4,h5⟩:=(show ObjOk P w H h a (.dT kvs) from Rx ok e)
 refine⟨z,y,xs,r,o,es,ep,h1,h2,h3,h4,fun x hx=>?_,h5⟩
 have all:∀{l:List (List AY×V)} {m:List (List AY×Addr×Value)},KT H l m->∀x∈m,(tupleKind (A5 P w)).is h x.1 x.2.1:=by
  intro l m q
  induction q with
  | nil=>intro x hx; exact nomatch hx
  | @cons p q ps qs hq t ih =>
   intro x hx
   rcases List.mem_cons.mp hx with e | hx
   ·subst e
    exact GZ ok (by rw [← hq.1]; exact hq.2.1)
   ·exact ih x hx
 exact all r x hx
theorem Us{kvs:List (List AY×V)}(ok:HOk P w H h)(e:H a=some (.dT kvs)):kvs.length<=sizeLine/\(a==sysModules)=false /\
  ∃xs,KT H kvs xs/\h.DictOfH (tupleKind (A5 P w)) a xs:=IL ok (.inl e)
end
def DGet(H:Hp)(a:Addr)(y:V)(r:Option V):Prop :=
 (∃kvs k,Rd H a (.dK kvs)/\y=kV k/\r=C9 kvs k)\/∃kvs k b,Rd H a (.dT kvs)/\y=.ref b/\H b=some (.tup (k.map kV))/\r=C9 kvs k
def DPut(H:Hp)(a:Addr)(y v:V)(H':Hp):Prop :=
 (∃kvs k,H a=some (.dK kvs)/\y=kV k/\kvs.length<sizeLine/\H'=BA H a (.dK (DL kvs k v))) \/
 ∃kvs k b,H a=some (.dT kvs)/\y=.ref b/\H b=some (.tup (k.map kV))/\kvs.length<sizeLine/\H'=BA H a (.dT (DL kvs k v))
theorem DGet.k{H:Hp}{a:Addr}{kvs:List (AY×V)}{k:AY}(e:H a=some (.dK kvs)):DGet H a (kV k) (C9 kvs k):=.inl ⟨kvs,k,.inl e,rfl,rfl⟩
theorem DPut.k{H:Hp}{a:Addr}{kvs:List (AY×V)}{k:AY}{v:V}(e:H a=some (.dK kvs))(hl:kvs.length<sizeLine):DPut H a (kV k) v (BA H a (.dK (DL kvs k v))):=.inl ⟨kvs,k,e,rfl,hl,rfl⟩
section
variable {X:Cx}{pins:List (Addr×Obj)}{σ:St}{H:Hp}{s:Shared}{a:Addr}{y v:V}{u r:Value}{o:Option V}{A:Around}{E:Value->Shared->Prop}
theorem Inv.big(I:Inv X pins σ H s):sysModules<s.heap.objs.size:=by
 have h:mainGlobals<s.heap.objs.size:=(I.mod.glob.keeps I.bk).lt
 exact Nat.lt_trans (by decide) h
theorem Oa{Q:Value->Shared->Prop}(hu:A.units+1<cLine)(I:Inv X pins σ H s)(g:DGet H a y (some v))(ry:RelV y u)(h:∀w' s',Inv X pins σ H s'->RelV v w'->Q w' s') :
  wpAny (model X.prog X.w) A (getItem (.ref a) u) Q E s:=by
 rcases g with ⟨kvs,k,e,ey,l⟩ | ⟨kvs,k,b,e,ey,eb,l⟩
 ·subst ey
  obtain⟨z,hd,vs,rel,dd⟩:=FF I.hok e
  obtain⟨w',hw,rw'⟩:=RelO.some_of (v:=v) (o:=valueAt vs k) (by rw [l]; exact rel.val k)
  exact wpAny_getItem_of (IB ry) dd.mapOf hw (h w' _ (I.tok _) rw')
 ·subst ey
  cases (show u=Value.ref b from ry)
  obtain⟨z,hd,xs,rel,dd⟩:=IL I.hok e
  obtain⟨w',hw,rw'⟩:=RelO.some_of (v:=v) (o:=(atKey xs k).map (·.2)) (by rw [l]; exact rel.val k)
  obtain⟨p,hp,hp2⟩:=Option.map_eq_some_iff.mp hw
  refine wpAny_getItem_heap (tupleKind_room_in1 hu) (GZ I.hok eb) dd hp ?_
  rw [hp2]
  exact h w' _ (I.tok _) rw'
theorem Vm{Q:Value->Shared->Prop}(hu:A.units+1<cLine)(I:Inv X pins σ H s)(g:DGet H a y o)(ry:RelV y u)(h:∀s',Inv X pins σ H s'->Q (.bool o.isSome) s') :
  wpAny (model X.prog X.w) A (compareOp .In u (.ref a)) Q E s:=by
 rcases g with ⟨kvs,k,e,ey,l⟩ | ⟨kvs,k,b,e,ey,eb,l⟩
 ·subst ey
  obtain⟨z,hd,vs,rel,dd⟩:=FF I.hok e
  refine wpAny_in_of (IB ry) hd dd.mapOf ?_
  rw [← (rel.val k).isSome_eq,← l]
  exact h _ (I.tok _)
 ·subst ey
  cases (show u=Value.ref b from ry)
  obtain⟨z,hd,xs,rel,dd⟩:=IL I.hok e
  refine wpAny_in_heap (tupleKind_room_in1 hu) (GZ I.hok eb) hd dd ?_
  have q:=(rel.val k).isSome_eq
  rw [Option.isSome_map] at q
  rw [← q,← l]
  exact h _ (I.tok _)
theorem Rl{Q:Value->Shared->Prop}(hu:A.units+1<cLine)(I:Inv X pins σ H s)(g:DGet H a y o)(ry:RelV y u)(h:∀s',Inv X pins σ H s'->Q (.bool (!o.isSome)) s') :
  wpAny (model X.prog X.w) A (compareOp .NotIn u (.ref a)) Q E s:=by
 rcases g with ⟨kvs,k,e,ey,l⟩ | ⟨kvs,k,b,e,ey,eb,l⟩
 ·subst ey
  obtain⟨z,hd,vs,rel,dd⟩:=FF I.hok e
  refine wpAny_notIn_of (IB ry) hd dd.mapOf ?_
  rw [← (rel.val k).isSome_eq,← l]
  exact h _ (I.tok _)
 ·subst ey
  cases (show u=Value.ref b from ry)
  obtain⟨z,hd,xs,rel,dd⟩:=IL I.hok e
  refine wpAny_notIn_heap (tupleKind_room_in1 hu) (GZ I.hok eb) hd dd ?_
  have q:=(rel.val k).isSome_eq
  rw [Option.isSome_map] at q
  rw [← q,← l]
  exact h _ (I.tok _)
theorem Kl{h':Heap}{t':Nat}{ob:HO}(I:Inv X pins σ H s)(mu:U4 (H a))(hs:Heap.SameBut a s.heap h')(he:∃q,h'.get? a=some q)(new:ObjOk X.prog X.w (BA H a ob) h' a ob) :
  Inv X pins σ (BA H a ob) { s with heap:=h',toks:=t' } :=
 I.write (x:=a) (e:=a) mu (.inl rfl) (fun b q hb z=>(hs.2 b hb).trans z) he new
theorem QO{P:Program}{w:World}{H':Hp}{h':Heap}{kvs:List (AY×V)}{vs:List (AY×Value)}(z:kvs.length<=sizeLine)(hd:(a==sysModules)=false)(rel:KV kvs vs)(dd:h'.DictOf (A5 P w) a vs) :
  ObjOk P w H' h' a (.dK kvs):=⟨z,hd,vs,rel,dd⟩
theorem OZ{H':Hp}{Q:Unit->Shared->Prop}(hu:A.units+1<cLine)(I:Inv X pins σ H s)(g:DPut H a y v H')(ry:RelV y u)(rv:RelV v r)(h:∀s',Inv X pins σ H' s'->Q () s') :
  wpAny (model X.prog X.w) A (setItem (.ref a) u r) Q E s:=by
 rcases g with ⟨kvs,k,e,ey,l,eH⟩ | ⟨kvs,k,b,e,ey,eb,l,eH⟩
 ·subst ey eH
  obtain⟨z,hd,vs,rel,dd⟩:=SJ I.hok e
  have hz:vs.length<=sizeLine:=by rw [← rel.length]; exact z
  have hl:(DL kvs k v).length<=sizeLine:=by have:=Eb kvs k v; omega
  refine wpAny_setItem_pairs (hsz:=hz) (IB ry) dd fun h' dd' hs=>h _ ?_
  have he:∃q,h'.get? a=some q:=let ⟨q,_,_,hq,_⟩:=dd'; ⟨q,hq⟩
  exact Kl I (by rw [e]; exact True.intro) hs he (QO hl hd (rel.put k rv) dd')
 ·subst ey eH
  cases (show u=Value.ref b from ry)
  obtain⟨z,hd,xs,rel,dd⟩:=Us I.hok e
  have hz:xs.length<=sizeLine:=by rw [← Paired.length rel]; exact z
  have hl:(DL kvs k v).length<=sizeLine:=by have:=Eb kvs k v; omega
  refine wpAny_setItem_heap (hsz:=hz) (tupleKind_room_in1 hu) (GZ I.hok eb) dd fun h' dd' hs=>h _ ?_
  obtain⟨q,es,ep,hq,h2,h3,h4,_,h5⟩:=dd'
  refine Kl I (by rw [e]; exact True.intro) hs ⟨q,hq⟩ ⟨hl,hd,_,(rel.put k eb rv).keeps fun c ys ec=>?_,q,es,ep,hq,h2,h3,h4,h5⟩
  rw [AU (Uf ec e (fun z=>nomatch z))]
  exact ec
end
section
variable {X:Cx}{pins:List (Addr×Obj)}{σ:St}{H:Hp}{s:Shared}{a:Addr}{kvs:List (AY×V)}{k:AY}{u:Value}{A:Around}{E:Value->Shared->Prop}
theorem Ut{Q:Value->Shared->Prop}(I:Inv X pins σ H s)(e:Rd H a (.dK kvs))(h:∀t s',Inv X pins σ H s'->Q (.int kvs.length t) s'):wpAny (model X.prog X.w) A (call (.builtin "len") [.ref a]) Q E s:=by
 obtain⟨z,hd,vs,rel,dd⟩:=FF I.hok e
 refine call_len_dict hd dd (by rw [← rel.length]; rw [sizeLine_eq] at z; omega) ?_
 rw [← rel.length]
 exact h _ _ (I.tok _)
end
def Ts(i:Expr):Prop:=∀ov iv,subscripted i false ov iv=operate [ov,iv] (getItem ov iv)
theorem Q7{prog:Program}{w:World}{A:Around}{E:Value->Shared->Prop}{s:Shared}{env:Env}{value slice:Expr}{pos:Pos}{T id:String}{Q:Value->Shared->Prop}
  (hl:typeLookup (.type T) "__getitem__"=pure (some (.builtin id))) (hs:Ts slice)
  (h:wpAny (model prog w) A (eval value env) (fun o s₁=>wpAny (model prog w) A (eval slice env) (fun i s₂=>s₂.TypeIs o T/\wpAny (model prog w) A (getItem o i) Q E s₂) E s₁) E s) :
  wpAny (model prog w) A (eval (.Subscript value slice pos) env) Q E s:=by
 refine Subscript_ (wpAny_mono h (fun o s₁ h₁=>wpAny_mono h₁ (fun i s₂ h₂=>?_) fun _ _ x=>x) fun _ _ x=>x)
 obtain⟨hT,h₂⟩:=h₂
 unfold subscriptTail
 refine wpAny_bind ?_
 rw [getitemInPython_of_ne hT.not_modules]
 refine wpAny_bind (wpAny_specialOf hT hl ?_)
 have fin:wpAny (model prog w) A (subscripted slice false o i) (fun r s₃=>wpAny (model prog w) A (letTemporaryGo value o r >>= fun _=>pure r) Q E s₃) E s₂:=by
  rw [hs o i]
  exact wpAny_operating (wpAny_mono h₂ (fun r s₃ h₃=>wpAny_bind (wpAny_letTemporaryGo (wpAny_pure h₃))) fun _ _ x=>x)
 first
  | exact wpAny_pure (wpAny_bind fin)
  | exact wpAny_bind (wpAny_pure (wpAny_bind fin))
  | exact wpAny_bind fin
theorem Lu{X:Cx}{pins:List (Addr×Obj)}{σ:St}{H:Hp}{s:Shared}{a:Addr}{y:V}{o:Option V}(I:Inv X pins σ H s)(g:DGet H a y o):s.TypeIs (.ref a) "dict":=by
 rcases g with ⟨kvs,k,e,_,_⟩ | ⟨kvs,k,b,e,_,_,_⟩
 ·obtain⟨_,_,vs,_,dd⟩:=FF I.hok e
  exact dd.typeIs
 ·obtain⟨_,_,xs,_,dd⟩:=IL I.hok e
  exact dd.typeIs
def UI(td ty:TE):TE:=fun σ H Q=>td σ H fun x H1=>ty σ H1 fun y H2=>∃a v,x=.ref a/\DGet H2 a y (some v)/\Q v H2
def UM(td ty tv:TE):TS:=fun D σ H=>tv σ H fun v H1=>td σ H1 fun x H2=>ty σ H2 fun y H3=>∃a H4,x=.ref a/\DPut H3 a y v H4/\D.nx σ H4
section
variable {X:Cx}{o i e value:Expr}{pos pos' tpos:Pos}{td ty tv:TE}
theorem KJ(hu:X.A.units+1<cLine)(ho:PE X o td)(hi:PE X i ty)(hs:Ts i):PE X (.Subscript o i pos) (UI td ty):=by
 intro pins s σ H Q I h
 refine Q7 PySem.F.slot_dict_getitem.lookup hs (Bp (ho pins s σ H _ I h) fun u s1 ⟨x,H1,I1,rx,q1⟩=>Bp (hi pins s1 σ H1 _ I1 q1) fun iv s2 ⟨y,H2,I2,ry,a,v,ex,g,q2⟩=>?_)
 subst ex
 obtain rfl:u=Value.ref a:=rx
 exact⟨Lu I2 g,Oa hu I2 g ry fun w' s3 I3 rw'=>⟨v,H2,I3,rw',q2⟩⟩
theorem HB(hu:X.A.units+1<cLine)(ho:PE X o td)(hi:PE X i ty)(hv:PE X value tv)(hs:swapsWith value (some (.Subscript o i pos')) pos.line X.env=pure false) :
  PS X (.Assign [.Subscript o i pos'] value pos) (UM td ty tv):=by
 intro pins s σ H D I h
 refine wpAny_Assign_Subscript (Bp (hv pins s σ H _ I h) fun r s1 ⟨v,H1,I1,rv,q1⟩=>Bp (ho pins s1 σ H1 _ I1 q1) fun u s2 ⟨x,H2,I2,rx,q2⟩=>Bp (hi pins s2 σ H2 _ I2 q2) fun iv s3 ⟨y,H3,I3,ry,a,H4,ex,g,q3⟩=>?_) hs
 subst ex
 obtain rfl:u=Value.ref a:=rx
 exact OZ hu I3 g ry rv fun s4 I4=>⟨σ,H4,I4,q3⟩
end
theorem Ls{P:Program}{w:World}{H:Hp}(h:Heap)(hb:sysModules<h.objs.size):ObjOk P w H (h.push { cls:=.type "dict",data:=.dict #[] }) h.objs.size (.dK []) :=
 ⟨Nat.zero_le _,beq_eq_false_iff_ne.mpr (Ne.symm (Nat.ne_of_lt hb)),[],.nil,Heap.DictOf.new h⟩
def Sa:TE:=fun _ H Q=>∀p,H p=none->Q (.ref p) (BA H p (.dK []))
section
variable {X:Cx}{pos:Pos}
theorem Hn:PE X (.Dict [] [] pos) Sa:=fun pins s σ H Q I h =>
 wpAny_Dict_empty ⟨.ref s.heap.objs.size,_,I.laid (a:=s.heap.objs.size) (o:=.dK []) (t':=s.toks) (fun _ _ q=>Heap.get?_push_of_some _ q) (Nat.le_refl _) (Ls s.heap I.big),rfl,h _ (I.hok.fresh (Nat.le_refl _))⟩
end
def MF:List (TE×TE)->St->Hp->(List (V×V)->Hp->Prop)->Prop
 | [],_,H,Q=>Q [] H
 | (tk,tv)::r,σ,H,Q=>tk σ H fun x H1=>tv σ H1 fun y H2=>MF r σ H2 fun ps H3=>Q ((x,y)::ps) H3
abbrev VV:List (V×V)->List (Value×Value)->Prop:=Paired fun p q=>RelV p.1 q.1/\RelV p.2 q.2
def VH(X:Cx)(pos:Pos)(keys:List (Option Expr))(values:List Expr)(trs:List (TE×TE)):Prop :=
 ∀(pins:List (Addr×Obj)) (s:Shared) (σ:St) (H:Hp) (Q:List (V×V)->Hp->Prop),Inv X pins σ H s->MF trs σ H Q ->
  wpAny (model X.prog X.w) X.A (evalPairs (pairTrees keys values X.env pos)) (fun vs s'=>∃ps H',Inv X pins σ H' s'/\VV ps vs/\Q ps H') X.xe s
theorem RC{X:Cx}{pos:Pos}:VH X pos [] [] []:=fun pins s σ H Q I h=>pairTrees_nil_walk ⟨[],H,I,.nil,h⟩
theorem Pf{X:Cx}{pos:Pos}{k v:Expr}{ks:List (Option Expr)}{vs:List Expr}{tk tv:TE}{trs:List (TE×TE)}(hk:PE X k tk)(hv:PE X v tv)(hr:VH X pos ks vs trs) :
  VH X pos (some k::ks) (v::vs) ((tk,tv)::trs):=fun pins s σ H Q I h =>
 pairTrees_cons_walk (Bp (hk pins s σ H _ I h) fun u s1 ⟨x,H1,I1,rx,q1⟩=>Bp (hv pins s1 σ H1 _ I1 q1) fun w2 s2 ⟨y,H2,I2,ry,q2⟩ =>
  Bp (hr pins s2 σ H2 _ I2 q2) fun ws s3 ⟨ps,H3,I3,rel,q3⟩=>⟨(x,y)::ps,H3,I3,.cons ⟨rx,ry⟩ rel,q3⟩)
def Hu(kvs more:List (AY×V)):List (AY×V):=more.foldl (fun acc kv=>DL acc kv.1 kv.2) kvs
theorem KV.merge:∀{more:List (AY×V)} {rs:List (AY×Value)} {kvs:List (AY×V)} {vs:List (AY×Value)},KV more rs->KV kvs vs->KV (Hu kvs more) (merged vs rs):=by
 intro more rs kvs vs r
 unfold KV at r
 induction r generalizing kvs vs with
 | nil=>intro q; exact q
 | @cons p q ps qs h t ih =>
  intro r0
  have e:KV (DL kvs p.1 p.2) (stored vs q.1 q.2):=by
   have:=r0.put p.1 h.2
   rw [← h.1]; exact this
  exact ih e
theorem FC:∀(more kvs:List (AY×V)),(Hu kvs more).length<=kvs.length+more.length
 | [],kvs=>by show kvs.length<=kvs.length+0; omega
 | p::r,kvs=>by
  have h1:=FC r (DL kvs p.1 p.2)
  have h2:=Eb kvs p.1 p.2
  show (Hu (DL kvs p.1 p.2) r).length<=_
  rw [List.length_cons]; omega
theorem IR{P:Program}{w:World}:∀{kvs:List (AY×V)} {ws:List (Value×Value)},VV (kvs.map fun kv=>(kV kv.1,kv.2)) ws->∃rs,Carries (A5 P w) ws rs/\KV kvs rs
 | [],_,r=>by rw [List.map_nil] at r; cases r; exact⟨[],True.intro,.nil⟩
 | p::kvs,_,r=>by
  rw [List.map_cons] at r
  cases r with
  | @cons a b as bs h t =>
   obtain⟨rs,c,q⟩:=IR (P:=P) (w:=w) t
   obtain⟨b1,b2⟩:=b
   exact⟨(p.1,b2)::rs,⟨IB h.1,rfl,c⟩,.cons ⟨rfl,h.2⟩ q⟩
def UH(trs:List (TE×TE)):TE:=fun σ H Q=>∀p,H p=none->MF trs σ (BA H p (.dK [])) fun ps H2=>H2 p=some (.dK [])/\∃kvs:List (AY×V),ps=kvs.map (fun kv=>(kV kv.1,kv.2))/\kvs.length<=15/\Q (.ref p) (BA H2 p (.dK (Hu [] kvs)))
theorem RF{X:Cx}{pos:Pos}{keys:List (Option Expr)}{values:List Expr}{trs:List (TE×TE)}(h:VH X pos keys values trs)(hall:keys.all (·.isSome)=true)(hl:keys.length=values.length)(h0:keys≠[])
  (h15:keys.length<=15):PE X (.Dict keys values pos) (UH trs):=by
 intro pins s σ H Q I q
 have hn:=I.hok.fresh (Nat.le_refl s.heap.objs.size)
 have I1:=I.laid (a:=s.heap.objs.size) (o:=.dK []) (h':=s.heap.push { cls:=.type "dict",data:=.dict #[] }) (t':=s.toks) (fun _ _ q=>Heap.get?_push_of_some _ q) (Nat.le_refl _) (Ls s.heap I.big)
 refine wpAny_Dict_walk (knd:=A5 X.prog X.w) hall hl h0 h15 (Bp (h pins _ σ _ _ I1 (q _ hn)) fun ws s2 ⟨ps,H2,I2,rel,e,kvs,ep,lk,q2⟩=>?_)
 subst ep
 obtain⟨rs,c,rk⟩:=IR (P:=X.prog) (w:=X.w) rel
 obtain⟨z,hd,vs0,r0,dd⟩:=SJ I2.hok e
 cases r0
 refine⟨rs,c,dd,fun h' dd' hs=>⟨.ref s.heap.objs.size,_,?_,rfl,q2⟩⟩
 have hz:(Hu [] kvs).length<=sizeLine:=by
  have h1:=FC kvs []
  rw [List.length_nil] at h1
  rw [sizeLine_eq]; omega
 have he:∃q,h'.get? s.heap.objs.size=some q:=let ⟨q,_,_,hq,_⟩:=dd'; ⟨q,hq⟩
 exact Kl I2 (by rw [e]; exact True.intro) hs he (QO hz hd (rk.merge .nil) dd')
structure M1 (X:Cx) (o:Expr) (m:Str) (apos:Pos) (e:Expr) (cpos:Pos):Prop where
 base:attributeBase o m X.env (eval o X.env)=eval o X.env
 few:((backTo cpos (starEach [e] X.env)).all (fun x=>!x.1)&&(backToKw cpos (keywordEach [] X.env)).all (fun x=>x.1.isSome)
  && decide (([e]:List Expr).length+([]:List Keyword).length+(if ([]:List Keyword).isEmpty then 0 else 1)<30))=true
 line:(apos.endLine==cpos.line)=true
 trees:backTo cpos (starEach [e] X.env)=[(false,eval e X.env)]
structure M2 (X:Cx) (o:Expr) (m:Str) (apos:Pos) (e f:Expr) (cpos:Pos):Prop where
 base:attributeBase o m X.env (eval o X.env)=eval o X.env
 few:((backTo cpos (starEach [e,f] X.env)).all (fun x=>!x.1)&&(backToKw cpos (keywordEach [] X.env)).all (fun x=>x.1.isSome)
  && decide (([e,f]:List Expr).length+([]:List Keyword).length+(if ([]:List Keyword).isEmpty then 0 else 1)<30))=true
 line:(apos.endLine==cpos.line)=true
 trees:backTo cpos (starEach [e,f] X.env)=[(false,eval e X.env),(false,eval f X.env)]
def Vy(H:Hp)(a:Addr):Prop:=(∃kvs,Rd H a (.dK kvs))\/∃kvs,Rd H a (.dT kvs)
theorem P7{X:Cx}{pins:List (Addr×Obj)}{σ:St}{H:Hp}{s:Shared}{a:Addr}(I:Inv X pins σ H s)(d:Vy H a) :
  s.TypeIs (.ref a) "dict"/\(∀b,Value.ref a=.ref b->∃ob,s.heap.get? b=some ob/\ob.dict=none)/\(a==sysModules)=false:=by
 rcases d with ⟨kvs,e⟩ | ⟨kvs,e⟩
 ·obtain⟨_,hd,vs,_,dd⟩:=FF I.hok e
  refine⟨dd.typeIs,fun b q=>?_,hd⟩
  cases q
  obtain⟨ob,_,_,h1,h2,_⟩:=dd
  exact⟨ob,h1,h2.2.1⟩
 ·obtain⟨_,hd,xs,_,dd⟩:=IL I.hok e
  refine⟨dd.typeIs,fun b q=>?_,hd⟩
  cases q
  obtain⟨ob,_,_,h1,h2,_⟩:=dd
  exact⟨ob,h1,h2.2.1⟩
section
variable {X:Cx}{pins:List (Addr×Obj)}{σ:St}{H:Hp}{s:Shared}{a:Addr}{y d:V}{u r:Value}{o:Option V}{A:Around}{E:Value->Shared->Prop}
theorem Ta{Q:Value->Shared->Prop}(hu:A.units+1<cLine)(I:Inv X pins σ H s)(g:DGet H a y o)(ry:RelV y u)(rd:RelV d r)(h:∀w' s',Inv X pins σ H s'->RelV (o.getD d) w'->Q w' s') :
  wpAny (model X.prog X.w) A (call (.builtin "dict.get") [.ref a,u,r]) Q E s:=by
 rcases g with ⟨kvs,k,e,ey,l⟩ | ⟨kvs,k,b,e,ey,eb,l⟩
 ·subst ey
  obtain⟨z,hd,vs,rel,dd⟩:=FF I.hok e
  refine call_meetsIn PySem.F.slot_dict_get dd.typeIs PySem.F.entry_dict_get (PySem.F.args_dict_get_3 _ _ _) (meets_dict_get_default (A5 X.prog X.w) a (IB ry) hd r) ⟨_,dd.mapOf,h _ _ (I.tok _) ?_⟩
  rw [l]
  exact(rel.val k).getD rd
 ·subst ey
  cases (show u=Value.ref b from ry)
  obtain⟨z,hd,xs,rel,dd⟩:=IL I.hok e
  refine call_meetsIn PySem.F.slot_dict_get dd.typeIs PySem.F.entry_dict_get (PySem.F.args_dict_get_3 _ _ _) (meetsH_dict_get_default (tupleKind (A5 X.prog X.w)) a b hd r) ⟨tupleKind_room_in1 hu,k,xs,GZ I.hok eb,dd,h _ _ (I.tok _) ?_⟩
  rw [l]
  exact(rel.val k).getD rd
end
def Sb(td ty tx:TE):TE:=fun σ H Q=>td σ H fun x H1=>∃a,x=.ref a/\Vy H1 a/\ty σ H1 fun y H2=>tx σ H2 fun z H3=>∃o,DGet H3 a y o/\Q (o.getD z) H3
section
variable {X:Cx}{o e f:Expr}{apos cpos:Pos}{td ty tx:TE}
theorem Pm(hu:X.A.units+1<cLine)(ho:PE X o td)(he:PE X e ty)(hf:PE X f tx)(m:M2 X o "get" apos e f cpos):PE X (.Call (.Attribute o "get" apos) [e,f] [] cpos) (Sb td ty tx):=by
 intro pins s σ H Q I h
 refine wpAny_Call_method m.base m.few m.line PySem.F.plainAttrs_dict PySem.F.slot_dict_get PySem.F.type_dict_get (Bp (ho pins s σ H _ I h) fun u s1 ⟨x,H1,I1,rx,a,ex,d,q1⟩=>?_)
 subst ex
 obtain rfl:u=Value.ref a:=rx
 obtain⟨t1,t2,_⟩:=P7 I1 d
 refine⟨t1,t2,?_⟩
 rw [m.trees]
 refine Calls.callWith_builtin rfl (Calls.evalArgs_plain (Calls.spliced_cons (Bp (he pins s1 σ H1 _ I1 q1) fun iv s2 ⟨y,H2,I2,ry,q2⟩ =>
  Calls.spliced_cons (Bp (hf pins s2 σ H2 _ I2 q2) fun fv s3 ⟨z,H3,I3,rz,ov,g,q3⟩=>Calls.spliced_nil ?_))))
 exact Ta hu I3 g ry rz fun w' s4 I4 rw'=>⟨_,H3,I4,rw',q3⟩
end
section
variable {X:Cx}{pins:List (Addr×Obj)}{σ:St}{H:Hp}{s:Shared}{a:Addr}{kvs:List (AY×V)}{A:Around}{E:Value->Shared->Prop}
end
section
variable {X:Cx}{pins:List (Addr×Obj)}{σ:St}{H:Hp}{s:Shared}{a:Addr}{y:V}{u:Value}{A:Around}{E:Value->Shared->Prop}
end
end L2
set_option maxHeartbeats 4000000
namespace L2
open PySem PySem.Spec PyProof.Rows
section
theorem Ml{env:Env}:∀(names:List (Str×NameKind)) (cs:List (Str×Addr)),(∀x,(x,NameKind.free)∈names->∃c,env.cells.lookup x=some c)->(∀x c,cs.lookup x=some c->env.cells.lookup x=some c) ->
  ∃cl,(forIn names cs fun(x:Str×NameKind) (r:List (Str×Addr))=>(if (x.2==NameKind.free)=true then do let a ← cellOf env x.1; pure (ForInStep.yield ((x.1,a)::r)) else pure (ForInStep.yield r):Sem (ForInStep (List (Str×Addr)))))=(pure cl:Sem _) /\
   (∀x c,cl.lookup x=some c->env.cells.lookup x=some c)/\(∀x,((x,NameKind.free)∈names\/∃c,cs.lookup x=some c)->∃c,cl.lookup x=some c):=by
 intro names
 induction names with
 | nil =>
  intro cs _ h2
  exact⟨cs,rfl,h2,fun x hx=>hx.elim (fun z=>absurd z (by simp)) fun z=>z⟩
 | cons p r ih =>
  intro cs h1 h2
  obtain⟨n,k⟩:=p
  by_cases hk:k=NameKind.free
  ·subst hk
   obtain⟨c,hc⟩:=h1 n List.mem_cons_self
   have hcell:cellOf env n=pure c:=by simp only [cellOf,hc]
   obtain⟨cl,e,a,b⟩:=ih ((n,c)::cs) (fun x hx=>h1 x (List.mem_cons_of_mem _ hx)) (fun x c' hx=>by
    rw [List.lookup_cons] at hx
    cases hb:x==n with
    | true =>
     rw [hb] at hx
     have hx':some c=some c':=hx
     cases hx'
     have:x=n:=by simpa using hb
     rw [this]; exact hc
    | false=>rw [hb] at hx; exact h2 x c' hx)
   refine⟨cl,?_,a,fun x hx=>b x ?_⟩
   ·rw [List.forIn_cons]
    simp only [beq_self_eq_true,if_true,hcell,pure_bind]
    exact e
   ·by_cases hxn:x=n
    ·subst hxn
     exact .inr ⟨c,by simp [List.lookup_cons]⟩
    ·rcases hx with hx | ⟨c',hx⟩
     ·rcases List.mem_cons.mp hx with hx | hx
      ·cases hx; exact absurd rfl hxn
      ·exact .inl hx
     ·refine .inr ⟨c',?_⟩
      have:(x==n)=false:=by simpa using hxn
      rw [List.lookup_cons,this]
      exact hx
  ·have hk':(k==NameKind.free)=false:=by simpa using hk
   obtain⟨cl,e,a,b⟩:=ih cs (fun x hx=>h1 x (List.mem_cons_of_mem _ hx)) h2
   refine⟨cl,?_,a,fun x hx=>b x ?_⟩
   ·rw [List.forIn_cons]
    simp only [hk',Bool.false_eq_true,if_false,pure_bind]
    exact e
   ·rcases hx with hx | hx
    ·rcases List.mem_cons.mp hx with hx | hx
     ·cases hx; exact absurd rfl hk
     ·exact .inl hx
    ·exact .inr hx
theorem IQ{scope:Scope}{env:Env}(h:∀x,(x,NameKind.free)∈scope.names->∃c,env.cells.lookup x=some c) :
  ∃cl,closureFor scope env=pure cl/\(∀x c,cl.lookup x=some c->env.cells.lookup x=some c)/\(∀x,(x,NameKind.free)∈scope.names->∃c,cl.lookup x=some c):=by
 obtain⟨cl,e,a,b⟩:=Ml scope.names [] h (fun x c hx=>by simp at hx)
 refine⟨cl,?_,a,fun x hx=>b x (.inl hx)⟩
 simp only [closureFor]
 rw [e,pure_bind]
variable {prog:Program}{w:World}{A:Around}{E:Value->Shared->Prop}{R:Result->Shared->Prop}{s:Shared}
theorem Ko{elt target iter:Expr}{ifs:List Expr}{scope:Scope}{pos:Pos}{it acc:Value}{env:Env}(I:Nat->Shared->Prop)
  (turn:∀n s,I n s->wpAny (model prog w) A (pyNext it) (fun r s₁=>match r with
   | none=>R (.ok .next) s₁
   | some v=>wpAny (model prog w) A (letOwnedTupleGo target it v) (fun _ s₁'=>wpAny (model prog w) A (assign target env v) (fun _ s₂ =>
     wpAny (model prog w) A (forIn ifs true fun c r=>if r=true then do let ok ← isTrue c env (eval c env); pure (ForInStep.yield ok) else pure (ForInStep.yield r)) (fun ok s₃ =>
      if ok=true then wpAny (model prog w) A (eval elt env) (fun x s₄ =>
       wpAny (model prog w) A (call (.builtin "list.append") [acc,x]) (fun _ s₅=>∃m,m<n/\I m s₅) (fun _ _=>False) s₄) (fun _ _=>False) s₃
      else ∃m,m<n/\I m s₃) (fun _ _=>False) s₂) (fun _ _=>False) s₁') (fun _ _=>False) s₁) (fun _ _=>False) s)
  (n:Nat) (h:I n s) :
  codeAny (model prog w) A (.compLoop (.ListComp elt [⟨target,iter,ifs,0⟩] scope pos) 0 it acc env) R s:=by
 refine codeAny_loop rfl I (fun n s hI=>?_) n h
 show wpAny _ A ((compTurn (.ListComp elt [⟨target,iter,ifs,0⟩] scope pos) 0 it acc env).onRaise (fun x=>do noteFrame x env; theTreesLotGoes x)) _ _ s
 refine wpAny_noted ?_
 rw [compTurn_list]
 refine wpAny_bind (wpAny_standAt (wpAny_bind (wpAny_mono (turn n s hI) (fun r s₁ h₁=>?_) fun _ _ h'=>h'.elim)))
 cases r with
 | none=>exact wpAny_pure h₁
 | some v =>
  refine wpAny_bind (wpAny_mono h₁ (fun _ s₁' h₁'=>?_) fun _ _ h'=>h'.elim)
  refine wpAny_bind (wpAny_mono h₁' (fun _ s₂ h₂=>wpAny_bind (wpAny_mono h₂ (fun ok s₃ h₃=>?_) fun _ _ h'=>h'.elim)) fun _ _ h'=>h'.elim)
  cases ok with
  | false=>exact wpAny_pure ⟨rfl,h₃⟩
  | true =>
   exact wpAny_bind (wpAny_bind (wpAny_mono h₃ (fun x s₄ h₄=>wpAny_bind (wpAny_mono h₄ (fun _ s₅ h₅=>wpAny_pure (wpAny_pure ⟨rfl,h₅⟩)) fun _ _ h'=>h'.elim)) fun _ _ h'=>h'.elim))
end
def A8(X:Cx)(sc:Scope)(N':List Str)(cl:List (Str×Addr))(C:Addr)(s:Shared)(H:Hp)(ex:List Addr):Cx where
 prog:=X.prog
 w:=X.w
 K:=X.K
 mg:=X.mg
 base:=X.base
 A:=X.A
 N:=N'
 s₀:=s
 H₀:=H
 env:=compEnvC sc cl C X.env
 outer:=X.stack
 stack:=X.stack
 ex:=ex
 fn:=fun _=>false
 calm:=true
 pn:=[]
 xe:=fun _ _=>False
def Cp(js:List (Option Nat))(σ:St):St:=js.map fun o=>match o with
 | some i=>(σ[i]?).getD none
 | none=>none
def RY(o:Option NameKind):Bool:=match o with
 | some .cell=>true
 | some .free=>true
 | _=>false
theorem NP{o:Option NameKind}(h:RY o=true):o=some .cell\/o=some .free:=by
 unfold RY at h
 split at h
 ·exact .inl rfl
 ·exact .inr rfl
 ·cases h
def Mf(o:Option NameKind):Bool:=match o with
 | some .free=>true
 | _=>false
theorem OU{o:Option NameKind}(h:Mf o=true):o=some .free:=by
 unfold Mf at h
 split at h
 ·rfl
 ·cases h
def P4(o:Option NameKind):Bool:=match o with
 | some .local=>true
 | _=>false
theorem P3{o:Option NameKind}(h:P4 o=true):o=some .local:=by
 unfold P4 at h
 split at h
 ·rfl
 ·cases h
def P6(k:ScopeKind):Bool:=match k with
 | .function=>true
 | _=>false
theorem P5{k:ScopeKind}(h:P6 k=true):k=.function:=by
 unfold P6 at h
 split at h
 ·rfl
 ·cases h
def VZ(sc esc:Scope)(p:Str×NameKind):Bool:=match p.2 with
 | .cell=>false
 | .free=>RY (esc.names.lookup p.1)
 | .local=>P4 (sc.names.lookup p.1)
 | _=>true
def Vl(x:Option Str)(y:Str):Bool:=match x with
 | some z=>z==y
 | none=>false
theorem TV{x:Option Str}{y:Str}(h:Vl x y=true):x=some y:=by
 unfold Vl at h
 split at h
 ·exact congrArg some (by simpa using h)
 ·cases h
def GA(sc esc:Scope)(N:List Str):List Str->List (Option Nat)->Bool
 | [],[]=>true
 | x::xs,some j::js=>Mf (sc.names.lookup x)&&Vl (N[j]?) x&&RY (esc.names.lookup x)&&GA sc esc N xs js
 | _::xs,none::js=>GA sc esc N xs js
 | _,_=>false
def IP(sc esc:Scope)(N N':List Str)(js:List (Option Nat)):Bool:=P6 sc.kind&&sc.names.all (VZ sc esc)&&GA sc esc N N' js
theorem Em{sc esc:Scope}{N:List Str}:∀{N':List Str} {js:List (Option Nat)},GA sc esc N N' js=true->js.length=N'.length
 | [],[],_=>rfl
 | x::xs,some j::js,h=>by
  unfold GA at h
  rw [Bool.and_eq_true] at h
  rw [List.length_cons,List.length_cons,Em h.2]
 | x::xs,none::js,h=>by
  unfold GA at h
  rw [List.length_cons,List.length_cons,Em h]
 | [],some _::_,h=>by unfold GA at h; cases h
 | [],none::_,h=>by unfold GA at h; cases h
 | _::_,[],h=>by unfold GA at h; cases h
theorem Kq{sc esc:Scope}{N:List Str}:∀{N':List Str} {js:List (Option Nat)},GA sc esc N N' js=true->∀{k:Nat} {x:Str} {j:Nat},N'[k]?=some x->js[k]?=some (some j) ->
  sc.names.lookup x=some .free/\N[j]?=some x/\(esc.names.lookup x=some .cell\/esc.names.lookup x=some .free)
 | [],_,_,k,x,j,h1,_=>by simp at h1
 | _::_,[],h,_,_,_,_,_=>by unfold GA at h; cases h
 | y::ys,some i::js,h,k,x,j,h1,h2=>by
  unfold GA at h
  rw [Bool.and_eq_true,Bool.and_eq_true,Bool.and_eq_true] at h
  cases k with
  | zero =>
   simp at h1 h2
   subst h1 h2
   exact⟨OU h.1.1.1,TV h.1.1.2,NP h.1.2⟩
  | succ k=>exact Kq h.2 (k:=k) (by simpa using h1) (by simpa using h2)
 | y::ys,none::js,h,k,x,j,h1,h2=>by
  unfold GA at h
  cases k with
  | zero=>simp at h2
  | succ k=>exact Kq h (k:=k) (by simpa using h1) (by simpa using h2)
theorem OP{js:List (Option Nat)}{σ:St}{k:Nat}{v:V}(h:(Cp js σ)[k]?=some (some v)):∃j,js[k]?=some (some j)/\σ[j]?=some (some v):=by
 unfold Cp at h
 rw [List.getElem?_map] at h
 cases e:js[k]? with
 | none=>rw [e] at h; cases h
 | some o =>
  rw [e] at h
  cases o with
  | none=>cases h
  | some j =>
   refine⟨j,rfl,?_⟩
   have h':some ((σ[j]?).getD none)=some (some v):=h
   have h2:=Option.some.inj h'
   cases q:σ[j]? with
   | none=>rw [q] at h2; cases h2
   | some w=>rw [q] at h2; exact congrArg some h2
theorem C6{env:Env}:∀{names:List (Str×NameKind)} {x:Str},names.lookup x=some .free ->
  (names.map fun(n,k)=>if (k==NameKind.free&&env.scope.kind==.function&&env.kindOf n==some .cell) then (n,NameKind.cell) else (n,k)).lookup x=some .cell \/
  (names.map fun(n,k)=>if (k==NameKind.free&&env.scope.kind==.function&&env.kindOf n==some .cell) then (n,NameKind.cell) else (n,k)).lookup x=some .free
 | [],_,h=>by simp at h
 | (n,k)::r,x,h=>by
  have ih:=@C6 env r x
  show List.lookup x ((if (k==NameKind.free&&env.scope.kind==.function&&env.kindOf n==some .cell)=true then (n,NameKind.cell) else (n,k))::_)=_\/List.lookup x ((if (k==NameKind.free&&env.scope.kind==.function&&env.kindOf n==some .cell)=true then (n,NameKind.cell) else (n,k))::_)=_
  by_cases hc:(k==NameKind.free&&env.scope.kind==.function&&env.kindOf n==some .cell)=true
  ·rw [if_pos hc]
   cases hx:x==n with
   | true=>exact .inl (by simp only [List.lookup_cons,hx])
   | false =>
    simp only [List.lookup_cons,hx] at h ⊢
    exact ih h
  ·rw [if_neg hc]
   cases hx:x==n with
   | true =>
    simp only [List.lookup_cons,hx] at h ⊢
    exact .inr h
   | false =>
    simp only [List.lookup_cons,hx] at h ⊢
    exact ih h
theorem MK{env:Env}{sc:Scope}(hcell:∀y∈sc.names,y.2≠.cell){x:Str}(h:(relabel sc env).names.lookup x=some .cell\/(relabel sc env).names.lookup x=some .free):(x,NameKind.free)∈sc.names:=by
 have hm:(x,NameKind.cell)∈(relabel sc env).names\/(x,NameKind.free)∈(relabel sc env).names:=h.elim (fun z=>.inl (PySem.mem_of_lookup z)) fun z=>.inr (PySem.mem_of_lookup z)
 have go:∀k:NameKind,(k=.cell\/k=.free)->(x,k)∈(relabel sc env).names->(x,NameKind.free)∈sc.names:=by
  intro k hk hmem
  unfold relabel at hmem
  obtain⟨⟨n,k0⟩,hn,e⟩:=List.mem_map.mp hmem
  by_cases hc:(k0==NameKind.free&&env.scope.kind==.function&&env.kindOf n==some .cell)=true
  ·have e':(n,NameKind.cell)=(x,k):=by
    have:=e
    simp only [hc,if_true] at this
    exact this
   have hk0:k0=.free:=by
    rw [Bool.and_eq_true,Bool.and_eq_true] at hc
    simpa using hc.1.1
   cases e'
   subst hk0
   exact hn
  ·have e':(n,k0)=(x,k):=by
    have:=e
    simp only [hc,if_false] at this
    exact this
   cases e'
   rcases hk with rfl | rfl
   ·exact absurd rfl (hcell _ hn)
   ·exact hn
 exact hm.elim (go _ (.inl rfl)) (go _ (.inr rfl))
section
variable {X:Cx}{pins:List (Addr×Obj)}{σ:St}{H:Hp}{s:Shared}
structure CompOk (X:Cx) (sc:Scope) (N':List Str) (js:List (Option Nat)):Prop where
 kind:sc.kind=.function
 cell:∀y∈sc.names,y.2≠.cell
 free:∀x,(x,NameKind.free)∈sc.names->X.env.scope.names.lookup x=some .cell\/X.env.scope.names.lookup x=some .free
 names:∀y∈sc.names,y.2=.local->sc.names.lookup y.1=some .local
 cap:GA sc X.env.scope X.N N' js=true
theorem CompOk.of{sc:Scope}{N':List Str}{js:List (Option Nat)}(h:IP sc X.env.scope X.N N' js=true):CompOk X sc N' js:=by
 unfold IP at h
 rw [Bool.and_eq_true,Bool.and_eq_true,List.all_eq_true] at h
 obtain⟨⟨h1,h2⟩,h3⟩:=h
 refine⟨P5 h1,fun y hy e=>?_,fun x hx=>?_,fun y hy e=>?_,h3⟩
 ·have q:=h2 y hy
  unfold VZ at q
  rw [e] at q
  cases q
 ·have q:=h2 _ hx
  exact NP q
 ·have q:=h2 y hy
  unfold VZ at q
  rw [e] at q
  exact P3 q
theorem Ln{sc:Scope}{N':List Str}{js:List (Option Nat)}{cl:List (Str×Addr)}{fp:List Addr}{h₁:Heap}{tk:Nat}(I:Inv X pins σ H s)(hc:X.calm=true)(O:CompOk X sc N' js)
  (hcl:∀x c,cl.lookup x=some c->X.env.cells.lookup x=some c) (hcl2:∀x,(x,NameKind.free)∈sc.names->∃c,cl.lookup x=some c)
  (hf:∀b∈fp,GI X pins H b) (ho:∀b∈fp,∃o,s.heap.get? b=some o)
  (hns:h₁.Ns (s.heap.objs.size+1) (fun _=>none)) (hk:∀b o,s.heap.get? b=some o->h₁.get? b=some o) (hD:∃n,h₁.get? s.heap.objs.size=some { cls:=.type "list",data:=.seq #[] n }) :
  Inv (A8 X sc N' cl (s.heap.objs.size+1) s H fp) [] (Cp js σ) (BA H s.heap.objs.size (.lst [])) { s with heap:=h₁,toks:=tk }:=by
 have fr:∀a,s.heap.objs.size<=a->H a=none:=fun a ha=>I.hok.fresh ha
 have cellLt:∀x c,cl.lookup x=some c->c<s.heap.objs.size:=fun x c e=>by
  obtain⟨v,q⟩:=I.cell x c (hcl x c e)
  exact q.lt
 have ok:(A8 X sc N' cl (s.heap.objs.size+1) s H fp).Ok:=by
  refine⟨I.ok.mod,O.kind,I.ok.glob,I.ok.blt,Nat.le_succ _,fun x y c h1 h2=>I.ok.inj x y c (hcl x c h1) (hcl y c h2),fun x hx=>?_,fun x c hx=>?_,fun _=>I.ok.hd hc,I.ok.frames,.inl rfl,fun b hb=>⟨?_,fun x c e=>?_⟩,I.bs,Nat.le_trans I.ok.bsz I.sz,fun b o e hb=>?_,fun b hb hb2=>?_,I.stack,I.stkFree⟩
  ·exact hcl2 x (MK (env:=X.env) O.cell hx)
  ·exact absurd (show false=true from hx) Bool.false_ne_true
  ·obtain⟨o,e⟩:=ho b hb
   exact Nat.ne_of_lt (Nat.lt_succ_of_lt (Heap.lt_size e))
  ·exact(hf b hb).2.2.2.2.1 x c (hcl x c e)
  ·rcases (hf b hb).2.2.2.1 with z | z
   ·exact I.ok.noex b o e z
   ·have h1:b<X.base.objs.size:=Heap.lt_size e
    exact absurd (Nat.lt_of_lt_of_le h1 (Nat.le_trans I.ok.bsz z)) (Nat.lt_irrefl _)
  ·rcases List.mem_cons.mp (I.stkSub b hb2) with z | z
   ·exact(hf b hb).2.1 z
   ·exact(hf b hb).2.2.1 z
 refine⟨ok,rfl,I.bare,?_,⟨_,hns,fun i x v h1 h2 h3=>?_⟩,fun x c e=>?_,?_,fun x c e=>?_,fun p hp=>absurd (show p∈([]:List (Addr×Obj)) from hp) (by simp),?_,?_⟩
 ·exact Un.laid hk (Nat.le_refl _) (fr _ (Nat.le_refl _))
 ·obtain⟨j,e1,e2⟩:=OP h2
  obtain⟨c1,c2,c3⟩:=Kq O.cap h1 e1
  obtain⟨m,_,hl⟩:=I.loc
  obtain⟨u,r,l⟩:=hl j x v c2 e2 (.inr c3)
  refine⟨u,r,.inr ⟨C6 c1,?_⟩⟩
  rcases l with ⟨l1,_⟩ | ⟨_,c,l2,l3⟩
  ·have l1':X.env.scope.names.lookup x=some .local:=l1
   rcases c3 with c3 | c3 <;> (rw [l1'] at c3; cases c3)
  ·obtain⟨c',e'⟩:=hcl2 x (PySem.mem_of_lookup c1)
   have:c'=c:=Option.some.inj ((hcl x c' e').symm.trans l2)
   subst this
   obtain⟨oc,hoc,hocd⟩:=id l3
   exact⟨c',e',oc,hk _ _ hoc,hocd⟩
 ·obtain⟨v,oc,hoc,hocd⟩:=I.cell x c (hcl x c e)
  exact⟨v,oc,hk _ _ hoc,hocd⟩
 ·show BA H s.heap.objs.size (.lst []) (s.heap.objs.size+1)=none
  rw [AU (Nat.succ_ne_self _)]
  exact fr _ (Nat.le_succ _)
 ·show BA H s.heap.objs.size (.lst []) c=none
  rw [AU (Nat.ne_of_lt (cellLt x c e))]
  exact I.freeC x c (hcl x c e)
 ·refine I.hok.laid hk (Nat.le_refl _) ?_
  obtain⟨n,e⟩:=hD
  exact⟨Nat.zero_le _,[],n,.nil,e⟩
 ·unfold Cp
  show (js.map _).length=N'.length
  rw [List.length_map]
  exact Em O.cap
theorem Un.but{fs ex:List Addr}{H H1:Hp}{h h1 h':Heap}{C:Addr}(u:Un fs ex H H1 h h1)(hC:h.get? C=none)(hs:∀b,b≠C->h'.get? b=h1.get? b):Un fs ex H H1 h h':=by
 have ne:∀{b:Addr} {o:Obj},h.get? b=some o->b≠C:=fun {b o} e z=>by rw [z,hC] at e; cases e
 refine⟨fun b o e n h1 h2=>(hs b (ne e)).trans (u.keep b o e n h1 h2),fun b o e n h1 h2=>?_,u.free,fun b o e h1=>?_,u.tups,u.frzs,u.tbls⟩
 ·obtain⟨sl,q⟩:=u.slot b o e n h1 h2
  exact⟨sl,(hs b (ne e)).trans q⟩
 ·obtain⟨o',q⟩:=u.there b o e h1
  exact⟨o',(hs b (ne e)).trans q⟩
theorem ID{sc:Scope}{N':List Str}{cl:List (Str×Addr)}{C:Addr}{fp:List Addr}{pins':List (Addr×Obj)}{σ':St}{H':Hp}{s':Shared}{h':Heap}(I:Inv X pins σ H s)(hf:∀b∈fp,GI X pins H b)(hC:s.heap.objs.size<=C)
  (J:Inv (A8 X sc N' cl C s H fp) pins' σ' H' s') (hs:∀b,b≠C->h'.get? b=s'.heap.get? b):Inv X pins σ H' { s' with heap:=h' }:=by
 have nC:s.heap.get? C=none:=by
  cases e:s.heap.get? C with
  | none=>rfl
  | some o=>exact absurd (Heap.lt_size e) (Nat.not_lt.mpr hC)
 have hC':H' C=none:=J.free
 refine I.call' (s':={ s' with heap:=h' }) (ch:=fp) J.os (Un.but J.base nC hs) (fun a o e=>?_) J.bare fun b hb=>?_
 ·exact(J.hok a o e).stay (fun b u hb q=>(hs b (fun z=>by
   rw [z] at hb
   rcases hb with z2 | z2
   ·rw [← z2,hC'] at e; cases e
   ·rw [hC'] at z2; cases z2)).trans q) (fun _ q=>q) fun _ _ q=>q
 ·obtain⟨f0,f1,f2,f3,f4,f5⟩:=hf b hb
  exact⟨f3,f1,f4,f5⟩
end
def U1(X:Cx)(ifs:List Expr)(t:TT):Prop :=
 ∀(pins:List (Addr×Obj)) (s:Shared) (σ:St) (H:Hp) (Q:Bool->Hp->Prop),Inv X pins σ H s->t σ H Q ->
  wpAny (model X.prog X.w) X.A (forIn ifs true fun c r=>if r=true then do let ok ← isTrue c X.env (eval c X.env); pure (ForInStep.yield ok) else pure (ForInStep.yield r)) (TP X pins σ Q) X.xe s
def VO:TT:=fun _ H Q=>Q true H
theorem RE{X:Cx}:U1 X [] VO:=fun pins s σ H Q I h=>wpAny_tests_nil ⟨H,I,h⟩
theorem RD{X:Cx}{c:Expr}{t:TT}(h:PT X c t):U1 X [c] t:=fun pins s σ H Q I q=>wpAny_tests_one (h pins s σ H Q I q)
def Oy(X:Cx)(sc:Scope)(N':List Str)(js:List (Option Nat))(tg elt:Expr)(ifs:List Expr)(wi:TI):TE:=fun σ H Q=>wi σ H fun J H1=>∀l,H1 l=none->X.K.lookup l=none->∀cl C s H0 fp,∃(g:TG) (tt:TT) (te:TE) (W:Nat->Nat->St->Hp->Prop),
 PG (A8 X sc N' cl C s H0 fp) tg g/\U1 (A8 X sc N' cl C s H0 fp) ifs tt/\PE (A8 X sc N' cl C s H0 fp) elt te/\(∃m,W 0 m (Cp js σ) (BA H1 l (.lst [])))/\∀i m σ' H',W i m σ' H' ->
 (J.stop i H'/\Q (.ref l) H')\/(J.go i H'/\∀x H2,J.yld i H' x H2->g x σ' H2 fun σ3 H3=>tt σ3 H3 fun b H4=>if b=true then te σ3 H4 fun y H5=>∃ys,H5 l=some (.lst ys)/\ys.length<sizeLine/\∃m',m'<m/\W (i+1) m' σ3 (BA H5 l (.lst (ys++[y]))) else ∃m',m'<m/\W (i+1) m' σ3 H4)
section
variable {X:Cx}{tg elt iter:Expr}{ifs:List Expr}{sc:Scope}{pos:Pos}{N':List Str}{js:List (Option Nat)}{wi:TI}{g:TG}{tt:TT}{te:TE}
theorem Jl{pins:List (Addr×Obj)}{σ:St}{H:Hp}{s:Shared}{cl:List (Str×Addr)}{C l it:Addr}{fp:List Addr}{tn:Nat->Heap->Prop}{J:It}{s3:Shared}{Q:VK}{R:Result->Shared->Prop}{W:Nat->Nat->St->Hp->Prop}{m0:Nat}{σ0:St}{H0:Hp}
  (I:Inv X pins σ H s) (hf:∀b∈fp,GI X pins H b) (hlt:∀b∈fp,b<s.heap.objs.size) (hC:s.heap.objs.size<=C)
  (T:L8 X.prog X.w X.K tg J fp it tn)
  (hg:PG (A8 X sc N' cl C s H fp) tg g) (ht:U1 (A8 X sc N' cl C s H fp) ifs tt) (he:PE (A8 X sc N' cl C s H fp) elt te)
  (hW:∀i m σ' H',W i m σ' H' ->
   (J.stop i H'/\Q (.ref l) H')\/(J.go i H'/\∀x H2,J.yld i H' x H2->g x σ' H2 fun σ3 H3=>tt σ3 H3 fun b H4=>if b=true then te σ3 H4 fun y H5=>∃ys,H5 l=some (.lst ys)/\ys.length<sizeLine/\∃m',m'<m/\W (i+1) m' σ3 (BA H5 l (.lst (ys++[y]))) else ∃m',m'<m/\W (i+1) m' σ3 H4))
  (hR:∀σ' H' s',Inv (A8 X sc N' cl C s H fp) [] σ' H' s'->Q (.ref l) H'->R (.ok .next) s')
  (I3:Inv (A8 X sc N' cl C s H fp) [] σ0 H0 s3) (t3:tn 0 s3.heap) (f3:∀b∈fp,H0 b=none) (w0:W 0 m0 σ0 H0) :
  codeAny (model X.prog X.w) X.A (.compLoop (.ListComp elt [⟨tg,iter,ifs,0⟩] sc pos) 0 (.ref it) (.ref l) (compEnvC sc cl C X.env)) R s3:=by
 have stat:∀{H':Hp},(∀b∈fp,H' b=none)->∀b∈fp,GI (A8 X sc N' cl C s H fp) [] H' b:=fun hn b hb=>by
  have q:=I3.ok.exf b hb
  refine⟨hn b hb,q.1,I3.ok.exfs b hb,.inl hb,q.2,fun p hp=>absurd (show p∈([]:List (Addr×Obj)) from hp) (by simp)⟩
 refine Ko (fun n s'=>∃i σ' H',Inv (A8 X sc N' cl C s H fp) [] σ' H' s'/\tn i s'.heap/\(∀b∈fp,H' b=none)/\W i n σ' H') ?_ m0 ⟨0,σ0,H0,I3,t3,f3,w0⟩
 rintro n s4 ⟨i,σ4,H4,I4,st4,fr4,w4⟩
 rcases hW i n σ4 H4 w4 with ⟨stop,qn⟩ | ⟨go,step⟩
 ·refine Bp (T.done (A8 X sc N' cl C s H fp) rfl rfl rfl rfl i [] s4 σ4 H4 (fun _ _=>False) I4 (stat fr4) st4 stop) fun r s5 ⟨hr,I5⟩=>?_
  subst hr
  exact hR σ4 H4 s5 I5 qn
 ·refine Bp (T.item (A8 X sc N' cl C s H fp) rfl rfl rfl rfl i [] s4 σ4 H4 (fun _ _=>False) I4 (stat fr4) st4 go) fun r s5 ⟨u,hr,h5⟩=>?_
  subst hr
  refine Bp h5 fun _ s6 ⟨x,H6,I6,r6,y6,st6,fr6⟩=>?_
  have I6':=I6.pinned (stat fr6) (T.obj _ _ st6)
  refine Bp (hg _ s6 σ4 H6 x u _ I6' r6 (step x H6 y6)) fun _ s7 ⟨σ7,H7,I7,q7⟩=>?_
  have again:∀{σ9:St} {H9:Hp} {s9:Shared} {m':Nat},Inv (A8 X sc N' cl C s H fp) ([]++Hm fp s6.heap) σ9 H9 s9->m'<n->W (i+1) m' σ9 H9->∃m,m<n/\∃i σ' H',Inv (A8 X sc N' cl C s H fp) [] σ' H' s9/\tn i s9.heap/\(∀b∈fp,H' b=none)/\W i m σ' H':=fun {σ9 H9 s9 m'} I9 hm w9=>by
   refine⟨m',hm,i+1,σ9,H9,I9.unpinned,T.keep _ _ _ st6 fun b hb o e=>(I9.pin (b,o) (List.mem_append_right _ (List.mem_append_right _ (D6 hb e)))).1,fun b hb=>?_,w9⟩
   obtain⟨o,e,d⟩:=T.obj _ _ st6 b hb
   exact(I9.pin (b,o) (List.mem_append_right _ (List.mem_append_right _ (D6 hb e)))).2.1
  refine Bp (ht _ s7 σ7 H7 _ I7 q7) fun ok s8 ⟨H8,I8,q8⟩=>?_
  cases ok with
  | false =>
   have q8':∃m',m'<n/\W (i+1) m' σ7 H8:=q8
   obtain⟨m',hm,w8⟩:=q8'
   show ∃m,m<n/\_
   exact again I8 hm w8
  | true =>
   refine Bp (he _ s8 σ7 H8 _ I8 q8) fun y s9 ⟨yv,H9,I9,ry,q9⟩=>?_
   obtain⟨ys,hl,hz,m',hm,w9⟩:=q9
   refine Bp (BL (X:=A8 X sc N' cl C s H fp) _ s9 σ7 H9 (.ref l) [yv] (.ref l) [y] (fun v H'=>v=.non/\H'=BA H9 l (.lst (ys++[yv]))) I9 rfl (.cons ry .nil) ⟨l,ys,yv,rfl,rfl,hl,hz,rfl,rfl⟩) fun _ sa ⟨v,Ha,Ia,_,_,eH⟩=>?_
   subst eH
   exact again Ia hm w9
theorem RG(hc:X.calm=true)(N':List Str)(js:List (Option Nat))(hi:PI X tg iter wi)
  (hB:IP sc X.env.scope X.N N' js=true)
  (hs:∀x,foldedSetIterable iter X.env x=pure x:=by intro _; rfl) :
  PE X (.ListComp elt [⟨tg,iter,ifs,0⟩] sc pos) (Oy X sc N' js tg elt ifs wi):=by
 intro pins s σ H Q I h
 have O:CompOk X sc N' js:=CompOk.of hB
 obtain⟨cl,hclos,hcl,hcl2⟩:=IQ (scope:=sc) (env:=X.env) fun x hx=>I.ok.has x (O.free x hx)
 rw [eval_ListComp]
 refine wpAny_comprehension_free (use:=none) rfl hs hclos O.kind O.names (Bp (hi pins s σ H _ I h) fun v s1 h1=>Bp h1 fun itv s2 h2=>?_)
 obtain⟨it,fp,tn,J,H2,e,I2,T,st2,f2,hq⟩:=h2
 subst e
 have kfree:X.K.lookup s2.heap.objs.size=none:=by
  cases q:X.K.lookup s2.heap.objs.size with
  | none=>rfl
  | some o=>exact absurd (Heap.lt_size (I2.kIn _ _ q)) (Nat.lt_irrefl _)
 obtain⟨g,tt,te,W,hg,ht,he,⟨m0,w0⟩,hW⟩:=hq s2.heap.objs.size (I2.hok.fresh (Nat.le_refl _)) kfree cl (s2.heap.objs.size+1) s2 H2 fp
 refine wpAny_newObj_type (wpAny_newFunctionEnv O.cell (by intro y hy; simp at hy) (fun h₁ hns₁ hsb₁=>?_) O.kind)
 dsimp only at hns₁ hsb₁ ⊢
 generalize hH2:s2.heap.push { cls:=.type "list",dict:=none,data:=.seq ([]:List Value).toArray }=Hh at hns₁ hsb₁ ⊢
 have hCe:Hh.objs.size=s2.heap.objs.size+1:=by rw [← hH2,Heap.size_push]
 have hlt:∀b∈fp,b<s2.heap.objs.size:=fun b hb=>by
  obtain⟨o,e,_⟩:=T.obj _ _ st2 b hb
  exact Heap.lt_size e
 have old:∀b o,s2.heap.get? b=some o->h₁.get? b=some o:=fun b o e=>hsb₁.extBut b o (by rw [hCe]; exact Nat.ne_of_lt (Nat.lt_succ_of_lt (Heap.lt_size e))) (Heap.get?_push_of_some _ (hH2▸Heap.get?_push_of_some _ e))
 have hD:∃n,h₁.get? s2.heap.objs.size=some { cls:=.type "list",data:=.seq #[] n }:=⟨_,hsb₁.extBut _ _ (by rw [hCe]; exact Nat.ne_of_lt (Nat.lt_succ_self _)) (Heap.get?_push_of_some _ (hH2▸Heap.get?_push_size _ rfl))⟩
 have I3:∀tk,Inv (A8 X sc N' cl (s2.heap.objs.size+1) s2 H2 fp) [] (Cp js σ) (BA H2 s2.heap.objs.size (.lst [])) { s2 with heap:=h₁,toks:=tk }:=fun tk =>
  Ln I2 hc O hcl hcl2 f2 (fun b hb=>let ⟨o,e,_⟩:=T.obj _ _ st2 b hb; ⟨o,e⟩) (by rw [← hCe]; exact hns₁) old hD
 have st3:tn 0 h₁:=T.keep _ _ _ st2 fun b hb o e=>old b o e
 have fr3:∀b∈fp,BA H2 s2.heap.objs.size (.lst []) b=none:=fun b hb=>by
  rw [AU (Nat.ne_of_lt (hlt b hb))]
  exact(f2 b hb).1
 have loop:∀tk,codeAny (model X.prog X.w) X.A (.compLoop (.ListComp elt [⟨tg,iter,ifs,0⟩] sc pos) 0 (.ref it) (.ref s2.heap.objs.size) (compEnvC sc cl (s2.heap.objs.size+1) X.env))
   (compPost (model X.prog X.w) X.A X.xe none (EP X pins σ Q) (.ref s2.heap.objs.size) (s2.heap.objs.size+1)) { s2 with heap:=h₁,toks:=tk }:=fun tk=>by
  refine Jl (W:=W) (m0:=m0) (Q:=Q) I2 f2 hlt (Nat.le_succ _) T hg ht he hW (fun σ' H' s' J' q'=>?_) (I3 tk) st3 fr3 w0
  obtain⟨m,hn,_⟩:=J'.loc
  exact⟨m,hn,fun h' hs'=>⟨.ref _,H',ID I2 f2 (Nat.le_succ _) J' fun b hb=>hs'.2 b hb,rfl,q'⟩⟩
 rw [show (newEnv sc Hh.objs.size X.env.globals cl X.env.qual none .none (some X.env) builtinsNs).locals=s2.heap.objs.size+1 from hCe]
 show codeAny (model X.prog X.w) X.A (.compStart (.ListComp elt [⟨tg,iter,ifs,0⟩] sc pos) 0 (.ref it) (.ref s2.heap.objs.size) (compEnvC sc cl (s2.heap.objs.size+1) X.env)) _ _
 exact codeAny_compStart_list (loop _) (T.self _ 0 _ _ _ st3 (loop _))
end
end L2
namespace Dp
open PySem PySem.Spec PyProof.Rows L2
inductive D where
 | non | bl (b:Bool) | int (i:Int) | str (x:Str) | tup (xs:List D) | lst (xs:List D) | dic (ks:List AY) (xs:List D) | fdi (ks:List AY) (xs:List D)
 deriving Inhabited
def NdT(M:Addr->Prop)(H:Hp)(a:Addr)(vs:List V):Prop:=¬M a/\H a=some (.tup vs)
def NdL(M:Addr->Prop)(H:Hp)(a:Addr)(vs:List V):Prop:=¬M a/\H a=some (.lst vs)
def NdD(M:Addr->Prop)(H:Hp)(a:Addr)(ks:List AY)(vs:List V):Prop:=¬M a/\H a=some (.dK (ks.zip vs))
def NdF(M:Addr->Prop)(H:Hp)(a:Addr)(ks:List AY)(vs:List V):Prop:=∃o,¬M a/\H a=some (.frz o (.dK (ks.zip vs)))
mutual
def At(K:Frag)(M:Addr->Prop)(H:Hp):D->V->Prop
 | .non,v=>v=.non
 | .bl b,v=>v=.bl b
 | .int i,v=>v=.int i
 | .str x,v=>v=.str x/\x.length<=sizeLine
 | .tup ds,v=>∃a vs,v=.ref a/\NdT M H a vs/\Ats K M H ds vs
 | .lst ds,v=>∃a vs,v=.ref a/\NdL M H a vs/\Ats K M H ds vs
 | .dic ks ds,v=>∃a vs,v=.ref a/\NdD M H a ks vs/\ks.length=ds.length/\Ats K M H ds vs
 | .fdi ks ds,v=>∃a vs,v=.ref a/\NdF M H a ks vs/\ks.length=ds.length/\Ats K M H ds vs
def Ats(K:Frag)(M:Addr->Prop)(H:Hp):List D->List V->Prop
 | [],vs=>vs=[]
 | d::ds,vs=>∃v r,vs=v::r/\At K M H d v/\Ats K M H ds r
end
section
variable {K:Frag}{M M':Addr->Prop}{H H':Hp}{a:Addr}{vs:List V}{ks:List AY}
theorem NdT.sq(h:NdT M H a vs):SqT K H a vs:=.inl (.inl h.2)
theorem NdL.sq(h:NdL M H a vs):SqL K H a vs:=.inl (.inl h.2)
def Pres(M:Addr->Prop)(H:Hp)(M':Addr->Prop)(H':Hp):Prop:=(∀b o,H b=some o->¬M b->H' b=some o)/\∀b,M' b->M b\/H b=none
theorem Pres.nd{u:HO}(p:Pres M H M' H')(n:¬M a)(h:H a=some u):¬M' a/\H' a=some u:=by
 refine⟨fun z=>?_,p.1 _ _ h n⟩
 rcases p.2 a z with z | z
 ·exact n z
 ·rw [z] at h; cases h
theorem NdT.pres(p:Pres M H M' H')(h:NdT M H a vs):NdT M' H' a vs:=p.nd h.1 h.2
theorem NdL.pres(p:Pres M H M' H')(h:NdL M H a vs):NdL M' H' a vs:=p.nd h.1 h.2
theorem NdD.pres(p:Pres M H M' H')(h:NdD M H a ks vs):NdD M' H' a ks vs:=p.nd h.1 h.2
theorem NdF.pres(p:Pres M H M' H')(h:NdF M H a ks vs):NdF M' H' a ks vs:=let ⟨o,h1,h2⟩:=h; ⟨o,p.nd h1 h2⟩
mutual
theorem At.pres(p:Pres M H M' H'):∀{d:D} {v:V},At K M H d v->At K M' H' d v
 | .non,v,h=>h
 | .bl b,v,h=>h
 | .int i,v,h=>h
 | .str x,v,h=>h
 | .tup ds,v,h=>by
  obtain⟨a,vs,e,hn,hs⟩:=h
  exact⟨a,vs,e,hn.pres p,Ats.pres p hs⟩
 | .lst ds,v,h=>by
  obtain⟨a,vs,e,hn,hs⟩:=h
  exact⟨a,vs,e,hn.pres p,Ats.pres p hs⟩
 | .dic ks ds,v,h=>by
  obtain⟨a,vs,e,hn,hl,hs⟩:=h
  exact⟨a,vs,e,hn.pres p,hl,Ats.pres p hs⟩
 | .fdi ks ds,v,h=>by
  obtain⟨a,vs,e,hn,hl,hs⟩:=h
  exact⟨a,vs,e,hn.pres p,hl,Ats.pres p hs⟩
theorem Ats.pres(p:Pres M H M' H'):∀{ds:List D} {vs:List V},Ats K M H ds vs->Ats K M' H' ds vs
 | [],vs,h=>h
 | d::ds,vs,h=>by
  obtain⟨v,r,e,h1,h2⟩:=h
  exact⟨v,r,e,At.pres p h1,Ats.pres p h2⟩
end
theorem Pres.trans{M1 M2 M3:Addr->Prop}{H1 H2 H3:Hp}(p:Pres M1 H1 M2 H2)(q:Pres M2 H2 M3 H3):Pres M1 H1 M3 H3:=by
 refine⟨fun b o e n=>?_,fun b z=>?_⟩
 ·refine q.1 b o (p.1 b o e n) fun z=>?_
  rcases p.2 b z with z | z
  ·exact n z
  ·rw [z] at e; cases e
 ·rcases q.2 b z with z | z
  ·exact p.2 b z
  ·cases e:H1 b with
   | none=>exact .inr rfl
   | some o =>
    by_cases n:M1 b
    ·exact .inl n
    ·rw [p.1 b o e n] at z; cases z
theorem Pres.refl(M:Addr->Prop)(H:Hp):Pres M H M H:=⟨fun _ _ e _=>e,fun _ z=>.inl z⟩
theorem Pres.less(h:∀b,M' b->M b):Pres M H M' H:=⟨fun _ _ e _=>e,fun b z=>.inl (h b z)⟩
theorem Ats.length:∀{ds:List D} {vs:List V},Ats K M H ds vs->vs.length=ds.length
 | [],vs,h=>by cases h; rfl
 | d::ds,vs,h=>by
  obtain⟨v,r,e,h1,h2⟩:=h
  subst e
  rw [List.length_cons,List.length_cons,Ats.length h2]
theorem Ats.get:∀{ds:List D} {vs:List V} {i:Nat} {d:D},Ats K M H ds vs->ds[i]?=some d->∃v,vs[i]?=some v/\At K M H d v
 | [],vs,i,d,h,e=>by simp at e
 | d0::ds,vs,0,d,h,e=>by
  obtain⟨v,r,e1,h1,h2⟩:=h
  simp at e
  subst e e1
  exact⟨v,rfl,h1⟩
 | d0::ds,vs,i+1,d,h,e=>by
  obtain⟨v,r,e1,h1,h2⟩:=h
  subst e1
  obtain⟨u,e2,h3⟩:=Ats.get (i:=i) (d:=d) h2 (by simpa using e)
  exact⟨u,by simpa using e2,h3⟩
theorem Ats.append:∀{ds es:List D} {vs us:List V},Ats K M H ds vs->Ats K M H es us->Ats K M H (ds++es) (vs++us)
 | [],es,vs,us,h,g=>by cases h; exact g
 | d::ds,es,vs,us,h,g=>by
  obtain⟨v,r,e,h1,h2⟩:=h
  subst e
  exact⟨v,r++us,rfl,h1,Ats.append h2 g⟩
theorem Ats.drop:∀{ds:List D} {vs:List V} (n:Nat),Ats K M H ds vs->Ats K M H (ds.drop n) (vs.drop n)
 | ds,vs,0,h=>h
 | [],vs,n+1,h=>by cases h; exact rfl
 | d::ds,vs,n+1,h=>by
  obtain⟨v,r,e,h1,h2⟩:=h
  subst e
  exact Ats.drop n h2
theorem Ats.take:∀{ds:List D} {vs:List V} (n:Nat),Ats K M H ds vs->Ats K M H (ds.take n) (vs.take n)
 | ds,vs,0,h=>rfl
 | [],vs,n+1,h=>by cases h; exact rfl
 | d::ds,vs,n+1,h=>by
  obtain⟨v,r,e,h1,h2⟩:=h
  subst e
  exact⟨v,r.take n,rfl,h1,Ats.take n h2⟩
theorem Ats.one{d:D}{v:V}(h:At K M H d v):Ats K M H [d] [v]:=⟨v,[],rfl,h,rfl⟩
theorem Ats.eraseIdx:∀{ds:List D} {vs:List V} (i:Nat),Ats K M H ds vs->Ats K M H (ds.eraseIdx i) (vs.eraseIdx i)
 | [],vs,i,h=>by cases h; exact rfl
 | d0::ds,vs,0,h=>by
  obtain⟨u,r,e1,h1,h2⟩:=h
  subst e1
  exact h2
 | d0::ds,vs,i+1,h=>by
  obtain⟨u,r,e1,h1,h2⟩:=h
  subst e1
  exact⟨u,r.eraseIdx i,rfl,h1,Ats.eraseIdx i h2⟩
theorem Ats.reverse:∀{ds:List D} {vs:List V},Ats K M H ds vs->Ats K M H ds.reverse vs.reverse
 | [],vs,h=>by cases h; exact rfl
 | d::ds,vs,h=>by
  obtain⟨v,r,e,h1,h2⟩:=h
  subst e
  rw [List.reverse_cons,List.reverse_cons]
  exact Ats.append (Ats.reverse h2) (Ats.one h1)
end
inductive Kd where
 | sh | tp | fr
def Tops(K:Frag)(M:Addr->Prop)(H:Hp)(a:Addr):D->Prop
 | .lst ds=>∃vs,H a=some (.lst vs)/\Ats K M H ds vs
 | .dic ks ds=>∃vs,H a=some (.dK (ks.zip vs))/\ks.length=ds.length/\Ats K M H ds vs
 | _=>False
theorem Tops.pres{K:Frag}{M M':Addr->Prop}{H H':Hp}{a:Addr}{d:D}(h:Tops K M H a d)(p:Pres M H M' H')(e:∀o,H a=some o->H' a=some o):Tops K M' H' a d:=by
 cases d with
 | lst ds=>obtain⟨vs,h1,h2⟩:=h; exact⟨vs,e _ h1,h2.pres p⟩
 | dic ks ds=>obtain⟨vs,h1,h2,h3⟩:=h; exact⟨vs,e _ h1,h2,h3.pres p⟩
 | _=>exact(show False from h).elim
theorem Tops.at{K:Frag}{M:Addr->Prop}{H:Hp}{a:Addr}{d:D}(h:Tops K M H a d)(n:¬M a):At K M H d (.ref a):=by
 cases d with
 | lst ds=>obtain⟨vs,h1,h2⟩:=h; exact⟨a,vs,rfl,⟨n,h1⟩,h2⟩
 | dic ks ds=>obtain⟨vs,h1,h2,h3⟩:=h; exact⟨a,vs,rfl,⟨n,h1⟩,h2,h3⟩
 | _=>exact(show False from h).elim
def AtT(K:Frag)(U:Addr->Prop)(M:Addr->Prop)(H:Hp):D->V->Prop
 | .lst ds,v=>∃a vs,v=.ref a/\¬U a/\Rd H a (.lst vs)/\Ats K M H ds vs
 | .dic ks ds,v=>∃a vs,v=.ref a/\¬U a/\H a=some (.dK (ks.zip vs))/\ks.length=ds.length/\Ats K M H ds vs
 | d,v=>At K M H d v
theorem Tops.att{K:Frag}{U M:Addr->Prop}{H:Hp}{a:Addr}{d:D}(h:Tops K M H a d)(n:¬U a):AtT K U M H d (.ref a):=by
 cases d with
 | lst ds=>obtain⟨vs,h1,h2⟩:=h; exact⟨a,vs,rfl,n,.inl h1,h2⟩
 | dic ks ds=>obtain⟨vs,h1,h2,h3⟩:=h; exact⟨a,vs,rfl,n,h1,h2,h3⟩
 | _=>exact(show False from h).elim
def VR(K:Frag)(U:Addr->Prop)(M:Addr->Prop)(H H':Hp):Kd->V->D->Prop
 | .sh,v,d=>At K M H' d v
 | .tp,v,d=>AtT K U M H' d v
 | .fr,v,d=>∃a,v=.ref a/\H a=none/\Tops K (fun b=>M b\/b=a) H' a d
def FeedOk(K:Frag)(M:Addr->Prop)(H:Hp)(f:Addr×Addr)(n:Nat):Prop :=
 ∃(at_ rest:Int) (cells:List Int),H f.1=some (.lst [.ref f.2,.int at_,.int rest])/\f.2≠f.1/\NdL M H f.2 (cells.map V.int)/\cells.length<=63/\0<=at_/\at_+n<=2 ^ 60
def FeedC(K:Frag)(F:Option (Addr×Addr))(M:Addr->Prop)(H:Hp)(n:Nat):Prop:=∀f,F=some f->FeedOk K M H f n
def Ext(U:Addr->Prop)(H H':Hp):Prop:=∀b o,H b=some o->∃o',H' b=some o'/\(¬U b->o'=o)
theorem Ext.keep{U:Addr->Prop}{H H':Hp}(p:Ext U H H'){b:Addr}{o:HO}(e:H b=some o)(n:¬U b):H' b=some o:=by
 obtain⟨o',q,r⟩:=p b o e
 rw [q,r n]
theorem Ext.free{U:Addr->Prop}{H H':Hp}(p:Ext U H H'){b:Addr}(e:H' b=none):H b=none:=by
 cases q:H b with
 | none=>rfl
 | some o =>
  obtain⟨o',z,_⟩:=p b o q
  rw [e] at z; cases z
theorem Ext.refl(U:Addr->Prop)(H:Hp):Ext U H H:=fun _ o e=>⟨o,e,fun _=>rfl⟩
theorem Ext.trans{U:Addr->Prop}{H1 H2 H3:Hp}(p:Ext U H1 H2)(q:Ext U H2 H3):Ext U H1 H3:=fun b o e=>by
 obtain⟨o',e1,r1⟩:=p b o e
 obtain⟨o2,e2,r2⟩:=q b o' e1
 exact⟨o2,e2,fun n=>(r2 n).trans (r1 n)⟩
def Grow(H H':Hp):Prop:=H'=H\/∃p o,H p=none/\H'=BA H p o
theorem Grow.all{H H':Hp}(g:Grow H H'):∀b o,H b=some o->H' b=some o:=by
 intro b o e
 rcases g with rfl | ⟨p,u,n,rfl⟩
 ·exact e
 ·rw [AU (BB e n)]; exact e
theorem Grow.refl{H:Hp}:Grow H H:=.inl rfl
theorem Grow.ext{U:Addr->Prop}{H H':Hp}(g:Grow H H'):Ext U H H':=fun b o e=>⟨o,g.all b o e,fun _=>rfl⟩
theorem Grow.pres{M:Addr->Prop}{H H':Hp}(g:Grow H H'):Pres M H M H':=⟨fun b o e _=>g.all b o e,fun _ z=>.inl z⟩
theorem FeedOk.pres{K:Frag}{M M':Addr->Prop}{H H':Hp}{f:Addr×Addr}{n:Nat}(h:FeedOk K M H f n)(p:Pres M H M' H')(e:∀o,H f.1=some o->H' f.1=some o):FeedOk K M' H' f n:=by
 obtain⟨a,r,cs,h1,h2,h3,h4⟩:=h
 exact⟨a,r,cs,e _ h1,h2,h3.pres p,h4⟩
theorem FeedC.pres{K:Frag}{F:Option (Addr×Addr)}{M M':Addr->Prop}{H H':Hp}{n:Nat}(h:FeedC K F M H n)(p:Pres M H M' H')(e:∀f o,F=some f->H f.1=some o->H' f.1=some o):FeedC K F M' H' n:=fun f hf=>(h f hf).pres p fun o q=>e f o hf q
theorem FeedC.grow{K:Frag}{F:Option (Addr×Addr)}{M:Addr->Prop}{H H':Hp}{n:Nat}(h:FeedC K F M H n)(g:Grow H H'):FeedC K F M H' n:=h.pres g.pres fun f o _ e=>g.all f.1 o e
theorem FeedC.more{K:Frag}{F:Option (Addr×Addr)}{M:Addr->Prop}{H:Hp}{n:Nat}(h:FeedC K F M H n)(a:Addr)(ha:∀f,F=some f->f.2≠a):FeedC K F (fun b=>M b\/b=a) H n:=fun f hf=>by
 obtain⟨x,r,cs,h1,h2,h3,h4⟩:=h f hf
 exact⟨x,r,cs,h1,h2,⟨fun z=>z.elim h3.1 (ha f hf),h3.2⟩,h4⟩
inductive Slot where
 | no | sh (d:D) | br (d:D) | fd | ow (d:D) | lt (a:Addr) (d:D)
def Slot.owns:Slot->Bool
 | .ow _=>true
 | .lt _ _=>true
 | _=>false
def SlotOk(K:Frag)(F:Option (Addr×Addr))(U:Addr->Prop)(M:Addr->Prop)(H:Hp):Slot->Option V->Prop
 | .no,_=>True
 | .sh d,o=>∃v,o=some v/\At K M H d v
 | .br d,o=>∃v,o=some v/\AtT K U M H d v
 | .fd,o=>∃f,o=some (.ref f.1)/\F=some f
 | .ow d,o=>∃a,o=some (.ref a)/\M a/\¬U a/\Tops K M H a d
 | .lt a d,o=>o=some (.ref a)/\M a/\¬U a/\Tops K M H a d
structure Fm where
 M0:Addr->Prop
 F:Option (Addr×Addr)
 U:Addr->Prop
 V:Addr->Prop
 H0:Hp
 pins:List ((Addr->Prop)×Hp)
 kp:List (Addr×HO)
def U7(ρ:List Slot)(σ:L2.St):Prop:=∀(i j:Nat) (s t:Slot) (a:Addr),ρ[i]?=some s->s.owns=true->ρ[j]?=some t->t.owns=true->(σ[i]?).getD none=some (.ref a)->(σ[j]?).getD none=some (.ref a)->i=j
structure Rel (K:Frag) (C:Fm) (M:Addr->Prop) (H:Hp) (n:Nat) (ρ:List Slot) (σ:L2.St):Prop where
 len:ρ.length=σ.length
 sub:∀a,C.M0 a->M a
 dom:∀a,M a->∃o,H a=some o
 ext:Ext C.U C.H0 H
 fU:∀f,C.F=some f->C.U f.1
 uV:∀a,C.U a->C.V a
 vM:∀a,C.V a->M a
 feed:FeedC K C.F M H n
 sl:∀(i:Nat) (s:Slot),ρ[i]?=some s->SlotOk K C.F C.V M H s ((σ[i]?).getD none)
 pin:∀p∈C.pins,Pres p.1 p.2 M H
 br0:∀(i:Nat) (d:D) (a:Addr),ρ[i]?=some (.br d)->(σ[i]?).getD none=some (.ref a)->∃o,C.H0 a=some o
 new:∀(i:Nat) (s:Slot) (a:Addr),ρ[i]?=some s->s.owns=true->(σ[i]?).getD none=some (.ref a)->¬C.M0 a/\C.H0 a=none
 two:U7 ρ σ
 kept:∀p∈C.kp,H p.1=some p.2/\M p.1/\¬C.V p.1/\∀(i:Nat) (d:D),ρ[i]?=some (.ow d)->(σ[i]?).getD none≠some (.ref p.1)
section
variable {K:Frag}{C:Fm}{M:Addr->Prop}{H H':Hp}{n n':Nat}{ρ:List Slot}{σ:L2.St}{d:D}{v:V}{κ:Kd}
theorem Rel.pres(R:Rel K C M H n ρ σ)(e:Ext C.U H H'):Pres M H M H':=⟨fun b o q nb=>e.keep q fun z=>nb (R.vM b (R.uV b z)),fun _ z=>.inl z⟩
theorem AtT.pres{U V':Addr->Prop}{M':Addr->Prop}(h:AtT K V' M H d v)(p:Pres M H M' H')(e:Ext U H H')(uV:∀a,U a->V' a):AtT K V' M' H' d v:=by
 cases d with
 | lst ds =>
  obtain⟨a,vs,e1,n1,hq,hs⟩:=h
  refine⟨a,vs,e1,n1,?_,hs.pres p⟩
  rcases hq with hq | ⟨o,hq⟩
  ·exact .inl (e.keep hq fun z=>n1 (uV a z))
  ·exact .inr ⟨o,e.keep hq fun z=>n1 (uV a z)⟩
 | dic ks ds =>
  obtain⟨a,vs,e1,n1,hq,hl,hs⟩:=h
  exact⟨a,vs,e1,n1,e.keep hq fun z=>n1 (uV a z),hl,hs.pres p⟩
 | non=>exact At.pres (K:=K) p (d:=.non) h
 | bl b=>exact At.pres (K:=K) p (d:=.bl b) h
 | int i=>exact At.pres (K:=K) p (d:=.int i) h
 | str x=>exact At.pres (K:=K) p (d:=.str x) h
 | tup ds=>exact At.pres (K:=K) p (d:=.tup ds) h
 | fdi ks ds=>exact At.pres (K:=K) p (d:=.fdi ks ds) h
theorem AtT.same{U V':Addr->Prop}{M':Addr->Prop}(h:AtT K U M H d v)(p:Pres M H M' H')(e:∀a o,v=.ref a->H a=some o->H' a=some o)(nv:∀a,v=.ref a->¬U a->¬V' a):AtT K V' M' H' d v:=by
 cases d with
 | lst ds =>
  obtain⟨a,vs,e1,n1,hq,hs⟩:=h
  refine⟨a,vs,e1,nv a e1 n1,?_,hs.pres p⟩
  rcases hq with hq | ⟨o,hq⟩
  ·exact .inl (e a _ e1 hq)
  ·exact .inr ⟨o,e a _ e1 hq⟩
 | dic ks ds =>
  obtain⟨a,vs,e1,n1,hq,hl,hs⟩:=h
  exact⟨a,vs,e1,nv a e1 n1,e a _ e1 hq,hl,hs.pres p⟩
 | non=>exact At.pres (K:=K) p (d:=.non) h
 | bl b=>exact At.pres (K:=K) p (d:=.bl b) h
 | int i=>exact At.pres (K:=K) p (d:=.int i) h
 | str x=>exact At.pres (K:=K) p (d:=.str x) h
 | tup ds=>exact At.pres (K:=K) p (d:=.tup ds) h
 | fdi ks ds=>exact At.pres (K:=K) p (d:=.fdi ks ds) h
theorem AtT.lies{U:Addr->Prop}{a:Addr}(h:AtT K U M H d (.ref a)):∃o,H a=some o:=by
 cases d with
 | lst ds =>
  obtain⟨b,vs,e,_,hq,_⟩:=h
  cases e
  rcases hq with hq | ⟨o,hq⟩
  ·exact⟨_,hq⟩
  ·exact⟨_,hq⟩
 | dic ks ds =>
  obtain⟨b,vs,e,_,hq,_⟩:=h
  cases e
  exact⟨_,hq⟩
 | non=>cases (show V.ref a=.non from h)
 | bl b=>cases (show V.ref a=.bl b from h)
 | int i=>cases (show V.ref a=.int i from h)
 | str x=>cases (show V.ref a=.str x/\_ from h).1
 | tup ds =>
  obtain⟨b,vs,e,hq,_⟩:=h
  cases e
  exact⟨_,hq.2⟩
 | fdi ks ds =>
  obtain⟨b,vs,e,⟨o,_,hq⟩,_⟩:=h
  cases e
  exact⟨_,hq⟩
theorem SlotOk.pres{F:Option (Addr×Addr)}{U V' M':Addr->Prop}{s:Slot}{o:Option V}(h:SlotOk K F V' M H s o)(p:Pres M H M' H')(m:∀a,M a->M' a)(e:Ext U H H')(uV:∀a,U a->V' a):SlotOk K F V' M' H' s o:=by
 cases s with
 | no=>trivial
 | sh d=>obtain⟨v,e1,h1⟩:=h; exact⟨v,e1,h1.pres p⟩
 | br d=>obtain⟨v,e1,h1⟩:=h; exact⟨v,e1,h1.pres p e uV⟩
 | fd=>exact h
 | ow d=>obtain⟨a,e1,h1,h2,h3⟩:=h; exact⟨a,e1,m a h1,h2,h3.pres p fun o q=>e.keep q fun z=>h2 (uV a z)⟩
 | lt a d=>obtain⟨e1,h1,h2,h3⟩:=h; exact⟨e1,m a h1,h2,h3.pres p fun o q=>e.keep q fun z=>h2 (uV a z)⟩
theorem Rel.step(R:Rel K C M H n ρ σ)(e:Ext C.U H H')(f:FeedC K C.F M H' n'):Rel K C M H' n' ρ σ:=by
 have p:=R.pres e
 refine⟨R.len,R.sub,fun a z=>?_,R.ext.trans e,R.fU,R.uV,R.vM,f,fun i s q=>(R.sl i s q).pres p (fun _ z=>z) e R.uV,fun q hq=>(R.pin q hq).trans p,R.br0,R.new,R.two,fun q hq=>?_⟩
 ·obtain⟨o,h1⟩:=R.dom a z
  obtain⟨o',h2,_⟩:=e a o h1
  exact⟨o',h2⟩
 ·obtain⟨h1,h2,h3,h4⟩:=R.kept q hq
  exact⟨e.keep h1 fun z=>h3 (R.uV _ z),h2,h3,h4⟩
theorem Rel.udom(R:Rel K C M H n ρ σ):∀a,C.U a->∃o,H a=some o:=fun a z=>R.dom a (R.vM a (R.uV a z))
theorem At.tp{U:Addr->Prop}(uM:∀a,U a->M a)(h:At K M H d v):AtT K U M H d v:=by
 cases d with
 | lst ds =>
  obtain⟨a,vs,e,hn,hs⟩:=h
  exact⟨a,vs,e,fun z=>hn.1 (uM a z),.inl hn.2,hs⟩
 | dic ks ds =>
  obtain⟨a,vs,e,hn,hl,hs⟩:=h
  exact⟨a,vs,e,fun z=>hn.1 (uM a z),hn.2,hl,hs⟩
 | non=>exact h
 | bl b=>exact h
 | int i=>exact h
 | str x=>exact h
 | tup ds=>exact h
 | fdi ks ds=>exact h
theorem VR.back{U V':Addr->Prop}{H1:Hp}(e:Ext U H H1)(h:VR K V' M H1 H' κ v d):VR K V' M H H' κ v d:=by
 cases κ with
 | sh=>exact h
 | tp=>exact h
 | fr =>
  obtain⟨a,e1,h1,h2⟩:=h
  exact⟨a,e1,e.free h1,h2⟩
theorem VR.shOf{U:Addr->Prop}(dom:∀a,M a->∃o,H a=some o)(h:VR K U M H H' κ v d)(hk:κ≠.tp):At K M H' d v:=by
 cases κ with
 | sh=>exact h
 | tp=>exact absurd rfl hk
 | fr =>
  obtain⟨a,rfl,h1,h2⟩:=h
  refine(h2.pres (Pres.less (M':=M) fun _ z=>.inl z) fun _ z=>z).at fun z=>?_
  obtain⟨o,q⟩:=dom a z
  rw [h1] at q; cases q
theorem VR.tpOf{U:Addr->Prop}(dom:∀a,M a->∃o,H a=some o)(uM:∀a,U a->M a)(h:VR K U M H H' κ v d):AtT K U M H' d v:=by
 cases κ with
 | sh=>exact At.tp uM h
 | tp=>exact h
 | fr=>exact At.tp uM (VR.shOf dom h (by intro z; cases z))
theorem HZ{α:Type}{l:List α}{i j:Nat}{x y:α}(h:(l.set i x)[j]?=some y):(j=i/\i<l.length/\y=x)\/(j≠i/\l[j]?=some y):=by
 rw [List.getElem?_set] at h
 by_cases e:i=j
 ·rw [if_pos e] at h
  by_cases hl:i<l.length
  ·rw [if_pos hl] at h
   exact .inl ⟨e.symm,hl,(Option.some.inj h).symm⟩
  ·rw [if_neg hl] at h; cases h
 ·rw [if_neg e] at h
  exact .inr ⟨fun z=>e z.symm,h⟩
theorem J5{l:L2.St}{i j:Nat}{x:Option V}(h:j≠i):((l.set i x)[j]?).getD none=(l[j]?).getD none:=by
 rw [List.getElem?_set,if_neg (fun z=>h z.symm)]
theorem O5{l:L2.St}{i:Nat}{x:Option V}(h:i<l.length):((l.set i x)[i]?).getD none=x:=by
 rw [List.getElem?_set,if_pos rfl,if_pos h]
 rfl
theorem Rel.set(R:Rel K C M H n ρ σ){i:Nat}(h:At K M H d v):Rel K C M H n (ρ.set i (.sh d)) (σ.set i (some v)):=by
 have two:∀(j:Nat) (s:Slot),(ρ.set i (.sh d))[j]?=some s->s.owns=true->ρ[j]?=some s/\((σ.set i (some v))[j]?).getD none=(σ[j]?).getD none:=fun j s q o=>by
  rcases HZ q with ⟨_,_,rfl⟩ | ⟨hj,q⟩
  ·cases o
  ·exact⟨q,J5 hj⟩
 refine⟨by rw [List.length_set,List.length_set]; exact R.len,R.sub,R.dom,R.ext,R.fU,R.uV,R.vM,R.feed,fun j s q=>?_,R.pin,fun j e a q q2=>?_,fun j s a q o q2=>?_,fun j k s t a q1 o1 q2 o2 z1 z2=>?_,fun p hp=>?_⟩
 ·rcases HZ q with ⟨rfl,hl,rfl⟩ | ⟨hj,q⟩
  ·rw [O5 (by rw [← R.len]; exact hl)]
   exact⟨v,rfl,h⟩
  ·rw [J5 hj]
   exact R.sl j s q
 ·rcases HZ q with ⟨_,_,e⟩ | ⟨hj,q⟩
  ·cases e
  ·rw [J5 hj] at q2
   exact R.br0 j e a q q2
 ·obtain⟨q1,e⟩:=two j s q o
  rw [e] at q2
  exact R.new j s a q1 o q2
 ·obtain⟨p1,e1⟩:=two j s q1 o1
  obtain⟨p2,e2⟩:=two k t q2 o2
  rw [e1] at z1
  rw [e2] at z2
  exact R.two j k s t a p1 o1 p2 o2 z1 z2
 ·obtain⟨h1,h2,h3,h4⟩:=R.kept p hp
  refine⟨h1,h2,h3,fun j e q=>?_⟩
  obtain⟨q1,e2⟩:=two j _ q rfl
  rw [e2]
  exact h4 j e q1
theorem Rel.owner(R:Rel K C M H n ρ σ){i:Nat}{s:Slot}(h:ρ[i]?=some s)(o:s.owns=true):∃a e,(σ[i]?).getD none=some (.ref a)/\M a/\¬C.V a/\Tops K M H a e/\¬C.M0 a/\C.H0 a=none:=by
 have q:=R.sl i s h
 cases s with
 | ow d=>obtain⟨a,e1,h1,h2,h3⟩:=q; exact⟨a,d,e1,h1,h2,h3,R.new i _ a h o e1⟩
 | lt a d=>obtain⟨e1,h1,h2,h3⟩:=q; exact⟨a,d,e1,h1,h2,h3,R.new i _ a h o e1⟩
 | _=>cases o
theorem Rel.setOw(R:Rel K C M H n ρ σ){i:Nat}{a:Addr}(e:Ext C.U H H')(f:FeedC K C.F M H' n')(ha:H a=none)(h:Tops K (fun b=>M b\/b=a) H' a d) :
  Rel K C (fun b=>M b\/b=a) H' n' (ρ.set i (.ow d)) (σ.set i (some (.ref a))):=by
 have R1:=R.step e f
 have ne:∀b,M b->b≠a:=fun b z q=>by
  obtain⟨o,w⟩:=R.dom b z
  rw [q,ha] at w; cases w
 have a0:¬C.M0 a/\C.H0 a=none:=⟨fun z=>ne a (R.sub a z) rfl,R.ext.free ha⟩
 have pr:Pres M H (fun b=>M b\/b=a) H':=⟨fun b o q nb=>e.keep q fun z=>nb (R.vM b (R.uV b z)),fun b z=>z.elim .inl fun z=>.inr (by rw [z]; exact ha)⟩
 have two:∀(j:Nat) (s:Slot),(ρ.set i (.ow d))[j]?=some s->(j=i/\s=.ow d/\((σ.set i (some (.ref a)))[j]?).getD none=some (.ref a))\/(j≠i/\ρ[j]?=some s/\((σ.set i (some (.ref a)))[j]?).getD none=(σ[j]?).getD none):=fun j s q=>by
  rcases HZ q with ⟨rfl,hl,rfl⟩ | ⟨hj,q⟩
  ·exact .inl ⟨rfl,rfl,O5 (by rw [← R.len]; exact hl)⟩
  ·exact .inr ⟨hj,q,J5 hj⟩
 have old:∀(j:Nat) (s:Slot) (b:Addr),ρ[j]?=some s->s.owns=true->(σ[j]?).getD none=some (.ref b)->b≠a:=fun j s b q o z=>by
  obtain⟨c,_,e1,m,_⟩:=R.owner q o
  rw [e1] at z
  cases z
  exact ne _ m
 have hd:∃o,H' a=some o:=by
  cases d with
  | lst ds=>obtain⟨vs,q,_⟩:=h; exact⟨_,q⟩
  | dic ks ds=>obtain⟨vs,q,_⟩:=h; exact⟨_,q⟩
  | _=>exact(show False from h).elim
 refine⟨by rw [List.length_set,List.length_set]; exact R.len,fun b z=>.inl (R.sub b z),fun b z=>?_,R1.ext,R.fU,R.uV,fun b z=>.inl (R.vM b z),f.more a fun g hg q=>?_,fun j s q=>?_,fun q hq=>(R.pin q hq).trans pr,fun j e2 b q q2=>?_,fun j s b q o q2=>?_,fun j k s t b q1 o1 q2 o2 z1 z2=>?_,fun p hp=>?_⟩
 ·rcases z with z | z
  ·exact R1.dom b z
  ·rw [z]; exact hd
 ·obtain⟨_,_,_,_,_,h3,_⟩:=R.feed g hg
  have:=h3.2
  rw [q,ha] at this; cases this
 ·rcases two j s q with ⟨rfl,rfl,e1⟩ | ⟨hj,q1,e1⟩
  ·rw [e1]
   exact⟨a,rfl,.inr rfl,fun z=>ne a (R.vM a z) rfl,h⟩
  ·rw [e1]
   exact(R.sl j s q1).pres pr (fun _ z=>.inl z) e R.uV
 ·rcases two j _ q with ⟨_,e1,_⟩ | ⟨hj,q1,e1⟩
  ·cases e1
  ·rw [e1] at q2
   exact R.br0 j e2 b q1 q2
 ·rcases two j s q with ⟨_,_,e1⟩ | ⟨hj,q1,e1⟩
  ·rw [e1] at q2
   cases q2
   exact a0
  ·rw [e1] at q2
   exact R.new j s b q1 o q2
 ·rcases two j s q1 with ⟨rfl,_,e1⟩ | ⟨hj,p1,e1⟩
  ·rw [e1] at z1
   cases z1
   rcases two k t q2 with ⟨rfl,_,_⟩ | ⟨hk,p2,e2⟩
   ·rfl
   ·rw [e2] at z2
    exact absurd rfl (old k t a p2 o2 z2)
  ·rw [e1] at z1
   rcases two k t q2 with ⟨rfl,_,e2⟩ | ⟨hk,p2,e2⟩
   ·rw [e2] at z2
    cases z2
    exact absurd rfl (old j s a p1 o1 z1)
   ·rw [e2] at z2
    exact R.two j k s t b p1 o1 p2 o2 z1 z2
 ·obtain⟨h1,h2,h3,h4⟩:=R1.kept p hp
  refine⟨h1,.inl h2,h3,fun j e2 q=>?_⟩
  rcases two j _ q with ⟨_,_,e1⟩ | ⟨hj,q1,e1⟩
  ·rw [e1]
   intro z
   cases z
   exact ne _ h2 rfl
  ·rw [e1]
   exact h4 j e2 q1
theorem Rel.mut(R:Rel K C M H n ρ σ){i:Nat}{a:Addr}{e:D}{o:HO}(hi:ρ[i]?=some (.ow d))(ha:(σ[i]?).getD none=some (.ref a))(h:Tops K M (BA H a o) a e) :
  Rel K C M (BA H a o) n (ρ.set i (.ow e)) σ:=by
 obtain⟨b,_,e1,m,nv,t,n0,h0⟩:=R.owner hi rfl
 rw [ha] at e1
 cases e1
 have pr:Pres M H M (BA H a o):=⟨fun b o' q nb=>by rw [AU (fun z=>nb (by rw [z]; exact m))]; exact q,fun _ z=>.inl z⟩
 have old:∀(j:Nat) (s:Slot),(ρ.set i (.ow e))[j]?=some s->(j=i/\s=.ow e)\/(j≠i/\ρ[j]?=some s):=fun j s q=>by
  rcases HZ q with ⟨rfl,hl,rfl⟩ | ⟨hj,q⟩
  ·exact .inl ⟨rfl,rfl⟩
  ·exact .inr ⟨hj,q⟩
 have far:∀(j:Nat) (s:Slot) (b:Addr),j≠i->ρ[j]?=some s->s.owns=true->(σ[j]?).getD none=some (.ref b)->b≠a:=fun j s b hj q o z w=>by
  subst w
  exact hj (R.two j i s _ b q o hi rfl z ha)
 refine⟨by rw [List.length_set]; exact R.len,R.sub,fun b z=>?_,fun b o' q=>?_,R.fU,R.uV,R.vM,R.feed.pres pr fun f o' hf q=>?_,fun j s q=>?_,fun q hq=>(R.pin q hq).trans pr,fun j e2 b q q2=>?_,fun j s b q o2 q2=>?_,fun j k s t b q1 o1 q2 o2 z1 z2=>?_,fun p hp=>?_⟩
 ·by_cases hb:b=a
  ·exact⟨o,by rw [hb,Ab]⟩
  ·obtain⟨o',q⟩:=R.dom b z
   exact⟨o',by rw [AU hb]; exact q⟩
 ·obtain⟨o2,q2,r⟩:=R.ext b o' q
  have hb:b≠a:=fun z=>by rw [z,h0] at q; cases q
  exact⟨o2,by rw [AU hb]; exact q2,r⟩
 ·have hb:f.1≠a:=fun z=>nv (by rw [← z]; exact R.uV _ (R.fU f hf))
  rw [AU hb]; exact q
 ·rcases old j s q with ⟨rfl,rfl⟩ | ⟨hj,q1⟩
  ·rw [ha]
   exact⟨a,rfl,m,nv,h⟩
  ·have q2:=R.sl j s q1
   cases s with
   | no=>trivial
   | sh d=>obtain⟨v,e1,h1⟩:=q2; exact⟨v,e1,h1.pres pr⟩
   | br d =>
    obtain⟨v,e1,h1⟩:=q2
    refine⟨v,e1,h1.same pr (fun b o' z q=>?_) fun _ _ z=>z⟩
    subst z
    obtain⟨o3,w⟩:=R.br0 j d b q1 e1
    rw [AU (fun z=>by rw [z,h0] at w; cases w)]
    exact q
   | fd=>exact q2
   | ow d =>
    obtain⟨b,e1,h1,h2,h3⟩:=q2
    exact⟨b,e1,h1,h2,h3.pres pr fun o' w=>by rw [AU (far j _ b hj q1 rfl e1)]; exact w⟩
   | lt b d =>
    obtain⟨e1,h1,h2,h3⟩:=q2
    exact⟨e1,h1,h2,h3.pres pr fun o' w=>by rw [AU (far j _ b hj q1 rfl e1)]; exact w⟩
 ·rcases old j _ q with ⟨_,e1⟩ | ⟨hj,q1⟩
  ·cases e1
  ·exact R.br0 j e2 b q1 q2
 ·rcases old j s q with ⟨rfl,_⟩ | ⟨hj,q1⟩
  ·exact R.new j _ b hi rfl q2
  ·exact R.new j s b q1 o2 q2
 ·rcases old j s q1 with ⟨rfl,rfl⟩ | ⟨hj,p1⟩
  ·rcases old k t q2 with ⟨rfl,_⟩ | ⟨hk,p2⟩
   ·rfl
   ·exact R.two j k _ t b hi rfl p2 o2 z1 z2
  ·rcases old k t q2 with ⟨rfl,rfl⟩ | ⟨hk,p2⟩
   ·exact R.two j k s _ b p1 o1 hi rfl z1 z2
   ·exact R.two j k s t b p1 o1 p2 o2 z1 z2
 ·obtain⟨h1,h2,h3,h4⟩:=R.kept p hp
  have hb:p.1≠a:=fun z=>h4 i d hi (by rw [ha,z])
  refine⟨by rw [AU hb]; exact h1,h2,h3,fun j e2 q=>?_⟩
  rcases old j _ q with ⟨rfl,_⟩ | ⟨hj,q1⟩
  ·exact h4 j d hi
  ·exact h4 j e2 q1
end
abbrev DW:=Nat->List Slot->(D->Nat->Prop)->Prop
abbrev HL:=Nat->List Slot->(Bool->Nat->Prop)->Prop
abbrev GJ:=Nat->List Slot->(List D->Nat->Prop)->Prop
abbrev Tv:=Nat->List Slot->(List Slot->Nat->Prop)->Prop
section
variable (X:Cx)
def DE(e:Expr)(κ:Kd)(w:DW):Prop:=∃t,PE X e t/\∀(C:Fm) (M:Addr->Prop) (H:Hp) (n:Nat) (ρ:List Slot) (σ:L2.St) (P:D->Nat->Prop) (Q:VK),Rel X.K C M H n ρ σ->w n ρ P ->
 (∀v H' d n',Ext C.U H H'->FeedC X.K C.F M H' n'->VR X.K C.V M H H' κ v d->P d n'->Q v H')->t σ H Q
def DT(e:Expr)(w:HL):Prop:=∃t,PT X e t/\∀(C:Fm) (M:Addr->Prop) (H:Hp) (n:Nat) (ρ:List Slot) (σ:L2.St) (P:Bool->Nat->Prop) (Q:Bool->Hp->Prop),Rel X.K C M H n ρ σ->w n ρ P ->
 (∀b H' n',Ext C.U H H'->FeedC X.K C.F M H' n'->P b n'->Q b H')->t σ H Q
def DTW(e:Expr)(w:HL):Prop:=∃t,PW X e t/\∀(C:Fm) (M:Addr->Prop) (H:Hp) (n:Nat) (ρ:List Slot) (σ:L2.St) (P:Bool->Nat->Prop) (Q:Bool->Hp->Prop),Rel X.K C M H n ρ σ->w n ρ P ->
 (∀b H' n',Ext C.U H H'->FeedC X.K C.F M H' n'->P b n'->Q b H')->t σ H Q
def Tw(es:List Expr)(w:GJ):Prop:=∃t,PA X es t/\∀(C:Fm) (M:Addr->Prop) (H:Hp) (n:Nat) (ρ:List Slot) (σ:L2.St) (P:List D->Nat->Prop) (Q:List V->Hp->Prop),Rel X.K C M H n ρ σ->w n ρ P ->
 (∀vs H' ds n',Ext C.U H H'->FeedC X.K C.F M H' n'->Paired (fun v d=>AtT X.K C.V M H' d v) vs ds->P ds n'->Q vs H')->t σ H Q
def T5(es:List Expr)(w:GJ):Prop:=∃t,PA X es t/\∀(C:Fm) (M:Addr->Prop) (H:Hp) (n:Nat) (ρ:List Slot) (σ:L2.St) (P:List D->Nat->Prop) (Q:List V->Hp->Prop),Rel X.K C M H n ρ σ->w n ρ P ->
 (∀vs H' ds n',Ext C.U H H'->FeedC X.K C.F M H' n'->Ats X.K M H' ds vs->P ds n'->Q vs H')->t σ H Q
def Jx(K:Frag)(F:Option (Addr×Addr))(V' M:Addr->Prop)(H:Hp)(v:V)(s:Slot):Prop:=SlotOk K F V' M H s (some v)/\s.owns=false
def VL(e:Expr)(w:Nat->List Slot->(Slot->Nat->Prop)->Prop):Prop:=∃t,PE X e t/\∀(C:Fm) (M:Addr->Prop) (H:Hp) (n:Nat) (ρ:List Slot) (σ:L2.St) (P:Slot->Nat->Prop) (Q:VK),Rel X.K C M H n ρ σ->w n ρ P ->
 (∀v H' s n',Ext C.U H H'->FeedC X.K C.F M H' n'->Jx X.K C.F C.V M H' v s->P s n'->Q v H')->t σ H Q
def U6(es:List Expr)(w:Tv):Prop:=∃t,PA X es t/\∀(C:Fm) (M:Addr->Prop) (H:Hp) (n:Nat) (ρ:List Slot) (σ:L2.St) (P:List Slot->Nat->Prop) (Q:List V->Hp->Prop),Rel X.K C M H n ρ σ->w n ρ P ->
 (∀vs H' ss n',Ext C.U H H'->FeedC X.K C.F M H' n'->Paired (Jx X.K C.F C.V M H') vs ss->P ss n'->Q vs H')->t σ H Q
end
def AC(i:Nat):DW:=fun n ρ P=>match ρ[i]? with
 | some (.sh d)=>P d n
 | _=>False
def Az(i:Nat):DW:=fun n ρ P=>match ρ[i]? with
 | some (.sh d)=>P d n
 | some (.br d)=>P d n
 | some (.ow d)=>P d n
 | some (.lt _ d)=>P d n
 | _=>False
def wC(d:D):DW:=fun n _ P=>P d n
section
variable {X:Cx}{a b c e:Expr}{κ κa κb:Kd}{wa wb wc:DW}{pos:Pos}
theorem getD_some{σ:L2.St}{i:Nat}{v:V}(h:(σ[i]?).getD none=some v):σ[i]?=some (some v):=by
 cases q:σ[i]? with
 | none=>rw [q] at h; cases h
 | some o=>rw [q] at h; exact congrArg some h
theorem Ri{i:Nat}(h:PE X e (CB i)):DE X e .sh (AC i):=by
 refine⟨_,h,fun C M H n ρ σ P Q R w q=>?_⟩
 unfold AC at w
 split at w
 ·rename_i d hd
  obtain⟨v,e1,h1⟩:=R.sl i _ hd
  exact⟨v,getD_some e1,q v H d n (Ext.refl _ _) R.feed h1 w⟩
 ·exact w.elim
theorem QS{i:Nat}(h:PE X e (CB i)):DE X e .tp (Az i):=by
 refine⟨_,h,fun C M H n ρ σ P Q R w q=>?_⟩
 unfold Az at w
 split at w
 ·rename_i d hd
  obtain⟨v,e1,h1⟩:=R.sl i _ hd
  exact⟨v,getD_some e1,q v H d n (Ext.refl _ _) R.feed (At.tp R.vM h1) w⟩
 ·rename_i d hd
  obtain⟨v,e1,h1⟩:=R.sl i _ hd
  exact⟨v,getD_some e1,q v H d n (Ext.refl _ _) R.feed h1 w⟩
 ·rename_i d hd
  obtain⟨a,e1,_,h2,h3⟩:=R.sl i _ hd
  exact⟨.ref a,getD_some e1,q _ H d n (Ext.refl _ _) R.feed (h3.att h2) w⟩
 ·rename_i a d hd
  obtain⟨e1,_,h2,h3⟩:=R.sl i _ hd
  exact⟨.ref a,getD_some e1,q _ H d n (Ext.refl _ _) R.feed (h3.att h2) w⟩
 ·exact w.elim
theorem dv(i:Nat){x:Str}{pos:Pos}(hN:X.N[i]?=some x:=by rfl)(hv:Tz X.env.scope x:=by first | exact Or.inl rfl | exact Or.inr (Or.inl rfl) | exact Or.inr (Or.inr rfl))(hd:(x==("__debug__" : Str))=false:=by decide)
  (hcd:(x==("__classdict__" : Str))=false:=by decide):DE X (.Name x pos) .sh (AC i):=Ri (KI hN hv hd hcd)
theorem HF(i:Nat){x:Str}{pos:Pos}(hN:X.N[i]?=some x:=by rfl)(hv:Tz X.env.scope x:=by first | exact Or.inl rfl | exact Or.inr (Or.inl rfl) | exact Or.inr (Or.inr rfl))(hd:(x==("__debug__" : Str))=false:=by decide)
  (hcd:(x==("__classdict__" : Str))=false:=by decide):DE X (.Name x pos) .tp (Az i):=QS (KI hN hv hd hcd)
theorem Fz{d:D}{v:V}(h:PE X e (tC v))(hd:∀M H,At X.K M H d v):DE X e .sh (wC d) :=
 ⟨_,h,fun C M H n ρ σ P Q R w q=>q v H d n (Ext.refl _ _) R.feed (hd M H) w⟩
theorem AE{i:Int}{j pos}:DE X (.Constant (.int i) j pos) .sh (wC (.int i)):=Fz A0 fun _ _=>rfl
theorem EL{b:Bool}{j pos}:DE X (.Constant (.bool b) j pos) .sh (wC (.bl b)):=Fz Uc fun _ _=>rfl
theorem QU{j pos}:DE X (.Constant .none j pos) .sh (wC .non):=Fz Sz fun _ _=>rfl
theorem A1{x:Str}{j pos}(hx:decide (x.length<=1000)=true:=by rfl):DE X (.Constant (.str x) j pos) .sh (wC (.str x)) :=
 Fz Sv fun _ _=>⟨rfl,Nat.le_trans (of_decide_eq_true hx) (by rw [sizeLine_eq]; decide)⟩
def Gp(K:Frag)(κ:Kd)(r:R2)(f:D->D->(D->Prop)->Prop):Prop:=∀(U:Addr->Prop) (M:Addr->Prop) (H:Hp) (d e:D) (x y:V) (P:D->Prop) (Q:VK),(∀a,M a->∃o,H a=some o)->(∀a,U a->M a) ->
 AtT K U M H d x->AtT K U M H e y->f d e P->(∀v H' z,Grow H H'->VR K U M H H' κ v z->P z->Q v H')->r x y H Q
def AV(f:D->D->(D->Prop)->Prop)(wa wb:DW):DW:=fun n ρ P=>wa n ρ fun x n1=>wb n1 ρ fun y n2=>f x y fun z=>P z n2
theorem En{r:R2}{f:D->D->(D->Prop)->Prop}(hA:Gp X.K κ r f){ta tb:TE}(ha:∀(C:Fm) (M:Addr->Prop) (H:Hp) (n:Nat) (ρ:List Slot) (σ:L2.St) (P:D->Nat->Prop) (Q:VK),Rel X.K C M H n ρ σ->wa n ρ P ->
   (∀v H' d n',Ext C.U H H'->FeedC X.K C.F M H' n'->VR X.K C.V M H H' κa v d->P d n'->Q v H')->ta σ H Q)
  (hb:∀(C:Fm) (M:Addr->Prop) (H:Hp) (n:Nat) (ρ:List Slot) (σ:L2.St) (P:D->Nat->Prop) (Q:VK),Rel X.K C M H n ρ σ->wb n ρ P ->
   (∀v H' d n',Ext C.U H H'->FeedC X.K C.F M H' n'->VR X.K C.V M H H' κb v d->P d n'->Q v H')->tb σ H Q)
  (C:Fm) (M:Addr->Prop) (H:Hp) (n:Nat) (ρ:List Slot) (σ:L2.St) (P:D->Nat->Prop) (Q:VK) (R:Rel X.K C M H n ρ σ) (w:AV f wa wb n ρ P)
  (q:∀v H' d n',Ext C.U H H'->FeedC X.K C.F M H' n'->VR X.K C.V M H H' κ v d->P d n'->Q v H'):Dl r ta tb σ H Q:=by
 refine ha C M H n ρ σ _ _ R w fun x H1 d n1 e1 f1 r1 w1=>?_
 have R1:=R.step e1 f1
 refine hb C M H1 n1 ρ σ _ _ R1 w1 fun y H2 e n2 e2 f2 r2 w2=>?_
 have R2':=R1.step e2 f2
 refine hA C.V M H2 d e x y _ _ R2'.dom R2'.vM ((r1.tpOf R.dom R.vM).pres (R1.pres e2) e2 R.uV) (r2.tpOf R1.dom R1.vM) w2 fun v H3 z g vr p=>?_
 exact q v H3 z n2 ((e1.trans e2).trans g.ext) (f2.grow g) (VR.back (e1.trans e2) vr) p
theorem Ac{op:Operator}{r:R2}{f:D->D->(D->Prop)->Prop}(ho:OpR X (binaryOp op) r)(hA:Gp X.K κ r f)(ha:DE X a κa wa)(hb:DE X b κb wb):DE X (.BinOp a op b pos) κ (AV f wa wb):=by
 obtain⟨ta,ha1,ha2⟩:=ha
 obtain⟨tb,hb1,hb2⟩:=hb
 exact⟨_,B0 ho ha1 hb1,fun C M H n ρ σ P Q R w q=>En hA ha2 hb2 C M H n ρ σ P Q R w q⟩
theorem AS{r:R2}{f:D->D->(D->Prop)->Prop}(ho:IxR X r)(hA:Gp X.K κ r f)(ha:DE X a κa wa)(hb:DE X b κb wb)(hs:Nm b:=by intro _ _; rfl):DE X (.Subscript a b pos) κ (AV f wa wb):=by
 obtain⟨ta,ha1,ha2⟩:=ha
 obtain⟨tb,hb1,hb2⟩:=hb
 exact⟨_,EJ ho ha1 hb1 hs,fun C M H n ρ σ P Q R w q=>En hA ha2 hb2 C M H n ρ σ P Q R w q⟩
theorem DR{op:CmpOp}{r:R2}{f:D->D->(D->Prop)->Prop}(ho:OpR X (compareOp op) r)(hA:Gp X.K .sh r f)(ha:DE X a κa wa)(hb:DE X b κb wb)(hm:behindInMarks op b=false):DE X (.Compare a [op] [b] pos) .sh (AV f wa wb):=by
 obtain⟨ta,ha1,ha2⟩:=ha
 obtain⟨tb,hb1,hb2⟩:=hb
 exact⟨_,RH ho ha1 hb1 hm,fun C M H n ρ σ P Q R w q=>En hA ha2 hb2 C M H n ρ σ P Q R w q⟩
def Af(w:DW):HL:=fun n ρ P=>w n ρ fun d n1=>match d with
 | .bl b=>P b n1
 | _=>False
theorem G_{U:Addr->Prop}{K:Frag}{M:Addr->Prop}{H H':Hp}{v:V}{b:Bool}(h:VR K U M H H' κ v (.bl b)):v=.bl b:=by
 cases κ with
 | sh=>exact h
 | tp=>exact h
 | fr=>obtain⟨a,_,_,t⟩:=h; exact(show False from t).elim
theorem Ap{op:CmpOp}{r:R2}{f:D->D->(D->Prop)->Prop}(ho:OpR X (compareOp op) r)(hA:Gp X.K .sh r f)(ha:DE X a κa wa)(hb:DE X b κb wb)(hm:behindInMarks op b=false):DT X (.Compare a [op] [b] pos) (Af (AV f wa wb)):=by
 obtain⟨ta,ha1,ha2⟩:=ha
 obtain⟨tb,hb1,hb2⟩:=hb
 refine⟨_,Fo ho ha1 hb1 hm,fun C M H n ρ σ P Q R w q=>?_⟩
 refine En hA ha2 hb2 C M H n ρ σ _ _ R w fun v H' d n' e f r p=>?_
 cases d with
 | bl b=>exact⟨b,G_ r,q b H' n' e f p⟩
 | _=>exact p.elim
theorem CC(h:DE X e κ wa)(he:∀whole,isTrue e X.env whole=(do let v ← whole; standAt e.pos; holding [v] (truthy v)):=by intro _; rfl):DT X e (Af wa):=by
 obtain⟨t,h1,h2⟩:=h
 refine⟨_,Sq h1 he,fun C M H n ρ σ P Q R w q=>?_⟩
 refine h2 C M H n ρ σ _ _ R w fun v H' d n' e f r p=>?_
 cases d with
 | bl b=>exact⟨b,G_ r,q b H' n' e f p⟩
 | _=>exact p.elim
def HQ(u v:HL):HL:=fun n ρ P=>u n ρ fun c n1=>if c=true then v n1 ρ P else P false n1
def Fb(u v:HL):HL:=fun n ρ P=>u n ρ fun c n1=>if c=true then P true n1 else v n1 ρ P
def EG(u:HL):HL:=fun n ρ P=>u n ρ fun c n1=>P (!c) n1
variable {wA wB:HL}{rest:List Expr}
theorem D_(h:DT X a wA):DTW X (.BoolOp .And [a] pos) wA:=by
 obtain⟨t,h1,h2⟩:=h
 exact⟨t,NC h1,h2⟩
theorem Gc(h:DT X a wA):DTW X (.BoolOp .Or [a] pos) wA:=by
 obtain⟨t,h1,h2⟩:=h
 exact⟨t,Sm h1,h2⟩
theorem EA(ha:DT X a wA)(hb:DTW X (.BoolOp .And (b::rest) pos) wB):DTW X (.BoolOp .And (a::b::rest) pos) (HQ wA wB):=by
 obtain⟨t,h1,h2⟩:=ha
 obtain⟨u,g1,g2⟩:=hb
 refine⟨_,PZ h1 g1,fun C M H n ρ σ P Q R w q=>?_⟩
 refine h2 C M H n ρ σ _ _ R w fun c H1 n1 e1 f1 p=>?_
 cases c with
 | false=>exact q false H1 n1 e1 f1 p
 | true=>exact g2 C M H1 n1 ρ σ P Q (R.step e1 f1) p fun b H2 n2 e2 f2 p2=>q b H2 n2 (e1.trans e2) f2 p2
theorem FE(ha:DT X a wA)(hb:DTW X (.BoolOp .Or (b::rest) pos) wB):DTW X (.BoolOp .Or (a::b::rest) pos) (Fb wA wB):=by
 obtain⟨t,h1,h2⟩:=ha
 obtain⟨u,g1,g2⟩:=hb
 refine⟨_,Ua h1 g1,fun C M H n ρ σ P Q R w q=>?_⟩
 refine h2 C M H n ρ σ _ _ R w fun c H1 n1 e1 f1 p=>?_
 cases c with
 | true=>exact q true H1 n1 e1 f1 p
 | false=>exact g2 C M H1 n1 ρ σ P Q (R.step e1 f1) p fun b H2 n2 e2 f2 p2=>q b H2 n2 (e1.trans e2) f2 p2
theorem DTW.dt(h:DTW X e wA):DT X e wA:=by
 obtain⟨t,h1,h2⟩:=h
 exact⟨t,h1.pt,h2⟩
theorem EB(ha:DT X a wA):DT X (.UnaryOp .Not a pos) (EG wA):=by
 obtain⟨t,h1,h2⟩:=ha
 refine⟨_,Sr h1,fun C M H n ρ σ P Q R w q=>?_⟩
 exact h2 C M H n ρ σ _ _ R w fun c H1 n1 e1 f1 p=>q (!c) H1 n1 e1 f1 p
def LD(u v:DW):DW:=fun n ρ P=>u n ρ fun c n1=>match c with
 | .bl true=>v n1 ρ P
 | .bl false=>P (.bl false) n1
 | _=>False
def T9(u:DW):DW:=fun n ρ P=>u n ρ fun c n1=>match c with
 | .bl b=>P (.bl (!b)) n1
 | _=>False
theorem FX{op}(h:DE X a κ wa):DE X (.BoolOp op [a] pos) κ wa:=by
 obtain⟨t,h1,h2⟩:=h
 exact⟨t,Sx h1,h2⟩
theorem El(ha:DE X a κa wa)(hb:DE X (.BoolOp .And (b::rest) pos) .sh wb):DE X (.BoolOp .And (a::b::rest) pos) .sh (LD wa wb):=by
 obtain⟨t,h1,h2⟩:=ha
 obtain⟨u,g1,g2⟩:=hb
 refine⟨_,S0 h1 g1,fun C M H n ρ σ P Q R w q=>?_⟩
 refine h2 C M H n ρ σ _ _ R w fun c H1 d n1 e1 f1 r1 p=>?_
 cases d with
 | bl k =>
  refine⟨k,G_ r1,?_⟩
  cases k with
  | false=>exact q _ H1 _ n1 e1 f1 (show VR X.K C.V M H H1 .sh (.bl false) (.bl false) from rfl) p
  | true =>
   show u σ H1 Q
   exact g2 C M H1 n1 ρ σ P Q (R.step e1 f1) p fun v H2 d n2 e2 f2 r2 p2=>q v H2 d n2 (e1.trans e2) f2 r2 p2
 | _=>exact p.elim
theorem QQ(ha:DE X a κa wa):DE X (.UnaryOp .Not a pos) .sh (T9 wa):=by
 obtain⟨t,h1,h2⟩:=ha
 refine⟨_,Sy h1,fun C M H n ρ σ P Q R w q=>?_⟩
 refine h2 C M H n ρ σ _ _ R w fun c H1 d n1 e1 f1 r1 p=>?_
 cases d with
 | bl k=>exact⟨k,G_ r1,q _ H1 _ n1 e1 f1 (show VR X.K C.V M H H1 .sh (.bl (!k)) (.bl (!k)) from rfl) p⟩
 | _=>exact p.elim
def AR:GJ:=fun n _ P=>P [] n
def AD(w:DW)(ws:GJ):GJ:=fun n ρ P=>w n ρ fun d n1=>ws n1 ρ fun ds n2=>P (d::ds) n2
variable {es:List Expr}{ws:GJ}
theorem AQ:Tw X [] AR:=⟨_,DM,fun C M H n ρ σ P Q R w q=>q [] H [] n (Ext.refl _ _) R.feed .nil w⟩
theorem AN:T5 X [] AR:=⟨_,DM,fun C M H n ρ σ P Q R w q=>q [] H [] n (Ext.refl _ _) R.feed rfl w⟩
theorem AJ(ha:DE X e κ wa)(hr:Tw X es ws)(hs:starEach (e::es) X.env=(false,eval e X.env)::starEach es X.env:=by rfl):Tw X (e::es) (AD wa ws):=by
 obtain⟨t,h1,h2⟩:=ha
 obtain⟨u,g1,g2⟩:=hr
 refine⟨_,B8 h1 g1 hs,fun C M H n ρ σ P Q R w q=>?_⟩
 refine h2 C M H n ρ σ _ _ R w fun v H1 d n1 e1 f1 r1 p=>?_
 have R1:=R.step e1 f1
 refine g2 C M H1 n1 ρ σ _ _ R1 p fun vs H2 ds n2 e2 f2 r2 p2=>?_
 exact q (v::vs) H2 (d::ds) n2 (e1.trans e2) f2 (.cons ((r1.tpOf R.dom R.vM).pres (R1.pres e2) e2 R.uV) r2) p2
theorem AA(ha:DE X e κ wa)(hr:T5 X es ws)(hk:κ≠.tp:=by intro z; cases z)(hs:starEach (e::es) X.env=(false,eval e X.env)::starEach es X.env:=by rfl):T5 X (e::es) (AD wa ws):=by
 obtain⟨t,h1,h2⟩:=ha
 obtain⟨u,g1,g2⟩:=hr
 refine⟨_,B8 h1 g1 hs,fun C M H n ρ σ P Q R w q=>?_⟩
 refine h2 C M H n ρ σ _ _ R w fun v H1 d n1 e1 f1 r1 p=>?_
 have R1:=R.step e1 f1
 refine g2 C M H1 n1 ρ σ _ _ R1 p fun vs H2 ds n2 e2 f2 r2 p2=>?_
 exact q (v::vs) H2 (d::ds) n2 (e1.trans e2) f2 ⟨v,vs,rfl,(r1.shOf R.dom hk).pres (R1.pres e2),r2⟩ p2
def Bh(ws:GJ):DW:=fun n ρ P=>ws n ρ fun ds n1=>ds.length<=sizeLine/\P (.tup ds) n1
def DH(ws:GJ):DW:=fun n ρ P=>ws n ρ fun ds n1=>ds.length<=sizeLine/\P (.lst ds) n1
theorem FS{M:Addr->Prop}{H:Hp}{p:Addr}{o:HO}(h:H p=none):Pres M H (fun b=>M b\/b=p) (BA H p o):=⟨fun b u e _=>by rw [AU (BB e h)]; exact e,fun b z=>z.elim .inl fun z=>.inr (by rw [z]; exact h)⟩
theorem Av{H:Hp}{p:Addr}{o:HO}(h:H p=none):Grow H (BA H p o):=.inr ⟨p,o,h,rfl⟩
theorem Ay{x1}(h:T5 X es ws):DE X (.Tuple es x1 pos) .sh (Bh ws):=by
 obtain⟨t,h1,h2⟩:=h
 refine⟨_,Su h1,fun C M H n ρ σ P Q R w q=>?_⟩
 refine h2 C M H n ρ σ _ _ R w fun vs H1 ds n1 e1 f1 r1 p=>?_
 refine⟨by rw [r1.length]; exact p.1,fun a ha=>?_⟩
 have g:Grow H1 (BA H1 a (.tup vs)):=Av ha
 refine q _ _ (.tup ds) n1 (e1.trans g.ext) (f1.grow g) ⟨a,vs,rfl,⟨fun z=>?_,Ab⟩,r1.pres g.pres⟩ p.2
 obtain⟨o,z⟩:=(R.step e1 f1).dom a z
 rw [ha] at z; cases z
theorem Bi(h:T5 X es ws):DE X (.List es pos) .fr (DH ws):=by
 obtain⟨t,h1,h2⟩:=h
 refine⟨_,MT h1,fun C M H n ρ σ P Q R w q=>?_⟩
 refine h2 C M H n ρ σ _ _ R w fun vs H1 ds n1 e1 f1 r1 p=>?_
 refine⟨by rw [r1.length]; exact p.1,fun a ha=>?_⟩
 have g:Grow H1 (BA H1 a (.lst vs)):=Av ha
 exact q _ _ (.lst ds) n1 (e1.trans g.ext) (f1.grow g) (VR.back e1 ⟨a,rfl,ha,vs,Ab,r1.pres (FS ha)⟩) p.2
def Dd(K:Frag)(κ:Kd)(r:List V->Hp->VK->Prop)(f:List D->(D->Prop)->Prop):Prop:=∀(U:Addr->Prop) (M:Addr->Prop) (H:Hp) (ds:List D) (vs:List V) (P:D->Prop) (Q:VK),(∀a,M a->∃o,H a=some o)->(∀a,U a->M a) ->
 Paired (fun v d=>AtT K U M H d v) vs ds->f ds P->(∀v H' z,Grow H H'->VR K U M H H' κ v z->P z->Q v H')->r vs H Q
def CK(f:List D->(D->Prop)->Prop)(ws:GJ):DW:=fun n ρ P=>ws n ρ fun ds n1=>f ds fun z=>P z n1
theorem SK{r:List V->Hp->VK->Prop}{f:List D->(D->Prop)->Prop}{t:TA}(hA:Dd X.K κ r f)(h2:∀(C:Fm) (M:Addr->Prop) (H:Hp) (n:Nat) (ρ:List Slot) (σ:L2.St) (P:List D->Nat->Prop) (Q:List V->Hp->Prop),Rel X.K C M H n ρ σ->ws n ρ P ->
   (∀vs H' ds n',Ext C.U H H'->FeedC X.K C.F M H' n'->Paired (fun v d=>AtT X.K C.V M H' d v) vs ds->P ds n'->Q vs H')->t σ H Q)
  (C:Fm) (M:Addr->Prop) (H:Hp) (n:Nat) (ρ:List Slot) (σ:L2.St) (P:D->Nat->Prop) (Q:VK) (R:Rel X.K C M H n ρ σ) (w:CK f ws n ρ P)
  (q:∀v H' d n',Ext C.U H H'->FeedC X.K C.F M H' n'->VR X.K C.V M H H' κ v d->P d n'->Q v H'):U_ r t σ H Q:=by
 refine h2 C M H n ρ σ _ _ R w fun vs H1 ds n1 e1 f1 r1 p=>?_
 have R1:=R.step e1 f1
 refine hA C.V M H1 ds vs _ _ R1.dom R1.vM r1 p fun v H2 z g vr pz=>?_
 exact q v H2 z n1 (e1.trans g.ext) (f1.grow g) (VR.back e1 vr) pz
theorem AW{x:Str}{id:String}{p:Pos}{r:List V->Hp->VK->Prop}{f:List D->(D->Prop)->Prop}(hc:C8 X (.builtin id) r)(hA:Dd X.K κ r f)(hg:Gl X x)(hm:X.mg x=none)(hv:bootBuiltins x=some (.builtin id))(ha:Tw X (e::es) ws)
  (hn:x ≠ "__name__":=by decide) (hdb:(x==("__debug__" : Str))=false:=by decide)
  (he:starEach (e::es) X.env=(false,eval e X.env)::starEach es X.env:=by rfl) (hpl:(backTo pos (starEach es X.env)).any (·.1)=false:=by rfl):DE X (.Call (.Name x p) (e::es) [] pos) κ (CK f ws):=by
 obtain⟨t,h1,h2⟩:=ha
 exact⟨_,Fr hc hg hm hv h1 hn hdb he hpl,fun C M H n ρ σ P Q R w q=>SK hA h2 C M H n ρ σ P Q R w q⟩
theorem BS{x:Str}{T:String}{p:Pos}{r:List V->Hp->VK->Prop}{f:List D->(D->Prop)->Prop}(hc:C8 X (.type T) r)(hA:Dd X.K κ r f)(hg:Gl X x)(hm:X.mg x=none)(hv:bootBuiltins x=some (.type T))(ha:Tw X (e::es) ws)
  (hn:x ≠ "__name__":=by decide) (hdb:(x==("__debug__" : Str))=false:=by decide)
  (he:starEach (e::es) X.env=(false,eval e X.env)::starEach es X.env:=by rfl) (hpl:(backTo pos (starEach es X.env)).any (·.1)=false:=by rfl):DE X (.Call (.Name x p) (e::es) [] pos) κ (CK f ws):=by
 obtain⟨t,h1,h2⟩:=ha
 exact⟨_,JS hc hg hm hv h1 hn hdb he hpl,fun C M H n ρ σ P Q R w q=>SK hA h2 C M H n ρ σ P Q R w q⟩
end
end Dp
namespace L2
open PySem PySem.Spec PyProof.Rows
def Vv(z:Str):It:=⟨fun i _=>i<z.cps.size,fun i H x H'=>H'=H/\∃c,z.cps[i]?=some c/\x=.str ⟨#[c]⟩,fun i _=>z.cps.size<=i⟩
theorem LG{P:Program}{w:World}{K:Frag}{tg:Expr}(it:Addr)(z:Str)(t:Tok)(ty:String)(hty:ty = "str_ascii_iterator"\/ty = "str_iterator")
  (W:∀A':Around,A'.handled=none->Walks P w A' it [it] [it] z.cps.size (SignAt z) (fun i h=>h.IsStrIter it ty z t i)):L8 P w K tg (Vv z) [it] it (fun i h=>h.IsStrIter it ty z t i) where
 mem:=by simp
 obj:=fun i h st b hb=>by
  have e:b=it:=by simpa using hb
  subst e
  obtain⟨o,e,c,d⟩:=st
  exact⟨o,e,fun v z=>by rw [d] at z; cases z⟩
 keep:=fun i h h' st k=>let ⟨o,ho,r⟩:=st; ⟨o,k it (by simp) o ho,r⟩
 item:=by
  intro X hP hw hK hc i pins s σ H E I hf st hg
  subst hP hw hK
  obtain⟨f0,f1,f2,f3,f4,f5⟩:=hf it (by simp)
  refine(W X.A (I.ok.hd hc)).item i s _ _ hg st fun v h' tk hv st' kk=>?_
  obtain⟨c,u,hcu,rfl⟩:=hv
  have I1:Inv X pins σ H { s with heap:=h',toks:=tk }:=I.turned (fun b o hb e=>kk b o (by simpa using hb) e) f0 f1 f3 f4 f5
  obtain⟨o,e,cc,d⟩:=id st'
  exact⟨_,rfl,NQ (s:={ s with heap:=h',toks:=tk }) e cc d (by rcases hty with rfl | rfl <;> decide) ⟨.str ⟨#[c]⟩,H,I1,⟨_,rfl⟩,⟨rfl,c,hcu,rfl⟩,st',fun b hb=>(hf b hb).1⟩⟩
 done:=by
  intro X hP hw hK hc i pins s σ H E I hf st hg
  subst hP hw hK
  obtain⟨f0,f1,f2,f3,f4,f5⟩:=hf it (by simp)
  have hx:z.cps[i]?=none:=by
   have:z.cps.size<=i:=hg
   simp [this]
  rcases hty with rfl | rfl
  ·exact wpAny_pyNext_ascii_end (I.ok.hd hc) st hx fun h' eb=>⟨rfl,I.turned (t':=s.toks) (fun b o hb e=>eb b o hb e) f0 f1 f3 f4 f5⟩
  ·exact wpAny_pyNext_wide_end (I.ok.hd hc) st hx fun h' eb=>⟨rfl,I.turned (t':=s.toks) (fun b o hb e=>eb b o hb e) f0 f1 f3 f4 f5⟩
 self:=fun A i s Q E st h=>by
  rcases hty with rfl | rfl
  ·exact wpAny_pyIter_striter_ascii st h
  ·exact wpAny_pyIter_striter_wide st h
section
variable {X:Cx}{tg:Expr}
def Vg(K:Frag)(tl:TE):TI:=fun σ H R=>tl σ H fun x H1 =>
 (∃a,x=.ref a/\(∃xs,SqL K H1 a xs)/\R (Vw K a) H1)\/(∃a,x=.ref a/\(∃xs,SqT K H1 a xs)/\R (Tu K a) H1)\/∃z,x=.str z/\R (Vv z) H1
theorem MQ{l:Expr}{tl:TE}(hl:PE X l tl):PI X tg l (Vg X.K tl):=by
 intro pins s σ H R I h
 refine Bp (hl pins s σ H _ I h) fun v s1 ⟨x,H1,I1,r1,q1⟩=>?_
 have hne:∀b,b∈[s1.heap.objs.size]->GI X pins H1 b:=fun b hb=>by
  have e:b=s1.heap.objs.size:=by simpa using hb
  subst e
  exact I1.fpOk (Nat.le_refl _) (I1.hok.fresh (Nat.le_refl _))
 rcases q1 with ⟨a,e,⟨xs,hq⟩,q⟩ | ⟨a,e,⟨xs,hq⟩,q⟩ | ⟨z,e,q⟩
 ·subst e
  cases r1
  obtain⟨its,rv,p,hz⟩:=I1.list hq
  refine wpAny_pyIter_list p.isList ?_
  exact⟨s1.heap.objs.size,[s1.heap.objs.size],_,_,H1,rfl,I1.kept (t':=s1.toks) fun b o e=>Heap.get?_push_of_some _ e,Nu a _,⟨_,Heap.get?_push_size _ rfl,rfl,rfl⟩,hne,q⟩
 ·subst e
  cases r1
  obtain⟨its,rv,p,hz⟩:=I1.tuple hq
  refine wpAny_pyIter_tuple (show s1.heap.IsTuple a its.toArray from p) ?_
  exact⟨s1.heap.objs.size,[s1.heap.objs.size],_,_,H1,rfl,I1.kept (t':=s1.toks) fun b o e=>Heap.get?_push_of_some _ e,HR a _,⟨_,Heap.get?_push_size _ rfl,rfl,rfl⟩,hne,q⟩
 ·subst e
  obtain⟨t,rfl⟩:=r1
  cases ha:z.cps.all (·<128)
  ·refine wpAny_pyIter_wide ha ?_
   exact⟨s1.heap.objs.size,[s1.heap.objs.size],_,_,H1,rfl,I1.kept (t':=s1.toks) fun b o e=>Heap.get?_push_of_some _ e,LG _ z t "str_iterator" (.inr rfl) (fun A' hA=>Walks.strWide hA _ z t),⟨_,Heap.get?_push_size _ rfl,rfl,rfl⟩,hne,q⟩
  ·refine wpAny_pyIter_ascii ha ?_
   exact⟨s1.heap.objs.size,[s1.heap.objs.size],_,_,H1,rfl,I1.kept (t':=s1.toks) fun b o e=>Heap.get?_push_of_some _ e,LG _ z t "str_ascii_iterator" (.inl rfl) (fun A' hA=>Walks.strAscii hA _ z t),⟨_,Heap.get?_push_size _ rfl,rfl,rfl⟩,hne,q⟩
end
section
variable {X:Cx}
theorem Ik(bs:List Bool):((List.range bs.length).all fun i=>(bs[i]?).getD true)=bs.all id:=by
 induction bs with
 | nil=>rfl
 | cons b r ih =>
  rw [List.length_cons,List.range_succ_eq_map,List.all_cons,List.all_map,List.all_cons]
  simp only [List.getElem?_cons_zero,Option.getD_some,id_eq]
  congr 1
theorem IT(hc:X.calm=true):C8 X (.builtin "all") (fun xs H Q=>∃(p:Addr) (bs:List Bool),xs=[.ref p]/\SqL X.K H p (bs.map V.bl)/\Q (.bl (bs.all id)) H):=by
 intro pins s σ H xs us Q I r h
 obtain⟨p,bs,rfl,hq,q⟩:=h
 obtain⟨u,rfl,rx⟩:=Fc r
 cases rx
 obtain⟨its,r',pl,hz⟩:=I.list hq
 have hlen:=r'.length
 have hl:s.heap.IsList p its.toArray:=pl.isList
 have hlt:p<s.heap.objs.size:=by obtain⟨_,e,_⟩:=id hl; exact Heap.lt_size e
 refine call_all_walk (wpAny_pyIter_list hl ?_)
 refine⟨s.heap.objs.size,[s.heap.objs.size,p],[s.heap.objs.size],its.toArray.size,_,_,fun i=>(bs[i]?).getD true,rfl,Walks.list (A:=X.A.in1) (I.ok.hd hc) _ p (Nat.ne_of_lt hlt) its.toArray,
  ⟨⟨_,Heap.get?_push_size _ rfl,rfl,rfl⟩,hl.push _⟩,fun i v s' Q' E' hP hQ=>?_,fun h' tk hk=>?_⟩
 ·have hv:its[i]?=some v:=by simpa using hP
  have hb:∃b,bs[i]?=some b:=by
   have hi:i<its.length:=(List.getElem?_eq_some_iff.mp hv).1
   rw [List.length_map] at hlen
   exact⟨bs[i]'(by omega),List.getElem?_eq_getElem (by omega)⟩
  obtain⟨b,eb⟩:=hb
  obtain⟨u,eu,ru⟩:=r'.get (i:=i) (x:=.bl b) (by rw [List.getElem?_map,eb]; rfl)
  rw [hv] at eu
  cases eu
  cases ru
  simp only [eb,Option.getD_some] at hQ
  exact wpAny_truthy_bool hQ
 ·have e:((List.range its.toArray.size).all fun i=>(bs[i]?).getD true)=bs.all id:=by
   rw [List.size_toArray,← hlen,List.length_map]; exact Ik bs
  rw [e]
  exact⟨.bl _,H,I.kept (t':=tk) fun b x e=>hk b x (fun hm=>by rw [List.mem_singleton.mp hm] at e; exact Nat.lt_irrefl _ (Heap.lt_size e)) (Heap.get?_push_of_some _ e),rfl,q⟩
theorem Lz:C8 X (.builtin "isinstance") (fun xs H Q=>∃x T t b,xs=[x,.ty T]/\FZ X.K H x t/\PySem.W.kitOne X.K t (.type T)=some b/\Q (.bl b) H):=by
 intro pins s σ H xs us Q I r h
 obtain⟨x,T,t,b,rfl,ty,e,q⟩:=h
 obtain⟨u,w',rfl,rx,rt⟩:=Mv r
 cases rt
 exact OT I rx ty e fun tk=>⟨.bl b,H,I.tok _,rfl,q⟩
theorem MG{ys:List Str}:∀{us:List Value},Vals (ys.map V.str) us->StrsAre us ys:=by
 induction ys with
 | nil=>intro us r; rw [List.map_nil] at r; cases r; exact .nil
 | cons n ns ih =>
  intro us r
  rw [List.map_cons] at r
  cases r with
  | cons r1 r2 =>
   obtain⟨t,e⟩:=r1
   subst e
   exact .cons n t (ih r2)
theorem Se:SlR X (fun x lo hi H Q=>∃z,x=.str z/\z.length<=sizeLine/\Q (.str (Txt.slice z lo hi)) H):=by
 intro pins s σ H x v vl vu lo hi sl Q I rx hs pl pu h
 obtain⟨z,rfl,hz,q⟩:=h
 obtain⟨t,rfl⟩:=rx
 refine⟨"str",_,F.slot_str_getitem.lookup,typeIs_str _ _ _,?_⟩
 have fin:∀t' k,EP X pins σ Q (.str (Txt.slice z lo hi) t') { s with toks:=k }:=fun t' k=>⟨.str _,H,I.tok _,⟨_,rfl⟩,q⟩
 cases pl with
 | none =>
  cases pu with
  | none=>exact wpAny_getItem_str_slice (l:=none) (u:=none) (st:=none) hs rfl (post_val_or_str ⟨Nat.le_trans (Txt.slice_le z _ _) hz,fun t' k=>fin t' k⟩)
  | int j tj=>exact wpAny_getItem_str_slice (l:=none) (u:=some (j,tj)) (st:=none) hs rfl (post_val_or_str ⟨Nat.le_trans (Txt.slice_le z _ _) hz,fun t' k=>fin t' k⟩)
 | int i ti =>
  cases pu with
  | none=>exact wpAny_getItem_str_slice (l:=some (i,ti)) (u:=none) (st:=none) hs rfl (post_val_or_str ⟨Nat.le_trans (Txt.slice_le z _ _) hz,fun t' k=>fin t' k⟩)
  | int j tj=>exact wpAny_getItem_str_slice (l:=some (i,ti)) (u:=some (j,tj)) (st:=none) hs rfl (post_val_or_str ⟨Nat.le_trans (Txt.slice_le z _ _) hz,fun t' k=>fin t' k⟩)
theorem N_(hu:X.A.units<cLine):OpR X (compareOp .NotEq) (fun x y H Q=>∃a b xs,x=.ref a/\y=.ref b/\SqL X.K H a xs/\SqL X.K H b []/\Q (.bl (!xs.isEmpty)) H):=by
 intro pins s σ H x y v u Q I rx ry h
 obtain⟨a,b,xs,rfl,rfl,ha,hb,q⟩:=h
 cases rx
 cases ry
 obtain⟨its,r1,p1,_⟩:=I.list ha
 obtain⟨its2,r2,p2,_⟩:=I.list hb
 cases r2
 cases r1 with
 | nil=>exact SeqAt.RcNeAt.lists (e:=fun _=>true) p1.isList p2.isList rfl hu (fun j h1 h2=>absurd h1 (by simp)) X.prog X.w X.xe _ ⟨.bl _,H,I,rfl,q⟩
 | cons r1 r2=>exact SeqAt.RcNeAt.lists_lengths p1.isList p2.isList (by simp) hu X.prog X.w X.xe _ ⟨.bl _,H,I,rfl,q⟩
end
end L2
namespace Dp
open PySem PySem.Spec PyProof.Rows L2
def Uz(K:Frag)(F:Option (Addr×Addr))(U V' M:Addr->Prop)(H:Hp)(n:Nat)(ss:List Slot)(vs:List V):Prop :=
 (∀a,M a->∃o,H a=some o)/\(∀f,F=some f->U f.1)/\(∀a,U a->V' a)/\(∀a,V' a->M a)/\FeedC K F M H n/\Paired (Jx K F V' M H) vs ss
abbrev W2:=List Slot->Nat->(D->Nat->Prop)->Prop
def Fg(K:Frag)(κ:Kd)(W:W2)(np:Nat):Sp:=fun vs H Q _=>vs.length=np/\∃(F:Option (Addr×Addr)) (U V' M:Addr->Prop) (n:Nat) (ss:List Slot) (P:D->Nat->Prop),Uz K F U V' M H n ss vs/\W ss n P /\
 ∀v H' d n',Ext U H H'->FeedC K F M H' n'->VR K V' M H H' κ v d->P d n'->Q v H'
def AZ(w:DW):Nat->List Slot->(Slot->Nat->Prop)->Prop:=fun n ρ P=>w n ρ fun d n1=>P (.sh d) n1
def FL(w:DW):Nat->List Slot->(Slot->Nat->Prop)->Prop:=fun n ρ P=>w n ρ fun d n1=>P (.br d) n1
def A3(i:Nat):Nat->List Slot->(Slot->Nat->Prop)->Prop:=fun n ρ P=>match ρ[i]? with
 | some .fd=>P .fd n
 | _=>False
def Ai:Tv:=fun n _ P=>P [] n
def AG(w:Nat->List Slot->(Slot->Nat->Prop)->Prop)(ws:Tv):Tv:=fun n ρ P=>w n ρ fun s n1=>ws n1 ρ fun ss n2=>P (s::ss) n2
def Ag(W:W2)(was:Tv):DW:=fun n ρ P=>was n ρ fun ss n1=>W ss n1 P
section
variable {X:Cx}{a b c e:Expr}{es:List Expr}{κ κa κb:Kd}{wa wb wc:DW}{pos:Pos}{w1:Nat->List Slot->(Slot->Nat->Prop)->Prop}{was:Tv}{ws:GJ}
theorem AX(h:DE X e κ wa)(hk:κ≠.tp:=by intro z; cases z):VL X e (AZ wa):=by
 obtain⟨t,h1,h2⟩:=h
 refine⟨t,h1,fun C M H n ρ σ P Q R w q=>h2 C M H n ρ σ _ _ R w fun v H' d n' e f r p=>?_⟩
 exact q v H' (.sh d) n' e f ⟨⟨v,rfl,r.shOf R.dom hk⟩,rfl⟩ p
theorem Jk(h:DE X e κ wa):VL X e (FL wa):=by
 obtain⟨t,h1,h2⟩:=h
 refine⟨t,h1,fun C M H n ρ σ P Q R w q=>h2 C M H n ρ σ _ _ R w fun v H' d n' e f r p=>?_⟩
 exact q v H' (.br d) n' e f ⟨⟨v,rfl,r.tpOf R.dom R.vM⟩,rfl⟩ p
theorem A4(i:Nat){x:Str}{pos:Pos}(hN:X.N[i]?=some x:=by rfl)(hv:Tz X.env.scope x:=by first | exact Or.inl rfl | exact Or.inr (Or.inl rfl) | exact Or.inr (Or.inr rfl))(hd:(x==("__debug__" : Str))=false:=by decide)
  (hcd:(x==("__classdict__" : Str))=false:=by decide):VL X (.Name x pos) (A3 i):=by
 refine⟨_,KI hN hv hd hcd,fun C M H n ρ σ P Q R w q=>?_⟩
 unfold A3 at w
 split at w
 ·rename_i hd
  obtain⟨f,e1,h1⟩:=R.sl i _ hd
  exact⟨.ref f.1,getD_some e1,q _ H .fd n (Ext.refl _ _) R.feed ⟨⟨f,rfl,h1⟩,rfl⟩ w⟩
 ·exact w.elim
theorem AO:U6 X [] Ai:=⟨_,DM,fun C M H n ρ σ P Q R w q=>q [] H [] n (Ext.refl _ _) R.feed .nil w⟩
theorem AB(ha:VL X e w1)(hr:U6 X es was)(hs:starEach (e::es) X.env=(false,eval e X.env)::starEach es X.env:=by rfl):U6 X (e::es) (AG w1 was):=by
 obtain⟨t,h1,h2⟩:=ha
 obtain⟨u,g1,g2⟩:=hr
 refine⟨_,B8 h1 g1 hs,fun C M H n ρ σ P Q R w q=>?_⟩
 refine h2 C M H n ρ σ _ _ R w fun v H1 d n1 e1 f1 r1 p=>?_
 have R1:=R.step e1 f1
 refine g2 C M H1 n1 ρ σ _ _ R1 p fun vs H2 ds n2 e2 f2 r2 p2=>?_
 exact q (v::vs) H2 (d::ds) n2 (e1.trans e2) f2 (.cons ⟨r1.1.pres (R1.pres e2) (fun _ z=>z) e2 R.uV,r1.2⟩ r2) p2
theorem Rk{k:Nat}{f:Addr}{fd:FuncData}{ps:List Str}{W:W2}{x:Str}{p:Pos}(G:Bq X.prog X.w X.K X.mg X.base Dy k f fd ps (Fg X.K κ W ps.length))(hW:∀ss n P,W ss n P->ss.length=ps.length)
  (hr:Room k X.A) (hg:Gl X x) (hm:X.mg x=some (.ref f)) (hk:keepIn X.K (.ref f)=true) (hb:Binds X.K fd ps []) (ha:U6 X (e::es) was)
  (hdb:(x==("__debug__" : Str))=false:=by decide) (he:starEach (e::es) X.env=(false,eval e X.env)::starEach es X.env:=by rfl) (hpl:(backTo pos (starEach es X.env)).any (·.1)=false:=by rfl) :
  DE X (.Call (.Name x p) (e::es) [] pos) κ (Ag W was):=by
 obtain⟨t,h1,h2⟩:=ha
 refine⟨_,NI G hr hg hm hk hb .nil SD h1 hdb he hpl,fun C M H n ρ σ P Q R w q=>?_⟩
 refine h2 C M H n ρ σ _ _ R w fun vs H1 ss n1 e1 f1 r1 p=>?_
 have R1:=R.step e1 f1
 show Fg X.K κ W ps.length (vs++[]) H1 Q E0
 rw [List.append_nil]
 refine⟨(Paired.length r1).trans (hW _ _ _ p),C.F,C.U,C.V,M,n1,ss,P,⟨R1.dom,R1.fU,R1.uV,R1.vM,f1,r1⟩,p,fun v H2 d n2 e2 f2 r2 p2=>?_⟩
 exact q v H2 d n2 (e1.trans e2) f2 (VR.back e1 r2) p2
def Vd(T:String)(d:D):Prop:=match d with
 | .str _=>T = "str"
 | .int _=>T = "int"
 | .lst _=>T = "list"
 | _=>False
theorem P1{T:String}{K:Frag}{U:Addr->Prop}{M:Addr->Prop}{H:Hp}{d:D}{x:V}(h:Vd T d)(hx:AtT K U M H d x):VM K T x H:=by
 cases d with
 | str z=>obtain⟨e,_⟩:=hx; subst e; exact h
 | int i=>cases (show x=.int i from hx); exact h
 | lst ds=>obtain⟨a,vs,e,_,hq,_⟩:=hx; subst e; exact .inl ⟨h,vs,.inl hq⟩
 | _=>exact(show False from h).elim
def DO(X:Cx)(e:Option Expr)(w:Nat->List Slot->(Option Int->Nat->Prop)->Prop):Prop:=∃t,PO X e t/\∀(C:Fm) (M:Addr->Prop) (H:Hp) (n:Nat) (ρ:List Slot) (σ:L2.St) (P:Option Int->Nat->Prop) (Q:Option Int->Hp->Prop),Rel X.K C M H n ρ σ->w n ρ P ->
 (∀o H' n',Ext C.U H H'->FeedC X.K C.F M H' n'->P o n'->Q o H')->t σ H Q
def BX:Nat->List Slot->(Option Int->Nat->Prop)->Prop:=fun n _ P=>P none n
def B_(w:DW):Nat->List Slot->(Option Int->Nat->Prop)->Prop:=fun n ρ P=>w n ρ fun d n1=>match d with
 | .int i=>P (some i) n1
 | _=>False
theorem BQ:DO X none BX:=⟨_,NG,fun C M H n ρ σ P Q R w q=>q none H n (Ext.refl _ _) R.feed w⟩
theorem KW{U:Addr->Prop}{K:Frag}{M:Addr->Prop}{H H':Hp}{v:V}{i:Int}(h:VR K U M H H' κ v (.int i)):v=.int i:=by
 cases κ with
 | sh=>exact h
 | tp=>exact h
 | fr=>obtain⟨a,_,_,t⟩:=h; exact(show False from t).elim
theorem A7(h:DE X e κ wa):DO X (some e) (B_ wa):=by
 obtain⟨t,h1,h2⟩:=h
 refine⟨_,NF h1,fun C M H n ρ σ P Q R w q=>?_⟩
 refine h2 C M H n ρ σ _ _ R w fun v H1 d n1 e1 f1 r1 p=>?_
 cases d with
 | int i=>exact⟨i,KW r1,q _ H1 n1 e1 f1 p⟩
 | _=>exact p.elim
def V4(K:Frag)(κ:Kd)(r:V->Option Int->Option Int->Hp->VK->Prop)(f:D->Option Int->Option Int->(D->Prop)->Prop):Prop:=∀(U:Addr->Prop) (M:Addr->Prop) (H:Hp) (d:D) (x:V) (lo hi:Option Int) (P:D->Prop) (Q:VK),(∀a,M a->∃o,H a=some o)->(∀a,U a->M a) ->
 AtT K U M H d x->f d lo hi P->(∀v H' z,Grow H H'->VR K U M H H' κ v z->P z->Q v H')->r x lo hi H Q
def JC(f:D->Option Int->Option Int->(D->Prop)->Prop)(w:DW)(wl wh:Nat->List Slot->(Option Int->Nat->Prop)->Prop):DW:=fun n ρ P=>w n ρ fun d n1=>wl n1 ρ fun lo n2=>wh n2 ρ fun hi n3=>f d lo hi fun z=>P z n3
theorem CF{lo hi:Option Expr}{p2:Pos}{r:V->Option Int->Option Int->Hp->VK->Prop}{f:D->Option Int->Option Int->(D->Prop)->Prop}{wl wh:Nat->List Slot->(Option Int->Nat->Prop)->Prop}(hr:SlR X r)(hA:V4 X.K κ r f)(he:DE X e κa wa)(hl:DO X lo wl)(hh:DO X hi wh) :
  DE X (.Subscript e (.Slice lo hi none p2) pos) κ (JC f wa wl wh):=by
 obtain⟨t,h1,h2⟩:=he
 obtain⟨u,g1,g2⟩:=hl
 obtain⟨u',k1,k2⟩:=hh
 refine⟨_,LV hr h1 g1 k1,fun C M H n ρ σ P Q R w q=>?_⟩
 refine h2 C M H n ρ σ _ _ R w fun v H1 d n1 e1 f1 r1 p=>?_
 have R1:=R.step e1 f1
 have tv:=r1.tpOf R.dom R.vM
 refine g2 C M H1 n1 ρ σ _ _ R1 p fun lo H2 n2 e2 f2 p2=>?_
 have R2':=R1.step e2 f2
 refine k2 C M H2 n2 ρ σ _ _ R2' p2 fun hi H3 n3 e3 f3 p3=>?_
 have R3:=R2'.step e3 f3
 refine hA C.V M H3 d v lo hi _ _ R3.dom R3.vM ((tv.pres (R1.pres e2) e2 R.uV).pres (R2'.pres e3) e3 R.uV) p3 fun v H4 z g vr pz=>?_
 exact q v H4 z n3 (((e1.trans e2).trans e3).trans g.ext) (f3.grow g) (VR.back ((e1.trans e2).trans e3) vr) pz
end
structure E2 where
 nx:Nat->List Slot->Prop
 rt:D->Nat->Prop
 bk:Nat->List Slot->Prop:=fun _ _=>False
 ct:Nat->List Slot->Prop:=fun _ _=>False
abbrev Ad:=E2->Nat->List Slot->Prop
structure Qr (K:Frag) (C:Fm) (κ:Kd) (D2:E2) (E:JB):Prop where
 nx:∀M H n ρ σ,Rel K C M H n ρ σ->D2.nx n ρ->E.nx σ H
 rt:∀v H d n,Ext C.U C.H0 H->FeedC K C.F C.M0 H n->VR K C.V C.M0 C.H0 H κ v d->D2.rt d n->E.rt v H
 bk:∀M H n ρ σ,Rel K C M H n ρ σ->D2.bk n ρ->E.bk σ H
 ct:∀M H n ρ σ,Rel K C M H n ρ σ->D2.ct n ρ->E.ct σ H
def DS(X:Cx)(κ:Kd)(st:Stmt)(w:Ad):Prop:=∃t,PS X st t/\∀(C:Fm) (M:Addr->Prop) (H:Hp) (n:Nat) (ρ:List Slot) (σ:L2.St) (D2:E2) (E:JB),Rel X.K C M H n ρ σ->Qr X.K C κ D2 E->w D2 n ρ->t E σ H
def Qt(X:Cx)(κ:Kd)(st:List Stmt)(w:Ad):Prop:=∃t,PSs X st t/\∀(C:Fm) (M:Addr->Prop) (H:Hp) (n:Nat) (ρ:List Slot) (σ:L2.St) (D2:E2) (E:JB),Rel X.K C M H n ρ σ->Qr X.K C κ D2 E->w D2 n ρ->t E σ H
def BN:Ad:=fun D2 n ρ=>D2.nx n ρ
def Aj(u v:Ad):Ad:=fun D2 n ρ=>u { D2 with nx:=v D2 } n ρ
def BZ(w:DW):Ad:=fun D2 n ρ=>w n ρ fun d n1=>D2.rt d n1
def Bx(t:HL)(u v:Ad):Ad:=fun D2 n ρ=>t n ρ fun c n1=>if c=true then u D2 n1 ρ else v D2 n1 ρ
def Bl(i:Nat)(w:DW):Ad:=fun D2 n ρ=>w n ρ fun d n1=>D2.nx n1 (ρ.set i (.sh d))
section
variable {X:Cx}{κ κe:Kd}{st:Stmt}{rest:List Stmt}{u v:Ad}{wa:DW}{wA:HL}{e c:Expr}{pos:Pos}
theorem As:Qt X κ [] BN:=⟨_,KD,fun C M H n ρ σ D2 E R L w=>L.nx M H n ρ σ R w⟩
theorem AF(h1:DS X κ st u)(h2:Qt X κ rest v):Qt X κ (st::rest) (Aj u v):=by
 obtain⟨t,a1,a2⟩:=h1
 obtain⟨t',b1,b2⟩:=h2
 refine⟨_,BU a1 b1,fun C M H n ρ σ D2 E R L w=>?_⟩
 exact a2 C M H n ρ σ { D2 with nx:=v D2 } { E with nx:=t' E } R ⟨fun M H n ρ σ R w=>b2 C M H n ρ σ D2 E R L w,L.rt,L.bk,L.ct⟩ w
theorem AM(h1:DS X κ st u):Qt X κ [st] u:=by
 obtain⟨t,a1,a2⟩:=h1
 exact⟨t,DZ a1,a2⟩
theorem Sh{K:Frag}{C:Fm}{M:Addr->Prop}{H H':Hp}{n n':Nat}{ρ:List Slot}{σ:L2.St}{D2:E2}{E:JB}{d:D}{v:V}(R:Rel K C M H n ρ σ)(L:Qr K C κ D2 E)(e:Ext C.U H H')(f:FeedC K C.F M H' n')(r:VR K C.V M H H' κ v d)(hk:κ≠.tp)(p:D2.rt d n'):E.rt v H':=by
 have less:Pres M H' C.M0 H':=Pres.less R.sub
 refine L.rt v H' d n' (R.ext.trans e) (f.pres less fun _ _ _ z=>z) ?_ p
 cases κ with
 | sh=>exact At.pres less r
 | tp=>exact absurd rfl hk
 | fr =>
  have r':=VR.back (κ:=.fr) R.ext r
  obtain⟨a,e1,h1,h2⟩:=r'
  exact⟨a,e1,h1,h2.pres (Pres.less fun b z=>z.imp (R.sub b) id) fun _ z=>z⟩
theorem Am(h:DE X e κ wa)(hk:κ≠.tp:=by intro z; cases z):DS X κ (.Return (some e) pos) (BZ wa):=by
 obtain⟨t,a1,a2⟩:=h
 refine⟨_,FN a1,fun C M H n ρ σ D2 E R L w=>?_⟩
 exact a2 C M H n ρ σ _ _ R w fun v H' d n' e1 f1 r1 p=>Sh R L e1 f1 r1 hk p
theorem BV{a b:List Stmt}(hc:DT X c wA)(ha:Qt X κ a u)(hb:Qt X κ b v):DS X κ (.If c a b pos) (Bx wA u v):=by
 obtain⟨t,a1,a2⟩:=hc
 obtain⟨t',b1,b2⟩:=ha
 obtain⟨t'',c1,c2⟩:=hb
 refine⟨_,Pe a1 b1 c1,fun C M H n ρ σ D2 E R L w=>?_⟩
 refine a2 C M H n ρ σ _ _ R w fun b H1 n1 e1 f1 p=>?_
 cases b with
 | true=>exact b2 C M H1 n1 ρ σ D2 E (R.step e1 f1) L p
 | false=>exact c2 C M H1 n1 ρ σ D2 E (R.step e1 f1) L p
theorem Aw{i:Nat}{x:Str}{pos':Pos}(hN:X.N.Nodup)(hi:X.N[i]?=some x)(hx:Rs X.env.scope x)(he:DE X e κe wa)(hk:κe≠.tp:=by intro z; cases z)(hs:swapsWith e (some (.Name x pos')) pos.line X.env=pure false:=by rfl)
  (hf:X.fn x=true\/X.env.scope.names.lookup x=some .local:=by first | exact .inl rfl | exact .inr rfl | assumption):DS X κ (.Assign [.Name x pos'] e pos) (Bl i wa):=by
 obtain⟨t,a1,a2⟩:=he
 refine⟨_,EW hN hi hx a1 hs hf,fun C M H n ρ σ D2 E R L w=>?_⟩
 refine a2 C M H n ρ σ _ _ R w fun v H' d n' e1 f1 r1 p=>?_
 exact L.nx M H' n' _ _ ((R.step e1 f1).set (r1.shOf R.dom hk)) p
end
section
variable {X:Cx}{κ κe:Kd}{e:Expr}{wa:DW}{pos:Pos}
def EC(i:Nat)(w:DW):Ad:=fun D2 n ρ=>w n ρ fun d n1=>D2.nx n1 (ρ.set i (.ow d))
theorem Cw{i:Nat}{x:Str}{pos':Pos}(hN:X.N.Nodup)(hi:X.N[i]?=some x)(hx:Rs X.env.scope x)(he:DE X e .fr wa)(hs:swapsWith e (some (.Name x pos')) pos.line X.env=pure false:=by rfl)
  (hf:X.fn x=true\/X.env.scope.names.lookup x=some .local:=by first | exact .inl rfl | exact .inr rfl | assumption):DS X κ (.Assign [.Name x pos'] e pos) (EC i wa):=by
 obtain⟨t,a1,a2⟩:=he
 refine⟨_,EW hN hi hx a1 hs hf,fun C M H n ρ σ D2 E R L w=>?_⟩
 refine a2 C M H n ρ σ _ _ R w fun v H' d n' e1 f1 r1 p=>?_
 obtain⟨a,rfl,h1,h2⟩:=r1
 exact L.nx _ H' n' _ _ (R.setOw e1 f1 h1 h2) p
def LC(i:Nat):Ad:=fun D2 n ρ=>∃d,ρ[i]?=some (.ow d)/\D2.rt d n
theorem NY{x:Str}{p:Pos}(i:Nat)(h:PE X (.Name x p) (CB i)):DS X .fr (.Return (some (.Name x p)) pos) (LC i):=by
 refine⟨_,FN h,fun C M H n ρ σ D2 E R L ⟨d,hd,hw⟩=>?_⟩
 obtain⟨a,e1,m,nv,t⟩:=R.sl i _ hd
 refine⟨.ref a,getD_some e1,L.rt _ H d n R.ext (R.feed.pres (Pres.less R.sub) fun _ _ _ z=>z) ⟨a,rfl,(R.new i _ a hd rfl e1).2,?_⟩ hw⟩
 exact t.pres (Pres.less fun b z=>z.elim (R.sub b) fun z=>by rw [z]; exact m) fun _ z=>z
def Rq(K:Frag)(r:V->List V->Hp->VK->Prop)(f:D->List D->(D->D->Prop)->Prop):Prop:=∀(M:Addr->Prop) (H:Hp) (a:Addr) (d:D) (ds:List D) (vs:List V) (P:D->D->Prop) (Q:VK),M a->Tops K M H a d->Ats K M H ds vs->f d ds P ->
 (∀o e z v,Tops K M (BA H a o) a e->At K M (BA H a o) z v->P e z->Q v (BA H a o))->r (.ref a) vs H Q
def Jz(i:Nat)(T:String)(f:D->List D->(D->D->Prop)->Prop)(ws:GJ):Ad:=fun D2 n ρ=>∃d,ρ[i]?=some (.ow d)/\Vd T d/\ws n ρ fun ds n1=>f d ds fun e _=>D2.nx n1 (ρ.set i (.ow e))
theorem D5{M:Addr->Prop}{H:Hp}{a:Addr}{o:HO}(m:M a):Pres M H M (BA H a o):=⟨fun b o' q nb=>by rw [AU (fun z=>nb (by rw [z]; exact m))]; exact q,fun _ z=>.inl z⟩
theorem DQ{x name:Str}{p apos cpos:Pos}{T id:String}{r:V->List V->Hp->VK->Prop}{f:D->List D->(D->D->Prop)->Prop}{es:List Expr}{ws:GJ}(i:Nat)(pa:PlainAttrs T)(slot:PySem.Slot T name id)(hty:typeOf (.builtin id)=pure (.type "method_descriptor"))
  (hm:Vr X id r) (hA:Rq X.K r f) (h:PE X (.Name x p) (CB i)) (ha:T5 X (e::es) ws)
  (hbase:attributeBase (.Name x p) name X.env (eval (.Name x p) X.env)=eval (.Name x p) X.env:=by rfl)
  (hfew:((backTo cpos (starEach (e::es) X.env)).all (fun x=>!x.1)&&(backToKw cpos (keywordEach [] X.env)).all (fun x=>x.1.isSome)
   && decide ((e::es).length+([]:List Keyword).length+(if ([]:List Keyword).isEmpty then 0 else 1)<30))=true:=by rfl)
  (hline:(apos.endLine==cpos.line)=true:=by rfl) (hs:starEach (e::es) X.env=(false,eval e X.env)::starEach es X.env:=by rfl) (hplain:(backTo cpos (starEach es X.env)).any (·.1)=false:=by rfl)
  (hsw:swapsWith (.Call (.Attribute (.Name x p) name apos) (e::es) [] cpos) none pos.line X.env=pure false:=by rfl) :
  DS X κ (.Expr (.Call (.Attribute (.Name x p) name apos) (e::es) [] cpos) pos) (Jz i T f ws):=by
 obtain⟨t,a1,a2⟩:=ha
 refine⟨_,RB (SC pa slot hty hm h a1 hbase hfew hline hs hplain) hsw,fun C M H n ρ σ D2 E R L ⟨d,hd,hT,hw⟩=>?_⟩
 obtain⟨a,e1,m,nv,tt⟩:=R.sl i _ hd
 refine⟨.ref a,getD_some e1,P1 hT (tt.att nv),?_⟩
 refine a2 C M H n ρ σ _ _ R hw fun vs H1 ds n1 ee f1 r1 p=>?_
 have R1:=R.step ee f1
 obtain⟨a',e1',m',nv',tt'⟩:=R1.sl i _ hd
 rw [e1] at e1'
 cases e1'
 exact hA M H1 a d ds vs _ _ m' tt' r1 p fun o d' z v t2 hz pp=>L.nx M _ n1 _ σ (R1.mut hd e1 t2) pp
def Eg(d:D)(ds:List D)(P:D->D->Prop):Prop:=∃xs y,d=.lst xs/\ds=[y]/\xs.length<sizeLine/\P (.lst (xs++[y])) .non
theorem Dw{K:Frag}:Rq K NB Eg:=by
 intro M H a d ds vs P Q m t hv w q
 obtain⟨xs,y,rfl,rfl,hl,w⟩:=w
 obtain⟨us,h1,h2⟩:=t
 obtain⟨u,r,rfl,hu,hr⟩:=hv
 cases (show r=[] from hr)
 refine⟨a,us,u,rfl,rfl,h1,by rw [h2.length]; exact hl,q _ (.lst (xs++[y])) .non _ ⟨us++[u],Ab,?_⟩ rfl w⟩
 exact(h2.append (Ats.one hu)).pres (D5 m)
def Up(d:D)(ds:List D)(P:D->D->Prop):Prop:=∃xs ys,d=.lst xs/\ds=[.lst ys]/\xs.length+ys.length<=sizeLine/\P (.lst (xs++ys)) .non
theorem Ux{K:Frag}:Rq K NA Up:=by
 intro M H a d ds vs P Q m t hv w q
 obtain⟨xs,ys,rfl,rfl,hl,w⟩:=w
 obtain⟨us,h1,h2⟩:=t
 obtain⟨u,r,rfl,hu,hr⟩:=hv
 cases (show r=[] from hr)
 obtain⟨b,zs,rfl,hb,hz⟩:=hu
 refine⟨a,b,us,zs,rfl,rfl,h1,hb.2,by rw [h2.length,hz.length]; exact hl,q _ (.lst (xs++ys)) .non _ ⟨us++zs,Ab,?_⟩ rfl w⟩
 exact(h2.append hz).pres (D5 m)
end
def Yields(K:Frag)(M:Addr->Prop)(H:Hp)(J:It)(ds:List D):Prop:=∀(i:Nat) (M':Addr->Prop) (H':Hp),Pres M H M' H'->(∀a,M' a->∃o,H' a=some o) ->
 (∀d,ds[i]?=some d->J.go i H'/\∀x H2,J.yld i H' x H2->Grow H' H2/\At K M' H2 d x)/\(ds.length<=i->J.stop i H')
def Nk(K:Frag)(U M:Addr->Prop)(H:Hp)(J:It)(ds:List D):Prop:=∀(i:Nat) (M':Addr->Prop) (H':Hp),Pres M H M' H'->Ext U H H'->(∀a,M' a->∃o,H' a=some o) ->
 (∀d,ds[i]?=some d->J.go i H'/\∀x H2,J.yld i H' x H2->Grow H' H2/\At K M' H2 d x)/\(ds.length<=i->J.stop i H')
theorem Yields.e{K:Frag}{U M:Addr->Prop}{H:Hp}{J:It}{ds:List D}(h:Yields K M H J ds):Nk K U M H J ds:=fun i M' H' p _ d=>h i M' H' p d
def T4(X:Cx)(tg iter:Expr)(w:GJ):Prop:=∃wi,PI X tg iter wi/\∀(C:Fm) (M:Addr->Prop) (H:Hp) (n:Nat) (ρ:List Slot) (σ:L2.St) (P:List D->Nat->Prop) (R:It->Hp->Prop),Rel X.K C M H n ρ σ->w n ρ P ->
 (∀J H' ds n',Ext C.U H H'->FeedC X.K C.F M H' n'->Nk X.K C.U M H' J ds->P ds n'->R J H')->wi σ H R
def DI(X:Cx)(tg iter:Expr)(w:GJ):Prop:=∃wi,PI X tg iter wi/\∀(C:Fm) (M:Addr->Prop) (H:Hp) (n:Nat) (ρ:List Slot) (σ:L2.St) (P:List D->Nat->Prop) (R:It->Hp->Prop),Rel X.K C M H n ρ σ->w n ρ P ->
 (∀J H' ds n',Ext C.U H H'->FeedC X.K C.F M H' n'->Yields X.K M H' J ds->P ds n'->R J H')->wi σ H R
def M8(x:Str):List D:=x.cps.toList.map fun c=>.str ⟨#[c]⟩
def BY(w:DW):GJ:=fun n ρ P=>w n ρ fun d n1=>match d with
 | .lst ds=>P ds n1
 | .tup ds=>P ds n1
 | .str x=>P (M8 x) n1
 | _=>False
theorem LB{K:Frag}{M:Addr->Prop}{H:Hp}{a:Addr}{vs:List V}{ds:List D}(h:NdL M H a vs)(hs:Ats K M H ds vs):Yields K M H (Vw K a) ds:=by
 intro i M' H' p _
 have hq:SqL K H' a vs:=(h.pres p).sq
 refine⟨fun d hd=>?_,fun hl=>⟨vs,hq,by rw [hs.length]; exact hl⟩⟩
 obtain⟨v,e,hv⟩:=(hs.pres p).get hd
 refine⟨⟨vs,v,hq,e⟩,fun x H2 y=>?_⟩
 obtain⟨e2,y⟩:=y
 subst e2
 have:some v=some x:=e.symm.trans (y vs hq)
 cases this
 exact⟨.refl,hv⟩
theorem HM{K:Frag}{M:Addr->Prop}{H:Hp}{a:Addr}{vs:List V}{ds:List D}(h:NdT M H a vs)(hs:Ats K M H ds vs):Yields K M H (Tu K a) ds:=by
 intro i M' H' p _
 have hq:SqT K H' a vs:=(h.pres p).sq
 refine⟨fun d hd=>?_,fun hl=>⟨vs,hq,by rw [hs.length]; exact hl⟩⟩
 obtain⟨v,e,hv⟩:=(hs.pres p).get hd
 refine⟨⟨vs,v,hq,e⟩,fun x H2 y=>?_⟩
 obtain⟨e2,y⟩:=y
 subst e2
 have:some v=some x:=e.symm.trans (y vs hq)
 cases this
 exact⟨.refl,hv⟩
theorem yields_str{K:Frag}{M:Addr->Prop}{H:Hp}{z:Str}:Yields K M H (Vv z) (M8 z):=by
 intro i M' H' p _
 refine⟨fun d hd=>?_,fun hl=>?_⟩
 ·unfold M8 at hd
  rw [List.getElem?_map] at hd
  have hi:i<z.cps.size:=by
   cases q:z.cps.toList[i]? with
   | none=>rw [q] at hd; cases hd
   | some c=>simpa using (List.getElem?_eq_some_iff.mp q).1
  refine⟨hi,fun x H2 y=>?_⟩
  obtain⟨e2,c,hc,rfl⟩:=y
  subst e2
  have:z.cps.toList[i]?=some c:=by simpa using hc
  rw [this] at hd
  have hd':D.str ⟨#[c]⟩=d:=Option.some.inj hd
  subst hd'
  exact⟨.refl,rfl,by rw [sizeLine_eq]; show 1<=16777216; decide⟩
 ·show z.cps.size<=i
  unfold M8 at hl
  simpa using hl
def EU(lo:Int)(n:Nat):List D:=(List.range n).map fun(i:Nat)=>.int (lo+(i:Int))
theorem Jy{K:Frag}{M:Addr->Prop}{H:Hp}{lo:Int}{m:Nat}:Yields K M H (VI lo m) (EU lo m):=by
 intro i M' H' p _
 refine⟨fun d hd=>?_,fun hl=>?_⟩
 ·unfold EU at hd
  rw [List.getElem?_map] at hd
  have hi:i<m:=by
   cases q:(List.range m)[i]? with
   | none=>rw [q] at hd; cases hd
   | some c=>simpa using (List.getElem?_eq_some_iff.mp q).1
  rw [List.getElem?_range hi] at hd
  have hd':D.int (lo+i)=d:=Option.some.inj hd
  subst hd'
  refine⟨hi,fun x H2 y=>?_⟩
  obtain⟨e2,e3⟩:=y
  subst e2
  exact⟨.refl,e3⟩
 ·show m<=i
  unfold EU at hl
  simpa using hl
section
variable {X:Cx}{tg e e2:Expr}{es:List Expr}{κ:Kd}{wa:DW}{ws:GJ}{p pos:Pos}
theorem FW(h:DE X e κ wa)(hk:κ≠.tp:=by intro z; cases z):DI X tg e (BY wa):=by
 obtain⟨t,a1,a2⟩:=h
 refine⟨_,MQ a1,fun C M H n ρ σ P Rr R w q=>?_⟩
 refine a2 C M H n ρ σ _ _ R w fun v H1 d n1 e1 f1 r1 p=>?_
 have hv:=r1.shOf R.dom hk
 cases d with
 | lst ds =>
  obtain⟨a,vs,e,hn,hs⟩:=hv
  exact .inl ⟨a,e,⟨vs,hn.sq⟩,q _ H1 ds n1 e1 f1 (LB hn hs) p⟩
 | tup ds =>
  obtain⟨a,vs,e,hn,hs⟩:=hv
  exact .inr (.inl ⟨a,e,⟨vs,hn.sq⟩,q _ H1 ds n1 e1 f1 (HM hn hs) p⟩)
 | str z=>exact .inr (.inr ⟨z,hv.1,q _ H1 _ n1 e1 f1 yields_str p⟩)
 | _=>exact p.elim
def ED(ws:GJ):GJ:=fun n ρ P=>ws n ρ fun ds n1=>∃j:Int,ds=[.int j]/\(-(2 ^ 62)<=j/\j<2 ^ 62)/\P (EU 0 j.toNat) n1
theorem B9(hg:Gl X "range")(hm:X.mg "range"=none)(ha:Tw X [e] ws)(hs:starEach [e] X.env=[(false,eval e X.env)]:=by rfl):DI X tg (.Call (.Name "range" p) [e] [] pos) (ED ws):=by
 obtain⟨t,a1,a2⟩:=ha
 refine⟨_,N8 hg hm a1 hs,fun C M H n ρ σ P Rr R w q=>?_⟩
 refine a2 C M H n ρ σ _ _ R w fun vs H1 ds n1 e1 f1 r1 p=>?_
 obtain⟨j,rfl,hj,p⟩:=p
 cases r1 with
 | cons r rr =>
  cases rr
  have hv:_=V.int j:=r
  exact⟨j,by rw [hv],hj.1,hj.2,q _ H1 _ n1 e1 f1 Jy p⟩
theorem DI.c(h:DI X tg e ws):T4 X tg e ws:=by
 obtain⟨wi,a1,a2⟩:=h
 exact⟨wi,a1,fun C M H n ρ σ P Rr R w q=>a2 C M H n ρ σ P Rr R w fun J H' ds n' e1 f1 y p=>q J H' ds n' e1 f1 y.e p⟩
theorem Cy(h:DE X e κ wa):T4 X tg e (BY wa):=by
 obtain⟨t,a1,a2⟩:=h
 refine⟨_,MQ a1,fun C M H n ρ σ P Rr R w q=>?_⟩
 refine a2 C M H n ρ σ _ _ R w fun v H1 d n1 e1 f1 r1 p=>?_
 have hv:AtT X.K C.V M H1 d v:=r1.tpOf R.dom R.vM
 cases d with
 | lst ds =>
  obtain⟨a,vs,e,nv,hr,hs⟩:=hv
  refine .inl ⟨a,e,⟨vs,.inl hr⟩,q _ H1 ds n1 e1 f1 (fun i M' H' pr ex _=>?_) p⟩
  have hq:SqL X.K H' a vs:=by
   rcases hr with hr | ⟨o,hr⟩
   ·exact .inl (.inl (ex.keep hr fun z=>nv (R.uV a z)))
   ·exact .inl (.inr ⟨o,ex.keep hr fun z=>nv (R.uV a z)⟩)
  refine⟨fun d hd=>?_,fun hl=>⟨vs,hq,by rw [hs.length]; exact hl⟩⟩
  obtain⟨v,e,hv⟩:=(hs.pres pr).get hd
  refine⟨⟨vs,v,hq,e⟩,fun x H2 y=>?_⟩
  obtain⟨e2,y⟩:=y
  subst e2
  have:some v=some x:=e.symm.trans (y vs hq)
  cases this
  exact⟨.refl,hv⟩
 | tup ds =>
  obtain⟨a,vs,e,hn,hs⟩:=hv
  exact .inr (.inl ⟨a,e,⟨vs,hn.sq⟩,q _ H1 ds n1 e1 f1 (HM hn hs).e p⟩)
 | str z=>exact .inr (.inr ⟨z,hv.1,q _ H1 _ n1 e1 f1 yields_str.e p⟩)
 | _=>exact p.elim
end
abbrev BW:=D->List Slot->(List Slot->Prop)->Prop
def DG(X:Cx)(tg:Expr)(b:BW):Prop:=∃g,PG X tg g/\∀(C:Fm) (M:Addr->Prop) (H:Hp) (n:Nat) (ρ:List Slot) (σ:L2.St) (d:D) (v:V) (P:List Slot->Prop) (Q:L2.St->Hp->Prop),Rel X.K C M H n ρ σ->At X.K M H d v->b d ρ P ->
 (∀ρ' σ',Rel X.K C M H n ρ' σ'->P ρ'->Q σ' H)->g v σ H Q
def Ak(i:Nat):BW:=fun d ρ P=>P (ρ.set i (.sh d))
theorem Ae{X:Cx}{i:Nat}{x:Str}{pos:Pos}(hN:X.N.Nodup)(hi:X.N[i]?=some x)(hx:Rs X.env.scope x)(hf:X.fn x=true\/X.env.scope.names.lookup x=some .local:=by first | exact .inl rfl | exact .inr rfl | assumption):DG X (.Name x pos) (Ak i) :=
 ⟨_,Fq hN hi hx hf,fun C M H n ρ σ d v P Q R h w q=>q _ _ (R.set h) w⟩
def Be(b:BW)(body:Ad)(D2:E2):List D->Nat->List Slot->Prop
 | [],n,ρ=>D2.nx n ρ
 | d::ds,n,ρ=>b d ρ fun ρ1=>body { D2 with nx:=Be b body D2 ds,ct:=Be b body D2 ds,bk:=D2.nx } n ρ1
def EO(src:GJ)(b:BW)(body:Ad):Ad:=fun D2 n ρ=>src n ρ fun ds n1=>Be b body D2 ds n1 ρ
theorem Rel.unpin{K:Frag}{C:Fm}{p:(Addr->Prop)×Hp}{M:Addr->Prop}{H:Hp}{n:Nat}{ρ:List Slot}{σ:L2.St}(R:Rel K { C with pins:=p::C.pins } M H n ρ σ):Rel K C M H n ρ σ :=
 ⟨R.len,R.sub,R.dom,R.ext,R.fU,R.uV,R.vM,R.feed,R.sl,fun q hq=>R.pin q (List.mem_cons_of_mem _ hq),R.br0,R.new,R.two,R.kept⟩
theorem Rel.pinned{K:Frag}{C:Fm}{M:Addr->Prop}{H:Hp}{n:Nat}{ρ:List Slot}{σ:L2.St}(R:Rel K C M H n ρ σ):Rel K { C with pins:=(M,H)::C.pins } M H n ρ σ :=
 ⟨R.len,R.sub,R.dom,R.ext,R.fU,R.uV,R.vM,R.feed,R.sl,fun q hq=>(List.mem_cons.mp hq).elim (fun e=>e▸Pres.refl M H) (R.pin q),R.br0,R.new,R.two,R.kept⟩
section
variable {X:Cx}{κ:Kd}{tg iter:Expr}{body:List Stmt}{src:GJ}{b:BW}{wb:Ad}{pos:Pos}
theorem Cb(hp:PassesOwn (model X.prog X.w) X.A X.env X.xe)(hc:X.calm=true)(hi:DI X tg iter src)(hg:DG X tg b)(hb:Qt X κ body wb)
  (hs:∀x,foldedSetIterable iter X.env x=pure x:=by intro _; rfl):DS X κ (.For tg iter body [] pos) (EO src b wb):=by
 obtain⟨wi,a1,a2⟩:=hi
 obtain⟨g,g1,g2⟩:=hg
 obtain⟨tb,b1,b2⟩:=hb
 refine⟨_,KF hp hc a1 g1 b1 hs,fun C M H n ρ σ D2 E R L w=>?_⟩
 refine a2 C M H n ρ σ _ _ R w fun J H1 ds n1 e1 f1 y w1=>?_
 have R1:=R.step e1 f1
 refine⟨fun i m σ' H'=>m=ds.length - i/\i<=ds.length/\∃M' n' ρ',Rel X.K { C with pins:=(M,H1)::C.pins } M' H' n' ρ' σ'/\Be b wb D2 (ds.drop i) n' ρ',⟨ds.length,by simp,Nat.zero_le _,M,n1,ρ,R1.pinned,w1⟩,?_⟩
 rintro i m σ' H' ⟨rfl,hi,M',n',ρ',R',w'⟩
 have pr:Pres M H1 M' H':=R'.pin (M,H1) List.mem_cons_self
 by_cases hlt:i<ds.length
 ·have ed:ds.drop i=ds[i]::ds.drop (i+1):=List.drop_eq_getElem_cons hlt
  rw [ed] at w'
  obtain⟨go,yl⟩:=(y i M' H' pr R'.dom).1 ds[i] (List.getElem?_eq_getElem hlt)
  refine .inr ⟨go,fun σ2 H2=>∃M2 n2 ρ2,Rel X.K { C with pins:=(M,H1)::C.pins } M2 H2 n2 ρ2 σ2/\Be b wb D2 (ds.drop (i+1)) n2 ρ2,fun σ2 H2 ⟨M2,n2,ρ2,R2',w2⟩=>⟨ds.length - (i+1),by omega,rfl,hlt,M2,n2,ρ2,R2',w2⟩,fun x H2 hy=>?_⟩
  obtain⟨gr,hx⟩:=yl x H2 hy
  have R2':=R'.step gr.ext (R'.feed.grow gr)
  refine g2 _ M' H2 n' ρ' σ' ds[i] x _ _ R2' hx w' fun ρ3 σ3 R3 w3=>?_
  refine b2 _ M' H2 n' ρ3 σ3 { D2 with nx:=Be b wb D2 (ds.drop (i+1)),ct:=Be b wb D2 (ds.drop (i+1)),bk:=D2.nx } _ R3 ⟨fun M4 H4 n4 ρ4 σ4 R4 w4=>⟨M4,n4,ρ4,R4,w4⟩,L.rt,fun M4 H4 n4 ρ4 σ4 R4 w4=>L.nx M4 H4 n4 ρ4 σ4 R4.unpin w4,fun M4 H4 n4 ρ4 σ4 R4 w4=>⟨M4,n4,ρ4,R4,w4⟩⟩ w3
 ·have e:i=ds.length:=by omega
  subst e
  rw [List.drop_length] at w'
  exact .inl ⟨(y _ M' H' pr R'.dom).2 (Nat.le_refl _),L.nx M' H' n' ρ' σ' R'.unpin w'⟩
end
def Da(b:BW)(tt:HL)(te:DW)(P:List D->Nat->Prop):List D->List D->Nat->List Slot->Prop
 | [],acc,n,_=>P acc n
 | d::ds,acc,n,ρ=>b d ρ fun ρ1=>tt n ρ1 fun c n1=>if c=true then te n1 ρ1 fun y n2=>Da b tt te P ds (acc++[y]) n2 ρ1 else Da b tt te P ds acc n1 ρ1
def ON:Slot->Slot
 | .ow d=>.br d
 | .lt _ d=>.br d
 | s=>s
theorem OM(s:Slot):(ON s).owns=false:=by cases s <;> rfl
theorem D7{js:List (Option Nat)}{ρ:List Slot}{i:Nat}{s:Slot}(h:(js.map fun o=>match o with | some i=>ON ((ρ[i]?).getD .no) | none=>Slot.no)[i]?=some s):s.owns=false:=by
 rw [List.getElem?_map] at h
 cases q:js[i]? with
 | none=>rw [q] at h; cases h
 | some o =>
  rw [q] at h
  cases o with
  | none =>
   have e:Slot.no=s:=Option.some.inj h
   rw [← e]; rfl
  | some j =>
   have e:ON ((ρ[j]?).getD .no)=s:=Option.some.inj h
   rw [← e]; exact OM _
def Fu(js:List (Option Nat))(ρ:List Slot):List Slot:=js.map fun o=>match o with
 | some i=>ON ((ρ[i]?).getD .no)
 | none=>.no
def Cg(js:List (Option Nat))(src:GJ)(b:BW)(tt:HL)(te:DW):DW:=fun n ρ P=>src n ρ fun ds n1=>ds.length<=10000000/\Da b tt te (fun acc n2=>P (.lst acc) n2) ds [] n1 (Fu js ρ)
def U5(X:Cx)(ifs:List Expr)(w:HL):Prop:=∃t,U1 X ifs t/\∀(C:Fm) (M:Addr->Prop) (H:Hp) (n:Nat) (ρ:List Slot) (σ:L2.St) (P:Bool->Nat->Prop) (Q:Bool->Hp->Prop),Rel X.K C M H n ρ σ->w n ρ P ->
 (∀b H' n',Ext C.U H H'->FeedC X.K C.F M H' n'->P b n'->Q b H')->t σ H Q
def E4:HL:=fun n _ P=>P true n
theorem DA{X:Cx}:U5 X [] E4:=⟨_,RE,fun C M H n ρ σ P Q R w q=>q true H n (Ext.refl _ _) R.feed w⟩
theorem Fy{X:Cx}{c:Expr}{w:HL}(h:DT X c w):U5 X [c] w:=by
 obtain⟨t,h1,h2⟩:=h
 exact⟨t,RD h1,h2⟩
theorem JY{js:List (Option Nat)}{ρ:List Slot}{σ:L2.St}{i:Nat}{s:Slot}(hs:(Fu js ρ)[i]?=some s):s=.no\/∃(j:Nat) (s':Slot),ρ[j]?=some s'/\s=ON s'/\((Cp js σ)[i]?).getD none=(σ[j]?).getD none:=by
 unfold Fu at hs
 unfold Cp
 rw [List.getElem?_map] at hs ⊢
 cases q:js[i]? with
 | none=>rw [q] at hs; cases hs
 | some o =>
  rw [q] at hs
  cases o with
  | none=>exact .inl (Option.some.inj hs).symm
  | some j =>
   have e:ON ((ρ[j]?).getD .no)=s:=Option.some.inj hs
   cases q2:ρ[j]? with
   | none=>rw [q2] at e; exact .inl e.symm
   | some s' =>
    rw [q2] at e
    exact .inr ⟨j,s',q2,e.symm,rfl⟩
theorem Li{K:Frag}{F:Option (Addr×Addr)}{U U' M M':Addr->Prop}{H H':Hp}{js:List (Option Nat)}{ρ:List Slot}{σ:L2.St}(hsl:∀(i:Nat) (s:Slot),ρ[i]?=some s->SlotOk K F U M H s ((σ[i]?).getD none))
  (pr:Pres M H M' H') (br:∀d v,AtT K U M H d v->AtT K U' M' H' d v):∀(i:Nat) (s:Slot),(Fu js ρ)[i]?=some s->SlotOk K F U' M' H' s (((Cp js σ)[i]?).getD none):=by
 intro i s hs
 rcases JY (σ:=σ) hs with rfl | ⟨j,s',q,rfl,e⟩
 ·trivial
 ·rw [e]
  have h1:=hsl j s' q
  cases s' with
  | no=>trivial
  | sh d=>obtain⟨v,e1,h2⟩:=h1; exact⟨v,e1,h2.pres pr⟩
  | br d=>obtain⟨v,e1,h2⟩:=h1; exact⟨v,e1,br d v h2⟩
  | fd=>exact h1
  | ow d=>obtain⟨a,e1,_,nv,t⟩:=h1; exact⟨.ref a,e1,br d _ (t.att nv)⟩
  | lt a d=>obtain⟨e1,_,nv,t⟩:=h1; exact⟨.ref a,e1,br d _ (t.att nv)⟩
theorem NL{K:Frag}{F:Option (Addr×Addr)}{U M:Addr->Prop}{H:Hp}{js:List (Option Nat)}{ρ:List Slot}{σ:L2.St}(hsl:∀(i:Nat) (s:Slot),ρ[i]?=some s->SlotOk K F U M H s ((σ[i]?).getD none)){i:Nat}{d:D}{a:Addr}
  (hs:(Fu js ρ)[i]?=some (.br d)) (ha:((Cp js σ)[i]?).getD none=some (.ref a)):∃o,H a=some o:=by
 rcases JY (σ:=σ) hs with z | ⟨j,s',q,z,e⟩
 ·cases z
 ·rw [e] at ha
  have h1:=hsl j s' q
  rw [ha] at h1
  cases s' with
  | br d=>obtain⟨v,e1,h2⟩:=h1; cases e1; exact h2.lies
  | ow d=>obtain⟨b,e1,_,nv,t⟩:=h1; cases e1; exact(t.att nv).lies
  | lt b d=>obtain⟨e1,_,nv,t⟩:=h1; cases e1; exact(t.att nv).lies
  | no=>cases z
  | sh d=>cases z
  | fd=>cases z
section
variable {X:Cx}{κe:Kd}{tg elt iter:Expr}{ifs:List Expr}{sc:Scope}{pos:Pos}{src:GJ}{b:BW}{tt:HL}{te:DW}
theorem CI(hc:X.calm=true)(N':List Str)(js:List (Option Nat))(hi:T4 X tg iter src)(hg:∀cl C s H fp,DG (A8 X sc N' cl C s H fp) tg b)(ht:∀cl C s H fp,U5 (A8 X sc N' cl C s H fp) ifs tt)(he:∀cl C s H fp,DE (A8 X sc N' cl C s H fp) elt κe te)
  (hB:IP sc X.env.scope X.N N' js=true) (hk:κe≠.tp:=by intro z; cases z)
  (hs:∀x,foldedSetIterable iter X.env x=pure x:=by intro _; rfl):DE X (.ListComp elt [⟨tg,iter,ifs,0⟩] sc pos) .fr (Cg js src b tt te):=by
 obtain⟨wi,a1,a2⟩:=hi
 refine⟨_,RG hc N' js a1 hB hs,fun C M H n ρ σ P Q R w q=>?_⟩
 refine a2 C M H n ρ σ _ _ R w fun J H1 ds n1 e1 f1 y w1=>?_
 obtain⟨hlen,w1⟩:=w1
 have R1:=R.step e1 f1
 intro l hl hkl cl Ca s0 H0 fp
 obtain⟨g,g1,g2⟩:=hg cl Ca s0 H0 fp
 obtain⟨tc,c1,c2⟩:=ht cl Ca s0 H0 fp
 obtain⟨tx,x1,x2⟩:=he cl Ca s0 H0 fp
 have noU:¬C.U l:=fun z=>by
  obtain⟨o,z⟩:=R1.udom l z
  rw [hl] at z; cases z
 generalize hM':(fun b=>M b\/b=l)=M'
 have M'l:M' l:=by rw [← hM']; exact .inr rfl
 have M'of:∀b,M b->M' b:=fun b z=>by rw [← hM']; exact .inl z
 have ofM':∀b,M' b->M b\/b=l:=fun b z=>by rw [← hM'] at z; exact z
 have inV:∀b,C.V b\/b=l->M' b:=fun b z=>z.elim (fun z=>M'of b (R1.vM b z)) fun z=>by rw [z]; exact M'l
 have lenj:js.length=N'.length:=Em (CompOk.of hB).cap
 refine⟨g,tc,tx,fun i m σ' H'=>m=ds.length - i/\i<=ds.length/\∃n' ρ' acc vs,Rel X.K ⟨M',C.F,C.U,fun b=>C.V b\/b=l,H1,[],[]⟩ M' H' n' ρ' σ'/\H' l=some (.lst vs)/\Ats X.K M' H' acc vs/\acc.length<=i/\Pres M H1 M' H' /\
   Da b tt te (fun acc n2=>P (.lst acc) n2) (ds.drop i) acc n' ρ',g1,c1,x1,⟨ds.length,by simp,Nat.zero_le _,n1,Fu js ρ,[],[],?_⟩,?_⟩
 ·have gr:Grow H1 (BA H1 l (.lst [])):=Av hl
  have pr:Pres M H1 M' (BA H1 l (.lst [])):=⟨fun b o e _=>gr.all b o e,fun b z=>(ofM' b z).elim .inl fun z=>.inr (by rw [z]; exact hl)⟩
  refine⟨⟨?_,fun a z=>z,fun a z=>?_,gr.ext,R1.fU,fun a z=>.inl (R1.uV a z),inV,f1.pres pr fun f o _ e=>gr.all f.1 o e,?_,fun p hp=>absurd hp (by simp),fun i d a q z=>NL R1.sl q z,fun i s a q o _=>absurd o (by rw [D7 q]; decide),fun i j s t a q o _ _ _ _=>absurd o (by rw [D7 q]; decide),fun p hp=>absurd hp (by simp)⟩,Ab,rfl,Nat.zero_le _,pr,w1⟩
  ·unfold Fu Cp
   rw [List.length_map,List.length_map]
  ·rcases ofM' a z with z | z
   ·obtain⟨o,z⟩:=R1.dom a z
    exact⟨o,gr.all a o z⟩
   ·subst z
    exact⟨_,Ab⟩
  ·refine Li R1.sl pr fun d v h=>h.same pr (fun a o _ e=>gr.all a o e) fun a e n1 z=>z.elim n1 fun z=>?_
   subst e
   obtain⟨o,w⟩:=h.lies
   rw [z,hl] at w
   cases w
 ·rintro i m σ' H' ⟨rfl,hi,n',ρ',acc,vs,R',hlv,hac,hal,pr,w'⟩
  by_cases hlt:i<ds.length
  ·have ed:ds.drop i=ds[i]::ds.drop (i+1):=List.drop_eq_getElem_cons hlt
   rw [ed] at w'
   obtain⟨go,yl⟩:=(y i M' H' pr R'.ext R'.dom).1 ds[i] (List.getElem?_eq_getElem hlt)
   refine .inr ⟨go,fun x H2 hy=>?_⟩
   obtain⟨gr,hx⟩:=yl x H2 hy
   have R2':=R'.step gr.ext (R'.feed.grow gr)
   refine g2 _ M' H2 n' ρ' σ' ds[i] x _ _ R2' hx w' fun ρ3 σ3 R3 w3=>?_
   refine c2 _ M' H2 n' ρ3 σ3 _ _ R3 w3 fun c H4 n4 e4 f4 w4=>?_
   have R4:=R3.step e4 f4
   have p4:Pres M' H' M' H4:=gr.pres.trans (R3.pres e4)
   have l4:H4 l=some (.lst vs):=e4.keep (gr.all _ _ hlv) noU
   cases c with
   | false=>exact⟨ds.length - (i+1),by omega,rfl,hlt,n4,ρ3,acc,vs,R4,l4,hac.pres p4,by omega,pr.trans p4,w4⟩
   | true =>
    refine x2 _ M' H4 n4 ρ3 σ3 _ _ R4 w4 fun yv H5 d5 n5 e5 f5 r5 w5=>?_
    have R5:=R4.step e5 f5
    have p5:Pres M' H4 M' H5:=R4.pres e5
    have l5:H5 l=some (.lst vs):=e5.keep l4 noU
    have hy5:=r5.shOf R4.dom hk
    have a5:=(hac.pres p4).pres p5
    have pu:Pres M' H5 M' (BA H5 l (.lst (vs++[yv]))):=⟨fun b o e nb=>by rw [AU (fun z=>nb (by rw [z]; exact M'l))]; exact e,fun _ z=>.inl z⟩
    have hvl:vs.length=acc.length:=hac.length
    refine⟨vs,l5,by rw [sizeLine_eq]; omega,ds.length - (i+1),by omega,rfl,hlt,n5,ρ3,acc++[d5],vs++[yv],?_,Ab,(a5.append (Ats.one hy5)).pres pu,by rw [List.length_append,List.length_singleton]; omega,(pr.trans p4).trans (p5.trans pu),w5⟩
    refine⟨R5.len,R5.sub,fun a z=>?_,fun b o e=>?_,R5.fU,R5.uV,R5.vM,?_,fun j s hs=>?_,fun p hp=>absurd hp (by simp),R5.br0,R5.new,R5.two,fun p hp=>absurd hp (by simp)⟩
    ·by_cases ha:a=l
     ·subst ha; exact⟨_,Ab⟩
     ·rw [AU ha]; exact R5.dom a z
    ·obtain⟨o',q1,q2⟩:=R5.ext b o e
     by_cases hb:b=l
     ·subst hb
      have e':H1 b=some o:=e
      rw [hl] at e'; cases e'
     ·exact⟨o',by rw [AU hb]; exact q1,q2⟩
    ·refine f5.pres pu fun f o hf e=>?_
     rw [AU (fun z=>noU (by rw [← z]; exact R1.fU f hf))]
     exact e
    ·have hs5:=R5.sl j s hs
     cases s with
     | no=>trivial
     | sh d=>obtain⟨v,e1,h2⟩:=hs5; exact⟨v,e1,h2.pres pu⟩
     | br d =>
      obtain⟨v,e1,h2⟩:=hs5
      refine⟨v,e1,h2.same pu (fun a o z e=>?_) fun _ _ z=>z⟩
      subst z
      obtain⟨o3,w⟩:=R5.br0 j d a hs e1
      have hal:a≠l:=fun z=>by
       have w':H1 a=some o3:=w
       rw [z,hl] at w'; cases w'
      rw [AU hal]; exact e
     | ow d =>
      obtain⟨a,e1,h2,_⟩:=hs5
      exact absurd h2 (R5.new j _ a hs rfl e1).1
     | lt a d =>
      obtain⟨e1,h2,_⟩:=hs5
      exact absurd h2 (R5.new j _ a hs rfl e1).1
     | fd=>exact hs5
  ·have e:i=ds.length:=by omega
   subst e
   rw [List.drop_length] at w'
   refine .inl ⟨(y _ M' H' pr R'.ext R'.dom).2 (Nat.le_refl _),?_⟩
   have eb:Ext C.U H1 H':=R'.ext
   have less:Pres M' H' M H':=Pres.less M'of
   refine q _ H' (.lst acc) n' (e1.trans eb) (R'.feed.pres less fun _ _ _ z=>z) (VR.back e1 ?_) w'
   exact⟨l,rfl,hl,vs,hlv,by rw [hM']; exact hac⟩
end
theorem N6{K:Frag}{F:Option (Addr×Addr)}{U V' M:Addr->Prop}{H:Hp}{n:Nat}{ss:List Slot}{vs:List V}{N:List Str}(h:Uz K F U V' M H n ss vs)(hl:vs.length<=N.length) :
  Rel K ⟨M,F,U,V',H,[],[]⟩ M H n (ss++List.replicate (N.length - ss.length) .no) (L2.start N vs):=by
 obtain⟨dom,fU,uV,vM,fd,pa⟩:=h
 have el:vs.length=ss.length:=Paired.length pa
 have go:∀{vs:List V} {ss:List Slot} {i:Nat} {s:Slot},Paired (Jx K F V' M H) vs ss->ss[i]?=some s->∃v,vs[i]?=some v/\Jx K F V' M H v s:=by
  intro vs ss i s pa
  induction pa generalizing i with
  | nil=>intro e; simp at e
  | cons r t ih =>
   intro e
   cases i with
   | zero=>simp at e; subst e; exact⟨_,rfl,r⟩
   | succ i =>
    obtain⟨v,e1,h1⟩:=ih (i:=i) (by simpa using e)
    exact⟨v,by simpa using e1,h1⟩
 have at_:∀(i:Nat) (s:Slot),(ss++List.replicate (N.length - ss.length) Slot.no)[i]?=some s->s=.no\/∃v,((L2.start N vs)[i]?).getD none=some v/\Jx K F V' M H v s:=by
  intro i s hs
  by_cases hi:i<ss.length
  ·rw [List.getElem?_append_left hi] at hs
   obtain⟨v,e1,h1⟩:=go pa hs
   refine .inr ⟨v,?_,h1⟩
   unfold L2.start
   rw [List.getElem?_append_left (by rw [List.length_map,el]; exact hi),List.getElem?_map,e1]
   rfl
  ·rw [List.getElem?_append_right (by omega),List.getElem?_replicate] at hs
   split at hs
   ·exact .inl (Option.some.inj hs).symm
   ·cases hs
 refine⟨?_,fun a z=>z,dom,Ext.refl _ _,fU,uV,vM,fd,fun i s hs=>?_,fun p hp=>absurd hp (by simp),fun i d a hs ha=>?_,fun i s a hs o _=>?_,fun i j s t a hs o _ _ _ _=>?_,fun p hp=>absurd hp (by simp)⟩
 ·unfold L2.start
  simp only [List.length_append,List.length_map,List.length_replicate]
  omega
 ·rcases at_ i s hs with rfl | ⟨v,e,h⟩
  ·trivial
  ·rw [e]; exact h.1
 ·rcases at_ i _ hs with z | ⟨v,e,h⟩
  ·cases z
  ·rw [e] at ha
   cases ha
   obtain⟨v,e1,h1⟩:=h.1
   cases e1
   exact h1.lies
 ·rcases at_ i s hs with rfl | ⟨v,e,h⟩
  ·cases o
  ·rw [h.2] at o; cases o
 ·rcases at_ i s hs with rfl | ⟨v,e,h⟩
  ·cases o
  ·rw [h.2] at o; cases o
theorem IF{P:Program}{w:World}{K:Frag}{mg:Str->Option Value}{base:Heap}{x qual:Str}{st:Stmt}{f:Addr}{fd:FuncData}{N ps:List Str}{k:Nat}{κ:Kd}{W:W2}{wb:Ad}(F:Fun K x qual st f fd)(S:Ar N ps (AI st))(hNp:ps.length<=N.length)
  (hb:∀(cdv:Value) (A:Around) (outer:List Env) (s:Shared) (H:Hp) (E:XK),Room k (A.deeper (envOfC qual (AI st) s.heap.objs.size f cdv))->Qt (Km Dy P w K mg base N qual (AI st) f cdv A outer s H E).nox κ (Ao st) wb)
  (hW:∀ss n Pd,ss.length=ps.length->W ss n Pd->wb { nx:=fun n _=>κ=.sh/\Pd .non n,rt:=Pd } n (ss++List.replicate (N.length - ps.length) .no)) :
  Bq P w K mg base Dy (k+1) f fd ps (Fg K κ W ps.length):=by
 refine F.ok S (fun vs H Q E h=>h.1) (fun cdv A outer s H vs Q E hr h=>?_)
 obtain⟨hl,F0,U,V',M,n,ss,Pd,ra,hw,q⟩:=h
 obtain⟨t,t1,t2⟩:=hb cdv A outer s H E hr
 refine⟨t,t1,?_⟩
 have el:vs.length=ss.length:=Paired.length ra.2.2.2.2.2
 have R:=N6 (N:=N) ra (by omega)
 refine t2 ⟨M,F0,U,V',H,[],[]⟩ M H n _ _ { nx:=fun n _=>κ=.sh/\Pd .non n,rt:=Pd } _ R ⟨fun M1 H1 n1 ρ1 σ1 R1 p=>?_,fun v H1 d n1 e1 f1 r1 p=>q v H1 d n1 e1 f1 r1 p,fun _ _ _ _ _ _ z=>z.elim,fun _ _ _ _ _ _ z=>z.elim⟩ ?_
 ·obtain⟨hk,p⟩:=p
  subst hk
  exact q .non H1 .non n1 R1.ext (R1.feed.pres (Pres.less R1.sub) fun _ _ _ z=>z) rfl p
 ·have e:ss.length=ps.length:=by omega
  have h1:=hW ss n Pd e hw
  rw [← e] at h1
  exact h1
end Dp
namespace L2
open PySem PySem.Spec PyProof.Rows
section
variable {X:Cx}
theorem Inv.rdl{pins:List (Addr×Obj)}{σ:L2.St}{H:Hp}{s:Shared}{l:Addr}{xs:List V}(I:Inv X pins σ H s)(h:Rd H l (.lst xs)):xs.length<=sizeLine/\∃(its:List Value) (n:Nat),Vals xs its/\xs.length=its.length/\s.heap.get? l=some { cls:=.type "list",data:=.seq its.toArray n }:=by
 obtain⟨z,its,n,r,e⟩:=h.ok I.hok
 exact⟨z,its,n,r,r.length,e⟩
theorem RM:OpR X (binaryOp .Add) (fun x y H Q=>∃l b xs zs,x=.ref l/\y=.ref b/\Rd H l (.lst xs)/\Rd H b (.lst zs)/\xs.length+zs.length<=sizeLine/\∀p,H p=none->Q (.ref p) (BA H p (.lst (xs++zs)))):=by
 intro pins s σ H x y v u Q I rx ry h
 obtain⟨l,b,xs,zs,rfl,rfl,hH,hB,hz,q⟩:=h
 cases rx
 cases ry
 obtain⟨z,its,n,r,hl,e⟩:=I.rdl hH
 obtain⟨z2,its2,n2,r2,hl2,e2⟩:=I.rdl hB
 refine PySem.P.add_list e e2 ?_ (by rw [List.size_toArray,List.size_toArray]; omega)
 have ea:its.toArray++its2.toArray=(its++its2).toArray:=by simp
 rw [ea]
 exact⟨.ref _,_,I.lnew (t':=s.toks) (r.append r2) (by rw [List.length_append]; omega),rfl,q _ I.fresh⟩
end
end L2
namespace Dp
open PySem PySem.Spec PyProof.Rows L2
section
variable {K:Frag}
theorem AtT.int{U M:Addr->Prop}{H:Hp}{i:Int}{v:V}(h:AtT K U M H (.int i) v):v=.int i:=h
theorem AtT.bl{U M:Addr->Prop}{H:Hp}{i:Bool}{v:V}(h:AtT K U M H (.bl i) v):v=.bl i:=h
theorem AtT.str{U M:Addr->Prop}{H:Hp}{x:Str}{v:V}(h:AtT K U M H (.str x) v):v=.str x/\x.length<=sizeLine:=h
theorem AtT.tup{U M:Addr->Prop}{H:Hp}{ds:List D}{v:V}(h:AtT K U M H (.tup ds) v):∃a vs,v=.ref a/\NdT M H a vs/\Ats K M H ds vs:=h
def VF(g:Int->Int->(D->Prop)->Prop)(d e:D)(P:D->Prop):Prop:=match d,e with
 | .int i,.int j=>g i j P
 | _,_=>False
theorem Kb{g:Int->Int->(D->Prop)->Prop}{d e:D}{P:D->Prop}(w:VF g d e P):∃i j,d=.int i/\e=.int j/\g i j P:=by
 unfold VF at w
 split at w
 ·exact⟨_,_,rfl,rfl,w⟩
 ·exact w.elim
def f2(g:Int->Int->D):D->D->(D->Prop)->Prop:=VF fun i j P=>P (g i j)
def Rf(C:Int->Int->Prop)(g:Int->Int->D):D->D->(D->Prop)->Prop:=VF fun i j P=>C i j/\P (g i j)
theorem Qj{g:Int->Int->Int}:Gp K .sh (Hj fun i j=>.int (g i j)) (f2 fun i j=>.int (g i j)):=by
 intro U M H d e x y P Q dom vM hx hy w q
 obtain⟨i,j,rfl,rfl,w⟩:=Kb w
 exact⟨i,j,hx,hy,q _ H (.int (g i j)) .refl rfl w⟩
theorem Qk{g:Int->Int->Bool}:Gp K .sh (Hj fun i j=>.bl (g i j)) (f2 fun i j=>.bl (g i j)):=by
 intro U M H d e x y P Q dom vM hx hy w q
 obtain⟨i,j,rfl,rfl,w⟩:=Kb w
 exact⟨i,j,hx,hy,q _ H (.bl (g i j)) .refl rfl w⟩
theorem Er{C:Int->Int->Prop}{g:Int->Int->Int}:Gp K .sh (rI C fun i j=>.int (g i j)) (Rf C fun i j=>.int (g i j)):=by
 intro U M H d e x y P Q dom vM hx hy w q
 obtain⟨i,j,rfl,rfl,w⟩:=Kb w
 exact⟨i,j,hx,hy,w.1,q _ H (.int (g i j)) .refl rfl w.2⟩
def VE(g:Str->Str->(D->Prop)->Prop)(d e:D)(P:D->Prop):Prop:=match d,e with
 | .str i,.str j=>g i j P
 | _,_=>False
theorem NT{g:Str->Str->(D->Prop)->Prop}{d e:D}{P:D->Prop}(w:VE g d e P):∃i j,d=.str i/\e=.str j/\g i j P:=by
 unfold VE at w
 split at w
 ·exact⟨_,_,rfl,rfl,w⟩
 ·exact w.elim
theorem Th{g:Str->Str->Bool}:Gp K .sh (fun x y H Q=>∃i j,x=.str i/\y=.str j/\Q (.bl (g i j)) H) (VE fun i j P=>P (.bl (g i j))):=by
 intro U M H d e x y P Q dom vM hx hy w q
 obtain⟨i,j,rfl,rfl,w⟩:=NT w
 exact⟨i,j,hx.1,hy.1,q _ H (.bl (g i j)) .refl rfl w⟩
theorem Of:Gp K .sh (fun x y H Q=>∃i j,x=.str i/\y=.str j/\i.length+j.length<=sizeLine/\Q (.str (i++j)) H) (VE fun i j P=>i.length+j.length<=sizeLine/\P (.str (i++j))):=by
 intro U M H d e x y P Q dom vM hx hy w q
 obtain⟨i,j,rfl,rfl,w⟩:=NT w
 exact⟨i,j,hx.1,hy.1,w.1,q _ H (.str (i++j)) .refl ⟨rfl,by rw [show (i++j).length=i.length+j.length from Str.length_append i j]; exact w.1⟩ w.2⟩
def Vj(g:List D->List D->(D->Prop)->Prop)(d e:D)(P:D->Prop):Prop:=match d,e with
 | .tup i,.tup j=>g i j P
 | _,_=>False
def Vk(g:List D->List D->(D->Prop)->Prop)(d e:D)(P:D->Prop):Prop:=match d,e with
 | .lst i,.lst j=>g i j P
 | _,_=>False
theorem Ra{g:List D->List D->(D->Prop)->Prop}{d e:D}{P:D->Prop}(w:Vj g d e P):∃i j,d=.tup i/\e=.tup j/\g i j P:=by
 unfold Vj at w
 split at w
 ·exact⟨_,_,rfl,rfl,w⟩
 ·exact w.elim
theorem Rb{g:List D->List D->(D->Prop)->Prop}{d e:D}{P:D->Prop}(w:Vk g d e P):∃i j,d=.lst i/\e=.lst j/\g i j P:=by
 unfold Vk at w
 split at w
 ·exact⟨_,_,rfl,rfl,w⟩
 ·exact w.elim
theorem DP{M:Addr->Prop}{H:Hp}{p:Addr}{vs:List V}{ds:List D}(dom:∀a,M a->∃o,H a=some o)(hp:H p=none)(h:Ats K M H ds vs):At K M (BA H p (.tup vs)) (.tup ds) (.ref p):=by
 refine⟨p,vs,rfl,⟨fun z=>?_,Ab⟩,h.pres (Av hp).pres⟩
 obtain⟨o,z⟩:=dom p z
 rw [hp] at z; cases z
theorem C2{U M:Addr->Prop}{H:Hp}{p:Addr}{vs:List V}{ds:List D}(hp:H p=none)(h:Ats K M H ds vs):VR K U M H (BA H p (.lst vs)) .fr (.ref p) (.lst ds) :=
 ⟨p,rfl,hp,vs,Ab,h.pres (FS hp)⟩
theorem Oe:Gp K .sh (PX K) (Vj fun i j P=>i≠[]/\i.length+j.length<=sizeLine/\P (.tup (i++j))):=by
 intro U M H d e x y P Q dom vM hx hy w q
 obtain⟨i,j,rfl,rfl,w⟩:=Ra w
 obtain⟨a,vs,rfl,ha,hs⟩:=hx.tup
 obtain⟨b,us,rfl,hb,ht⟩:=hy.tup
 have l1:=hs.length
 have l2:=ht.length
 refine⟨a,b,vs,us,rfl,rfl,ha.sq,hb.sq,fun z=>w.1 ?_,by rw [l1,l2]; exact w.2.1,fun z=>?_,fun z p hp=>?_⟩
 ·rw [z] at l1; exact List.length_eq_zero_iff.mp l1.symm
 ·rw [z] at l2
  have:j=[]:=List.length_eq_zero_iff.mp l2.symm
  subst this
  exact q _ H (.tup i) .refl ⟨a,vs,rfl,ha,hs⟩ (by have:=w.2.2; rw [List.append_nil] at this; exact this)
 ·exact q _ _ (.tup (i++j)) (Av hp) (DP dom hp (hs.append ht)) w.2.2
theorem Og:Gp K .fr (fun x y H Q=>∃l b xs zs,x=.ref l/\y=.ref b/\Rd H l (.lst xs)/\Rd H b (.lst zs)/\xs.length+zs.length<=sizeLine/\∀p,H p=none->Q (.ref p) (BA H p (.lst (xs++zs)))) (Vk fun i j P=>i.length+j.length<=sizeLine/\P (.lst (i++j))):=by
 intro U M H d e x y P Q dom vM hx hy w q
 obtain⟨i,j,rfl,rfl,w⟩:=Rb w
 obtain⟨a,vs,rfl,_,ha,hs⟩:=hx
 obtain⟨b,us,rfl,_,hb,ht⟩:=hy
 exact⟨a,b,vs,us,rfl,rfl,ha,hb,by rw [hs.length,ht.length]; exact w.1,fun p hp=>q _ _ (.lst (i++j)) (Av hp) (C2 hp (hs.append ht)) w.2⟩
def G8(neg:Bool)(d e:D)(P:D->Prop):Prop:=match d,e with
 | .bl i,.bl j=>P (.bl (if neg then !(i==j) else i==j))
 | .int i,.int j=>P (.bl (if neg then !(i==j) else i==j))
 | .str i,.str j=>P (.bl (if neg then !(i==j) else i==j))
 | _,_=>False
theorem NV{neg:Bool}{d e:D}{P:D->Prop}(w:G8 neg d e P):(∃i j,d=.bl i/\e=.bl j/\P (.bl (if neg then !(i==j) else i==j)))\/(∃i j,d=.int i/\e=.int j/\P (.bl (if neg then !(i==j) else i==j)))\/∃i j,d=.str i/\e=.str j/\P (.bl (if neg then !(i==j) else i==j)):=by
 unfold G8 at w
 split at w
 ·exact .inl ⟨_,_,rfl,rfl,w⟩
 ·exact .inr (.inl ⟨_,_,rfl,rfl,w⟩)
 ·exact .inr (.inr ⟨_,_,rfl,rfl,w⟩)
 ·exact w.elim
theorem E7:Gp K .sh V2 (G8 false):=by
 intro U M H d e x y P Q dom vM hx hy w q
 rcases NV w with ⟨i,j,rfl,rfl,w⟩ | ⟨i,j,rfl,rfl,w⟩ | ⟨i,j,rfl,rfl,w⟩
 ·rw [hx.bl,hy.bl]; exact⟨rfl,q _ H _ .refl (by rw [Kk]; rfl) w⟩
 ·rw [hx.int,hy.int]; exact⟨rfl,q _ H _ .refl (by rw [HJ]; rfl) w⟩
 ·rw [hx.str.1,hy.str.1]; exact⟨rfl,q _ H _ .refl (by rw [HI]; rfl) w⟩
theorem Ti:Gp K .sh Vz (G8 true):=by
 intro U M H d e x y P Q dom vM hx hy w q
 rcases NV w with ⟨i,j,rfl,rfl,w⟩ | ⟨i,j,rfl,rfl,w⟩ | ⟨i,j,rfl,rfl,w⟩
 ·rw [hx.bl,hy.bl]; exact⟨rfl,q _ H _ .refl (by rw [Kk]; rfl) w⟩
 ·rw [hx.int,hy.int]; exact⟨rfl,q _ H _ .refl (by rw [HJ]; rfl) w⟩
 ·rw [hx.str.1,hy.str.1]; exact⟨rfl,q _ H _ .refl (by rw [HI]; rfl) w⟩
def BC(d e:D)(P:D->Prop):Prop:=match d,e with
 | .lst ds,.int i=>∃z,atI ds i=some z/\P z
 | .tup ds,.int i=>∃z,atI ds i=some z/\P z
 | .str x,.int i=>∃c,atI x.cps.toList i=some c/\P (.str ⟨#[c]⟩)
 | _,_=>False
theorem Rc{d e:D}{P:D->Prop}(w:BC d e P):(∃ds i z,d=.lst ds/\e=.int i/\atI ds i=some z/\P z)\/(∃ds i z,d=.tup ds/\e=.int i/\atI ds i=some z/\P z)\/∃x i c,d=.str x/\e=.int i/\atI x.cps.toList i=some c/\P (.str ⟨#[c]⟩):=by
 unfold BC at w
 split at w
 ·obtain⟨z,h1,h2⟩:=w; exact .inl ⟨_,_,z,rfl,rfl,h1,h2⟩
 ·obtain⟨z,h1,h2⟩:=w; exact .inr (.inl ⟨_,_,z,rfl,rfl,h1,h2⟩)
 ·obtain⟨z,h1,h2⟩:=w; exact .inr (.inr ⟨_,_,z,rfl,rfl,h1,h2⟩)
 ·exact w.elim
theorem Ats.atI{M:Addr->Prop}{H:Hp}{ds:List D}{vs:List V}{i:Int}{z:D}(h:Ats K M H ds vs)(e:atI ds i=some z):∃v,L2.atI vs i=some v/\At K M H z v:=by
 unfold L2.atI at e ⊢
 rw [h.length]
 cases q:RW ds.length i with
 | none=>rw [q] at e; cases e
 | some j =>
  rw [q] at e
  exact h.get e
theorem Al:Gp K .sh (V0 K) BC:=by
 intro U M H d e x y P Q dom vM hx hy w q
 rcases Rc w with ⟨ds,i,z,rfl,rfl,hz,w⟩ | ⟨ds,i,z,rfl,rfl,hz,w⟩ | ⟨x,i,c,rfl,rfl,hc,w⟩
 ·obtain⟨a,vs,rfl,_,ha,hs⟩:=hx
  obtain⟨v,hv,hAt⟩:=hs.atI hz
  exact .inl ⟨a,vs,i,v,rfl,hy,.inl ha,hv,q v H z .refl hAt w⟩
 ·obtain⟨a,vs,rfl,ha,hs⟩:=hx.tup
  obtain⟨v,hv,hAt⟩:=hs.atI hz
  exact .inr (.inl ⟨a,vs,i,v,rfl,hy,ha.sq,hv,q v H z .refl hAt w⟩)
 ·exact .inr (.inr ⟨x,i,c,hx.str.1,hy,hx.str.2,hc,q _ H (.str ⟨#[c]⟩) .refl ⟨rfl,by rw [sizeLine_eq]; show 1<=16777216; decide⟩ w⟩)
def Bj{α:Type}(xs:List α)(lo hi:Option Int):List α:=(xs.drop (HT.sIx xs.length 0 lo)).take (HT.sIx xs.length xs.length hi - HT.sIx xs.length 0 lo)
theorem EY{R:V->D->Prop}{vs:List V}{d:D}(h:Paired R vs [d]):∃v,vs=[v]/\R v d:=by
 cases h with
 | cons r t=>cases t; exact⟨_,rfl,r⟩
def Va:D->Option Nat
 | .str x=>some x.length
 | .tup xs=>some xs.length
 | .lst xs=>some xs.length
 | _=>none
def C_(ds:List D)(P:D->Prop):Prop:=∃d n,ds=[d]/\Va d=some n/\P (.int (n:Int))
theorem CA:Dd K .sh (fun xs H Q=>∃x n,xs=[x]/\Tt K x H n/\Q (.int n) H) C_:=by
 intro U M H ds vs P Q dom vM hp w q
 obtain⟨d,n,rfl,hn,w⟩:=w
 obtain⟨v,rfl,hx⟩:=EY hp
 refine⟨v,n,rfl,?_,q _ H (.int (n:Int)) .refl rfl w⟩
 cases d with
 | str z=>cases hn; rw [hx.str.1]; exact⟨hx.str.2,rfl⟩
 | tup xs =>
  cases hn
  obtain⟨a,us,rfl,ha,hs⟩:=hx.tup
  exact .inr ⟨us,ha.sq,hs.length.symm⟩
 | lst xs =>
  cases hn
  obtain⟨a,us,rfl,_,ha,hs⟩:=hx
  exact .inl ⟨us,.inl ha,hs.length.symm⟩
 | _=>cases hn
def Gj:List D->Option (List Bool)
 | []=>some []
 | .bl b::r=>(Gj r).map (b::·)
 | _::_=>none
theorem Nh{M:Addr->Prop}{H:Hp}:∀{ds:List D} {vs:List V} {bs:List Bool},Gj ds=some bs->Ats K M H ds vs->vs=bs.map V.bl
 | [],vs,bs,e,h=>by cases e; exact h
 | .bl b::r,vs,bs,e,h=>by
  obtain⟨v,r',e1,h1,h2⟩:=h
  unfold Gj at e
  obtain⟨bs',e2,rfl⟩:=Option.map_eq_some_iff.mp e
  rw [e1,Nh e2 h2,show v=.bl b from h1]
  rfl
 | .non::r,vs,bs,e,h=>by unfold Gj at e; cases e
 | .int _::r,vs,bs,e,h=>by unfold Gj at e; cases e
 | .str _::r,vs,bs,e,h=>by unfold Gj at e; cases e
 | .tup _::r,vs,bs,e,h=>by unfold Gj at e; cases e
 | .lst _::r,vs,bs,e,h=>by unfold Gj at e; cases e
 | .dic _ _::r,vs,bs,e,h=>by unfold Gj at e; cases e
 | .fdi _ _::r,vs,bs,e,h=>by unfold Gj at e; cases e
def Lq(ds:List D)(P:D->Prop):Prop:=∃xs bs,ds=[.lst xs]/\Gj xs=some bs/\P (.bl (bs.all id))
theorem Qo:Dd K .sh (fun xs H Q=>∃(p:Addr) (bs:List Bool),xs=[.ref p]/\SqL K H p (bs.map V.bl)/\Q (.bl (bs.all id)) H) Lq:=by
 intro U M H ds vs P Q dom vM hp w q
 obtain⟨xs,bs,rfl,e,w⟩:=w
 obtain⟨v,rfl,hx⟩:=EY hp
 obtain⟨a,us,rfl,_,ha,hs⟩:=hx
 have:=Nh e hs
 subst this
 exact⟨a,bs,rfl,.inl ha,q _ H (.bl (bs.all id)) .refl rfl w⟩
def DX:List D->Option (List Str)
 | []=>some []
 | .str b::r=>(DX r).map (b::·)
 | _::_=>none
theorem Nf{M:Addr->Prop}{H:Hp}:∀{ds:List D} {vs:List V} {bs:List Str},DX ds=some bs->Ats K M H ds vs->vs=bs.map V.str
 | [],vs,bs,e,h=>by cases e; exact h
 | .str b::r,vs,bs,e,h=>by
  obtain⟨v,r',e1,h1,h2⟩:=h
  unfold DX at e
  obtain⟨bs',e2,rfl⟩:=Option.map_eq_some_iff.mp e
  rw [e1,Nf e2 h2,h1.1]
  rfl
 | .non::r,vs,bs,e,h=>by unfold DX at e; cases e
 | .int _::r,vs,bs,e,h=>by unfold DX at e; cases e
 | .bl _::r,vs,bs,e,h=>by unfold DX at e; cases e
 | .tup _::r,vs,bs,e,h=>by unfold DX at e; cases e
 | .lst _::r,vs,bs,e,h=>by unfold DX at e; cases e
 | .dic _ _::r,vs,bs,e,h=>by unfold DX at e; cases e
 | .fdi _ _::r,vs,bs,e,h=>by unfold DX at e; cases e
def Gb(ds:List D)(P:D->Prop):Prop:=match ds with
 | [.lst xs]=>P (.lst xs)
 | [.tup xs]=>P (.lst xs)
 | _=>False
theorem HK:Dd K .fr (fun xs H Q=>∃p ys,xs=[.ref p]/\(SqL K H p ys\/SqT K H p ys)/\∀l,H l=none->Q (.ref l) (BA H l (.lst ys))) Gb:=by
 intro U M H ds vs P Q dom vM hp w q
 unfold Gb at w
 split at w
 ·obtain⟨v,rfl,hx⟩:=EY hp
  obtain⟨a,us,rfl,_,ha,hs⟩:=hx
  exact⟨a,us,rfl,.inl (.inl ha),fun l hl=>q _ _ _ (Av hl) (C2 hl hs) w⟩
 ·obtain⟨v,rfl,hx⟩:=EY hp
  obtain⟨a,us,rfl,ha,hs⟩:=hx.tup
  exact⟨a,us,rfl,.inr ha.sq,fun l hl=>q _ _ _ (Av hl) (C2 hl hs) w⟩
 ·exact w.elim
end
def T_:D->String
 | .non => "NoneType"
 | .bl _ => "bool"
 | .int _ => "int"
 | .str _ => "str"
 | .tup _ => "tuple"
 | .lst _ => "list"
 | .dic _ _ => "dict"
 | .fdi _ _ => "dict"
def TK(t T:String):Bool:=t==T||(t == "bool"&&T == "int")
def GM(T:String)(wa:DW):DW:=fun n ρ P=>wa n ρ fun d n1=>P (.bl (TK (T_ d) T)) n1
structure Qs (K:Frag) (T:String):Prop where
 ans:∀t∈["NoneType","bool","int","str","tuple","list","dict"],PySem.W.kitOne K (.type t) (.type T)=some (TK t T)
theorem Q0{K:Frag}{M U:Addr->Prop}{H:Hp}{d:D}{x:V}(h:AtT K U M H d x):FZ K H x (.type (T_ d)):=by
 cases d with
 | non=>cases (show x=.non from h); exact .non
 | bl b=>cases h.bl; exact .bl b
 | int i=>cases h.int; exact .int i
 | str z=>cases h.str.1; exact .str z
 | tup ds =>
  obtain⟨a,vs,rfl,ha,hs⟩:=h.tup
  exact .tup ha.2
 | lst ds =>
  obtain⟨a,vs,rfl,_,ha,hs⟩:=h
  rcases ha with ha | ⟨o,ha⟩
  ·exact .lst ha
  ·exact .frz ha
 | dic ks ds =>
  obtain⟨a,vs,rfl,_,ha,_⟩:=h
  exact .dK ha
 | fdi ks ds =>
  obtain⟨a,vs,rfl,⟨o,_,ha⟩,_⟩:=h
  exact .dF ha
theorem Q1(d:D):T_ d∈["NoneType","bool","int","str","tuple","list","dict"]:=by cases d <;> simp [T_]
theorem CD{X:Cx}{a:Expr}{κ:Kd}{wa:DW}{T:String}{Tn:Str}{p p2 pos:Pos}(kt:Qs X.K T)(ha:DE X a κ wa)(hg:Gl X "isinstance")(hm:X.mg "isinstance"=none)(hgT:Gl X Tn)(hmT:X.mg Tn=none)(hvT:bootBuiltins Tn=some (.type T))
  (hnT:Tn ≠ "__name__":=by decide) (hdT:(Tn==("__debug__" : Str))=false:=by decide)
  (he:starEach [a,.Name Tn p2] X.env=(false,eval a X.env)::starEach [.Name Tn p2] X.env:=by rfl) (he2:starEach [.Name Tn p2] X.env=[(false,eval (.Name Tn p2) X.env)]:=by rfl)
  (hpl:(backTo pos (starEach [.Name Tn p2] X.env)).any (·.1)=false:=by rfl):DE X (.Call (.Name "isinstance" p) [a,.Name Tn p2] [] pos) .sh (GM T wa):=by
 obtain⟨t,h1,h2⟩:=ha
 have pT:PE X (.Name Tn p2) (tC (.ty T)):=RI hgT hmT hvT (v:=.ty T) rfl hnT hdT
 refine⟨_,Fr Lz hg hm (by decide +kernel) (B8 h1 (B8 pT DM he2) he) (by decide) (by decide) he hpl,fun C M H n ρ σ P Q R w q=>?_⟩
 refine h2 C M H n ρ σ _ _ R w fun v H1 d n1 e1 f1 r1 p=>?_
 exact⟨v,T,_,_,rfl,Q0 (r1.tpOf R.dom R.vM),kt.ans _ (Q1 d),q _ H1 (.bl (TK (T_ d) T)) n1 e1 f1 rfl p⟩
section
variable {K:Frag}{X:Cx}
def SH(d e:D)(P:D->Prop):Prop:=match d,e with
 | .int i,.int j=>P (.int (i+j))
 | .str i,.str j=>i.length+j.length<=sizeLine/\P (.str (i++j))
 | .tup i,.tup j=>i≠[]/\i.length+j.length<=sizeLine/\P (.tup (i++j))
 | .lst i,.lst j=>i.length+j.length<=sizeLine/\P (.lst (i++j))
 | _,_=>False
def R_:R2:=fun x y H Q=>∃l b xs zs,x=.ref l/\y=.ref b/\Rd H l (.lst xs)/\Rd H b (.lst zs)/\xs.length+zs.length<=sizeLine/\∀p,H p=none->Q (.ref p) (BA H p (.lst (xs++zs)))
def R9:R2:=fun x y H Q=>∃i j,x=.str i/\y=.str j/\i.length+j.length<=sizeLine/\Q (.str (i++j)) H
def UN(g:Str->Str->Bool):R2:=fun x y H Q=>∃i j,x=.str i/\y=.str j/\Q (.bl (g i j)) H
def PY(K:Frag):R2:=fun x y H Q=>(Hj fun i j=>.int (i+j)) x y H Q\/R9 x y H Q\/PX K x y H Q\/R_ x y H Q
theorem op_addU:OpR X (binaryOp .Add) (PY X.K):=op_add.or ((show OpR X (binaryOp .Add) R9 from MW).or (op_catT.or (show OpR X (binaryOp .Add) R_ from RM)))
theorem K9:Gp X.K .sh (PY X.K) SH:=fun U M H d e x y P Q dom vM hx hy w q=>by
 unfold SH at w
 split at w
 ·exact .inl (Qj (K:=X.K) (g:=fun i j=>i+j) U M H (.int _) (.int _) x y P Q dom vM hx hy w q)
 ·exact .inr (.inl (Of (K:=X.K) U M H (.str _) (.str _) x y P Q dom vM hx hy w q))
 ·exact .inr (.inr (.inl (Oe (K:=X.K) U M H (.tup _) (.tup _) x y P Q dom vM hx hy w q)))
 ·exact .inr (.inr (.inr (Og (K:=X.K) U M H (.lst _) (.lst _) x y P Q dom vM hx hy w fun v H' z g r p=>q v H' z g (r.shOf dom (by intro z; cases z)) p)))
 ·exact w.elim
def Uo(d e:D)(P:D->Prop):Prop:=match d,e with
 | .int i,.int j=>P (.bl (decide (i<j)))
 | .str i,.str j=>P (.bl (decide (i.cps.toList<j.cps.toList)))
 | _,_=>False
def Sj:R2:=fun x y H Q=>(Hj fun i j=>.bl (decide (i<j))) x y H Q\/UN (fun i j=>decide (i.cps.toList<j.cps.toList)) x y H Q
theorem op_ltU:OpR X (compareOp .Lt) Sj:=op_lt.or OA
theorem SL:Gp X.K .sh Sj Uo:=fun U M H d e x y P Q dom vM hx hy w q=>by
 unfold Uo at w
 split at w
 ·exact .inl (Qk (K:=X.K) (g:=fun i j=>decide (i<j)) U M H (.int _) (.int _) x y P Q dom vM hx hy w q)
 ·exact .inr (Th (K:=X.K) (g:=fun i j=>decide (i.cps.toList<j.cps.toList)) U M H (.str _) (.str _) x y P Q dom vM hx hy w q)
 ·exact w.elim
def UX:R2:=Hj fun i j=>.bl (decide (j<i))
theorem D4:OpR X (compareOp .Gt) UX:=SE
theorem GG:Gp X.K .sh UX (f2 fun i j=>.bl (decide (j<i))):=Qk
def UO:V->Option Int->Option Int->Hp->VK->Prop:=fun x lo hi H Q=>∃z,x=.str z/\z.length<=sizeLine/\Q (.str (Txt.slice z lo hi)) H
theorem sl_U:SlR X UO:=Se
def ST(w:DW):DW:=fun n ρ P=>w n ρ fun d n1=>∃i,d=.int i/\P (.int (-i)) n1
theorem QR{a:Expr}{κ:Kd}{wa:DW}{pos:Pos}(h:DE X a κ wa):DE X (.UnaryOp .USub a pos) .sh (ST wa):=by
 obtain⟨t,h1,h2⟩:=h
 refine⟨_,Ub SV h1,fun C M H n ρ σ P Q R w q=>?_⟩
 refine h2 C M H n ρ σ _ _ R w fun v H1 d n1 e1 f1 r1 p=>?_
 obtain⟨i,rfl,p⟩:=p
 exact⟨i,KW r1,q _ H1 (.int (-i)) n1 e1 f1 rfl p⟩
def CJ(P:Program)(w:World)(K:Frag)(mg:Str->Option Value)(base:Heap)(x:Str)(k:Nat)(ps:List Str)(κ:Kd)(W:W2):Prop :=
 ∃f fd,Bq P w K mg base Dy k f fd ps (Fg K κ W ps.length)/\mg x=some (.ref f)/\keepIn K (.ref f)=true/\Binds K fd ps []/\∀ss n P,W ss n P->ss.length=ps.length
theorem AK{e:Expr}{es:List Expr}{k:Nat}{ps:List Str}{κ:Kd}{W:W2}{x:Str}{p pos:Pos}{was:Tv}(G:CJ X.prog X.w X.K X.mg X.base x k ps κ W)
  (hr:Room k X.A) (hg:Gl X x) (ha:U6 X (e::es) was)
  (hdb:(x==("__debug__" : Str))=false:=by decide) (he:starEach (e::es) X.env=(false,eval e X.env)::starEach es X.env:=by rfl) (hpl:(backTo pos (starEach es X.env)).any (·.1)=false:=by rfl) :
  DE X (.Call (.Name x p) (e::es) [] pos) κ (Ag W was):=by
 obtain⟨f,fd,G,hm,hk,hb,hW⟩:=G
 exact Rk G hW hr hg hm hk hb ha hdb he hpl
def SB(np:Nat)(g:List D->D):W2:=fun ss n P=>∃ds:List D,ds.length=np/\ss=ds.map .sh/\P (g ds) n
theorem JR{np:Nat}{g:List D->D}{ss:List Slot}{n:Nat}{P:D->Nat->Prop}(h:SB np g ss n P):ss.length=np:=by
 obtain⟨ds,e,rfl,_⟩:=h
 rw [List.length_map]; exact e
theorem HE:Qs K "int":=⟨fun t ht=>by
 simp only [List.mem_cons,List.not_mem_nil,or_false] at ht
 rcases ht with rfl | rfl | rfl | rfl | rfl | rfl | rfl <;> kernel_rfl⟩
theorem Hy:Qs K "bool":=⟨fun t ht=>by
 simp only [List.mem_cons,List.not_mem_nil,or_false] at ht
 rcases ht with rfl | rfl | rfl | rfl | rfl | rfl | rfl <;> kernel_rfl⟩
theorem NN:Qs K "str":=⟨fun t ht=>by
 simp only [List.mem_cons,List.not_mem_nil,or_false] at ht
 rcases ht with rfl | rfl | rfl | rfl | rfl | rfl | rfl <;> kernel_rfl⟩
theorem Cs:Qs K "tuple":=⟨fun t ht=>by
 simp only [List.mem_cons,List.not_mem_nil,or_false] at ht
 rcases ht with rfl | rfl | rfl | rfl | rfl | rfl | rfl <;> kernel_rfl⟩
end
theorem IX{α:Type}(p:α->Bool):∀l:List α,Gj (l.map fun c=>.bl (p c))=some (l.map p)
 | []=>rfl
 | a::l=>by
  rw [List.map_cons,List.map_cons]
  unfold Gj
  rw [IX p l]
  rfl
theorem Qa{b1 b2:Bool}{P:D->Nat->Prop}{n:Nat}{k:(D->Nat->Prop)->Prop}(hk:b1=true->P (.bl b2) n->k P)(h:P (.bl (b1&&b2)) n):(match (.bl b1:D) with | .bl true=>k P | .bl false=>P (.bl false) n | _=>False):=by
 cases b1 with
 | false=>exact h
 | true=>exact hk rfl h
theorem BG{P:Program}{w:World}{K:Frag}{mg:Str->Option Value}{base:Heap}{x:Str}{st:Stmt}{f:Addr}{fd:FuncData}{k:Nat}{ps:List Str}{κ:Kd}{W:W2}(F:Fun K x x st f fd)(m:mg x=some (.ref f))(b:Binds K fd ps [])
  (hW:∀ss n P,W ss n P->ss.length=ps.length) (ok:Bq P w K mg base Dy k f fd ps (Fg K κ W ps.length)):CJ P w K mg base x k ps κ W:=⟨f,fd,ok,m,F.kp,b,hW⟩
def LP(K:Frag):Sp:=fun vs H Q _=>∃a ns,vs=[V.ref a]/\(List.length (α:=Int) ns<=63/\SqL K H a (ns.map V.int))/\∀H',Q (.bl true) H'
def J3(K:Frag):Sp:=fun vs H Q _=>∃a ns,vs=[V.ref a]/\(List.length (α:=Int) ns<=63/\SqL K H a (ns.map V.int)) /\
 ∀(c f:Addr) (H':Hp),c≠f->H' c=some (.lst (ns.map V.int))->H' f=some (.lst [.ref c,.int 0,.int 0])->Q (.ref f) H'
theorem Uu{ns:List Int}(h:ns.length<=63):Iv (ns.map V.int) none (some 63)=ns.map V.int:=by
 have e:HT.sIx (ns.map V.int).length (ns.map V.int).length (some 63)=ns.length:=by
  rw [show (63:Int)=((63:Nat):Int) from rfl,HT.sIx_nat,List.length_map,Nat.min_eq_right h]
 unfold Iv
 rw [e,HT.sIx_none,List.drop_zero,Nat.sub_zero]
 exact List.take_of_length_le (by rw [List.length_map]; exact Nat.le_refl _)
theorem Co{b:BW}{body:Ad}{D2:E2}(I:Nat->Nat->List Slot->Prop)(hend:∀n ρ,I 0 n ρ->D2.nx n ρ) :
  ∀(ds:List D) (n:Nat) (ρ:List Slot) (_:∀(k:Nat) (d:D) (n:Nat) (ρ:List Slot) (nx:Nat->List Slot->Prop),d∈ds->I (k+1) n ρ->(∀n' ρ',I k n' ρ'->nx n' ρ')->b d ρ fun ρ1=>body { D2 with nx:=nx,ct:=nx,bk:=D2.nx } n ρ1),
   I ds.length n ρ->Be b body D2 ds n ρ
 | [],n,ρ,_,h=>hend n ρ h
 | d::ds,n,ρ,hs,h=>hs ds.length d n ρ (Be b body D2 ds) List.mem_cons_self h fun n' ρ' h'=>Co I hend ds n' ρ' (fun k d n ρ nx hm=>hs k d n ρ nx (List.mem_cons_of_mem _ hm)) h'
theorem Ul{P:Program}{w:World}{K:Frag}{mg:Str->Option Value}{base:Heap}{st s1:Stmt}{rest:List Stmt}{f:Addr}{fd:FuncData}{Nr:List Str}{k n0:Nat}{wb:Ad}(F:Fun K "law" "law" st f fd)
  (S:Ar ("_law_script" :: "_law_feed_here"::Nr) ["_law_script"] (AI st)) (hbd:Ao st=s1::rest) (hn0:n0<=2 ^ 60)
  (h1:∀(cdv:Value) (A:Around) (outer:List Env) (s:Shared) (H:Hp) (E:XK),Room k (A.deeper (envOfC "law" (AI st) s.heap.objs.size f cdv)) ->
   PS (Km Dy P w K mg base ("_law_script" :: "_law_feed_here"::Nr) "law" (AI st) f cdv A outer s H E).nox s1 (LL (Oz (J3 K) [] E0 (M5 (CB 0) Q5)) (Gw 1)))
  (h2:∀(cdv:Value) (A:Around) (outer:List Env) (s:Shared) (H:Hp) (E:XK),Room k (A.deeper (envOfC "law" (AI st) s.heap.objs.size f cdv)) ->
   Qt (Km Dy P w K mg base ("_law_script" :: "_law_feed_here"::Nr) "law" (AI st) f cdv A outer s H E).nox .sh rest wb)
  (hW:wb { nx:=fun _ _=>False,rt:=fun d _=>d=.bl true } n0 (.no::.fd::List.replicate Nr.length .no)):Bq P w K mg base Dy (k+1) f fd ["_law_script"] (LP K):=by
 refine F.ok S (fun vs H Q E h=>?_) (fun cdv A outer s H vs Q E hr h=>?_)
 ·obtain⟨a,ns,rfl,_⟩:=h
  rfl
 ·obtain⟨a,ns,rfl,⟨hl,hS⟩,q⟩:=h
  obtain⟨t,t1,t2⟩:=h2 cdv A outer s H E hr
  refine⟨Ny (LL (Oz (J3 K) [] E0 (M5 (CB 0) Q5)) (Gw 1)) t,by rw [hbd]; exact BU (h1 cdv A outer s H E hr) t1,?_⟩
  refine⟨_,rfl,a,ns,rfl,⟨hl,hS⟩,fun c g H' hcg hc hg=>?_⟩
  have at_:∀(i:Nat) (sl:Slot),(Slot.no::Slot.fd::List.replicate Nr.length Slot.no)[i]?=some sl->Slot.no=sl\/(Slot.fd=sl/\i=1):=by
   intro i sl hs
   match i,hs with
   | 0,hs=>exact .inl (Option.some.inj hs)
   | 1,hs=>exact .inr ⟨Option.some.inj hs,rfl⟩
   | i+2,hs =>
    rw [List.getElem?_cons_succ,List.getElem?_cons_succ,List.getElem?_replicate] at hs
    split at hs
    ·exact .inl (Option.some.inj hs)
    ·cases hs
  have R:Rel K ⟨fun b=>b=g,some (g,c),fun b=>b=g,fun b=>b=g,H',[],[]⟩ (fun b=>b=g) H' n0 (.no::.fd::List.replicate Nr.length .no) ((start ("_law_script" :: "_law_feed_here"::Nr) [V.ref a]).set 1 (some (.ref g))):=by
   refine⟨by simp [L2.start],fun _ z=>z,fun b z=>⟨_,(congrArg H' z).trans hg⟩,Ext.refl _ _,fun b z=>by rw [← Option.some.inj z],fun _ z=>z,fun _ z=>z,fun b z=>?_,fun i sl hs=>?_,fun p hp=>absurd hp (by simp),fun i d b hs _=>?_,fun i sl b hs o _=>?_,fun i j sl t b hs o _ _ _ _=>?_,fun p hp=>absurd hp (by simp)⟩
   ·have e:(g,c)=b:=Option.some.inj z
    subst e
    exact⟨0,0,ns,hg,hcg,⟨hcg,hc⟩,hl,by decide,by omega⟩
   ·rcases at_ i sl hs with e | ⟨e,rfl⟩
    ·rw [← e]; trivial
    ·rw [← e]
     exact⟨(g,c),by simp [L2.start],rfl⟩
   ·rcases at_ i _ hs with e | ⟨e,_⟩ <;> cases e
   ·rcases at_ i sl hs with e | ⟨e,_⟩ <;> (rw [← e] at o; cases o)
   ·rcases at_ i sl hs with e | ⟨e,_⟩ <;> (rw [← e] at o; cases o)
  refine t2 _ _ H' n0 _ _ { nx:=fun _ _=>False,rt:=fun d _=>d=.bl true } _ R ⟨fun _ _ _ _ _ _ z=>z.elim,fun v H2 d n' _ _ r p=>?_,fun _ _ _ _ _ _ z=>z.elim,fun _ _ _ _ _ _ z=>z.elim⟩ hW
  have e:d=.bl true:=p
  subst e
  have e2:v=.bl true:=r
  subst e2
  exact q H2
end Dp
namespace L2
open PySem PySem.Spec PyProof.Rows
section
variable {X:Cx}
theorem CU:∀{us:List Value} {ys:List Str},StrsAre us ys->Vals (ys.map V.str) us
 | _,_,.nil=>.nil
 | _,_,.cons x t r=>.cons ⟨t,rfl⟩ (CU r)
def PR(K:Frag):List V->Hp->VK->Prop:=fun xs H Q=>∃(p:Addr) (ss:List Str),xs=[.ref p]/\SqL K H p (ss.map V.str)/\ss.length<64/\∀(ss':List Str) (l:Addr),ss'.Perm ss->sortedS ss'=true->H l=none->Q (.ref l) (BA H l (.lst (ss'.map V.str)))
theorem Mm:C8 X (.builtin "sorted") (PR X.K):=by
 intro pins s σ H xs us Q I r h
 obtain⟨p,ss,rfl,hq,h64,q⟩:=h
 obtain⟨u,rfl,rx⟩:=Fc r
 cases rx
 obtain⟨its,r',pl,hz⟩:=I.list hq
 have hlen:=r'.length
 rw [List.length_map] at hlen
 refine sorted_strs pl.isList (MG r') (by omega) fun out ss' a1 a2 a3=>?_
 obtain⟨e,he⟩:=sortedAll_at s.heap its out
 have hl':ss'.length=ss.length:=a2.length_eq
 have hn:H (s.heap.objs.size+1)=none:=I.hok.fresh (Nat.le_succ _)
 refine⟨.ref (s.heap.objs.size+1),_,I.laid (t':=s.toks) (fun b o z=>sortedAll_old z) (Nat.le_succ _) (show ObjOk X.prog X.w _ _ _ (.lst (ss'.map V.str)) from⟨?_,out.toList,e,CU a1,?_⟩),rfl,q ss' _ a2 a3 hn⟩
 ·rw [List.length_map,sizeLine_eq]; omega
 ·exact he
end
end L2
namespace Dp
open PySem PySem.Spec PyProof.Rows L2
section
variable {K:Frag}
def Bk(ds:List D)(P:D->Prop):Prop:=match ds with
 | [.lst xs]=>P (.tup xs)
 | [.tup xs]=>P (.tup xs)
 | _=>False
theorem Ce:Dd K .sh (fun xs H Q=>∃p ys,xs=[.ref p]/\((SqL K H p ys/\∀l,H l=none->Q (.ref l) (BA H l (.tup ys)))\/(SqT K H p ys/\Q (.ref p) H))) Bk:=by
 intro U M H ds vs P Q dom vM hp w q
 unfold Bk at w
 split at w
 ·obtain⟨v,rfl,hx⟩:=EY hp
  obtain⟨a,us,rfl,_,ha,hs⟩:=hx
  exact⟨a,us,rfl,.inl ⟨.inl ha,fun l hl=>q _ _ (.tup _) (Av hl) (DP dom hl hs) w⟩⟩
 ·obtain⟨v,rfl,hx⟩:=EY hp
  obtain⟨a,us,rfl,ha,hs⟩:=hx.tup
  exact⟨a,us,rfl,.inr ⟨ha.sq,q _ H (.tup _) .refl ⟨a,us,rfl,ha,hs⟩ w⟩⟩
 ·exact w.elim
theorem Ats.strs{M:Addr->Prop}{H:Hp}:∀{ss:List Str},(∀x∈ss,x.length<=sizeLine)->Ats K M H (ss.map D.str) (ss.map V.str)
 | [],_=>rfl
 | x::r,h=>⟨.str x,r.map V.str,rfl,⟨rfl,h x List.mem_cons_self⟩,Ats.strs fun y hy=>h y (List.mem_cons_of_mem _ hy)⟩
theorem Ats.strs_le{M:Addr->Prop}{H:Hp}:∀{ss:List Str} {vs:List V},Ats K M H (ss.map D.str) vs->∀x∈ss,x.length<=sizeLine
 | [],_,_=>fun x hx=>by cases hx
 | y::r,vs,h=>fun x hx=>by
  obtain⟨v,t,e,h1,h2⟩:=h
  rcases List.mem_cons.mp hx with rfl | hx
  ·exact h1.2
  ·exact Ats.strs_le h2 x hx
def QC(ds:List D)(P:D->Prop):Prop:=∃(xs:List D) (ss:List Str),ds=[.lst xs]/\DX xs=some ss/\ss.length<64/\∀ss':List Str,ss'.Perm ss->sortedS ss'=true->P (.lst (ss'.map .str))
theorem Ng:∀{xs:List D} {ss:List Str},DX xs=some ss->xs=ss.map .str
 | [],ss,h=>by cases h; rfl
 | .str b::r,ss,h=>by
  unfold DX at h
  obtain⟨t,e,rfl⟩:=Option.map_eq_some_iff.mp h
  rw [List.map_cons,← Ng e]
 | .non::r,ss,h=>by unfold DX at h; cases h
 | .int _::r,ss,h=>by unfold DX at h; cases h
 | .bl _::r,ss,h=>by unfold DX at h; cases h
 | .tup _::r,ss,h=>by unfold DX at h; cases h
 | .lst _::r,ss,h=>by unfold DX at h; cases h
 | .dic _ _::r,ss,h=>by unfold DX at h; cases h
 | .fdi _ _::r,ss,h=>by unfold DX at h; cases h
theorem Ro:Dd K .fr (PR K) QC:=by
 intro U M H ds vs P Q dom vM hp w q
 obtain⟨xs,ss,rfl,e,h64,w⟩:=w
 obtain⟨v,rfl,hx⟩:=EY hp
 obtain⟨a,us,rfl,_,ha,hs⟩:=hx
 have:=Nf e hs
 subst this
 have e2:=Ng e
 subst e2
 refine⟨a,ss,rfl,.inl ha,h64,fun ss' l h1 h2 hl=>?_⟩
 exact q _ _ _ (Av hl) (C2 hl (Ats.strs fun x hx=>hs.strs_le x (h1.mem_iff.mp hx))) (w ss' h1 h2)
end
section
variable {X:Cx}{tg e e2:Expr}{es:List Expr}{ws:GJ}{p pos:Pos}
def VJ(X:Cx)(ts:List Expr)(b:List D->List Slot->(List Slot->Prop)->Prop):Prop:=∃g,U2 X ts g/\∀(C:Fm) (M:Addr->Prop) (H:Hp) (n:Nat) (ρ:List Slot) (σ:L2.St) (ds:List D) (vs:List V) (P:List Slot->Prop) (Q:L2.St->Hp->Prop),Rel X.K C M H n ρ σ->Ats X.K M H ds vs->b ds ρ P ->
 (∀ρ' σ',Rel X.K C M H n ρ' σ'->P ρ'->Q σ' H)->g vs σ H Q
def Ds:List D->List Slot->(List Slot->Prop)->Prop:=fun ds ρ P=>ds=[]/\P ρ
def A9(b:BW)(bs:List D->List Slot->(List Slot->Prop)->Prop):List D->List Slot->(List Slot->Prop)->Prop:=fun ds ρ P=>match ds with
 | d::r=>b d ρ fun ρ1=>bs r ρ1 P
 | []=>False
theorem Ez:VJ X [] Ds:=⟨_,NH,fun C M H n ρ σ ds vs P Q R h w q=>by
 obtain⟨rfl,w⟩:=w
 exact⟨h,q ρ σ R w⟩⟩
theorem Bg{b:BW}{bs:List D->List Slot->(List Slot->Prop)->Prop}(h1:DG X e b)(h2:VJ X es bs)(hs:(assignEach (e::es) X.env).map (·.2)=assign e X.env::(assignEach es X.env).map (·.2):=by rfl):VJ X (e::es) (A9 b bs):=by
 obtain⟨g,a1,a2⟩:=h1
 obtain⟨g',b1,b2⟩:=h2
 refine⟨_,Fp a1 b1 hs,fun C M H n ρ σ ds vs P Q R h w q=>?_⟩
 cases ds with
 | nil=>exact w.elim
 | cons d r =>
  obtain⟨v,vr,e,hv,hr⟩:=h
  exact⟨v,vr,e,a2 C M H n ρ σ d v _ _ R hv w fun ρ' σ' R' w'=>b2 C M H n ρ' σ' r vr _ _ R' hr w' q⟩
def Gi(k:Nat)(bs:List D->List Slot->(List Slot->Prop)->Prop):BW:=fun d ρ P=>match d with
 | .tup ds=>ds.length=k/\bs ds ρ P
 | _=>False
theorem Gh{bs:List D->List Slot->(List Slot->Prop)->Prop}{k:Nat}{j:Nat}(hc:X.calm=true)(h:VJ X es bs)(hn:(assignEach es X.env).length=k:=by rfl)(hst:(assignEach es X.env).findIdx? (·.1)=none:=by rfl):DG X (.Tuple es j pos) (Gi k bs):=by
 obtain⟨g,a1,a2⟩:=h
 refine⟨_,Pj hc a1 hn hst,fun C M H n ρ σ d v P Q R h w q=>?_⟩
 cases d with
 | tup ds =>
  obtain⟨a,vs,rfl,hq,hs⟩:=h
  exact⟨a,vs,rfl,hq.sq,by rw [hs.length]; exact w.1,a2 C M H n ρ σ ds vs P Q R hs w.2 q⟩
 | _=>exact w.elim
end
end Dp
namespace L2
open PySem PySem.Spec PyProof.Rows
mutual
def RV(H:Hp):PyData->V->Prop
 | .none,v=>v=.non
 | .bool b,v=>v=.bl b
 | .int i,v=>v=.int i
 | .str x,v=>v=.str x
 | .tuple xs,v=>∃a vs,v=.ref a/\H a=some (.tup vs)/\RVs H xs vs
 | .list xs,v=>∃a vs,v=.ref a/\Rd H a (.lst vs)/\RVs H xs vs
 | .dict _,_=>False
def RVs(H:Hp):List PyData->List V->Prop
 | [],vs=>vs=[]
 | x::xs,vs=>∃v r,vs=v::r/\RV H x v/\RVs H xs r
end
section
variable {X:Cx}{pins:List (Addr×Obj)}{σ:L2.St}{H:Hp}{s:Shared}
mutual
theorem RV.reads(I:Inv X pins σ H s):∀{d:PyData} {v:V} {u:Value},RV H d v->RelV v u->∃as,Reads s.heap u d as
 | .none,v,u,h,r=>by
  cases (show v=.non from h)
  cases (show u=Value.none from r)
  exact⟨_,.none⟩
 | .bool b,v,u,h,r=>by
  cases (show v=.bl b from h)
  cases (show u=Value.bool b from r)
  exact⟨_,.bool b⟩
 | .int i,v,u,h,r=>by
  cases (show v=.int i from h)
  obtain⟨t,rfl⟩:=r
  exact⟨_,.int i t⟩
 | .str x,v,u,h,r=>by
  cases (show v=.str x from h)
  obtain⟨t,rfl⟩:=r
  exact⟨_,.str x t⟩
 | .tuple xs,v,u,h,r=>by
  obtain⟨a,vs,rfl,hq,hs⟩:=h
  cases r
  obtain⟨its,rv,⟨o,e,c,n,d⟩,_⟩:=I.tuple (X:=X) (xs:=vs) (.inl (.inl hq))
  obtain⟨as,ra⟩:=RVs.reads I hs rv
  exact⟨_,.tuple e c d ra⟩
 | .list xs,v,u,h,r=>by
  obtain⟨a,vs,rfl,hq,hs⟩:=h
  cases r
  obtain⟨its,rv,pl,_⟩:=I.list (X:=X) (xs:=vs) (.inl hq)
  obtain⟨o,e,c,n,d⟩:=pl.isList
  obtain⟨as,ra⟩:=RVs.reads I hs rv
  exact⟨_,.list e c d ra⟩
 | .dict _,v,u,h,r=>h.elim
theorem RVs.reads(I:Inv X pins σ H s):∀{ds:List PyData} {vs:List V} {us:List Value},RVs H ds vs->Vals vs us->∃as,ReadsAll s.heap us ds as
 | [],vs,us,h,r=>by
  cases (show vs=[] from h)
  cases r
  exact⟨_,.nil⟩
 | d::ds,vs,us,h,r=>by
  obtain⟨v,w,rfl,h1,h2⟩:=h
  cases r with
  | cons r1 r2 =>
   obtain⟨as,a1⟩:=RV.reads I h1 r1
   obtain⟨bs,a2⟩:=RVs.reads I h2 r2
   exact⟨_,.cons a1 a2⟩
end
end
section
variable {X:Cx}
def UY:R2:=fun x y H Q=>∃d e,RV H d x/\RV H e y/\d.canLay0=true/\e.canLay0=true/\d.depth<=100/\Q (.bl (PyData.eqv d e)) H
theorem MU{k:Nat}(hr:Room k X.A):OpR X (compareOp .Eq) UY:=by
 intro pins s σ H x y v u Q I rx ry h
 obtain⟨d,e,hx,hy,h1,h2,hd,q⟩:=h
 obtain⟨as,ra⟩:=RV.reads I hx rx
 obtain⟨bs,rb⟩:=RV.reads I hy ry
 have hu:=hr.un
 have hm:min d.depth e.depth<=d.depth:=Nat.min_le_left _ _
 exact PySem.SeqAt.compareEq_reads ra rb h1 h2 (by omega) ⟨.bl _,H,I,rfl,q⟩
def Sl(neg:Bool):R2:=fun x y H Q=>∃d es,RV H d x/\(RV H (.list es) y\/RV H (.tuple es) y)/\d.canLay0=true/\PyData.canLayAll0 es=true/\d.depth<=100/\Q (.bl (if neg then !(es.any fun y=>PyData.eqv y d) else es.any fun y=>PyData.eqv y d)) H
theorem S3{k:Nat}(hr:Room k X.A):OpR X (compareOp .In) (Sl false):=by
 intro pins s σ H x y v u Q I rx ry h
 obtain⟨d,es,hx,hy,h1,h2,hd,q⟩:=h
 obtain⟨as,ra⟩:=RV.reads I hx rx
 have hu:=hr.un
 have hm:min (PyData.depthAll es) d.depth<=d.depth:=Nat.min_le_right _ _
 rcases hy with hy | hy
 ·obtain⟨bs,rb⟩:=RV.reads I hy ry
  exact PySem.SeqAt.in_list_reads rb ra h2 h1 (by omega) ⟨.bl _,H,I,rfl,q⟩
 ·obtain⟨bs,rb⟩:=RV.reads I hy ry
  exact PySem.SeqAt.in_tuple_reads rb ra h2 h1 (by omega) ⟨.bl _,H,I,rfl,q⟩
theorem JU{k:Nat}(hr:Room k X.A):OpR X (compareOp .NotIn) (Sl true):=by
 intro pins s σ H x y v u Q I rx ry h
 obtain⟨d,es,hx,hy,h1,h2,hd,q⟩:=h
 obtain⟨as,ra⟩:=RV.reads I hx rx
 have hu:=hr.un
 have hm:min (PyData.depthAll es) d.depth<=d.depth:=Nat.min_le_right _ _
 rcases hy with hy | hy
 ·obtain⟨bs,rb⟩:=RV.reads I hy ry
  exact PySem.SeqAt.notIn_list_reads rb ra h2 h1 (by omega) ⟨.bl _,H,I,rfl,q⟩
 ·obtain⟨bs,rb⟩:=RV.reads I hy ry
  exact PySem.SeqAt.notIn_tuple_reads rb ra h2 h1 (by omega) ⟨.bl _,H,I,rfl,q⟩
end
end L2
namespace Dp
open PySem PySem.Spec PyProof.Rows L2
mutual
def BO:D->PyData
 | .non=>.none
 | .bl b=>.bool b
 | .int i=>.int i
 | .str x=>.str x
 | .tup ds=>.tuple (BE ds)
 | .lst ds=>.list (BE ds)
 | .dic _ _=>.dict []
 | .fdi _ _=>.dict []
def BE:List D->List PyData
 | []=>[]
 | d::ds=>BO d::BE ds
end
mutual
def FB:D->Bool
 | .tup ds=>CW ds
 | .lst ds=>CW ds
 | .dic _ _=>false
 | .fdi _ _=>false
 | _=>true
def CW:List D->Bool
 | []=>true
 | d::ds=>FB d&&CW ds
end
theorem Ew(ds:List D):BE ds=ds.map BO:=by
 induction ds with
 | nil=>rfl
 | cons d r ih=>rw [BE,ih,List.map_cons]
theorem MZ(ds:List D):CW ds=ds.all FB:=by
 induction ds with
 | nil=>rfl
 | cons d r ih=>rw [CW,ih,List.all_cons]
section
variable {K:Frag}{M:Addr->Prop}{H:Hp}
mutual
theorem At.rv:∀{d:D} {v:V},At K M H d v->FB d=true->RV H (BO d) v
 | .non,v,h,_=>h
 | .bl b,v,h,_=>h
 | .int i,v,h,_=>h
 | .str x,v,h,_=>h.1
 | .tup ds,v,h,n=>by
  obtain⟨a,vs,e,hn,hs⟩:=h
  exact⟨a,vs,e,hn.2,Ats.rv hs n⟩
 | .lst ds,v,h,n=>by
  obtain⟨a,vs,e,hn,hs⟩:=h
  exact⟨a,vs,e,.inl hn.2,Ats.rv hs n⟩
 | .dic ks ds,v,h,n=>by cases n
 | .fdi ks ds,v,h,n=>by cases n
theorem Ats.rv:∀{ds:List D} {vs:List V},Ats K M H ds vs->CW ds=true->RVs H (BE ds) vs
 | [],vs,h,_=>h
 | d::ds,vs,h,n=>by
  obtain⟨v,r,e,h1,h2⟩:=h
  have n':(FB d&&CW ds)=true:=n
  rw [Bool.and_eq_true] at n'
  exact⟨v,r,e,At.rv h1 n'.1,Ats.rv h2 n'.2⟩
end
theorem AtT.rv{U:Addr->Prop}{d:D}{v:V}(h:AtT K U M H d v)(n:FB d=true):RV H (BO d) v:=by
 cases d with
 | lst ds =>
  obtain⟨a,vs,e,_,hq,hs⟩:=h
  exact⟨a,vs,e,hq,Ats.rv hs n⟩
 | dic ks ds=>cases n
 | fdi ks ds=>cases n
 | non=>exact h
 | bl b=>exact h
 | int i=>exact h
 | str x=>exact h.1
 | tup ds=>exact At.rv (K:=K) (M:=M) (d:=.tup ds) h n
def DV(d:D):Prop:=FB d=true/\(BO d).canLay0=true/\(BO d).depth<=100
def Ej(d e:D):Bool:=PyData.eqv (BO d) (BO e)
def Re(d e:D)(P:D->Prop):Prop:=DV d/\DV e/\P (.bl (Ej d e))
theorem Qm:Gp K .sh UY Re:=fun U M H d e x y P Q dom vM hx hy w q =>
 ⟨BO d,BO e,hx.rv w.1.1,hy.rv w.2.1.1,w.1.2.1,w.2.1.2.1,w.1.2.2,q _ H (.bl (Ej d e)) .refl rfl w.2.2⟩
def Id:D->Option (List D)
 | .lst ds=>some ds
 | .tup ds=>some ds
 | _=>none
def QF(neg:Bool)(d e:D)(P:D->Prop):Prop:=DV d/\DV e/\∃es,Id e=some es/\P (.bl (if neg then !(es.any fun y=>Ej y d) else es.any fun y=>Ej y d))
theorem Ql{neg:Bool}:Gp K .sh (Sl neg) (QF neg):=fun U M H d e x y P Q dom vM hx hy w q=>by
 obtain⟨h1,h2,es,he,w⟩:=w
 have any_eq:∀es:List D,(es.map BO).any (fun y=>PyData.eqv y (BO d))=es.any fun y=>Ej y d:=fun es=>by rw [List.any_map]; rfl
 cases e with
 | lst ds =>
  cases he
  refine⟨BO d,BE es,hx.rv h1.1,.inl (hy.rv h2.1),h1.2.1,by simpa [BO,PyData.canLay0] using h2.2.1,h1.2.2,?_⟩
  rw [Ew,any_eq]
  exact q _ H (.bl _) .refl rfl w
 | tup ds =>
  cases he
  refine⟨BO d,BE es,hx.rv h1.1,.inr (hy.rv h2.1),h1.2.1,by simpa [BO,PyData.canLay0] using h2.2.1,h1.2.2,?_⟩
  rw [Ew,any_eq]
  exact q _ H (.bl _) .refl rfl w
 | _=>cases he
def Mi(d e:D)(P:D->Prop):Prop:=DV d/\DV e/\P (.bl (!Ej d e))
end
end Dp
namespace L2
open PySem PySem.Spec PyProof.Rows
def US:R2:=fun x y H Q=>∃d e,RV H d x/\RV H e y/\d.canLay0=true/\e.canLay0=true/\d.depth<=100/\Q (.bl (!PyData.eqv d e)) H
theorem Hq{X:Cx}{k:Nat}(hr:Room k X.A):OpR X (compareOp .NotEq) US:=by
 intro pins s σ H x y v u Q I rx ry h
 obtain⟨d,e,hx,hy,h1,h2,hd,q⟩:=h
 obtain⟨as,ra⟩:=RV.reads I hx rx
 obtain⟨bs,rb⟩:=RV.reads I hy ry
 have hu:=hr.un
 have hm:min d.depth e.depth<=d.depth:=Nat.min_le_left _ _
 exact PySem.SeqAt.compareNe_reads ra rb h1 h2 (by omega) ⟨.bl _,H,I,rfl,q⟩
end L2
namespace Dp
open PySem PySem.Spec PyProof.Rows L2
theorem L5{K:Frag}:Gp K .sh US Mi:=fun U M H d e x y P Q dom vM hx hy w q =>
 ⟨BO d,BO e,hx.rv w.1.1,hy.rv w.2.1.1,w.1.2.1,w.2.1.2.1,w.1.2.2,q _ H (.bl (!Ej d e)) .refl rfl w.2.2⟩
end Dp
namespace L2
open PySem PySem.Spec PyProof.Rows
def Ga:AY->V
 | .inl i=>.int i
 | .inr x=>.str x
def VC:AY->AY->Bool
 | .inl i,.inl j=>decide (i<j)
 | .inr x,.inr y=>decide (x.cps.toList<y.cps.toList)
 | _,_=>false
def JP:AY->AY->Bool
 | .inl _,.inl _=>true
 | .inr _,.inr _=>true
 | _,_=>false
def Ea:List AY->List AY->Bool
 | [],[]=>false
 | [],_::_=>true
 | _::_,[]=>false
 | x::xs,y::ys=>if x=y then Ea xs ys else VC x y
def CL:List AY->List AY->Bool
 | x::xs,y::ys=>JP x y&&CL xs ys
 | _,_=>true
theorem QH{A:Around}{s:Shared}{x y:AY}{u v:Value}(rx:RelV (Ga x) u)(ry:RelV (Ga y) v):∃e,SeqAt.EqAt A s u v e/\(e=true↔x=y):=by
 cases x with
 | inl i =>
  cases y with
  | inl j=>exact⟨_,Kg rx ry rfl rfl,by simp [Ga,Uq]⟩
  | inr z=>exact⟨_,Kg rx ry rfl rfl,by simp [Ga,Uq]⟩
 | inr z =>
  cases y with
  | inl j=>exact⟨_,Kg rx ry rfl rfl,by simp [Ga,Uq]⟩
  | inr z'=>exact⟨_,Kg rx ry rfl rfl,by simp [Ga,Uq]⟩
theorem PM(A:Around)(s:Shared){x y:AY}{u v:Value}(rx:RelV (Ga x) u)(ry:RelV (Ga y) v)(hs:JP x y=true)(prog:Program)(w:World)(E:Value->Shared->Prop)(Q:Value->Shared->Prop)(h:Q (.bool (VC x y)) s) :
  wpAny (model prog w) A (richCompare .Lt u v) Q E s:=by
 cases x with
 | inl i =>
  cases y with
  | inl j =>
   obtain⟨t,rfl⟩:=rx
   obtain⟨t',rfl⟩:=ry
   exact(PyProof.Rows.lt_int h:wpAny (model prog w) A (compareOp .Lt (.int i t) (.int j t')) Q E s)
  | inr z=>cases hs
 | inr z =>
  cases y with
  | inl j=>cases hs
  | inr z' =>
   obtain⟨t,rfl⟩:=rx
   obtain⟨t',rfl⟩:=ry
   exact(PySem.P.lt_str h:wpAny (model prog w) A (compareOp .Lt (.str z t) (.str z' t')) Q E s)
section
open PySem.SeqAt
open PySem.AutoSeq1 (wpAny_loadPart')
open PySem.MeetsSeq PySem.MeetsSeq2 PySem.MeetsSeq3
theorem E8(l b:Addr)(items items2:Array Value)(n n2:Nat)(dd dd2:Option Addr)(sl sl2:Array (Option Value))(ns ms:List AY)(hi:Vals (ns.map Ga) items.toList)(hj:Vals (ms.map Ga) items2.toList)(hsame:CL ns ms=true) :
  Meets (Builtin.«tuple.__lt__» ⟨[.ref l,.ref b],[]⟩)
   (fun _ R s=>s.heap.get? l=some { cls:=.type "tuple",dict:=dd,data:=.seq items n,slots:=sl }/\s.heap.get? b=some { cls:=.type "tuple",dict:=dd2,data:=.seq items2 n2,slots:=sl2 } /\
    R (.ok (.ret (.bool (Ea ns ms)))) s) :=
 .of_wp fun prog w A R s h=>by
  obtain⟨hp,g,d,tk,os⟩:=s; obtain⟨hl,hb,h⟩:=h
  have f2:=AutoSeq1.sub_tuple_tuple
  have z1:items.size=ns.length:=by have:=hi.length; rw [List.length_map] at this; rw [this]; simp
  have z2:items2.size=ms.length:=by have:=hj.length; rw [List.length_map] at this; rw [this]; simp
  wp_walk using wpAny_loadPart' hl,wpAny_loadPart' hb,wpAny_forIn_list _ (fun rest b s'=>b.1=none/\s'=⟨hp,g,d,tk,os⟩/\∃(vs ws:List Value) (ns' ms':List AY),rest=vs.zip ws /\
   Vals (ns'.map Ga) vs/\Vals (ms'.map Ga) ws/\CL ns' ms'=true/\ns'.length+items2.size=ms'.length+items.size/\R (.ok (.ret (.bool (Ea ns' ms')))) ⟨hp,g,d,tk,os⟩) _
  case turn =>
   rintro ⟨y,x⟩ rest b s' ⟨hb',rfl,vs,ws,ns',ms',hz,hvi,hwi,hsm,hlen,hR⟩
   cases ns' with
   | nil=>cases hvi; rw [List.zip_nil_left] at hz; cases hz
   | cons a ns' =>
    cases ms' with
    | nil=>cases hwi; rw [List.zip_nil_right] at hz; cases hz
    | cons c ms' =>
     rw [List.map_cons] at hvi hwi
     cases hvi with
     | cons ra hvi' =>
      cases hwi with
      | cons rc hwi' =>
       rw [List.zip_cons_cons] at hz
       injection hz with hyx hrest
       injection hyx with hy hx
       subst hy hx
       have hR':R (.ok (.ret (.bool (if a=c then Ea ns' ms' else VC a c)))) ⟨hp,g,d,tk,os⟩:=hR
       have hsm':(JP a c&&CL ns' ms')=true:=hsm
       rw [Bool.and_eq_true] at hsm'
       simp only [List.length_cons] at hlen
       obtain⟨e,he,hiff⟩:=QH (A:=A.in1) (s:=⟨hp,g,d,tk,os⟩) ra rc
       refine wpAny_bind (he prog w _ _ ?_)
       cases e with
       | true =>
        rw [if_pos (hiff.mp rfl)] at hR'
        wp_walk
        exact⟨rfl,rfl,_,_,_,_,hrest,hvi',hwi',hsm'.2,by omega,hR'⟩
       | false =>
        rw [if_neg (fun q=>absurd (hiff.mpr q) Bool.false_ne_true)] at hR'
        have hri:=PM A.in1 ⟨hp,g,d,tk,os⟩ ra rc hsm'.1 prog w
        wp_walk using hri
        exact⟨_,rfl,by simpa using hR'⟩
  case fin =>
   rintro ⟨b1,b2⟩ s' ⟨hb',rfl,vs,ws,ns',ms',hz,hvi,hwi,hsm,hlen,hR⟩
   simp only at hb'
   subst hb'
   have hv:Ea ns' ms'=decide (items.size<items2.size):=by
    cases ns' with
    | nil =>
     cases ms' with
     | nil =>
      simp only [List.length_nil] at hlen
      exact(decide_eq_false (by omega)).symm
     | cons c u =>
      simp only [List.length_nil,List.length_cons] at hlen
      exact(decide_eq_true (by omega)).symm
    | cons a t =>
     cases ms' with
     | nil =>
      simp only [List.length_nil,List.length_cons] at hlen
      exact(decide_eq_false (by omega)).symm
     | cons c u =>
      rw [List.map_cons] at hvi hwi
      cases hvi
      cases hwi
      rw [List.zip_cons_cons] at hz
      cases hz
   rw [hv] at hR
   wp_walk
   exact⟨_,rfl,by simpa [Builtin.Tuple.tupleCompareSizes] using hR⟩
  case h =>
   exact⟨rfl,rfl,items.toList,items2.toList,ns,ms,rfl,hi,hj,hsame,by omega,h⟩
end
section
variable {X:Cx}
def UT(K:Frag):R2:=fun x y H Q=>∃a b ns ms,x=.ref a/\y=.ref b/\SqT K H a (ns.map Ga)/\SqT K H b (ms.map Ga)/\CL ns ms=true/\Q (.bl (Ea ns ms)) H
theorem S2(hu:X.A.units<cLine):OpR X (compareOp .Lt) (UT X.K):=by
 intro pins s σ H x y v u Q I rx ry h
 obtain⟨a,b,ns,ms,rfl,rfl,ha,hb,hsm,q⟩:=h
 cases rx
 cases ry
 obtain⟨its,r1,p1,_⟩:=I.tuple ha
 obtain⟨its2,r2,p2,_⟩:=I.tuple hb
 obtain⟨⟨cls,dd,data,sl⟩,ho,hc,n,hd⟩:=id p1
 obtain⟨⟨cls2,dd2,data2,sl2⟩,ho2,hc2,n2,hd2⟩:=id p2
 simp only at hc hd hc2 hd2
 subst hc hd hc2 hd2
 exact richCompare_meets_room (op:=.Lt) ⟨_,ho,rfl⟩ ⟨_,ho2,rfl⟩ PySem.F.slot_tuple_lt PySem.F.entry_tuple_lt (PySem.F.args_tuple_lt_2 _ _) (E8 a b its.toArray its2.toArray n n2 dd dd2 sl sl2 ns ms r1 r2 hsm)
  ⟨ho,ho2,show Value.bool (Ea ns ms)≠Value.notImplemented/\EP X pins σ Q (.bool (Ea ns ms)) s from⟨(fun x=>nomatch x),⟨.bl _,H,I,rfl,q⟩⟩⟩ hu
end
def ItAt(κ:Bool)(h:Heap)(it l:Addr)(k:Nat):Prop:=match κ with
 | true=>h.IsListIter it l k
 | false=>h.IsTupleIter it l k
def SqAt(κ:Bool)(h:Heap)(l:Addr)(items:Array Value):Prop:=match κ with
 | true=>h.IsList l items
 | false=>h.IsTuple l items
section
variable {κ:Bool}{h h':Heap}{it l b:Addr}{k:Nat}{items:Array Value}
theorem ItAt.mv(x:ItAt κ h it l k)(e:∀o,h.get? it=some o->h'.get? it=some o):ItAt κ h' it l k:=by
 cases κ with
 | true=>obtain⟨o,ho,r⟩:=x; exact⟨o,e o ho,r⟩
 | false=>obtain⟨o,ho,r⟩:=x; exact⟨o,e o ho,r⟩
theorem SqAt.mv(x:SqAt κ h l items)(e:∀o,h.get? l=some o->h'.get? l=some o):SqAt κ h' l items:=by
 cases κ with
 | true=>obtain⟨o,ho,r⟩:=x; exact⟨o,e o ho,r⟩
 | false=>obtain⟨o,ho,r⟩:=x; exact⟨o,e o ho,r⟩
theorem ItAt.eb(x:ItAt κ h it l k)(hs:Heap.ExtBut b h h')(n:it≠b):ItAt κ h' it l k:=x.mv fun o e=>hs it o n e
theorem SqAt.eb(x:SqAt κ h l items)(hs:Heap.ExtBut b h h')(n:l≠b):SqAt κ h' l items:=x.mv fun o e=>hs l o n e
theorem ItAt.lies(x:ItAt κ h it l k):∃o,h.get? it=some o/\∀v,o.data≠.cell v:=by
 cases κ with
 | true=>obtain⟨o,ho,_,d⟩:=x; exact⟨o,ho,fun v z=>by rw [d] at z; cases z⟩
 | false=>obtain⟨o,ho,_,d⟩:=x; exact⟨o,ho,fun v z=>by rw [d] at z; cases z⟩
theorem SqAt.lies(x:SqAt κ h l items):∃o,h.get? l=some o:=by
 cases κ with
 | true=>obtain⟨o,ho,_⟩:=x; exact⟨o,ho⟩
 | false=>obtain⟨o,ho,_⟩:=x; exact⟨o,ho⟩
end
section
variable {prog:Program}{w:World}{A:Around}{E:Value->Shared->Prop}{s:Shared}
theorem Ge{κ:Bool}{it l:Addr}{i:Nat}{items:Array Value}{x:Value}{Q:Value->Shared->Prop}(hit:ItAt κ s.heap it l i)(hl:SqAt κ s.heap l items)(hx:items[i]?=some x)
  (hQ:∀h',ItAt κ h' it l (i+1)->Heap.SameBut it s.heap h'->Q x { s with heap:=h' }):wpAny (model prog w) A (Builtin.SmallTypes.nextOf (.ref it)) Q E s:=by
 cases κ with
 | true=>exact wpAny_nextOf_list_item hit hl hx hQ
 | false =>
  have hit':s.heap.IsTupleIter it l i:=hit
  have hl':s.heap.IsTuple l items:=hl
  obtain⟨o,ho,hc,hd⟩:=id hit'; obtain⟨ol,hol,_,nl,hdl⟩:=hl'
  unfold Builtin.SmallTypes.nextOf
  refine wpAny_bind (wpAny_callSpecial?_slot (name:=Str.ofString "__next__") hit'.typeIs F.slot_tuple_iterator_next (wpAny_call_entry F.slot_tuple_iterator_next hit'.typeIs F.entry_tuple_iterator_next ?_ (F.args_tuple_iterator_next_1 _)))
  show wpAny (model prog w) _ (field (.ref it) 0 >>= _) _ _ s; refine wpAny_bind (wpAny_field ho hd (x:=.ref l) rfl ?_)
  show wpAny (model prog w) _ (if (Value.ref l==Value.none)=true then _ else _) _ _ s; rw [if_neg (show ¬((Value.ref l==Value.none)=true) from Bool.false_ne_true)]
  show wpAny (model prog w) _ (field (.ref it) 1 >>= _) _ _ s; refine wpAny_bind (wpAny_field ho hd (x:=.int i 0) rfl ?_)
  show wpAny (model prog w) _ (seqItems? (.ref l) >>= _) _ _ s; refine wpAny_bind (wpAny_seqItems hol hdl ?_); simp only [Int.toNat_natCast,hx]
  refine wpAny_bind (wpAny_setField ho hd (by simp) (wpAny_pure ⟨x,rfl,wpAny_pure (hQ _ (show Heap.IsTupleIter _ it l (i+1) from ?_) (Heap.SameBut.update ..))⟩))
  exact⟨_,Heap.get?_update_self _ ho (Obj.isFreed_of_fields (Obj.data_mapFields hd _)),(Obj.cls_mapFields ..).trans hc,by(rw [Obj.data_mapFields hd]; simp [rawInt])⟩
theorem Lr{κ:Bool}{it l:Addr}{i:Nat}{items:Array Value}{Q:Value->Shared->Prop}(hh:A.handled=none)(hit:ItAt κ s.heap it l i)(hl:SqAt κ s.heap l items)(hx:items[i]?=none)
  (hE:∀h' e,Heap.ExtBut it s.heap h'->(∃o,h'.get? e=some o/\o.cls=.type "StopIteration")->E (.ref e) { s with heap:=h' }):wpAny (model prog w) A (Builtin.SmallTypes.nextOf (.ref it)) Q E s:=by
 cases κ with
 | true=>exact wpAny_nextOf_list_end hh hit hl hx hE
 | false =>
  have hit':s.heap.IsTupleIter it l i:=hit
  have hl':s.heap.IsTuple l items:=hl
  obtain⟨o,ho,hc,hd⟩:=id hit'; obtain⟨ol,hol,_,nl,hdl⟩:=hl'
  unfold Builtin.SmallTypes.nextOf
  refine wpAny_bind (wpAny_callSpecial?_slot (name:=Str.ofString "__next__") hit'.typeIs F.slot_tuple_iterator_next (wpAny_call_entry F.slot_tuple_iterator_next hit'.typeIs F.entry_tuple_iterator_next ?_ (F.args_tuple_iterator_next_1 _)))
  show wpAny (model prog w) _ (field (.ref it) 0 >>= _) _ _ s; refine wpAny_bind (wpAny_field ho hd (x:=.ref l) rfl ?_)
  show wpAny (model prog w) _ (if (Value.ref l==Value.none)=true then _ else _) _ _ s; rw [if_neg (show ¬((Value.ref l==Value.none)=true) from Bool.false_ne_true)]
  show wpAny (model prog w) _ (field (.ref it) 1 >>= _) _ _ s; refine wpAny_bind (wpAny_field ho hd (x:=.int i 0) rfl ?_)
  show wpAny (model prog w) _ (seqItems? (.ref l) >>= _) _ _ s; refine wpAny_bind (wpAny_seqItems hol hdl ?_); simp only [Int.toNat_natCast,hx]
  refine wpAny_bind (wpAny_rule (wpAny_bind (wpAny_setField ho hd (by simp) ?_))); show wpAny (model prog w) _ (newExc (.type "StopIteration") [] >>= _) _ _ _
  refine wpAny_bind ?_; simp only [newExc,newTuple]; refine wpAny_bind (wpAny_newObj_type ?_ (by size_fits))
  refine wpAny_bind (m:=firstArgMember _ _) (wpAny_of_eq (a:=Value.none) (by first | rfl | (simp only [firstArgMember]; rfl)) ?_); refine wpAny_newObj_type ?_ (by size_fits)
  simp only [raiseNew]; refine wpAny_bind (wpAny_handled ?_); first | rw [show A.in1.handled=none from hh] | rw [hh]
  refine wpAny_bind (wpAny_pure (wpAny_throw ?_)); exact hE _ _ (((Heap.SameBut.update ..).extBut.push _).push _) ⟨_,Heap.get?_push_size _ rfl,rfl⟩
structure Ty (z TI TO i1 i2 l1 l2:Addr):Prop where
 TIz:TI≠z
 TOz:TO≠z
 i1z:i1≠z
 i2z:i2≠z
 TOi1:TO≠i1
 TOi2:TO≠i2
 i12:i1≠i2
 l1z:l1≠z
 l1TO:l1≠TO
 l1i1:l1≠i1
 l1i2:l1≠i2
 l2z:l2≠z
 l2TO:l2≠TO
 l2i1:l2≠i1
 l2i2:l2≠i2
theorem Om{κ1 κ2:Bool}{z TI TO i1 i2 l1 l2:Addr}{k:Nat}{xs ys:Array Value}{x y a b:Value}{Q:Value->Shared->Prop}(D:Ty z TI TO i1 i2 l1 l2)
  (hz:IsZip s.heap z TI TO .none) (hTI:IsPair s.heap TI (.ref i1) (.ref i2)) (hTO:IsPair s.heap TO a b) (h1:ItAt κ1 s.heap i1 l1 k) (h2:ItAt κ2 s.heap i2 l2 k) (hl1:SqAt κ1 s.heap l1 xs) (hl2:SqAt κ2 s.heap l2 ys) (hx:xs[k]?=some x) (hy:ys[k]?=some y)
  (hQ:∀h',IsZip h' z TI TO (rawInt s.heap.objs.size)->IsPair h' TO x y->ItAt κ1 h' i1 l1 (k+1)->ItAt κ2 h' i2 l2 (k+1)->IsPair h' s.heap.objs.size x y->h'.objs.size=s.heap.objs.size+1->(∀c o,c≠z->c≠TO->c≠i1->c≠i2->s.heap.get? c=some o->h'.get? c=some o)->Q (.ref s.heap.objs.size) { s with heap:=h' }) :
  wpAny (model prog w) A (Builtin.«zip.__next__» ⟨[.ref z],[]⟩) (fun fin s'=>∃v,fin=.done (.ret v)/\Q v s') E s:=by
 show wpAny (model prog w) A (field (.ref z) 2 >>= _) _ _ _; refine wpAny_bind (wpAny_field hz rfl (x:=.bool false) rfl ?_)
 show wpAny (model prog w) A (field (.ref z) 3 >>= _) _ _ _; refine wpAny_bind (wpAny_field hz rfl (x:=.ref TI) rfl ?_); refine wpAny_bind (wpAny_seqItems hTI rfl ?_)
 show wpAny (model prog w) A (Builtin.SmallTypes.ownedTupleIsFree (.ref z) >>= _) _ _ _; refine wpAny_bind ?_; unfold Builtin.SmallTypes.ownedTupleIsFree
 refine wpAny_bind (wpAny_field hz rfl (x:=.none) rfl (wpAny_pure ?_)); simp only [if_true]; refine wpAny_bind (wpAny_rule ?_); refine wpAny_bind (wpAny_field hz rfl (x:=.ref TO) rfl ?_)
 refine wpAny_bind (wpAny_setField_rec hz (by simp) fun ha hza hsa=>?_)
 replace hza:IsZip ha z TI TO .ellipsis:=hza
 refine wpAny_bind ?_; simp only [List.zipIdx_cons,List.zipIdx_nil,List.forIn_cons,List.forIn_nil]
 refine wpAny_bind (wpAny_bind (wpAny_onRaise ?_)); show wpAny (model prog w) _ (Builtin.SmallTypes.nextOf (.ref i1) >>= _) _ _ _
 refine wpAny_bind (Ge (h1.eb hsa.extBut D.i1z) (hl1.eb hsa.extBut D.l1z) hx fun hb h1b hsb=>wpAny_pure ?_)
 have hTOb:IsPair hb TO a b:=hsb.extBut _ _ D.TOi1 (hsa.extBut _ _ D.TOz hTO)
 refine wpAny_bind (wpAny_seqItems hTOb rfl ?_); refine wpAny_bind (wpAny_updateSeq_pair hTOb fun hc hTOc hsc=>?_)
 replace hTOc:IsPair hc TO x b:=hTOc
 refine wpAny_bind (wpAny_letGo (wpAny_pure ?_)); refine wpAny_bind (wpAny_bind (wpAny_onRaise ?_)); show wpAny (model prog w) _ (Builtin.SmallTypes.nextOf (.ref i2) >>= _) _ _ _
 refine wpAny_bind (Ge (((h2.eb hsa.extBut D.i2z).eb hsb.extBut D.i12.symm).eb hsc.extBut D.TOi2.symm) (((hl2.eb hsa.extBut D.l2z).eb hsb.extBut D.l2i1).eb hsc.extBut D.l2TO) hy fun hd h2d hsd=>wpAny_pure ?_)
 have hTOd:IsPair hd TO x b:=hsd.extBut _ _ D.TOi2 hTOc
 refine wpAny_bind (wpAny_seqItems hTOd rfl ?_); refine wpAny_bind (wpAny_updateSeq_pair hTOd fun he hTOe hse=>?_)
 replace hTOe:IsPair he TO x y:=hTOe
 refine wpAny_bind (wpAny_letGo (wpAny_pure (wpAny_pure ?_))); refine wpAny_bind (wpAny_seqItems hTOe rfl ?_); refine wpAny_bind (wpAny_newTuple ?_)
 have hsz:he.objs.size=s.heap.objs.size:=by rw [hse.1,hsd.1,hsc.1,hsb.1,hsa.1]
 have hze:IsZip he z TI TO .ellipsis:=hse.extBut _ _ D.TOz.symm (hsd.extBut _ _ D.i2z.symm (hsc.extBut _ _ D.TOz.symm (hsb.extBut _ _ D.i1z.symm hza)))
 have hke:∀c o,c≠z->c≠TO->c≠i1->c≠i2->s.heap.get? c=some o->he.get? c=some o:=fun c o c1 c2 c3 c4 e=>hse.extBut _ _ c2 (hsd.extBut _ _ c4 (hsc.extBut _ _ c2 (hsb.extBut _ _ c3 (hsa.extBut _ _ c1 e))))
 have h1e:ItAt κ1 he i1 l1 (k+1):=((h1b.eb hsc.extBut D.TOi1.symm).eb hsd.extBut D.i12).eb hse.extBut D.TOi1.symm
 have h2e:ItAt κ2 he i2 l2 (k+1):=h2d.eb hse.extBut D.TOi2.symm
 have hzlt:z<he.objs.size:=Heap.lt_size hze
 show wpAny (model prog w) _ (Builtin.SmallTypes.ownedTupleHandOut (.ref z) (.ref he.objs.size) >>= _) _ _ _; refine wpAny_bind ?_; unfold Builtin.SmallTypes.ownedTupleHandOut
 have hzf:IsZip (he.push { cls:=.type "tuple",data:=.seq #[x,y] }) z TI TO .ellipsis:=Heap.get?_push_of_some _ hze
 refine wpAny_bind (wpAny_setField_rec hzf (by simp) fun hg hzg hsg=>?_)
 replace hzg:IsZip hg z TI TO (rawInt he.objs.size):=hzg
 refine wpAny_setField_rec hzg (by simp) fun hi hzi hsi=>?_
 replace hzi:IsZip hi z TI TO (rawInt he.objs.size):=hzi
 have up:∀c o,c≠z->he.get? c=some o->hi.get? c=some o:=fun c o c1 e=>hsi.extBut _ _ c1 (hsg.extBut _ _ c1 (Heap.get?_push_of_some _ e))
 have hTi:IsPair hi he.objs.size x y:=hsi.extBut _ _ (Nat.ne_of_gt hzlt) (hsg.extBut _ _ (Nat.ne_of_gt hzlt) (Heap.get?_push_size _ rfl))
 have hzs:hi.objs.size=he.objs.size+1:=by rw [hsi.1,hsg.1,Heap.size_push]
 rw [hsz] at hzi hTi hzs
 refine wpAny_pure ⟨_,rfl,?_⟩
 show Q (.ref he.objs.size) _; rw [hsz]
 exact hQ hi hzi (up _ _ D.TOz hTOe) (h1e.mv fun o e=>up _ o D.i1z e) (h2e.mv fun o e=>up _ o D.i2z e) hTi hzs fun c o c1 c2 c3 c4 e=>up c o c1 (hke c o c1 c2 c3 c4 e)
theorem Qy{κ1 κ2:Bool}{z TI TO i1 i2 l1 l2:Addr}{k:Nat}{xs ys:Array Value}{a b:Value}{Q:Fin->Shared->Prop}(hh:A.handled=none)(D:Ty z TI TO i1 i2 l1 l2)
  (hz:IsZip s.heap z TI TO .none) (hTI:IsPair s.heap TI (.ref i1) (.ref i2)) (hTO:IsPair s.heap TO a b) (h1:ItAt κ1 s.heap i1 l1 k) (h2:ItAt κ2 s.heap i2 l2 k) (hl1:SqAt κ1 s.heap l1 xs) (hl2:SqAt κ2 s.heap l2 ys) (hend:xs[k]?=none\/ys[k]?=none)
  (hE:∀h' e,(∀c o,c≠z->c≠TO->c≠i1->c≠i2->s.heap.get? c=some o->h'.get? c=some o)->(∃o,h'.get? e=some o/\o.cls=.type "StopIteration")->E (.ref e) { s with heap:=h' }) :
  wpAny (model prog w) A (Builtin.«zip.__next__» ⟨[.ref z],[]⟩) Q E s:=by
 show wpAny (model prog w) A (field (.ref z) 2 >>= _) _ _ _; refine wpAny_bind (wpAny_field hz rfl (x:=.bool false) rfl ?_)
 show wpAny (model prog w) A (field (.ref z) 3 >>= _) _ _ _; refine wpAny_bind (wpAny_field hz rfl (x:=.ref TI) rfl ?_); refine wpAny_bind (wpAny_seqItems hTI rfl ?_)
 show wpAny (model prog w) A (Builtin.SmallTypes.ownedTupleIsFree (.ref z) >>= _) _ _ _; refine wpAny_bind ?_; unfold Builtin.SmallTypes.ownedTupleIsFree
 refine wpAny_bind (wpAny_field hz rfl (x:=.none) rfl (wpAny_pure ?_)); simp only [if_true]; refine wpAny_bind (wpAny_rule ?_); refine wpAny_bind (wpAny_field hz rfl (x:=.ref TO) rfl ?_)
 refine wpAny_bind (wpAny_setField_rec hz (by simp) fun ha hza hsa=>?_)
 replace hza:IsZip ha z TI TO .ellipsis:=hza
 refine wpAny_bind ?_; simp only [List.zipIdx_cons,List.zipIdx_nil,List.forIn_cons,List.forIn_nil]
 refine wpAny_bind (wpAny_bind (wpAny_onRaise ?_)); show wpAny (model prog w) _ (Builtin.SmallTypes.nextOf (.ref i1) >>= _) _ _ _
 cases hx:xs[k]? with
 | none =>
  refine wpAny_bind (Lr hh (h1.eb hsa.extBut D.i1z) (hl1.eb hsa.extBut D.l1z) hx fun hb e hsb he=>?_)
  obtain⟨oe,hoe,hce⟩:=he
  have hzb:IsZip hb z TI TO .ellipsis:=hsb _ _ D.i1z.symm hza
  have hez:e≠z:=fun x=>by subst x; rw [hzb] at hoe; cases hoe; simp at hce
  exact wpAny_setField_rec hzb (by simp) fun hc _ hsc=>hE hc e (fun c o c1 _ c3 _ x=>hsc.extBut _ _ c1 (hsb _ _ c3 (hsa.extBut _ _ c1 x))) ⟨oe,hsc.extBut _ _ hez hoe,hce⟩
 | some x =>
  have hy:ys[k]?=none:=by
   rcases hend with h | h
   ·rw [hx] at h; cases h
   ·exact h
  refine wpAny_bind (Ge (h1.eb hsa.extBut D.i1z) (hl1.eb hsa.extBut D.l1z) hx fun hb h1b hsb=>wpAny_pure ?_)
  have hTOb:IsPair hb TO a b:=hsb.extBut _ _ D.TOi1 (hsa.extBut _ _ D.TOz hTO)
  refine wpAny_bind (wpAny_seqItems hTOb rfl ?_); refine wpAny_bind (wpAny_updateSeq_pair hTOb fun hc hTOc hsc=>?_)
  refine wpAny_bind (wpAny_letGo (wpAny_pure ?_)); refine wpAny_bind (wpAny_bind (wpAny_onRaise ?_)); show wpAny (model prog w) _ (Builtin.SmallTypes.nextOf (.ref i2) >>= _) _ _ _
  refine wpAny_bind (Lr hh (((h2.eb hsa.extBut D.i2z).eb hsb.extBut D.i12.symm).eb hsc.extBut D.TOi2.symm) (((hl2.eb hsa.extBut D.l2z).eb hsb.extBut D.l2i1).eb hsc.extBut D.l2TO) hy fun hd e hsd he=>?_)
  obtain⟨oe,hoe,hce⟩:=he
  have hzd:IsZip hd z TI TO .ellipsis:=hsd _ _ D.i2z.symm (hsc.extBut _ _ D.TOz.symm (hsb.extBut _ _ D.i1z.symm hza))
  have hez:e≠z:=fun x=>by subst x; rw [hzd] at hoe; cases hoe; simp at hce
  exact wpAny_setField_rec hzd (by simp) fun hf _ hsf=>hE hf e (fun c o c1 c2 c3 c4 x=>hsf.extBut _ _ c1 (hsd _ _ c4 (hsc.extBut _ _ c2 (hsb.extBut _ _ c3 (hsa.extBut _ _ c1 x))))) ⟨oe,hsf.extBut _ _ hez hoe,hce⟩
end
def TJ(κ:Bool):String:=match κ with
 | true => "list_iterator"
 | false => "tuple_iterator"
def P0(κ:Bool)(l:Addr):Obj:={ cls:=.type (TJ κ),data:=.fields #[.ref l,.int 0 0] }
abbrev zA(κ1:Bool)(h:Heap)(l1:Addr):Heap:=h.push (P0 κ1 l1)
abbrev zB(κ1 κ2:Bool)(h:Heap)(l1 l2:Addr):Heap:=(zA κ1 h l1).push (P0 κ2 l2)
abbrev zC(κ1 κ2:Bool)(h:Heap)(l1 l2:Addr):Heap:=(zB κ1 κ2 h l1 l2).push { cls:=.type "tuple",data:=.seq #[.ref h.objs.size,.ref (zA κ1 h l1).objs.size] }
abbrev zD(κ1 κ2:Bool)(h:Heap)(l1 l2:Addr):Heap:=(zC κ1 κ2 h l1 l2).push { cls:=.type "tuple",data:=.seq #[.none,.none] }
abbrev zE(κ1 κ2:Bool)(h:Heap)(l1 l2:Addr):Heap:=(zD κ1 κ2 h l1 l2).push { cls:=.type "zip",data:=.fields #[.none,.bool false,.bool false,.ref (zB κ1 κ2 h l1 l2).objs.size,.ref (zC κ1 κ2 h l1 l2).objs.size] }
theorem RQ(κ1 κ2:Bool)(l1 l2:Addr)(xs ys:Array Value):Meets (Builtin.«zip.__new__» ⟨[.type "zip",.ref l1,.ref l2],[]⟩)
  (fun _ R s=>SqAt κ1 s.heap l1 xs/\SqAt κ2 s.heap l2 ys/\R (.ok (.ret (.ref (zD κ1 κ2 s.heap l1 l2).objs.size))) { s with heap:=zE κ1 κ2 s.heap l1 l2 }) :=
 .of_wp fun prog w A R s h=>by
  obtain⟨hp,g,d,tk,os⟩:=s; obtain⟨hl1,hl2,h⟩:=h
  have hsub:=sub_zip
  have hL2:SqAt κ2 (zA κ1 hp l1) l2 ys:=hl2.mv fun o e=>Heap.get?_push_of_some _ e
  cases κ1 with
  | true =>
   have g1:Heap.IsList (Shared.heap ⟨hp,g,d,tk,os⟩) l1 xs:=hl1
   cases κ2 with
   | true =>
    have g2:Heap.IsList (Shared.heap ⟨hp.push { cls:=.type "list_iterator",data:=.fields #[.ref l1,.int 0 0] },g,d,tk,os⟩) l2 ys:=hL2
    wp_walk using wpAny_pyIter_list g1,wpAny_pyIter_list g2
    exact⟨_,rfl,h⟩
   | false =>
    have g2:Heap.IsTuple (Shared.heap ⟨hp.push { cls:=.type "list_iterator",data:=.fields #[.ref l1,.int 0 0] },g,d,tk,os⟩) l2 ys:=hL2
    wp_walk using wpAny_pyIter_list g1,wpAny_pyIter_tuple g2
    exact⟨_,rfl,h⟩
  | false =>
   have g1:Heap.IsTuple (Shared.heap ⟨hp,g,d,tk,os⟩) l1 xs:=hl1
   cases κ2 with
   | true =>
    have g2:Heap.IsList (Shared.heap ⟨hp.push { cls:=.type "tuple_iterator",data:=.fields #[.ref l1,.int 0 0] },g,d,tk,os⟩) l2 ys:=hL2
    wp_walk using wpAny_pyIter_tuple g1,wpAny_pyIter_list g2
    exact⟨_,rfl,h⟩
   | false =>
    have g2:Heap.IsTuple (Shared.heap ⟨hp.push { cls:=.type "tuple_iterator",data:=.fields #[.ref l1,.int 0 0] },g,d,tk,os⟩) l2 ys:=hL2
    wp_walk using wpAny_pyIter_tuple g1,wpAny_pyIter_tuple g2
    exact⟨_,rfl,h⟩
theorem Lm(κ:Bool)(h:Heap)(l:Addr):ItAt κ (h.push (P0 κ l)) h.objs.size l 0:=by
 cases κ with
 | true=>exact⟨_,Heap.get?_push_size _ rfl,rfl,rfl⟩
 | false=>exact⟨_,Heap.get?_push_size _ rfl,rfl,rfl⟩
section
variable {prog:Program}{w:World}{A:Around}{E:Value->Shared->Prop}{s:Shared}
theorem Kr{κ1 κ2:Bool}{l1 l2:Addr}{xs ys:Array Value}{Q:Value->Shared->Prop}(hl1:SqAt κ1 s.heap l1 xs)(hl2:SqAt κ2 s.heap l2 ys)
  (h:∀h',IsZip h' (s.heap.objs.size+4) (s.heap.objs.size+2) (s.heap.objs.size+3) .none->IsPair h' (s.heap.objs.size+2) (.ref s.heap.objs.size) (.ref (s.heap.objs.size+1))->IsPair h' (s.heap.objs.size+3) .none .none ->
   ItAt κ1 h' s.heap.objs.size l1 0->ItAt κ2 h' (s.heap.objs.size+1) l2 0->(∀c o,s.heap.get? c=some o->h'.get? c=some o)->Q (.ref (s.heap.objs.size+4)) { s with heap:=h' }) :
  wpAny (model prog w) A (call (.type "zip") [.ref l1,.ref l2]) Q E s:=by
 refine callType_new F.called_zip (by decide) (F.typeCall_zip_2 _ _) (F.newCall_zip_2 _ _) (fun obj=>F.args_object_init_3 obj _ _) F.entry_zip_new (RQ κ1 κ2 l1 l2 xs ys) ⟨hl1,hl2,?_⟩
 have z1:(zA κ1 s.heap l1).objs.size=s.heap.objs.size+1:=Heap.size_push ..
 have z2:(zB κ1 κ2 s.heap l1 l2).objs.size=s.heap.objs.size+2:=by rw [Heap.size_push,z1]
 have z3:(zC κ1 κ2 s.heap l1 l2).objs.size=s.heap.objs.size+3:=by rw [Heap.size_push,z2]
 have z4:(zD κ1 κ2 s.heap l1 l2).objs.size=s.heap.objs.size+4:=by rw [Heap.size_push,z3]
 have g5:(zE κ1 κ2 s.heap l1 l2).get? (zD κ1 κ2 s.heap l1 l2).objs.size=some _:=Heap.get?_push_size _ rfl
 have g4:(zE κ1 κ2 s.heap l1 l2).get? (zC κ1 κ2 s.heap l1 l2).objs.size=some _:=Heap.get?_push_of_some _ (Heap.get?_push_size _ rfl)
 have g3:(zE κ1 κ2 s.heap l1 l2).get? (zB κ1 κ2 s.heap l1 l2).objs.size=some _:=Heap.get?_push_of_some _ (Heap.get?_push_of_some _ (Heap.get?_push_size _ rfl))
 have i2:ItAt κ2 (zE κ1 κ2 s.heap l1 l2) (zA κ1 s.heap l1).objs.size l2 0:=(Lm κ2 (zA κ1 s.heap l1) l2).mv fun o e=>Heap.get?_push_of_some _ (Heap.get?_push_of_some _ (Heap.get?_push_of_some _ e))
 have i1:ItAt κ1 (zE κ1 κ2 s.heap l1 l2) s.heap.objs.size l1 0:=(Lm κ1 s.heap l1).mv fun o e=>Heap.get?_push_of_some _ (Heap.get?_push_of_some _ (Heap.get?_push_of_some _ (Heap.get?_push_of_some _ e)))
 rw [z4] at g5
 rw [z3] at g4
 rw [z2] at g3
 rw [z1] at i2
 have fin:=h (zE κ1 κ2 s.heap l1 l2) (by rw [IsZip,g5,z2,z3]) (by rw [IsPair,g3,z1]) g4 i1 i2 (fun c o e=>Heap.get?_push_of_some _ (Heap.get?_push_of_some _ (Heap.get?_push_of_some _ (Heap.get?_push_of_some _ (Heap.get?_push_of_some _ e)))))
 refine⟨⟨_,by rw [z4]; exact g5,rfl⟩,?_⟩
 rw [z4]
 exact fin
theorem Ir{κ1 κ2:Bool}{z TI TO i1 i2 l1 l2:Addr}{k:Nat}{xs ys:Array Value}{x y a b:Value}{Q:Option Value->Shared->Prop}(D:Ty z TI TO i1 i2 l1 l2)
  (hz:IsZip s.heap z TI TO .none) (hTI:IsPair s.heap TI (.ref i1) (.ref i2)) (hTO:IsPair s.heap TO a b) (h1:ItAt κ1 s.heap i1 l1 k) (h2:ItAt κ2 s.heap i2 l2 k) (hl1:SqAt κ1 s.heap l1 xs) (hl2:SqAt κ2 s.heap l2 ys) (hx:xs[k]?=some x) (hy:ys[k]?=some y)
  (hQ:∀h',IsZip h' z TI TO (rawInt s.heap.objs.size)->IsPair h' TO x y->ItAt κ1 h' i1 l1 (k+1)->ItAt κ2 h' i2 l2 (k+1)->IsPair h' s.heap.objs.size x y->h'.objs.size=s.heap.objs.size+1->(∀c o,c≠z->c≠TO->c≠i1->c≠i2->s.heap.get? c=some o->h'.get? c=some o)->Q (some (.ref s.heap.objs.size)) { s with heap:=h' }) :
  wpAny (model prog w) A (pyNext (.ref z)) Q E s:=by
 have hT:s.TypeIs (.ref z) "zip":=⟨_,hz,rfl⟩
 unfold pyNext
 exact wpAny_bind (wpAny_attempt (wpAny_callSpecial?_slot (name:=Str.ofString "__next__") hT F.slot_zip_next (wpAny_call_entry F.slot_zip_next hT F.entry_zip_next
  (Om D hz hTI hTO h1 h2 hl1 hl2 hx hy fun h' a1 a2 a3 a4 a5 a6 a7=>wpAny_pure (hQ h' a1 a2 a3 a4 a5 a6 a7)) (F.args_zip_next_1 _))))
theorem KQ{κ1 κ2:Bool}{z TI TO i1 i2 l1 l2:Addr}{k:Nat}{xs ys:Array Value}{a b:Value}{Q:Option Value->Shared->Prop}(hh:A.handled=none)(D:Ty z TI TO i1 i2 l1 l2)
  (hz:IsZip s.heap z TI TO .none) (hTI:IsPair s.heap TI (.ref i1) (.ref i2)) (hTO:IsPair s.heap TO a b) (h1:ItAt κ1 s.heap i1 l1 k) (h2:ItAt κ2 s.heap i2 l2 k) (hl1:SqAt κ1 s.heap l1 xs) (hl2:SqAt κ2 s.heap l2 ys) (hend:xs[k]?=none\/ys[k]?=none)
  (hQ:∀h',(∀c o,c≠z->c≠TO->c≠i1->c≠i2->s.heap.get? c=some o->h'.get? c=some o)->Q none { s with heap:=h' }):wpAny (model prog w) A (pyNext (.ref z)) Q E s:=by
 have hT:s.TypeIs (.ref z) "zip":=⟨_,hz,rfl⟩
 unfold pyNext
 refine wpAny_bind (wpAny_attempt (wpAny_callSpecial?_slot (name:=Str.ofString "__next__") hT F.slot_zip_next (wpAny_call_entry F.slot_zip_next hT F.entry_zip_next (Qy hh D hz hTI hTO h1 h2 hl1 hl2 hend fun h' e hk he=>?_) (F.args_zip_next_1 _))))
 obtain⟨o,ho,hc⟩:=he
 exact wpAny_bind (wpAny_isInstance (T := "StopIteration") (b:=true) ⟨o,ho,hc⟩ isSubtype_stop (wpAny_pure (hQ _ hk)))
end
section
variable {X:Cx}{pins:List (Addr×Obj)}{σ:L2.St}{H:Hp}{s:Shared}{h':Heap}
theorem Inv.turnedL{t':Nat}{ch:List Addr}(I:Inv X pins σ H s)(hf:∀b∈ch,GI X pins H b)(k:∀b o,b∉ch->s.heap.get? b=some o->h'.get? b=some o):Inv X pins σ H { s with heap:=h',toks:=t' }:=by
 have nit:∀b u,H b=some u->b∉ch:=fun b u e z=>by rw [(hf b z).1] at e; cases e
 refine I.step (g':=s.gens) (d':=s.drawn) (ch:=ch) (fun b hb=>?_) (fun b o _ _ hc e _=>k b o hc e) (fun b o _ _ hc e _=>⟨o.slots,k b o hc e⟩) (fun _ _ _ _ n=>n) (fun b o hc e=>⟨o,k b o hc e⟩) (fun _ _ e=>e) (fun _ _ _ e=>e) (fun b ps e=>⟨#[],by rw [e]; simp⟩) (fun m hm=>?_) (fun b u e=>?_) I.bare
 ·obtain⟨f0,f1,f2,f3,f4,f5⟩:=hf b hb
  exact⟨f3,f1,f4,f5⟩
 ·obtain⟨o,es,ep,ho,r⟩:=hm
  exact⟨o,es,ep,k _ o (fun z=>(hf _ z).2.1 rfl) ho,r⟩
 ·exact(I.hok b u e).stay (fun c v hc q=>k c v (hc.elim (fun z=>by rw [z]; exact nit b u e) fun z=>nit c _ z) q) (fun _ q=>q) fun _ _ q=>q
theorem Inv.turnLaid{t':Nat}{ch:List Addr}{a:Addr}{o:HO}(I:Inv X pins σ H s)(hf:∀b∈ch,GI X pins H b)(k:∀b o,b∉ch->s.heap.get? b=some o->h'.get? b=some o)(ha:s.heap.objs.size<=a)(new:ObjOk X.prog X.w (BA H a o) h' a o) :
  Inv X pins σ (BA H a o) { s with heap:=h',toks:=t' }:=by
 have nit:∀b u,H b=some u->b∉ch:=fun b u e z=>by rw [(hf b z).1] at e; cases e
 have hn:H a=none:=I.hok.fresh ha
 have up:∀b u,H b=some u->BA H a o b=some u:=fun b u e=>by rw [AU (BB e hn)]; exact e
 refine I.step (g':=s.gens) (d':=s.drawn) (ch:=ch) (fun b hb=>?_) (fun b o _ _ hc e _=>k b o hc e) (fun b o _ _ hc e _=>⟨o.slots,k b o hc e⟩) (fun b u _ e n=>?_) (fun b o hc e=>⟨o,k b o hc e⟩) (fun b xs e=>up _ _ e) (fun b o u e=>up _ _ e) (fun b ps e=>⟨#[],by rw [up _ _ e]; simp⟩) (fun m hm=>?_) (fun b u e=>?_) I.bare
 ·obtain⟨f0,f1,f2,f3,f4,f5⟩:=hf b hb
  exact⟨f3,f1,f4,f5⟩
 ·rw [AU (Nat.ne_of_lt (Nat.lt_of_lt_of_le (Heap.lt_size e) ha))]; exact n
 ·obtain⟨o,es,ep,ho,r⟩:=hm
  exact⟨o,es,ep,k _ o (fun z=>(hf _ z).2.1 rfl) ho,r⟩
 ·by_cases hb:b=a
  ·subst hb; rw [Ab] at e; cases e; exact new
  ·rw [AU hb] at e
   exact(I.hok b u e).stay (fun c v hc q=>k c v (hc.elim (fun z=>by rw [z]; exact nit b u e) fun z=>nit c _ z) q) (fun c q=>up _ _ q) fun c xs q=>up _ _ q
end
def SqK(κ:Bool)(K:Frag)(H:Hp)(a:Addr)(xs:List V):Prop:=match κ with
 | true=>SqL K H a xs
 | false=>SqT K H a xs
theorem SqK.at{κ:Bool}{X:Cx}{pins:List (Addr×Obj)}{σ:L2.St}{H:Hp}{s:Shared}{a:Addr}{xs:List V}(I:Inv X pins σ H s)(h:SqK κ X.K H a xs):∃its:List Value,Vals xs its/\SqAt κ s.heap a its.toArray:=by
 cases κ with
 | true=>obtain⟨its,r,pl,_⟩:=I.list h; exact⟨its,r,pl.isList⟩
 | false=>obtain⟨its,r,p,_⟩:=I.tuple h; exact⟨its,r,p⟩
def T3 (K : Frag) (κ1 κ2 : Bool) (a b : Addr) (xs ys : List V) : It :=
  ⟨fun i H => SqK κ1 K H a xs ∧ SqK κ2 K H b ys ∧ i < xs.length ∧ i < ys.length, fun i H x H' => ∃ T p q, x = .ref T ∧ H T = none ∧ H' = BA H T (.tup [p, q]) ∧ xs[i]? = some p ∧ ys[i]? = some q,
   fun i H => SqK κ1 K H a xs ∧ SqK κ2 K H b ys ∧ (xs.length ≤ i ∨ ys.length ≤ i)⟩
structure Uy (κ1 κ2:Bool) (z TI TO i1 i2 a b:Addr) (k:Nat) (h:Heap):Prop where
 z:IsZip h z TI TO .none
 ti:IsPair h TI (.ref i1) (.ref i2)
 to:∃a b,IsPair h TO a b
 i1:ItAt κ1 h i1 a k
 i2:ItAt κ2 h i2 b k
theorem Ov{P:Program}{w:World}{K:Frag}{es:List Expr}{j:Nat}{pos:Pos}(κ1 κ2:Bool)(z TI TO i1 i2 a b:Addr)(xs ys:List V)(D:Ty z TI TO i1 i2 a b)(hTI:TI∉[z,TO,i1,i2]) :
  L8 P w K (.Tuple es j pos) (T3 K κ1 κ2 a b xs ys) [z,TI,TO,i1,i2] z (Uy κ1 κ2 z TI TO i1 i2 a b) where
 mem:=by simp
 obj:=fun i h st c hc=>by
  simp only [List.mem_cons,List.not_mem_nil,or_false] at hc
  rcases hc with rfl | rfl | rfl | rfl | rfl
  ·exact⟨_,st.z,fun v q=>by cases q⟩
  ·exact⟨_,st.ti,fun v q=>by cases q⟩
  ·obtain⟨a,b,e⟩:=st.to
   exact⟨_,e,fun v q=>by cases q⟩
  ·exact st.i1.lies
  ·exact st.i2.lies
 keep:=fun i h h' st k=>by
  obtain⟨p,q,e⟩:=st.to
  exact⟨k z (by simp) _ st.z,k TI (by simp) _ st.ti,⟨p,q,k TO (by simp) _ e⟩,st.i1.mv fun o e=>k i1 (by simp) o e,st.i2.mv fun o e=>k i2 (by simp) o e⟩
 item:=by
  intro X hP hw hK hc i pins s σ H E I hf st hg
  subst hP hw hK
  obtain⟨ha,hb,hi,hj⟩:=hg
  obtain⟨us,r1,q1⟩:=ha.at I
  obtain⟨ws,r2,q2⟩:=hb.at I
  obtain⟨u,hu,ru⟩:=r1.get (List.getElem?_eq_getElem hi)
  obtain⟨v,hv,rv⟩:=r2.get (List.getElem?_eq_getElem hj)
  obtain⟨p,q,e⟩:=st.to
  refine Ir D st.z st.ti e st.i1 st.i2 q1 q2 (x:=u) (y:=v) (by simpa using hu) (by simpa using hv) fun h' a1 a2 a3 a4 a5 a6 a7=>⟨_,rfl,?_⟩
  refine wpAny_letOwnedTupleGo_zip a1 fun h2 b1 b2=>?_
  have hT:H s.heap.objs.size=none:=I.hok.fresh (Nat.le_refl _)
  have kk:∀c o,c∉[z,TO,i1,i2]->s.heap.get? c=some o->h2.get? c=some o:=fun c o hc e=>by
   simp only [List.mem_cons,List.not_mem_nil,or_false,not_or] at hc
   exact b2.extBut _ _ hc.1 (a7 c o hc.1 hc.2.1 hc.2.2.1 hc.2.2.2 e)
  have I2:Inv X pins σ (BA H s.heap.objs.size (.tup [xs[i],ys[i]])) { s with heap:=h2 }:=by
   refine I.turnLaid (t':=s.toks) (ch:=[z,TO,i1,i2]) (fun c hc=>hf c ?_) kk (Nat.le_refl _) ?_
   ·simp only [List.mem_cons,List.not_mem_nil,or_false] at hc ⊢
    rcases hc with rfl | rfl | rfl | rfl <;> simp
   ·have nT:s.heap.objs.size≠z:=Nat.ne_of_gt (Heap.lt_size st.z)
    exact⟨by show 2<=sizeLine; decide,[u,v],.cons ru (.cons rv .nil),⟨_,b2.extBut _ _ nT a5,rfl,_,rfl⟩⟩
  have ti2:IsPair h2 TI (.ref i1) (.ref i2):=kk _ _ hTI st.ti
  refine⟨.ref s.heap.objs.size,_,I2,rfl,⟨_,_,_,rfl,hT,rfl,List.getElem?_eq_getElem hi,List.getElem?_eq_getElem hj⟩,⟨b1,ti2,⟨_,_,b2.extBut _ _ D.TOz a2⟩,a3.eb b2.extBut D.i1z,a4.eb b2.extBut D.i2z⟩,fun c hc=>?_⟩
  have hcn:H c=none:=(hf c hc).1
  have hlt:c≠s.heap.objs.size:=fun z=>by
   obtain⟨o,ho,_⟩:∃o,s.heap.get? c=some o/\True:=by
    simp only [List.mem_cons,List.not_mem_nil,or_false] at hc
    rcases hc with rfl | rfl | rfl | rfl | rfl
    ·exact⟨_,st.z,trivial⟩
    ·exact⟨_,st.ti,trivial⟩
    ·exact⟨_,e,trivial⟩
    ·obtain⟨o,q,_⟩:=st.i1.lies; exact⟨o,q,trivial⟩
    ·obtain⟨o,q,_⟩:=st.i2.lies; exact⟨o,q,trivial⟩
   rw [z] at ho
   exact Nat.lt_irrefl _ (Heap.lt_size ho)
  rw [AU hlt]; exact hcn
 done:=by
  intro X hP hw hK hc i pins s σ H E I hf st hg
  subst hP hw hK
  obtain⟨ha,hb,hi⟩:=hg
  obtain⟨us,r1,q1⟩:=ha.at I
  obtain⟨ws,r2,q2⟩:=hb.at I
  obtain⟨p,q,e⟩:=st.to
  have l1:=r1.length
  have l2:=r2.length
  refine KQ (I.ok.hd hc) D st.z st.ti e st.i1 st.i2 q1 q2 (hi.imp (fun hi=>by simp; omega) fun hi=>by simp; omega) fun h' kk=>⟨rfl,?_⟩
  refine I.turnedL (t':=s.toks) (ch:=[z,TO,i1,i2]) (fun c hc=>hf c ?_) fun c o hc e=>?_
  ·simp only [List.mem_cons,List.not_mem_nil,or_false] at hc ⊢
   rcases hc with rfl | rfl | rfl | rfl <;> simp
  ·simp only [List.mem_cons,List.not_mem_nil,or_false,not_or] at hc
   exact kk c o hc.1 hc.2.1 hc.2.2.1 hc.2.2.2 e
 self:=fun A i s Q E st h=>wpAny_pyIter_zip st.z h
section
variable {X:Cx}
theorem SQ(n a b:Nat)(h1:a<n)(h2:b<n):Ty (n+4) (n+2) (n+3) n (n+1) a b:=by
 constructor <;> (show (_:Nat)≠(_:Nat); omega)
theorem SO(n:Nat):(n+2)∉[n+4,n+3,n,n+1]:=by
 simp only [List.mem_cons,List.not_mem_nil,or_false,not_or]
 omega
theorem SR(n c:Nat)(h:c∈[n+4,n+2,n+3,n,n+1]):n<=c:=by
 simp only [List.mem_cons,List.not_mem_nil,or_false] at h
 omega
def Ve(K:Frag)(ta:TA):TI:=fun σ H R=>ta σ H fun vs H1=>∃κ1 κ2 a b xs ys,vs=[.ref a,.ref b]/\SqK κ1 K H1 a xs/\SqK κ2 K H1 b ys/\R (T3 K κ1 κ2 a b xs ys) H1
theorem Ss{e1 e2:Expr}{es:List Expr}{j:Nat}{tpos:Pos}{ta:TA}{p pos:Pos}(hg:Gl X "zip")(hm:X.mg "zip"=none)(ha:PA X [e1,e2] ta)(hs:starEach [e1,e2] X.env=[(false,eval e1 X.env),(false,eval e2 X.env)]:=by rfl)(hs2:starEach [e2] X.env=[(false,eval e2 X.env)]:=by rfl) :
  PI X (.Tuple es j tpos) (.Call (.Name "zip" p) [e1,e2] [] pos) (Ve X.K ta):=by
 intro pins s σ H R I h
 refine Call_ (FQ I hg hm boot_zip (PyProof.Rows.callWith_type1 (Bp (ha pos pins s σ H _ I h) fun us s1 ⟨vs,H1,I1,r1,q1⟩=>?_) (by rw [hs,hs2]) (by rw [hs2]; rfl)))
 obtain⟨κ1,κ2,a,b,xs,ys,e,h1,h2,q⟩:=q1
 subst e
 obtain⟨u,v,rfl,ru,rv⟩:=Mv r1
 cases ru
 cases rv
 obtain⟨us,r1',q1⟩:=h1.at I1
 obtain⟨ws,r2',q2⟩:=h2.at I1
 have la:a<s1.heap.objs.size:=by obtain⟨o,e⟩:=q1.lies; exact Heap.lt_size e
 have lb:b<s1.heap.objs.size:=by obtain⟨o,e⟩:=q2.lies; exact Heap.lt_size e
 refine Kr q1 q2 fun h' hz hTI hTO hi1 hi2 hk=>?_
 refine wpAny_pyIter_zip hz ?_
 have D:=SQ s1.heap.objs.size a b la lb
 refine⟨s1.heap.objs.size+4,[s1.heap.objs.size+4,s1.heap.objs.size+2,s1.heap.objs.size+3,s1.heap.objs.size,s1.heap.objs.size+1],_,T3 X.K κ1 κ2 a b xs ys,H1,rfl,I1.kept (t':=s1.toks) hk,Ov κ1 κ2 _ _ _ _ _ a b xs ys D (SO s1.heap.objs.size),⟨hz,hTI,⟨_,_,hTO⟩,hi1,hi2⟩,fun c hc=>?_,q⟩
 have hge:s1.heap.objs.size<=c:=SR s1.heap.objs.size c hc
 exact I1.fpOk hge (I1.hok.fresh hge)
end
end L2
namespace Dp
open PySem PySem.Spec PyProof.Rows L2
def Dz(ds es:List D):List D:=List.zipWith (fun d e=>.tup [d,e]) ds es
section
variable {K:Frag}
theorem MI{U V' M:Addr->Prop}{H:Hp}{d:D}{v:V}{ds:List D}(h:AtT K V' M H d v)(e:Id d=some ds)(uV:∀a,U a->V' a)(vM:∀a,V' a->M a):∃κ a vs,v=.ref a/\Ats K M H ds vs/\∀M' H',Pres M H M' H'->Ext U H H'->SqK κ K H' a vs:=by
 cases d with
 | lst xs =>
  cases e
  obtain⟨a,vs,e1,n1,hq,hs⟩:=h
  refine⟨true,a,vs,e1,hs,fun M' H' _ ex=>?_⟩
  rcases hq with hq | ⟨o,hq⟩
  ·exact .inl (.inl (ex.keep hq fun z=>n1 (uV a z)))
  ·exact .inl (.inr ⟨o,ex.keep hq fun z=>n1 (uV a z)⟩)
 | tup xs =>
  cases e
  obtain⟨a,vs,e1,hq,hs⟩:=h
  exact⟨false,a,vs,e1,hs,fun M' H' pr _=>(hq.pres pr).sq⟩
 | _=>cases e
theorem L_{M:Addr->Prop}{H:Hp}{κ1 κ2:Bool}{a b:Addr}{vs us:List V}{ds es:List D}(hs:Ats K M H ds vs)(ht:Ats K M H es us){i:Nat}{M':Addr->Prop}{H':Hp}(pr:Pres M H M' H')(h1:SqK κ1 K H' a vs)(h2:SqK κ2 K H' b us)(dom:∀a,M' a->∃o,H' a=some o) :
  (∀d,(Dz ds es)[i]?=some d->(T3 K κ1 κ2 a b vs us).go i H'/\∀x H2,(T3 K κ1 κ2 a b vs us).yld i H' x H2->Grow H' H2/\At K M' H2 d x)/\((Dz ds es).length<=i->(T3 K κ1 κ2 a b vs us).stop i H'):=by
 have l1:=hs.length
 have l2:=ht.length
 refine⟨fun d hd=>?_,fun hl=>⟨h1,h2,?_⟩⟩
 ·unfold Dz at hd
  rw [List.getElem?_zipWith] at hd
  cases q1:ds[i]? with
  | none=>rw [q1] at hd; simp at hd
  | some d1 =>
   cases q2:es[i]? with
   | none=>rw [q1,q2] at hd; simp at hd
   | some d2 =>
    rw [q1,q2] at hd
    have hd':D.tup [d1,d2]=d:=Option.some.inj hd
    have i1:i<ds.length:=(List.getElem?_eq_some_iff.mp q1).1
    have i2:i<es.length:=(List.getElem?_eq_some_iff.mp q2).1
    refine⟨⟨h1,h2,by omega,by omega⟩,fun x H2 y=>?_⟩
    obtain⟨T,p,q,rfl,hT,rfl,e1,e2⟩:=y
    obtain⟨v1,f1,a1⟩:=(hs.pres pr).get q1
    obtain⟨v2,f2,a2⟩:=(ht.pres pr).get q2
    rw [e1] at f1
    rw [e2] at f2
    cases f1
    cases f2
    subst hd'
    exact⟨Av hT,DP dom hT ⟨p,[q],rfl,a1,q,[],rfl,a2,rfl⟩⟩
 ·unfold Dz at hl
  rw [List.length_zipWith] at hl
  omega
end
section
variable {X:Cx}{e1 e2:Expr}{es:List Expr}{j:Nat}{tpos p pos:Pos}{ws:GJ}
def T7(ws:GJ):GJ:=fun n ρ P=>ws n ρ fun ds n1=>∃d e xs ys,ds=[d,e]/\Id d=some xs/\Id e=some ys/\P (Dz xs ys) n1
theorem Rh(hg:Gl X "zip")(hm:X.mg "zip"=none)(ha:Tw X [e1,e2] ws)(hs:starEach [e1,e2] X.env=[(false,eval e1 X.env),(false,eval e2 X.env)]:=by rfl)(hs2:starEach [e2] X.env=[(false,eval e2 X.env)]:=by rfl) :
  T4 X (.Tuple es j tpos) (.Call (.Name "zip" p) [e1,e2] [] pos) (T7 ws):=by
 obtain⟨t,a1,a2⟩:=ha
 refine⟨_,Ss hg hm a1 hs hs2,fun C M H n ρ σ P Rr R w q=>?_⟩
 refine a2 C M H n ρ σ _ _ R w fun vs H1 ds n1 ee f1 r1 p=>?_
 obtain⟨d,e,xs,ys,rfl,hd,he,p⟩:=p
 cases r1 with
 | cons r rr =>
  cases rr with
  | cons r' rr =>
   cases rr
   have R1:=R.step ee f1
   obtain⟨κ1,a,us,rfl,h1,s1⟩:=MI (U:=C.U) r hd R.uV R1.vM
   obtain⟨κ2,b,us',rfl,h2,s2⟩:=MI (U:=C.U) r' he R.uV R1.vM
   refine⟨κ1,κ2,a,b,us,us',rfl,s1 M H1 (Pres.refl _ _) (Ext.refl _ _),s2 M H1 (Pres.refl _ _) (Ext.refl _ _),q _ H1 _ n1 ee f1 (fun i M' H' pr ex dom=>L_ h1 h2 pr (s1 M' H' pr ex) (s2 M' H' pr ex) dom) p⟩
def Vc:D->Option AY
 | .int i=>some (.inl i)
 | .str x=>some (.inr x)
 | _=>none
def Fw:List D->Option (List AY)
 | []=>some []
 | d::ds=>match Vc d,Fw ds with
  | some k,some ks=>some (k::ks)
  | _,_=>none
theorem Fv{K:Frag}{M:Addr->Prop}{H:Hp}:∀{ds:List D} {vs:List V} {ks:List AY},Fw ds=some ks->Ats K M H ds vs->vs=ks.map Ga
 | [],vs,ks,e,h=>by cases e; exact h
 | d::ds,vs,ks,e,h=>by
  obtain⟨v,r,e1,h1,h2⟩:=h
  unfold Fw at e
  split at e
  ·rename_i k ks' hk hks
   cases e
   rw [e1,Fv hks h2,List.map_cons]
   congr 1
   cases d with
   | int i=>cases hk; exact h1
   | str x=>cases hk; exact h1.1
   | _=>cases hk
  ·cases e
def FT(d e:D)(P:D->Prop):Prop:=match d,e with
 | .int i,.int j=>P (.bl (decide (i<j)))
 | .str i,.str j=>P (.bl (decide (i.cps.toList<j.cps.toList)))
 | .tup xs,.tup ys=>∃ks ls,Fw xs=some ks/\Fw ys=some ls/\CL ks ls=true/\P (.bl (Ea ks ls))
 | _,_=>False
def UU(K:Frag):R2:=fun x y H Q=>Sj x y H Q\/UT K x y H Q
theorem EZ{k:Nat}(hr:Room k X.A):OpR X (compareOp .Lt) (UU X.K):=op_ltU.or (S2 hr.units0)
theorem G1:Gp X.K .sh (UU X.K) FT:=fun U M H d e x y P Q dom vM hx hy w q=>by
 unfold FT at w
 split at w
 ·exact .inl (SL (X:=X) U M H (.int _) (.int _) x y P Q dom vM hx hy w q)
 ·exact .inl (SL (X:=X) U M H (.str _) (.str _) x y P Q dom vM hx hy w q)
 ·obtain⟨ks,ls,h1,h2,h3,w⟩:=w
  obtain⟨a,vs,rfl,ha,hs⟩:=hx.tup
  obtain⟨b,us,rfl,hb,ht⟩:=hy.tup
  have e1:=Fv h1 hs
  have e2:=Fv h2 ht
  subst e1 e2
  exact .inr ⟨a,b,ks,ls,rfl,rfl,ha.sq,hb.sq,h3,q _ H (.bl _) .refl rfl w⟩
 ·exact w.elim
end
end Dp
namespace L2
open PySem PySem.Spec PyProof.Rows
section
variable {prog:Program}{w:World}{A:Around}{E:Value->Shared->Prop}{s:Shared}
theorem LH{t sl:Addr}{items:Array Value}{vl vu:Value}{lo hi:Option Int}{Q:Value->Shared->Prop}(ht:IsTup s.heap t items)(hs:s.heap.IsSliceOf sl vl vu .none)(pl:IsPart vl lo)(pu:IsPart vu hi)
  (hw:HT.sIx items.size 0 lo=0/\HT.sIx items.size items.size hi=items.size) (h:Q (.ref t) s):wpAny (model prog w) A (getItem (.ref t) (.ref sl)) Q E s:=by
 obtain⟨os,hos,hcs,hds⟩:=id hs
 have hTs:s.TypeIs (.ref sl) "slice":=⟨os,hos,hcs⟩
 unfold getItem
 (try with_reducible refine wpAny_holding ?_); (first | refine wpAny_bind (wpAny_pure ?_) | skip)
 refine wpAny_bind (wpAny_sequenceKey ht.typeIs (by decide) (wpAny_bind (wpAny_callSpecial?_slot (name:=Str.ofString "__getitem__") ht.typeIs PyProof.Rows.slot_tuple_getitem (wpAny_call_entry PyProof.Rows.slot_tuple_getitem ht.typeIs entry_tuple_getitem ?_ (args_tuple_getitem _ _)))))
 show wpAny (model prog w) _ (Builtin.Tuple.tupleItemsOf (.ref t) >>= _) _ _ s
 refine wpAny_bind (tupleItemsOf_ ht (wpAny_bind (wpAny_typeOf hTs ?_))); rw [if_pos (by decide)]
 refine wpAny_bind (HT.sliceApplied_gen hs pl pu ?_)
 have hyes:(((HT.sIx items.size 0 lo:Nat):Int)==0&&(1:Int)==1&&(HT.sIx items.size items.size hi - HT.sIx items.size 0 lo)==items.size)=true:=by rw [hw.1,hw.2]; simp
 show wpAny (model prog w) _ (if (((HT.sIx items.size 0 lo:Nat):Int)==0&&(1:Int)==1&&(HT.sIx items.size items.size hi - HT.sIx items.size 0 lo)==items.size)=true then _ else _) _ _ s
 rw [if_pos hyes]
 refine wpAny_bind (m:=Builtin.Tuple.tupleIsExact _) ?_
 unfold Builtin.Tuple.tupleIsExact
 refine wpAny_bind (wpAny_typeOf ht.typeIs (wpAny_pure ?_))
 show wpAny (model prog w) _ (if ((Value.type "tuple"==Value.type "tuple")=true) then _ else _) _ _ s
 rw [if_pos (by decide)]
 first
  | exact wpAny_bind (wpAny_rule (wpAny_bind (wpAny_pure (wpAny_pure ⟨_,rfl,wpAny_pure h⟩))))
  | exact wpAny_bind (wpAny_rule (wpAny_pure ⟨_,rfl,wpAny_pure h⟩))
  | exact wpAny_bind (wpAny_bind (wpAny_rule (wpAny_pure (wpAny_pure ⟨_,rfl,wpAny_pure h⟩))))
theorem IG{α β:Type}{f g:α->Option β}:∀{l:List α},(∀a∈l,f a=g a)->l.filterMap f=l.filterMap g
 | [],_=>rfl
 | a::l,h=>by
  have ih:=IG (f:=f) (g:=g) (l:=l) fun x hx=>h x (List.mem_cons_of_mem _ hx)
  rw [List.filterMap_cons,List.filterMap_cons,h a List.mem_cons_self,ih]
theorem O7(l:List Value):∀(n:Nat),n<=l.length->((List.range n).filterMap fun(k:Nat)=>l[n - 1 - k]?)=(l.take n).reverse:=by
 intro n
 induction n with
 | zero=>intro _; simp
 | succ n ih =>
  intro h
  have hlt:n<l.length:=h
  rw [List.range_succ_eq_map,List.filterMap_cons]
  have e0:l[n+1 - 1 - 0]?=some l[n]:=by rw [show n+1 - 1 - 0=n by omega,List.getElem?_eq_getElem hlt]
  simp only [e0]
  rw [List.filterMap_map]
  have e1:((fun(k:Nat)=>l[n+1 - 1 - k]?)∘Nat.succ)=fun(k:Nat)=>l[n - 1 - k]?:=by
   funext k
   show l[n+1 - 1 - (k+1)]?=l[n - 1 - k]?
   rw [show n+1 - 1 - (k+1)=n - 1 - k by omega]
  rw [e1,ih (by omega),List.take_add_one,List.getElem?_eq_getElem hlt,List.reverse_append]
  rfl
theorem Fk(xs:Array Value):((List.range xs.size).filterMap fun(k:Nat)=>xs[(((xs.size:Int) - 1)+(k:Int)*(-1)).toNat]?).toArray=xs.toList.reverse.toArray:=by
 have h:=O7 xs.toList xs.toList.length (Nat.le_refl _)
 rw [List.take_length] at h
 have e:(List.range xs.size).filterMap (fun(k:Nat)=>xs[(((xs.size:Int) - 1)+(k:Int)*(-1)).toNat]?)=(List.range xs.toList.length).filterMap fun(k:Nat)=>xs.toList[xs.toList.length - 1 - k]?:=by
  rw [show xs.toList.length=xs.size from Array.length_toList]
  refine IG fun k hk=>?_
  have hk:=List.mem_range.mp hk
  rw [show (((xs.size:Int) - 1)+(k:Int)*(-1)).toNat=xs.size - 1 - k by omega]
  simp
 rw [e,h]
theorem L4{sl:Addr}{t:Tok}{n:Nat}{Q:Int×Int×Nat->Shared->Prop}(hs:s.heap.IsSliceOf sl .none .none (.int (-1) t))(h:Q ((n:Int) - 1,-1,n) s):wpAny (model prog w) A (Builtin.Slice.sliceApplied (.ref sl) (pure (n:Int))) Q E s:=by
 obtain⟨os,hos,hcs,hds⟩:=id hs
 unfold Builtin.Slice.sliceApplied Builtin.Slice.sliceFields
 refine wpAny_bind (wpAny_bind (wpAny_field hos hds (x:=.none) rfl (wpAny_bind (wpAny_field hos hds (x:=.none) rfl (wpAny_bind (wpAny_field hos hds (x:=.int (-1) t) rfl (wpAny_pure ?_)))))))
 refine wpAny_bind (HT.slicePart_ (IsPart.int (-1) t) ?_)
 show wpAny (model prog w) _ (if ((-1:Int)==0)=true then _ else _) _ _ s
 rw [if_neg (by decide)]
 refine wpAny_bind (HT.slicePart_ IsPart.none (wpAny_bind (HT.slicePart_ IsPart.none (wpAny_bind (wpAny_pure ?_)))))
 show wpAny (model prog w) _ (match Builtin.Slice.sliceAdjust none none (-1) (n:Int) with | (lo,hi)=>pure (lo,(-1:Int),Builtin.Slice.slicePlaces lo hi (-1))) _ _ s
 have e1:Builtin.Slice.sliceAdjust none none (-1) (n:Int)=((n:Int) - 1,-1):=rfl
 rw [e1]
 have e2:Builtin.Slice.slicePlaces ((n:Int) - 1) (-1) (-1)=n:=by
  unfold Builtin.Slice.slicePlaces
  rw [if_neg (by decide)]
  by_cases hn:(n:Int) - 1 > -1
  ·rw [if_pos hn]
   simp
  ·rw [if_neg hn]
   omega
 show wpAny (model prog w) _ (pure ((n:Int) - 1,(-1:Int),Builtin.Slice.slicePlaces ((n:Int) - 1) (-1) (-1))) _ _ s
 rw [e2]
 exact wpAny_pure h
theorem Nw{t sl:Addr}{items:Array Value}{tk:Tok}{Q:Value->Shared->Prop}(ht:IsTup s.heap t items)(hs:s.heap.IsSliceOf sl .none .none (.int (-1) tk))(hsz:items.size<=sizeLine)
  (h:Q (.ref s.heap.objs.size) { s with heap:=s.heap.push { cls:=.type "tuple",data:=.seq items.toList.reverse.toArray } }):wpAny (model prog w) A (getItem (.ref t) (.ref sl)) Q E s:=by
 obtain⟨os,hos,hcs,hds⟩:=id hs
 have hTs:s.TypeIs (.ref sl) "slice":=⟨os,hos,hcs⟩
 have htake:sizeOk (.seq items.toList.reverse.toArray):=by
  show items.toList.reverse.toArray.size<=sizeLine
  simpa using hsz
 unfold getItem
 (try with_reducible refine wpAny_holding ?_); (first | refine wpAny_bind (wpAny_pure ?_) | skip)
 refine wpAny_bind (wpAny_sequenceKey ht.typeIs (by decide) (wpAny_bind (wpAny_callSpecial?_slot (name:=Str.ofString "__getitem__") ht.typeIs PyProof.Rows.slot_tuple_getitem (wpAny_call_entry PyProof.Rows.slot_tuple_getitem ht.typeIs entry_tuple_getitem ?_ (args_tuple_getitem _ _)))))
 show wpAny (model prog w) _ (Builtin.Tuple.tupleItemsOf (.ref t) >>= _) _ _ s
 refine wpAny_bind (tupleItemsOf_ ht (wpAny_bind (wpAny_typeOf hTs ?_))); rw [if_pos (by decide)]
 refine wpAny_bind (L4 hs ?_)
 have hno:¬(((items.size:Int) - 1==0&&(-1:Int)==1&&items.size==items.size)=true):=by simp
 show wpAny (model prog w) _ (if ((items.size:Int) - 1==0&&(-1:Int)==1&&items.size==items.size)=true then _ else _) _ _ s
 rw [if_neg hno,Fk]
 first
  | exact wpAny_bind (m:=Builtin.Tuple.tupleExact _) (wpAny_newObj_type (wpAny_pure ⟨_,rfl,wpAny_pure h⟩) htake)
  | exact wpAny_bind (m:=Builtin.Tuple.tupleExact _) (wpAny_newObj_type (wpAny_bind (wpAny_pure (wpAny_pure ⟨_,rfl,wpAny_pure h⟩))) htake)
  | exact wpAny_bind (wpAny_bind (m:=Builtin.Tuple.tupleExact _) (wpAny_newObj_type (wpAny_pure (wpAny_pure ⟨_,rfl,wpAny_pure h⟩)) htake))
  | exact wpAny_bind (wpAny_bind (m:=Builtin.Tuple.tupleExact _) (wpAny_newObj_type (wpAny_pure ⟨_,rfl,wpAny_pure h⟩) htake))
theorem Is(items:Array Value):slicePick items none none (some (-1))=items.toList.reverse.toArray:=by
 unfold slicePick
 have e1:sliceBounds none none (some (-1)) items.size=((items.size:Int) - 1,-1,-1):=rfl
 rw [e1]
 simp only [sliceRange]
 rw [← Fk,List.filterMap_map]
 congr 1
 have e2:(if (-1:Int) > 0 then if (items.size:Int) - 1 < -1 then (-1 - ((items.size:Int) - 1)+-1 - 1) / -1 else 0 else if (items.size:Int) - 1 > -1 then ((items.size:Int) - 1 - -1 - -1 - 1) / - -1 else 0).toNat=items.size:=by
  rw [if_neg (by decide)]
  by_cases hn:(items.size:Int) - 1 > -1
  ·rw [if_pos hn]
   have:- -1=(1:Int):=rfl
   rw [this,Int.ediv_one]
   omega
  ·rw [if_neg hn]
   omega
 rw [e2]
 refine IG fun k _=>?_
 show items[((items.size:Int) - 1+-1*(k:Int)).toNat]?=items[((items.size:Int) - 1+(k:Int)*(-1)).toNat]?
 rw [Int.mul_comm]
end
section
variable {X:Cx}{e st:Expr}{te tst:TE}{pos p2:Pos}
def VX(K:Frag):V->Hp->VK->Prop:=fun x H Q=>(∃a xs,x=.ref a/\SqL K H a xs/\∀p,H p=none->Q (.ref p) (BA H p (.lst xs.reverse)))\/∃a xs,x=.ref a/\SqT K H a xs/\∀p,H p=none->Q (.ref p) (BA H p (.tup xs.reverse))
def VQ(K:Frag)(te tst:TE):TE:=fun σ H Q=>te σ H fun x H1=>tst σ H1 fun i H2=>i=.int (-1)/\VX K x H2 Q
theorem Sw(he:PE X e te)(hst:PE X st tst):PE X (.Subscript e (.Slice none none (some st) p2) pos) (VQ X.K te tst):=by
 intro pins s σ H Q I h
 refine Subscript_ (Bp (he pins s σ H _ I h) fun v s1 ⟨x,H1,I1,r1,q1⟩=>?_)
 refine wpAny_Slice ?_
 rw [evalPart_none,evalPart_some]
 refine wpAny_pure (wpAny_pure (Bp (hst pins s1 σ H1 _ I1 q1) fun vs s3 ⟨i,H3,I3,r3,q3⟩=>?_))
 obtain⟨rfl,q3⟩:=q3
 obtain⟨t,rfl⟩:=r3
 have I4:Inv X pins σ H3 { s3 with heap:=s3.heap.push { cls:=.type "slice",data:=.fields #[.none,.none,.int (-1) t] } }:=I3.kept (t':=s3.toks) fun b ob q=>Heap.get?_push_of_some _ q
 have hs:({ s3 with heap:=s3.heap.push { cls:=.type "slice",data:=.fields #[.none,.none,.int (-1) t] } }:Shared).heap.IsSliceOf s3.heap.objs.size .none .none (.int (-1) t):=Heap.IsSliceOf.new ..
 show wpAny (model X.prog X.w) X.A (subscriptTail e (.Slice none none (some st) p2) v (.ref s3.heap.objs.size)) (EP X pins σ Q) X.xe { s3 with heap:=s3.heap.push { cls:=.type "slice",data:=.fields #[.none,.none,.int (-1) t] } }
 rcases q3 with ⟨a,xs,rfl,hq,q⟩ | ⟨a,xs,rfl,hq,q⟩
 ·cases r1
  obtain⟨its,r,ht,hz⟩:=I4.list hq
  have hlen:=r.length
  refine tail_any (ops:=[.ref a,.ref s3.heap.objs.size]) ht.isList.typeIs slot_list_getitem.lookup ?_ (by with_unfolding_all rfl)
  refine wpAny_getItem_list_slice ht.isList hs .none .none (.int (-1) t) (by decide) ?_ (by rw [List.size_toArray]; omega)
  rw [Is]
  refine⟨.ref _,_,I4.laid (t':=s3.toks) (o:=.lst xs.reverse) (fun b ob q=>Heap.get?_push_of_some _ q) (Nat.le_refl _) ?_,rfl,q _ (I4.hok.fresh (Nat.le_refl _))⟩
  exact⟨by rw [List.length_reverse]; exact hz,_,0,r.reverse,Heap.get?_push_size _ rfl⟩
 ·cases r1
  obtain⟨its,r,ht,hz⟩:=I4.tuple hq
  have hlen:=r.length
  refine tail_any (ops:=[.ref a,.ref s3.heap.objs.size]) ht.typeIs PyProof.Rows.slot_tuple_getitem.lookup ?_ (by with_unfolding_all rfl)
  refine Nw ht hs (by rw [List.size_toArray]; omega) ?_
  refine⟨.ref _,_,I4.laid (t':=s3.toks) (o:=.tup xs.reverse) (fun b ob q=>Heap.get?_push_of_some _ q) (Nat.le_refl _) ?_,rfl,q _ (I4.hok.fresh (Nat.le_refl _))⟩
  exact⟨by rw [List.length_reverse]; exact hz,_,r.reverse,IsTup.new _ _⟩
def Rz(K:Frag):V->Option Int->Option Int->Hp->VK->Prop:=fun x lo hi H Q=>∃a xs,x=.ref a/\SqT K H a xs/\(HT.sIx xs.length 0 lo=0/\HT.sIx xs.length xs.length hi=xs.length)/\Q (.ref a) H
theorem Q8:SlR X (Rz X.K):=by
 intro pins s σ H x v vl vu lo hi sl Q I rx hs pl pu h
 obtain⟨a,xs,rfl,hx,hw,q⟩:=h
 cases rx
 obtain⟨its,r,ht,hz⟩:=I.tuple hx
 have hlen:its.toArray.size=xs.length:=by rw [List.size_toArray]; exact r.length.symm
 exact⟨"tuple",_,PyProof.Rows.slot_tuple_getitem.lookup,ht.typeIs,LH ht hs pl pu (by rw [hlen]; exact hw) ⟨.ref a,H,I,rfl,q⟩⟩
end
section
variable {X:Cx}
def PV(K:Frag):R2:=fun x y H Q=>∃a b ys,x=.ref a/\y=.ref b/\SqT K H a []/\SqT K H b ys/\Q (.ref b) H
theorem Po:OpR X (binaryOp .Add) (PV X.K):=by
 intro pins s σ H x y v u Q I rx ry h
 obtain⟨a,b,ys,rfl,rfl,ha,hb,q⟩:=h
 cases rx
 cases ry
 obtain⟨its,r1,p1,_⟩:=I.tuple ha
 obtain⟨its2,r2,p2,_⟩:=I.tuple hb
 cases r1
 obtain⟨⟨cls,dd,data,sl⟩,ho,hc,n,hd⟩:=id p1
 obtain⟨⟨cls2,dd2,data2,sl2⟩,ho2,hc2,n2,hd2⟩:=id p2
 simp only at hc hd hc2 hd2
 subst hc hd hc2 hd2
 exact concat_meets ⟨_,ho,rfl⟩ ⟨_,ho2,rfl⟩ noFill_tuple_add seq_tuple_add PySem.F.slot_tuple_add PySem.F.entry_tuple_add (PySem.F.args_tuple_add_2 _ _) (tuple_addW0 a b _ its2.toArray n n2 dd dd2 sl sl2 (by simp)) ⟨ho,ho2,⟨.ref b,H,I,rfl,q⟩⟩
def bI(b:Bool):Int:=if b=true then 1 else 0
def VA(g:Int->Int->Int):R2:=fun x y H Q=>∃k j,x=.bl k/\y=.int j/\Q (.int (g (bI k) j)) H
def V1(g:Int->Int->Int):R2:=fun x y H Q=>∃i k,x=.int i/\y=.bl k/\Q (.int (g i (bI k))) H
theorem op_add_bi:OpR X (binaryOp .Add) (VA fun i j=>i+j):=by
 intro pins s σ H x y v u Q I rx ry h
 obtain⟨k,j,rfl,rfl,q⟩:=h
 cases rx
 obtain⟨t,rfl⟩:=ry
 exact PySem.IntBool.add_bool_int ⟨.int _,H,I.tok _,⟨_,rfl⟩,q⟩
theorem op_sub_bi:OpR X (binaryOp .Sub) (VA fun i j=>i - j):=by
 intro pins s σ H x y v u Q I rx ry h
 obtain⟨k,j,rfl,rfl,q⟩:=h
 cases rx
 obtain⟨t,rfl⟩:=ry
 exact PySem.IntBool.sub_bool_int ⟨.int _,H,I.tok _,⟨_,rfl⟩,q⟩
theorem N9:OpR X (binaryOp .Sub) (V1 fun i j=>i - j):=by
 intro pins s σ H x y v u Q I rx ry h
 obtain⟨i,k,rfl,rfl,q⟩:=h
 obtain⟨t,rfl⟩:=rx
 cases ry
 exact PySem.IntBool.sub_int_bool ⟨.int _,H,I.tok _,⟨_,rfl⟩,q⟩
end
end L2
namespace Dp
open PySem PySem.Spec PyProof.Rows L2
section
variable {K:Frag}{X:Cx}
def Ax(d e:D)(P:D->Prop):Prop:=match d,e with
 | .int i,.int j=>P (.int (i+j))
 | .bl k,.int j=>P (.int (bI k+j))
 | .str i,.str j=>i.length+j.length<=sizeLine/\P (.str (i++j))
 | .tup i,.tup j=>i.length+j.length<=sizeLine/\P (.tup (i++j))
 | .lst i,.lst j=>i.length+j.length<=sizeLine/\P (.lst (i++j))
 | _,_=>False
def SA(K:Frag):R2:=fun x y H Q=>PY K x y H Q\/(VA fun i j=>i+j) x y H Q\/PV K x y H Q
theorem Aa:OpR X (binaryOp .Add) (SA X.K):=op_addU.or (op_add_bi.or Po)
theorem An:Gp X.K .sh (SA X.K) Ax:=fun U M H d e x y P Q dom vM hx hy w q=>by
 unfold Ax at w
 split at w
 ·exact .inl (K9 (X:=X) U M H (.int _) (.int _) x y P Q dom vM hx hy w q)
 ·rename_i k j
  exact .inr (.inl ⟨k,j,hx,hy,q _ H (.int _) .refl rfl w⟩)
 ·exact .inl (K9 (X:=X) U M H (.str _) (.str _) x y P Q dom vM hx hy w q)
 ·rename_i i j
  cases i with
  | nil =>
   obtain⟨a,vs,rfl,ha,hs⟩:=hx.tup
   obtain⟨b,us,rfl,hb,ht⟩:=hy.tup
   cases (show vs=[] from hs)
   exact .inr (.inr ⟨a,b,us,rfl,rfl,ha.sq,hb.sq,q _ H (.tup j) .refl ⟨b,us,rfl,hb,ht⟩ (by have:=w.2; rw [List.nil_append] at this; exact this)⟩)
  | cons i0 i=>exact .inl (K9 (X:=X) U M H (.tup (i0::i)) (.tup j) x y P Q dom vM hx hy ⟨(by intro z; cases z),w⟩ q)
 ·exact .inl (K9 (X:=X) U M H (.lst _) (.lst _) x y P Q dom vM hx hy w q)
 ·exact w.elim
def Dr(d e:D)(P:D->Prop):Prop:=match d,e with
 | .int i,.int j=>P (.int (i - j))
 | .bl k,.int j=>P (.int (bI k - j))
 | .int i,.bl k=>P (.int (i - bI k))
 | _,_=>False
def Ry:R2:=fun x y H Q=>(Hj fun i j=>.int (i - j)) x y H Q\/(VA fun i j=>i - j) x y H Q\/(V1 fun i j=>i - j) x y H Q
theorem Bw:OpR X (binaryOp .Sub) Ry:=op_sub.or (op_sub_bi.or N9)
theorem Cf:Gp K .sh Ry Dr:=fun U M H d e x y P Q dom vM hx hy w q=>by
 unfold Dr at w
 split at w
 ·exact .inl (Qj (K:=K) (g:=fun i j=>i - j) U M H (.int _) (.int _) x y P Q dom vM hx hy w q)
 ·rename_i k j
  exact .inr (.inl ⟨k,j,hx,hy,q _ H (.int _) .refl rfl w⟩)
 ·rename_i i k
  exact .inr (.inr ⟨i,k,hx,hy,q _ H (.int _) .refl rfl w⟩)
 ·exact w.elim
def Dh(d:D)(lo hi:Option Int)(P:D->Prop):Prop:=match d with
 | .str z=>P (.str (Txt.slice z lo hi))
 | .lst xs=>P (.lst (Bj xs lo hi))
 | .tup xs=>P (.tup (Bj xs lo hi))
 | _=>False
def UR(K:Frag):V->Option Int->Option Int->Hp->VK->Prop:=fun x lo hi H Q=>UO x lo hi H Q\/UQ K x lo hi H Q\/UP K x lo hi H Q\/Rz K x lo hi H Q
theorem Df:SlR X (UR X.K):=sl_U.or (sl_list.or (sl_tup.or Q8))
theorem Nb{M:Addr->Prop}{H:Hp}{ds:List D}{vs:List V}(lo hi:Option Int)(h:Ats K M H ds vs):Ats K M H (Bj ds lo hi) (Iv vs lo hi):=by
 unfold Bj Iv
 rw [h.length]
 exact(h.drop _).take _
theorem CG:V4 K .sh (UR K) Dh:=by
 intro U M H d x lo hi P Q dom vM hx w q
 unfold Dh at w
 split at w
 ·rename_i z
  exact .inl ⟨z,hx.str.1,hx.str.2,q _ H (.str (Txt.slice z lo hi)) .refl ⟨rfl,Nat.le_trans (Txt.slice_le z lo hi) hx.str.2⟩ w⟩
 ·rename_i xs
  obtain⟨a,vs,rfl,_,ha,hs⟩:=hx
  exact .inr (.inl ⟨a,vs,rfl,.inl ha,fun p hp=>q _ _ (.lst _) (Av hp) ((C2 (U:=U) hp (Nb lo hi hs)).shOf dom (by intro z; cases z)) w⟩)
 ·rename_i xs
  obtain⟨a,vs,rfl,ha,hs⟩:=hx.tup
  by_cases hw:HT.sIx vs.length 0 lo=0/\HT.sIx vs.length vs.length hi=vs.length
  ·refine .inr (.inr (.inr ⟨a,vs,rfl,ha.sq,hw,?_⟩))
   have e:Bj xs lo hi=xs:=by
    unfold Bj
    rw [← hs.length,hw.1,hw.2,List.drop_zero,Nat.sub_zero,hs.length,List.take_length]
   rw [e] at w
   exact q _ H (.tup xs) .refl ⟨a,vs,rfl,ha,hs⟩ w
  ·exact .inr (.inr (.inl ⟨a,vs,rfl,ha.sq,hw,fun p hp=>q _ _ (.tup _) (Av hp) (DP dom hp (Nb lo hi hs)) w⟩))
 ·exact w.elim
def T8(wa wst:DW):DW:=fun n ρ P=>wa n ρ fun d n1=>wst n1 ρ fun i n2=>i=.int (-1)/\match d with
 | .lst xs=>P (.lst xs.reverse) n2
 | .tup xs=>P (.tup xs.reverse) n2
 | _=>False
theorem TY{a st:Expr}{κa κs:Kd}{wa wst:DW}{pos p2:Pos}(ha:DE X a κa wa)(hst:DE X st κs wst):DE X (.Subscript a (.Slice none none (some st) p2) pos) .sh (T8 wa wst):=by
 obtain⟨t,h1,h2⟩:=ha
 obtain⟨u,g1,g2⟩:=hst
 refine⟨_,Sw h1 g1,fun C M H n ρ σ P Q R w q=>?_⟩
 refine h2 C M H n ρ σ _ _ R w fun v H1 d n1 e1 f1 r1 p=>?_
 have R1:=R.step e1 f1
 have tv:=r1.tpOf R.dom R.vM
 refine g2 C M H1 n1 ρ σ _ _ R1 p fun i H2 z n2 e2 f2 r2 p2=>?_
 have R2':=R1.step e2 f2
 have tv2:=tv.pres (R1.pres e2) e2 R.uV
 obtain⟨rfl,p2⟩:=p2
 refine⟨KW r2,?_⟩
 cases d with
 | lst xs =>
  obtain⟨a,vs,rfl,_,ha,hs⟩:=tv2
  refine .inl ⟨a,vs,rfl,.inl ha,fun p hp=>?_⟩
  have g:Grow H2 (BA H2 p (.lst vs.reverse)):=Av hp
  exact q _ _ (.lst xs.reverse) n2 ((e1.trans e2).trans g.ext) (f2.grow g) ((C2 (U:=C.V) hp hs.reverse).shOf R2'.dom (by intro z; cases z)) p2
 | tup xs =>
  obtain⟨a,vs,rfl,ha,hs⟩:=tv2.tup
  refine .inr ⟨a,vs,rfl,ha.sq,fun p hp=>?_⟩
  have g:Grow H2 (BA H2 p (.tup vs.reverse)):=Av hp
  exact q _ _ (.tup xs.reverse) n2 ((e1.trans e2).trans g.ext) (f2.grow g) (DP R2'.dom hp hs.reverse) p2
 | _=>exact p2.elim
end
end Dp
namespace Nt
open PySem PySem.Spec PyProof.Rows L2 Dp
def BM:W2:=fun ss n P=>∃m:Int,ss=[.fd,.sh (.int m)]/\1<=m/\m<1073741824/\1<=n/\∀r:Int,0<=r->r<m->P (.int r) (n - 1)
def cs(x:Str):List Nat:=x.cps.toList
theorem Td{x y:Str}(h:cs x=cs y):x=y:=by
 obtain⟨a⟩:=x
 obtain⟨b⟩:=y
 unfold cs at h
 exact congrArg Str.mk (Array.ext' h)
def P2(x:Str):Prop:=1<=x.length/\x.length<=8/\∀c∈cs x,97<=c/\c<=122
def EV(xs:List Str):Prop:=xs.Pairwise fun x y=>cs x<cs y
theorem Pu(a b:List Nat):ltCps a b=decide (a<b):=ltCps_eq a b
theorem Gu:∀(l:List Str) (p:Str),risingS p l=true->(p::l).Pairwise fun a b=>¬cs b<cs a
 | [],p,_=>List.pairwise_singleton _ _
 | x::r,p,h=>by
  have h':(!ltCps x.cps.toList p.cps.toList&&risingS x r)=true:=h
  rw [Bool.and_eq_true,Bool.not_eq_true',Pu,decide_eq_false_iff_not] at h'
  have ih:=Gu r x h'.2
  refine List.pairwise_cons.mpr ⟨fun y hy=>?_,ih⟩
  rcases List.mem_cons.mp hy with rfl | hy
  ·exact h'.1
  ·have h2:=(List.pairwise_cons.mp ih).1 y hy
   exact List.le_trans (l₁:=cs p) (l₂:=cs x) (l₃:=cs y) h'.1 h2
theorem De{l:List Str}(h:sortedS l=true)(nd:l.Nodup):EV l:=by
 have hp:l.Pairwise fun a b=>¬cs b<cs a:=by
  cases l with
  | nil=>exact List.Pairwise.nil
  | cons x r=>exact Gu r x h
 refine(hp.and nd).imp fun {a b} ⟨h1,h2⟩=>?_
 exact Classical.byContradiction fun h3=>h2 (Td (List.le_antisymm (as:=cs a) (bs:=cs b) h1 h3))
theorem DK(lo:Int)(n:Nat):(EU lo n).length=n:=by unfold EU; rw [List.length_map,List.length_range]
theorem DJ{lo:Int}{n:Nat}{d:D}(h:d∈EU lo n):∃k:Nat,k<n/\d=.int (lo+k):=by
 unfold EU at h
 obtain⟨k,hk,rfl⟩:=List.mem_map.mp h
 exact⟨k,List.mem_range.mp hk,rfl⟩
end Nt
namespace K32
open PySem PySem.Spec PyProof.Rows L2 Dp Nt
def top(i:Nat):Stmt:=PySem.Challenge.pw_thinnet_k32_trees_from_a_place.main.body.getD i (.Pass ⟨0,0,0,0⟩)
abbrev Ci:Stmt:=top 1
abbrev Bs:Stmt:=top 2
abbrev CN:Stmt:=top 3
abbrev Ch:Stmt:=top 4
abbrev CM:Stmt:=top 5
abbrev DD:Stmt:=top 6
abbrev B3:Stmt:=top 8
abbrev B4:Stmt:=top 9
abbrev Bm:Stmt:=top 11
abbrev CP:Stmt:=top 13
abbrev Bz:Stmt:=top 14
abbrev B7:Stmt:=top 15
abbrev Bu:Stmt:=top 16
abbrev Ck:Stmt:=top 17
abbrev B6:Stmt:=top 18
abbrev Bn:Stmt:=top 19
abbrev B5:Stmt:=top 20
abbrev Bo:Stmt:=top 21
abbrev BK:Stmt:=top 22
abbrev CO:Stmt:=top 23
abbrev Ba:Stmt:=top 24
abbrev Cj:Stmt:=top 25
abbrev CQ:Stmt:=top 26
abbrev Cl:Stmt:=top 27
abbrev Bt:Stmt:=top 28
abbrev Fj:Stmt:=top 29
structure Txt (K:Frag) (mg:Str->Option Value):Prop where
 n_all:mg "all"=none
 n_bool:mg "bool"=none
 n_int:mg "int"=none
 n_isinstance:mg "isinstance"=none
 n_len:mg "len"=none
 n_list:mg "list"=none
 n_max:mg "max"=none
 n_min:mg "min"=none
 n_range:mg "range"=none
 n_reversed:mg "reversed"=none
 n_sorted:mg "sorted"=none
 n_str:mg "str"=none
 n_tuple:mg "tuple"=none
 n_zip:mg "zip"=none
section
variable {P:Program}{w:World}{K:Frag}{mg:Str->Option Value}{base:Heap}
theorem sc__law_next:Ar ["_law_feed_here","_law_many","_law_digit","_law_at","_law_cell","_law_first"] ["_law_feed_here","_law_many"] (AI Bz):=⟨rfl,rfl,rfl,by decide +kernel,rfl,by decide +kernel,by decide +kernel⟩
theorem RN{f:Addr}{fd:FuncData}(F:Fun K "_law_next" "_law_next" Bz f fd)(ml:mg "len"=none):Bq P w K mg base Dy 1 f fd ["_law_feed_here","_law_many"] (Fg K .sh BM 2):=by
 refine F.ok sc__law_next (fun vs H Q E h=>h.1) (fun cdv A outer s H vs Q E hr h=>?_)
 obtain⟨hl,F0,U,V',M,n,ss,Pd,ra,⟨m,rfl,hm1,hm2,hn,hP⟩,q⟩:=h
 obtain⟨dom,fU,uV,vM,fd0,pa⟩:=ra
 cases pa with
 | cons r1 pa =>
 cases pa with
 | cons r2 pa =>
 cases pa
 obtain⟨⟨f0,c⟩,e0,hF⟩:=r1.1
 cases e0
 obtain⟨v2,e2,h2⟩:=r2.1
 cases e2
 cases (show _=V.int m from h2)
 obtain⟨a,r,cells,hf,hcf,hc,hcl,ha0,han⟩:=fd0 (f0,c) hF
 have fin:∀(a' r' z:Int) (H':Hp),(∀b o,H b=some o->b≠f0->H' b=some o)->H' f0=some (.lst [.ref c,.int a',.int r'])->0<=a'->a'<=a+1->0<=z->z<m->Q (.int z) H':=by
  intro a' r' z H' hk hf' h0 h1 hz0 hz1
  refine q (.int z) H' (.int z) (n - 1) (fun b o e=>?_) (fun g hg=>?_) rfl (hP z hz0 hz1)
  ·by_cases hb:b=f0
   ·subst hb
    exact⟨_,hf',fun nu=>absurd (fU (b,c) hF) nu⟩
   ·exact⟨o,hk b o e hb,fun _=>rfl⟩
  ·have:g=(f0,c):=Option.some.inj (hg.symm.trans hF)
   subst this
   exact⟨a',r',cells,hf',hcf,⟨hc.1,hk c _ hc.2 hcf⟩,hcl,h0,by omega⟩
 have hu:(A.deeper (envOfC "_law_next" (AI Bz) s.heap.objs.size f cdv)).units<cLine:=hr.units0
 have hsq:∀{H':Hp} {xs:List V},H' f0=some (.lst xs)->SqL K H' f0 xs:=fun h=>SqL.of h
 have ed:∀z:Int,0<=z % m/\z % m<m:=fun z=>⟨Int.emod_nonneg _ (by omega),Int.emod_lt_of_pos _ (by omega)⟩
 refine⟨_,BU (Pe (Fo SE (EJ ix_list (pv 0) A0 (fun _ _=>rfl)) A0 (Ah _))
   (BU (EW (i:=2) sc__law_next.nd rfl (Or.inl rfl) (B0 D1 (EJ ix_list (pv 0) A0 (fun _ _=>rfl)) (pv 1)))
   (BU (KG (B0 HC (EJ ix_list (pv 0) A0 (fun _ _=>rfl)) (pv 1)) (MR (pv 0) A0 HY))
   (DZ (FN (pv 2))))) KD)
  (BU (EW (i:=3) sc__law_next.nd rfl (Or.inl rfl) (EJ ix_list (pv 0) A0 (fun _ _=>rfl)))
  (BU (KG (B0 op_add (pv 3) A0) (MR (pv 0) A0 HY))
  (BU (EW (i:=4) sc__law_next.nd rfl (Or.inl rfl) (Pk (Fo (N_ hu) (EJ ix_list (pv 0) A0 (fun _ _=>rfl)) (MT DM) (Ah _))
   (EJ ix_list (EJ ix_list (pv 0) A0 (fun _ _=>rfl)) (B0 D1 (pv 3) (Fr Au rfl ml PySem.boot_len (B8 (EJ ix_list (pv 0) A0 (fun _ _=>rfl)) DM))) (fun _ _=>rfl)) A0))
  (BU (Pe (PW.pt (PZ (Fo Ud (pv 4) (B0 GR A0 A0) (Ah _)) (NC (Fo op_lt (pv 3) (Fr Au rfl ml PySem.boot_len (B8 (EJ ix_list (pv 0) A0 (fun _ _=>rfl)) DM)) (Ah _)))))
   (BU (KG (B0 HC (pv 4) (pv 1)) (MR (pv 0) A0 HY))
   (DZ (FN (B0 D1 (pv 4) (pv 1))))) KD)
  (BU (EW (i:=5) sc__law_next.nd rfl (Or.inl rfl) (B0 D1 (B0 GS (B0 op_add (B0 op_add (B0 op_add (B0 D1 (pv 4) A0) (B0 GS (B0 GS A0 (pv 3)) (pv 3))) (B0 GS A0 (pv 3))) A0) A0) A0))
  (DZ (FN (B0 D1 (B0 HC (B0 D1 (B0 GS (B0 op_add (pv 5) (B0 GS A0 (pv 3))) A0) A0) A0) (pv 1))))))))),?_⟩
 refine⟨_,rfl,f0,_,2,_,rfl,rfl,hsq hf,rfl,_,_,rfl,rfl,_,rfl,?_⟩
 refine CY (fun c1=>?_) (fun c1=>?_)
 ·refine⟨_,rfl,f0,_,2,_,rfl,rfl,hsq hf,rfl,_,rfl,_,_,rfl,rfl,(by show (0:Int)<m; omega),?_⟩
  refine⟨_,rfl,f0,_,2,_,rfl,rfl,hsq hf,rfl,_,rfl,_,_,rfl,rfl,⟨(by show (0:Int)<m; omega),hm2⟩,_,rfl,f0,_,2,2,rfl,rfl,hf,rfl,?_⟩
  refine⟨_,rfl,?_⟩
  exact fin a _ _ _ (fun b o e hb=>by rw [AU hb]; exact e) Ab ha0 (by omega) (ed _).1 (ed _).2
 ·-- at=feed[1]; feed[1]=at+1
  refine⟨_,rfl,f0,_,1,_,rfl,rfl,hsq hf,rfl,?_⟩
  refine⟨_,rfl,_,_,rfl,rfl,_,rfl,f0,_,1,1,rfl,rfl,hf,rfl,?_⟩
  generalize hH1:BA H f0 (.lst ([V.ref c,V.int a,V.int r].set 1 (V.int (a+1))))=H1
  have f1:H1 f0=some (.lst [.ref c,.int (a+1),.int r]):=by rw [← hH1]; exact Ab
  have k1:∀b o,H b=some o->b≠f0->H1 b=some o:=fun b o e hb=>by rw [← hH1,AU hb]; exact e
  have c1':H1 c=some (.lst (cells.map V.int)):=k1 c _ hc.2 hcf
  have rest:∀(z:Int) (H2:Hp),(∀b o,H1 b=some o->H2 b=some o) ->
    (Ny (UF (UK (Ox (Dl (Hj fun i j=>V.bl (decide (j<=i))) (CB 4) (Dl (rI Mt fun i j=>V.int (i ^ j.toNat)) (tC (V.int 10)) (tC (V.int 18))))) (Ox (Dl (Hj fun i j=>V.bl (decide (i<j))) (CB 3) (U_ (fun xs H Q=>∃x n,xs=[x]/\Tt K x H n/\Q (V.int n) H) (M5 (Dl (Sk K) (CB 0) (tC (V.int 0))) Q5))))) (Ny (LL (Dl (rI Qv fun i j=>V.int (i / j)) (CB 4) (CB 1)) (Ui (CB 0) (tC (V.int 2)) R0)) (Q3 (Dl (rI (fun _ j=>0<j) fun i j=>V.int (i % j)) (CB 4) (CB 1)))) Rw) (Ny (LL (Dl (rI (fun _ j=>0<j) fun i j=>V.int (i % j)) (Dl (rI CMul fun i j=>V.int (i*j)) (Dl (Hj fun i j=>V.int (i+j)) (Dl (Hj fun i j=>V.int (i+j)) (Dl (Hj fun i j=>V.int (i+j)) (Dl (rI (fun _ j=>0<j) fun i j=>V.int (i % j)) (CB 4) (tC (V.int 1000003))) (Dl (rI CMul fun i j=>V.int (i*j)) (Dl (rI CMul fun i j=>V.int (i*j)) (tC (V.int 41)) (CB 3)) (CB 3))) (Dl (rI CMul fun i j=>V.int (i*j)) (tC (V.int 17)) (CB 3))) (tC (V.int 3))) (tC (V.int 51749))) (tC (V.int 999917))) (Gw 5)) (Q3 (Dl (rI (fun _ j=>0<j) fun i j=>V.int (i % j)) (Dl (rI Qv fun i j=>V.int (i / j)) (Dl (rI (fun _ j=>0<j) fun i j=>V.int (i % j)) (Dl (rI CMul fun i j=>V.int (i*j)) (Dl (Hj fun i j=>V.int (i+j)) (CB 5) (Dl (rI CMul fun i j=>V.int (i*j)) (tC (V.int 8111)) (CB 3))) (tC (V.int 39373))) (tC (V.int 2097143))) (tC (V.int 3))) (CB 1)))))
     { nx:=fun _ H'=>Q .non H',rt:=Q } [some (.ref f0),some (.int m),none,some (.int a),some (.int z),none] H2:=by
   intro z H2 k2
   have f2:=k2 _ _ f1
   have c2:=k2 _ _ c1'
   have lastWay:∀H3:Hp,H3=H2->(Ny (LL (Dl (rI (fun _ j=>0<j) fun i j=>V.int (i % j)) (Dl (rI CMul fun i j=>V.int (i*j)) (Dl (Hj fun i j=>V.int (i+j)) (Dl (Hj fun i j=>V.int (i+j)) (Dl (Hj fun i j=>V.int (i+j)) (Dl (rI (fun _ j=>0<j) fun i j=>V.int (i % j)) (CB 4) (tC (V.int 1000003))) (Dl (rI CMul fun i j=>V.int (i*j)) (Dl (rI CMul fun i j=>V.int (i*j)) (tC (V.int 41)) (CB 3)) (CB 3))) (Dl (rI CMul fun i j=>V.int (i*j)) (tC (V.int 17)) (CB 3))) (tC (V.int 3))) (tC (V.int 51749))) (tC (V.int 999917))) (Gw 5)) (Q3 (Dl (rI (fun _ j=>0<j) fun i j=>V.int (i % j)) (Dl (rI Qv fun i j=>V.int (i / j)) (Dl (rI (fun _ j=>0<j) fun i j=>V.int (i % j)) (Dl (rI CMul fun i j=>V.int (i*j)) (Dl (Hj fun i j=>V.int (i+j)) (CB 5) (Dl (rI CMul fun i j=>V.int (i*j)) (tC (V.int 8111)) (CB 3))) (tC (V.int 39373))) (tC (V.int 2097143))) (tC (V.int 3))) (CB 1))))
     { nx:=fun _ H'=>Q .non H',rt:=Q } [some (.ref f0),some (.int m),none,some (.int a),some (.int z),none] H3:=by
    intro H3 e3
    subst e3
    have hb:CMul (41*a) a:=.inr ⟨by omega,by omega⟩
    refine⟨_,rfl,_,_,rfl,rfl,(by show (0:Int)<1000003; decide),_,rfl,_,_,rfl,rfl,.inl ⟨by decide,by decide⟩,_,rfl,_,_,rfl,rfl,hb,_,_,rfl,rfl,_,rfl,_,_,rfl,rfl,.inl ⟨by decide,by decide⟩,_,_,rfl,rfl,_,_,rfl,rfl,_,_,rfl,rfl,.inr ⟨by decide,by decide⟩,_,_,rfl,rfl,(by show (0:Int)<999917; decide),?_⟩
    refine⟨_,rfl,_,rfl,_,_,rfl,rfl,.inl ⟨by decide,by decide⟩,_,_,rfl,rfl,_,_,rfl,rfl,.inr ⟨by decide,by decide⟩,_,_,rfl,rfl,(by show (0:Int)<2097143; decide),_,_,rfl,rfl,⟨by decide,by decide⟩,_,rfl,_,_,rfl,rfl,(by show (0:Int)<m; omega),?_⟩
    exact fin (a+1) r _ _ (fun b o e hb=>k2 b o (k1 b o e hb)) f2 (by omega) (by omega) (ed _).1 (ed _).2
   refine⟨_,rfl,_,_,rfl,rfl,⟨by decide,by decide,by decide⟩,_,_,rfl,rfl,_,rfl,?_⟩
   refine CY (fun c3=>?_) (fun c3=>?_)
   ·refine⟨_,rfl,_,rfl,f0,_,0,_,rfl,rfl,hsq f2,rfl,_,_,rfl,.inl ⟨_,SqL.of c2,rfl⟩,_,_,rfl,rfl,_,rfl,?_⟩
    refine CY (fun c4=>?_) (fun c4=>lastWay H2 rfl)
    refine⟨_,rfl,_,rfl,_,_,rfl,rfl,⟨(by show (0:Int)<m; omega),hm2⟩,_,rfl,f0,_,2,2,rfl,rfl,f2,rfl,?_⟩
    refine⟨_,rfl,_,rfl,_,_,rfl,rfl,(by show (0:Int)<m; omega),?_⟩
    exact fin (a+1) _ _ _ (fun b o e hb=>by rw [AU hb]; exact k2 b o (k1 b o e hb)) Ab (by omega) (by omega) (ed _).1 (ed _).2
   ·refine CY (fun c4=>absurd c4 (by simp)) (fun _=>lastWay H2 rfl)
  refine⟨_,rfl,f0,_,0,_,rfl,rfl,hsq f1,rfl,(by show 0<=sizeLine; decide),fun p hp=>?_⟩
  have kp:∀b o,H1 b=some o->BA H1 p (.lst []) b=some o:=fun b o e=>by rw [AU (BB e hp)]; exact e
  refine⟨c,p,_,rfl,rfl,SqL.of (kp _ _ c1'),SqL.of Ab,_,rfl,?_⟩
  cases cells with
  | nil=>exact E5 (rest 0 _ kp)
  | cons z0 cs =>
   refine Ef ?_
   have hlen:(((z0::cs).map V.int).length:Int)=(cs.length:Int)+1:=by simp
   have hpos:(0:Int)<(((z0::cs).map V.int).length:Int):=by omega
   obtain⟨z,hz⟩:∃z,atI ((z0::cs).map V.int) (a % (((z0::cs).map V.int).length:Int))=some (.int z):=by
    have h1:=Int.emod_nonneg a (show (((z0::cs).map V.int).length:Int)≠0 by omega)
    have h2:=Int.emod_lt_of_pos a hpos
    generalize a % (((z0::cs).map V.int).length:Int)=j at h1 h2
    obtain⟨k,rfl⟩:∃k:Nat,j=(k:Int):=⟨j.toNat,by omega⟩
    have hk:k<(z0::cs).length:=by rw [List.length_map] at h2; omega
    refine⟨(z0::cs)[k],AH ?_⟩
    rw [List.getElem?_map,List.getElem?_eq_getElem hk]
    rfl
   refine⟨_,rfl,f0,_,0,_,rfl,rfl,hsq (kp _ _ f1),rfl,_,rfl,_,rfl,f0,_,0,_,rfl,rfl,hsq (kp _ _ f1),rfl,_,_,rfl,.inl ⟨_,SqL.of (kp _ _ c1'),rfl⟩,_,_,rfl,rfl,hpos,c,_,_,_,rfl,rfl,SqL.of (kp _ _ c1'),hz,?_⟩
   exact rest z _ kp
end
end K32
namespace Nt
open PySem PySem.Spec PyProof.Rows L2 Dp
theorem JW{α β:Type}{f:α->β}:∀{l:List α},l.Nodup->(∀a∈l,∀b∈l,f a=f b->a=b)->(l.map f).Nodup
 | [],_,_=>List.nodup_nil
 | a::l,h,hf=>by
  rw [List.nodup_cons] at h
  rw [List.map_cons,List.nodup_cons]
  refine⟨fun hm=>?_,JW h.2 fun x hx y hy=>hf x (List.mem_cons_of_mem _ hx) y (List.mem_cons_of_mem _ hy)⟩
  obtain⟨b,hb,e⟩:=List.mem_map.mp hm
  exact h.1 (hf a List.mem_cons_self b (List.mem_cons_of_mem _ hb) e.symm▸hb)
theorem RS{f m j k:Nat}{M:Nat}(hM:m<=M)(hj:j<m)(hk:k<m)(e:(f+j) % M=(f+k) % M):j=k:=by
 have h:∀a b:Nat,a<=b->b<m->(f+a) % M=(f+b) % M->a=b:=fun a b h1 h2 e=>by
  have:(f+b - (f+a)) % M=0:=Nat.sub_mod_eq_zero_of_mod_eq e.symm
  have e2:f+b - (f+a)=b - a:=by omega
  rw [e2,Nat.mod_eq_of_lt (by omega)] at this
  omega
 rcases Nat.le_total j k with h1 | h1
 ·exact h j k h1 hk e
 ·exact(h k j h1 hj e.symm).symm
theorem Qe(ss:List Str):DX (ss.map .str)=some ss:=by
 induction ss with
 | nil=>rfl
 | cons y r ih =>
  rw [List.map_cons]
  unfold DX
  rw [ih]
  rfl
theorem JX{b:BW}{body:Ad}{D2:E2}{all:List D}(I:List D->Nat->List Slot->Prop)(hend:∀n ρ,I all n ρ->D2.nx n ρ)
  (hstep:∀(pre:List D) (d:D) (post:List D) (n:Nat) (ρ:List Slot) (nx:Nat->List Slot->Prop),all=pre++d::post->I pre n ρ->(∀n' ρ',I (pre++[d]) n' ρ'->nx n' ρ')->b d ρ fun ρ1=>body { D2 with nx:=nx,ct:=nx,bk:=D2.nx } n ρ1) :
  ∀(ds pre:List D) (n:Nat) (ρ:List Slot),all=pre++ds->I pre n ρ->Be b body D2 ds n ρ
 | [],pre,n,ρ,e,h=>by
  rw [List.append_nil] at e
  subst e
  exact hend n ρ h
 | d::ds,pre,n,ρ,e,h=>hstep pre d ds n ρ (Be b body D2 ds) e h fun n' ρ' h'=>JX I hend hstep ds (pre++[d]) n' ρ' (by rw [e,List.append_assoc]; rfl) h'
theorem Q_{lo:Int}{n:Nat}{pre post:List D}{d:D}(h:EU lo n=pre++d::post):d=.int (lo+(pre.length:Int))/\pre.length<n:=by
 have hl:=congrArg List.length h
 rw [DK,List.length_append,List.length_cons] at hl
 have e:(EU lo n)[pre.length]?=some d:=by rw [h,List.getElem?_append_right (Nat.le_refl _),Nat.sub_self]; rfl
 unfold EU at e
 rw [List.getElem?_map,List.getElem?_range (by omega)] at e
 exact⟨(Option.some.inj e).symm,by omega⟩
structure BI where
 a:Str
 b:Str
 len:Int
structure Net where
 ps:List Str
 ts:List BI
def AT(t:BI):D:=.tup [.str t.a,.str t.b,.int t.len]
def enc(N:Net):D:=.tup [.tup (N.ps.map .str),.tup (N.ts.map AT)]
def A_(s t:BI):Prop:=cs s.a<cs t.a\/(s.a=t.a/\cs s.b<cs t.b)
structure Net.Ok (N:Net):Prop where
 names:∀x∈N.ps,P2 x
 rise:EV N.ps
 tin:∀t∈N.ts,t.a∈N.ps/\t.b∈N.ps/\cs t.a<cs t.b/\1<=t.len/\t.len<=1000000
 trise:N.ts.Pairwise A_
structure Ix where
 i:Nat
 j:Nat
 len:Int
abbrev EE(Pd:D->Nat->Prop):E2:={ nx:=fun n _=>Kd.sh=.sh/\Pd .non n,rt:=Pd }
theorem CS{b:BW}{te:DW}{P:List D->Nat->Prop}(g:D->D)(I:List Slot->Prop):∀(ds acc:List D) (n:Nat) (ρ:List Slot),
  (∀d∈ds,∀(ρ:List Slot) (n:Nat) (nx:D->Nat->List Slot->Prop),I ρ->(∀ρ',I ρ'->nx (g d) n ρ')->b d ρ fun ρ1=>te n ρ1 fun y n2=>nx y n2 ρ1)->I ρ->P (acc++ds.map g) n->Da b E4 te P ds acc n ρ
 | [],acc,n,ρ,_,_,h=>by rw [List.map_nil,List.append_nil] at h; exact h
 | d::ds,acc,n,ρ,ht,hρ,h=>ht d List.mem_cons_self ρ n (fun y n2 ρ1=>Da b E4 te P ds (acc++[y]) n2 ρ1) hρ fun ρ' hρ' =>
  CS g I ds (acc++[g d]) n ρ' (fun d hd=>ht d (List.mem_cons_of_mem _ hd)) hρ' (by rw [List.append_assoc]; exact h)
theorem Lp{α:Type}{l:List α}{p:α->Bool}{P:D->Prop}(h:P (.bl (l.all p))):Lq [.lst (l.map fun a=>.bl (p a))] P :=
 ⟨_,_,rfl,IX p l,by rw [List.all_map]; exact h⟩
theorem K7{b1 b2:Bool}{P:D->Nat->Prop}{n:Nat}{k:(D->Nat->Prop)->Prop}(hk:b1=true->P (.bl b2) n->k P)(h:P (.bl (b1&&b2)) n):(match (.bl b1:D) with | .bl true=>k P | .bl false=>P (.bl false) n | _=>False):=Qa hk h
abbrev Wb(g:D->Bool):W2:=SB 1 fun ds=>.bl (g (ds.getD 0 .non))
theorem Wb.out{g:D->Bool}{ss:List Slot}{n:Nat}{P:D->Nat->Prop}(h:Wb g ss n P):∃d,ss=[.sh d]/\P (.bl (g d)) n:=by
 obtain⟨ds,hl,rfl,h⟩:=h
 match ds,hl with
 | [d],_=>exact⟨d,rfl,h⟩
def GK:D->Bool
 | .int _=>true
 | _=>false
def HS(k:Int):D->Bool
 | .tup xs=>((xs.length:Int)==k)
 | _=>false
def Oi(d e:D):Option Bool:=match d,e with
 | .int i,.int j=>some (decide (i<j))
 | .str i,.str j=>some (decide (cs i<cs j))
 | .tup xs,.tup ys=>match Fw xs,Fw ys with
  | some ks,some ls=>if CL ks ls then some (Ea ks ls) else none
  | _,_=>none
 | _,_=>none
theorem NU{d e:D}{b:Bool}{P:D->Prop}(h:Oi d e=some b)(p:P (.bl b)):FT d e P:=by
 unfold Oi at h
 split at h
 ·cases h; exact p
 ·cases h; exact p
 ·rename_i xs ys
  split at h
  ·rename_i ks ls h1 h2
   split at h
   ·rename_i hs
    cases h
    exact⟨ks,ls,h1,h2,hs,p⟩
   ·cases h
  ·cases h
 ·cases h
def Oj:List D->Bool
 | x::y::r=>(Oi x y==some true)&&Oj (y::r)
 | _=>true
abbrev Di:W2:=Wb GK
abbrev Et:W2:=fun ss n P=>∃k d,ss=[.sh (.int k),.sh d]/\P (.bl (HS k d)) n
abbrev GH:W2:=fun ss n P=>∃d xs,ss=[.sh d]/\Id d=some xs/\xs.length<=1000/\(∀x∈xs,∀y∈xs,∃b,Oi x y=some b)/\P (.bl (Oj xs)) n
def Mp:Ad:=(BZ (LD (GM "int" (AC 0)) (T9 (GM "bool" (AC 0)))))
def I0:Ad:=(BZ (LD (GM "tuple" (AC 1)) (AV (G8 false) (CK C_ (AD (AC 1) AR)) (AC 0))))
def L3:Ad:=(BZ (CK Lq (AD (Cg [none,none] (T7 (AD (AC 0) (AD (JC Dh (AC 0) (B_ (wC (D.int 1))) BX) AR))) (Gi 2 (A9 (Ak 0) (A9 (Ak 1) Ds))) E4 (AV FT (AC 0) (AC 1))) AR)))
section
variable {ss:List Slot}{n:Nat}{Pd:D->Nat->Prop}
theorem Gs(h:Di ss n Pd):Mp (EE Pd) n (ss++List.replicate 0 .no):=by
 obtain⟨d,rfl,q⟩:=h.out
 cases d <;> exact q
theorem Hg(h:Et ss n Pd):I0 (EE Pd) n (ss++List.replicate 0 .no):=by
 obtain⟨k,d,rfl,h⟩:=h
 cases d with
 | tup xs=>exact⟨_,_,rfl,rfl,h⟩
 | _=>exact h
theorem Uv{α:Type}(xs:List α):Dp.Bj xs (some 1) none=xs.drop 1:=by
 unfold Dp.Bj
 rw [HT.sIx_none,show (1:Int)=((1:Nat):Int) from rfl,HT.sIx_nat]
 by_cases h:1<=xs.length
 ·rw [Nat.min_eq_left h]
  exact List.take_of_length_le (by rw [List.length_drop]; exact Nat.le_refl _)
 ·have:xs=[]:=List.length_eq_zero_iff.mp (by omega)
  subst this
  rfl
theorem Ni:∀xs:List D,((Dz xs (xs.drop 1)).all fun d=>match d with | .tup [a,b]=>Oi a b==some true | _=>false)=Oj xs
 | []=>rfl
 | [x]=>rfl
 | x::y::r=>by
  have ih:=Ni (y::r)
  show ((Dz (x::y::r) (y::r)).all _)=_
  unfold Dz Oj
  rw [List.zipWith_cons_cons,List.all_cons]
  congr 1
theorem Qx{xs ys:List D}{d:D}(h:d∈Dz xs ys):∃a∈xs,∃b∈ys,d=.tup [a,b]:=by
 unfold Dz at h
 obtain⟨i,hi⟩:=List.getElem?_of_mem h
 rw [List.getElem?_zipWith] at hi
 cases q1:xs[i]? with
 | none=>rw [q1] at hi; simp at hi
 | some a =>
  cases q2:ys[i]? with
  | none=>rw [q1,q2] at hi; simp at hi
  | some b =>
   rw [q1,q2] at hi
   exact⟨a,List.mem_of_getElem? q1,b,List.mem_of_getElem? q2,(Option.some.inj hi).symm⟩
theorem KC(h:GH ss n Pd):L3 (EE Pd) n (ss++List.replicate 0 .no):=by
 obtain⟨d,xs,rfl,hd,hl,hlt,h⟩:=h
 have go:(Dz xs (xs.drop 1)).length<=10000000/\Da (Gi 2 (A9 (Ak 0) (A9 (Ak 1) Ds))) E4 (AV FT (AC 0) (AC 1)) (fun acc n2=>Lq [.lst acc] fun z=>Pd z n2) (Dz xs (xs.drop 1)) [] n [.no,.no]:=by
  refine⟨by unfold Dz; rw [List.length_zipWith]; omega,?_⟩
  refine CS (fun d=>.bl (match d with | .tup [a,b]=>Oi a b==some true | _=>false)) (fun ρ=>∃s t,ρ=[s,t]) _ _ _ _ ?_ ⟨_,_,rfl⟩ ?_
  ·rintro z hz ρ m nx ⟨s,t,rfl⟩ hnx
   obtain⟨a,ha,b,hb,rfl⟩:=Qx hz
   obtain⟨r,hr⟩:=hlt a ha b (List.mem_of_mem_drop hb)
   refine⟨rfl,rfl,?_⟩
   show FT a b fun y=>nx y m [.sh a,.sh b]
   refine NU hr ?_
   have this:nx (.bl (Oi a b==some true)) m [.sh a,.sh b]:=hnx [.sh a,.sh b] ⟨_,_,rfl⟩
   rw [hr] at this
   cases r <;> exact this
  ·rw [List.nil_append]
   refine Lp (p:=fun(d:D)=>match d with | .tup [a,b]=>Oi a b==some true | _=>false) ?_
   rw [Ni]
   exact h
 cases d with
 | lst ys =>
  cases hd
  exact⟨_,_,xs,xs.drop 1,rfl,rfl,by rw [Uv]; rfl,go⟩
 | tup ys =>
  cases hd
  exact⟨_,_,xs,xs.drop 1,rfl,rfl,by rw [Uv]; rfl,go⟩
 | _=>cases hd
end
theorem Tf{α:Type}(p:α->Bool)(l:List α):(l.map p).all id=l.all p:=by rw [List.all_map]; rfl
theorem LN{x:Str}(h:∀c∈cs x,c<1114112):PyData.strOk x=true:=by
 unfold PyData.strOk
 rw [← Array.all_toList,List.all_eq_true]
 intro c hc
 exact decide_eq_true (h c hc)
theorem Lj{x:Str}(h:P2 x):DV (.str x):=⟨rfl,LN fun c hc=>by have:=h.2.2 c hc; omega,Nat.zero_le _⟩
theorem Lk{ps:List Str}(h:∀p∈ps,P2 p):CW (ps.map .str)=true/\PyData.canLayAll0 (BE (ps.map .str))=true/\PyData.depthAll (BE (ps.map .str))=0:=by
 induction ps with
 | nil=>exact⟨rfl,rfl,rfl⟩
 | cons p r ih =>
  obtain⟨h1,h2,h3⟩:=ih fun q hq=>h q (List.mem_cons_of_mem _ hq)
  have hp:=Lj (h p List.mem_cons_self)
  refine⟨by rw [List.map_cons,CW,h1]; rfl,?_,?_⟩
  ·rw [List.map_cons,BE,PyData.canLayAll0,h2,Bool.and_true]
   exact hp.2.1
  ·rw [List.map_cons,BE,PyData.depthAll,h3]
   rfl
theorem GW{ps:List Str}(h:∀p∈ps,P2 p):DV (.tup (ps.map .str)):=by
 obtain⟨h1,h2,h3⟩:=Lk h
 refine⟨h1,h2,?_⟩
 show PyData.depthAll (BE (ps.map .str))+1<=100
 rw [h3]; decide
section
variable {ss:List Slot}{n:Nat}{Pd:D->Nat->Prop}
theorem VN{d:D}(h:HS 2 d=true):∃a b,d=.tup [a,b]:=by
 cases d with
 | tup xs =>
  have:(xs.length:Int)=2:=eq_of_beq h
  match xs,this with
  | [a,b],_=>exact⟨a,b,rfl⟩
  | [],h=>cases h
  | [_],h=>cases h
  | _::_::_::r,h=>simp only [List.length_cons] at h; omega
 | _=>cases h
end
mutual
def fine(B:Nat):D->Prop
 | .int i=>i.natAbs<=B
 | .str x=>∀c∈cs x,c<1114112
 | .tup ds=>FD B ds
 | .lst ds=>FD B ds
 | .dic _ _=>False
 | .fdi _ _=>False
 | _=>True
def FD(B:Nat):List D->Prop
 | []=>True
 | d::ds=>fine B d/\FD B ds
end
mutual
def DU:D->Nat
 | .int _=>200
 | .str x=>x.length
 | .tup ds=>Cv ds
 | .lst ds=>Cv ds
 | _=>0
def Cv:List D->Nat
 | []=>0
 | d::ds=>DU d+1+Cv ds
end
mutual
def Gg:D->Nat
 | .tup ds=>IZ ds+1
 | .lst ds=>IZ ds+1
 | _=>0
def IZ:List D->Nat
 | []=>0
 | d::ds=>max (Gg d) (IZ ds)
end
theorem fines_iff{B:Nat}:∀{ds:List D},FD B ds↔∀d∈ds,fine B d
 | []=>⟨(fun _ d h=>by cases h),fun _=>trivial⟩
 | d::ds=>by
  have ih:=@fines_iff B ds
  constructor
  ·rintro ⟨h1,h2⟩ e he
   rcases List.mem_cons.mp he with rfl | he
   ·exact h1
   ·exact ih.mp h2 e he
  ·exact fun h=>⟨h d List.mem_cons_self,ih.mpr fun e he=>h e (List.mem_cons_of_mem _ he)⟩
theorem dps_le{k:Nat}:∀{ds:List D},IZ ds<=k↔∀d∈ds,Gg d<=k
 | []=>⟨(fun _ d h=>by cases h),fun _=>Nat.zero_le _⟩
 | d::ds=>by
  have ih:=@dps_le k ds
  show max (Gg d) (IZ ds)<=k↔_
  rw [Nat.max_le,ih]
  constructor
  ·rintro ⟨h1,h2⟩ e he
   rcases List.mem_cons.mp he with rfl | he
   ·exact h1
   ·exact h2 e he
  ·exact fun h=>⟨h d List.mem_cons_self,fun e he=>h e (List.mem_cons_of_mem _ he)⟩
theorem Bv:∀(xs ys:List D),Cv (xs++ys)=Cv xs+Cv ys
 | [],ys=>by simp [Cv]
 | d::xs,ys=>by
  rw [List.cons_append]
  show DU d+1+Cv (xs++ys)=DU d+1+Cv xs+Cv ys
  rw [Bv xs ys]; omega
theorem M6:∀(xs:List D),Cv xs.reverse=Cv xs
 | []=>rfl
 | d::xs=>by
  rw [List.reverse_cons,Bv,M6 xs]
  show Cv xs+(DU d+1+0)=DU d+1+Cv xs
  omega
theorem LM(xs:List D)(k:Nat):Cv (xs.take k)<=Cv xs:=by
 have:=Bv (xs.take k) (xs.drop k)
 rw [List.take_append_drop] at this
 omega
theorem O0(xs:List D)(k:Nat):Cv (xs.drop k)<=Cv xs:=by
 have:=Bv (xs.take k) (xs.drop k)
 rw [List.take_append_drop] at this
 omega
theorem Q6{xs:List D}{d:D}(h:d∈xs):DU d+1<=Cv xs:=by
 obtain⟨a,b,rfl⟩:=List.append_of_mem h
 rw [Bv]
 show _<=_+(DU d+1+Cv b)
 omega
theorem Ex:∀(xs:List D),xs.length<=Cv xs
 | []=>Nat.zero_le _
 | d::xs=>by
  have:=Ex xs
  show xs.length+1<=DU d+1+Cv xs
  omega
theorem HA(xs:List D)(lo hi:Option Int):Cv (Dp.Bj xs lo hi)<=Cv xs:=Nat.le_trans (LM _ _) (O0 _ _)
theorem DC{xs:List D}{lo hi:Option Int}{d:D}(h:d∈Dp.Bj xs lo hi):d∈xs:=List.mem_of_mem_drop (List.mem_of_mem_take h)
theorem OX{B C:Nat}(h:B<=C):∀(n:Nat),(∀d:D,sizeOf d<=n->fine B d->fine C d)/\∀ds:List D,sizeOf ds<=n->FD B ds->FD C ds:=by
 intro n
 induction n with
 | zero =>
  refine⟨fun d hd _=>?_,fun ds hd _=>?_⟩
  ·cases d <;> simp at hd
  ·cases ds <;> simp at hd
 | succ n ih =>
  refine⟨fun d hd hf=>?_,fun ds hd hf=>?_⟩
  ·cases d with
   | int i=>exact Nat.le_trans (show i.natAbs<=B from hf) h
   | str x=>exact hf
   | tup ds=>exact ih.2 ds (by simp at hd; omega) hf
   | lst ds=>exact ih.2 ds (by simp at hd; omega) hf
   | dic ks ds=>exact(show False from hf).elim
   | fdi ks ds=>exact(show False from hf).elim
   | non=>trivial
   | bl b=>trivial
  ·cases ds with
   | nil=>trivial
   | cons d ds=>exact⟨ih.1 d (by simp at hd; omega) hf.1,ih.2 ds (by simp at hd; omega) hf.2⟩
theorem fine.mono{B C:Nat}{d:D}(hf:fine B d)(h:B<=C):fine C d:=(OX h _).1 d (Nat.le_refl _) hf
mutual
theorem NS{B:Nat}(hB:B<10 ^ 45):∀{d:D},fine B d->FB d=true/\(BO d).showable=true/\(BO d).canLay0=true/\(BO d).depth=Gg d/\(BO d).leavesShort 60=true/\(BO d).weight<=DU d
 | .non,_=>⟨rfl,rfl,rfl,rfl,rfl,Nat.le_refl _⟩
 | .bl b,_=>⟨rfl,rfl,rfl,rfl,rfl,Nat.le_refl _⟩
 | .int i,h=>by
  have h':i.natAbs<=B:=h
  have hlt:i.natAbs<10 ^ 45:=Nat.lt_of_le_of_lt h' hB
  have h2:i.natAbs<2 ^ 150:=Nat.lt_trans hlt (by decide)
  have hl:i.natAbs.log2<150:=by
   by_cases h0:i.natAbs=0
   ·rw [h0]; decide
   ·exact(Nat.log2_lt h0).mpr h2
  refine⟨rfl,?_,rfl,rfl,?_,?_⟩
  ·show decide (i.natAbs.log2<1920)=true
   exact decide_eq_true (by omega)
  ·show decide ((PyData.shown (.int i)).length<=60)=true
   refine decide_eq_true ?_
   have:=int_text_length_le10 (a:=i) (k:=45) (by decide) hlt
   show (Str.ofString (toString i)).length<=60
   rw [PySem.ofString_length]
   omega
  ·show (if i==0 then 0 else i.natAbs.log2+1)<=200
   split <;> omega
 | .str x,h=>by
  have h':∀c∈cs x,c<1114112:=h
  refine⟨rfl,rfl,LN h',rfl,?_,Nat.le_refl _⟩
  show (x.cps.toList.all fun c=>decide (c<16 ^ 8))=true
  rw [List.all_eq_true]
  intro c hc
  exact decide_eq_true (Nat.lt_trans (h' c hc) (by decide))
 | .tup ds,h=>by
  obtain⟨h1,h2,h3,h4,h5,h6⟩:=IH hB (ds:=ds) h
  refine⟨h1,h2,h3,?_,h5,h6⟩
  show PyData.depthAll (BE ds)+1=IZ ds+1
  rw [h4]
 | .lst ds,h=>by
  obtain⟨h1,h2,h3,h4,h5,h6⟩:=IH hB (ds:=ds) h
  refine⟨h1,h2,h3,?_,h5,h6⟩
  show PyData.depthAll (BE ds)+1=IZ ds+1
  rw [h4]
 | .dic ks ds,h=>(show False from h).elim
 | .fdi ks ds,h=>(show False from h).elim
theorem IH{B:Nat}(hB:B<10 ^ 45):∀{ds:List D},FD B ds->CW ds=true/\PyData.showableAll (BE ds)=true/\PyData.canLayAll0 (BE ds)=true/\PyData.depthAll (BE ds)=IZ ds/\PyData.leavesShortAll 60 (BE ds)=true/\PyData.weightAll (BE ds)<=Cv ds
 | [],_=>⟨rfl,rfl,rfl,rfl,rfl,Nat.le_refl _⟩
 | d::ds,h=>by
  obtain⟨h1,h2,h3,h4,h5,h6⟩:=NS hB (d:=d) h.1
  obtain⟨g1,g2,g3,g4,g5,g6⟩:=IH hB (ds:=ds) h.2
  refine⟨?_,?_,?_,?_,?_,?_⟩
  ·show (FB d&&CW ds)=true
   rw [h1,g1]; rfl
  ·show ((BO d).showable&&PyData.showableAll (BE ds))=true
   rw [h2,g2]; rfl
  ·show ((BO d).canLay0&&PyData.canLayAll0 (BE ds))=true
   rw [h3,g3]; rfl
  ·show max (BO d).depth (PyData.depthAll (BE ds))=max (Gg d) (IZ ds)
   rw [h4,g4]
  ·show ((BO d).leavesShort 60&&PyData.leavesShortAll 60 (BE ds))=true
   rw [h5,g5]; rfl
  ·show (BO d).weight+1+PyData.weightAll (BE ds)<=DU d+1+Cv ds
   omega
end
theorem D8{B:Nat}{d:D}(hB:B<10 ^ 45)(h:fine B d)(hd:Gg d<=100):DV d:=by
 obtain⟨h1,h2,h3,h4,h5,h6⟩:=NS hB h
 exact⟨h1,h3,by rw [h4]; exact hd⟩
theorem Ob(xs:List D)(a:Int)(h:0<=a):Cv (Dp.Bj xs none (some a))+Cv (Dp.Bj xs (some a) (some (a+1)))<=Cv xs:=by
 obtain⟨k,rfl⟩:∃k:Nat,a=(k:Int):=⟨a.toNat,by omega⟩
 have e1:Dp.Bj xs none (some (k:Int))=xs.take (min k xs.length):=by
  unfold Dp.Bj
  rw [HT.sIx_none,HT.sIx_nat,List.drop_zero,Nat.sub_zero]
 have e2:Dp.Bj xs (some (k:Int)) (some ((k:Int)+1))=(xs.drop (min k xs.length)).take (min (k+1) xs.length - min k xs.length):=by
  unfold Dp.Bj
  rw [show ((k:Int)+1)=((k+1:Nat):Int) by omega,HT.sIx_nat,HT.sIx_nat]
 rw [e1,e2]
 have h1:=Bv (xs.take (min k xs.length)) (xs.drop (min k xs.length))
 rw [List.take_append_drop] at h1
 have h2:=LM (xs.drop (min k xs.length)) (min (k+1) xs.length - min k xs.length)
 omega
section
variable {ss:List Slot}{n:Nat}{Pd:D->Nat->Prop}
end
theorem Tc(xs:List D)(a:Nat):Dp.Bj xs none (some (a:Int))=xs.take (min a xs.length):=by
 unfold Dp.Bj
 rw [HT.sIx_none,HT.sIx_nat,List.drop_zero,Nat.sub_zero]
theorem QV(xs:List D)(a:Nat):Dp.Bj xs (some (a:Int)) none=xs.drop (min a xs.length):=by
 unfold Dp.Bj
 rw [HT.sIx_none,HT.sIx_nat]
 exact List.take_of_length_le (by rw [List.length_drop]; exact Nat.le_refl _)
theorem Sn{xs:List D}{a:Nat}(h:a<xs.length)(e:D):Cv (Dp.Bj xs none (some (a:Int))++[e]++Dp.Bj xs (some ((a:Int)+1)) none)+DU xs[a]=Cv xs+DU e:=by
 have e1:=Tc xs a
 have e2:Dp.Bj xs (some ((a:Int)+1)) none=xs.drop (a+1):=by
  rw [show ((a:Int)+1)=((a+1:Nat):Int) by omega,QV,Nat.min_eq_left (by omega)]
 rw [e1,e2,Nat.min_eq_left (by omega),Bv,Bv]
 have h1:=Bv (xs.take a) (xs.drop a)
 rw [List.take_append_drop,List.drop_eq_getElem_cons h] at h1
 have h2:Cv (xs[a]::xs.drop (a+1))=DU xs[a]+1+Cv (xs.drop (a+1)):=rfl
 have h3:Cv [e]=DU e+1+0:=rfl
 omega
section
variable {ss:List Slot}{n:Nat}{Pd:D->Nat->Prop}
end
section
variable {ss:List Slot}{n:Nat}{Pd:D->Nat->Prop}
end
def item(d:D):Prop:=fine 1000001 d/\DU d<=450/\Gg d<=1
theorem J1{k:Nat}:∀{ds:List D},(∀d∈ds,DU d+1<=k)->Cv ds<=k*ds.length
 | [],_=>Nat.zero_le _
 | d::ds,h=>by
  have h1:=h d List.mem_cons_self
  have h2:=J1 (ds:=ds) fun e he=>h e (List.mem_cons_of_mem _ he)
  show DU d+1+Cv ds<=k*(ds.length+1)
  rw [Nat.mul_succ]; omega
theorem QB{B:Nat}{xs:List D}(h:∀d∈xs,fine B d):fine B (.tup xs):=fines_iff.mpr h
theorem Pz{x:Str}(h1:x.length<=8)(h2:∀c∈cs x,c<1114112):item (.str x):=⟨h2,by show x.length<=450; omega,Nat.zero_le _⟩
theorem DF{x:Str}(h:P2 x):item (.str x):=Pz h.2.1 fun c hc=>by have:=h.2.2 c hc; omega
theorem Py{a b:Str}{l:Int}(ha:item (.str a))(hb:item (.str b))(la:a.length<=8)(lb:b.length<=8)(hl:l.natAbs<=1000001):item (.tup [.str a,.str b,.int l]):=by
 refine⟨QB fun d hd=>?_,?_,?_⟩
 ·simp only [List.mem_cons,List.not_mem_nil,or_false] at hd
  rcases hd with rfl | rfl | rfl
  ·exact ha.1
  ·exact hb.1
  ·exact hl
 ·show a.length+1+(b.length+1+(200+1+0))<=450
  omega
 ·show max 0 (max 0 (max 0 0))+1<=1
  decide
theorem Ee{N:Net}(ok:N.Ok):∀d∈N.ts.map AT,item d:=fun d hd=>by
 obtain⟨t,ht,rfl⟩:=List.mem_map.mp hd
 obtain⟨h1,h2,_,h3,h4⟩:=ok.tin t ht
 have n1:=ok.names _ h1
 have n2:=ok.names _ h2
 exact Py (DF n1) (DF n2) n1.2.1 n2.2.1 (by omega)
theorem Qd{p:D->Prop}{xs:List D}(h:∀d∈xs,p d){o:Int}(h0:0<=o)(h1:o<(xs.length:Int)):∃z,atI xs o=some z/\p z:=by
 obtain⟨k,rfl⟩:∃k:Nat,o=(k:Int):=⟨o.toNat,by omega⟩
 have hk:k<xs.length:=by omega
 exact⟨xs[k],AH (List.getElem?_eq_getElem hk),h _ (List.getElem_mem hk)⟩
theorem BT(x:Str):¬cs x<cs x:=List.lt_irrefl _
theorem z2:2<=sizeLine:=by decide
theorem z3:3<=sizeLine:=by decide
theorem z0:0<=sizeLine:=Nat.zero_le _
section
variable {ss:List Slot}{n:Nat}{Pd:D->Nat->Prop}
end
end Nt
namespace L2
open PySem PySem.Spec PyProof.Rows
section
variable {X:Cx}{tg elt iter:Expr}{ifs:List Expr}{sc:Scope}{pos spos pos':Pos}{N':List Str}{js:List (Option Nat)}{wi:TI}{i:Nat}{x:Str}
theorem RA(hc:X.calm=true)(N':List Str)(js:List (Option Nat))(hi:PI X tg iter wi)
  (hB:IP sc X.env.scope X.N N' js=true) (hN:X.N.Nodup) (hix:X.N[i]?=some x) (hx:Rs X.env.scope x)
  (hsw:swapsWith (.ListComp elt [⟨tg,iter,ifs,0⟩] sc pos) (some (.Name x pos')) spos.line X.env=pure true)
  (hs:∀x,foldedSetIterable iter X.env x=pure x:=by intro _; rfl)
  (hf:X.fn x=true\/X.env.scope.names.lookup x=some .local:=by first | exact .inl rfl | exact .inr rfl | assumption) :
  PS X (.Assign [.Name x pos'] (.ListComp elt [⟨tg,iter,ifs,0⟩] sc pos) spos) (LL (Oy X sc N' js tg elt ifs wi) (Gw i)):=by
 intro pins s σ H D I h
 have O:CompOk X sc N' js:=CompOk.of hB
 obtain⟨cl,hclos,hcl,hcl2⟩:=IQ (scope:=sc) (env:=X.env) fun x hx=>I.ok.has x (O.free x hx)
 rw [exec_Assign_Name_used _ _ _ _ hsw]
 refine wpAny_bind (wpAny_standAt (wpAny_bind ?_))
 show wpAny _ _ (do let _ ← comprehension (.ListComp elt [⟨tg,iter,ifs,0⟩] sc pos) sc X.env _ (newList []) false (eval iter X.env) (some (assign (.Name x pos') X.env))) _ _ s
 refine wpAny_bind (wpAny_mono (wpAny_comprehension_free (Q:=fun _ s'=>SP X pins D .next s') (use:=some (assign (.Name x pos') X.env)) rfl hs hclos O.kind O.names (Bp (hi pins s σ H _ I h) fun v s1 h1=>Bp h1 fun itv s2 h2=>?_))
  (fun _ s' hq=>wpAny_pure (wpAny_pure hq)) fun _ _ e=>e)
 obtain⟨it,fp,tn,J,H2,e,I2,T,st2,f2,hq⟩:=h2
 subst e
 have kfree:X.K.lookup s2.heap.objs.size=none:=by
  cases q:X.K.lookup s2.heap.objs.size with
  | none=>rfl
  | some o=>exact absurd (Heap.lt_size (I2.kIn _ _ q)) (Nat.lt_irrefl _)
 obtain⟨g,tt,te,W,hg,ht,he,⟨m0,w0⟩,hW⟩:=hq s2.heap.objs.size (I2.hok.fresh (Nat.le_refl _)) kfree cl (s2.heap.objs.size+1) s2 H2 fp
 refine wpAny_newObj_type (wpAny_newFunctionEnv O.cell (by intro y hy; simp at hy) (fun h₁ hns₁ hsb₁=>?_) O.kind)
 dsimp only at hns₁ hsb₁ ⊢
 generalize hH2:s2.heap.push { cls:=.type "list",dict:=none,data:=.seq ([]:List Value).toArray }=Hh at hns₁ hsb₁ ⊢
 have hCe:Hh.objs.size=s2.heap.objs.size+1:=by rw [← hH2,Heap.size_push]
 have hlt:∀b∈fp,b<s2.heap.objs.size:=fun b hb=>by
  obtain⟨o,e,_⟩:=T.obj _ _ st2 b hb
  exact Heap.lt_size e
 have old:∀b o,s2.heap.get? b=some o->h₁.get? b=some o:=fun b o e=>hsb₁.extBut b o (by rw [hCe]; exact Nat.ne_of_lt (Nat.lt_succ_of_lt (Heap.lt_size e))) (Heap.get?_push_of_some _ (hH2▸Heap.get?_push_of_some _ e))
 have hD:∃n,h₁.get? s2.heap.objs.size=some { cls:=.type "list",data:=.seq #[] n }:=⟨_,hsb₁.extBut _ _ (by rw [hCe]; exact Nat.ne_of_lt (Nat.lt_succ_self _)) (Heap.get?_push_of_some _ (hH2▸Heap.get?_push_size _ rfl))⟩
 have I3:∀tk,Inv (A8 X sc N' cl (s2.heap.objs.size+1) s2 H2 fp) [] (Cp js σ) (BA H2 s2.heap.objs.size (.lst [])) { s2 with heap:=h₁,toks:=tk }:=fun tk =>
  Ln I2 hc O hcl hcl2 f2 (fun b hb=>let ⟨o,e,_⟩:=T.obj _ _ st2 b hb; ⟨o,e⟩) (by rw [← hCe]; exact hns₁) old hD
 have st3:tn 0 h₁:=T.keep _ _ _ st2 fun b hb o e=>old b o e
 have fr3:∀b∈fp,BA H2 s2.heap.objs.size (.lst []) b=none:=fun b hb=>by
  rw [AU (Nat.ne_of_lt (hlt b hb))]
  exact(f2 b hb).1
 have loop:∀tk,codeAny (model X.prog X.w) X.A (.compLoop (.ListComp elt [⟨tg,iter,ifs,0⟩] sc pos) 0 (.ref it) (.ref s2.heap.objs.size) (compEnvC sc cl (s2.heap.objs.size+1) X.env))
   (compPost (model X.prog X.w) X.A X.xe (some (assign (.Name x pos') X.env)) (fun _ s'=>SP X pins D .next s') (.ref s2.heap.objs.size) (s2.heap.objs.size+1)) { s2 with heap:=h₁,toks:=tk }:=fun tk=>by
  refine Jl (W:=W) (m0:=m0) (Q:=fun v H1=>Gw i v σ H1 fun σ2 H2=>D.nx σ2 H2) I2 f2 hlt (Nat.le_succ _) T hg ht he hW (fun σ' H' s' J' q'=>?_) (I3 tk) st3 fr3 w0
  obtain⟨m,hn,_⟩:=J'.loc
  have hCn:H' (s2.heap.objs.size+1)=none:=J'.free
  have I4:Inv X pins σ H' s':=ID (h':=s'.heap) I2 f2 (Nat.le_succ _) J' fun b _=>rfl
  obtain⟨g1,g2,g3,g4,g5,g6⟩:=I2.fpOk (b:=s2.heap.objs.size+1) (Nat.le_succ _) hCn
  show wpAny (model X.prog X.w) X.A (assign (.Name x pos') X.env (.ref s2.heap.objs.size)) (fun _ s''=>∃m,s''.heap.Ns (s2.heap.objs.size+1) m/\∀h',Heap.SameBut (s2.heap.objs.size+1) s''.heap h'->SP X pins D .next { s'' with heap:=h' }) X.xe s'
  refine wpAny_assign_Name (JM (v:=.ref s2.heap.objs.size) I4 hN hix hx rfl (fun s5 I5 ⟨a,hsame,ha⟩=>?_) hf)
  have na:s2.heap.objs.size+1≠a:=by
   rcases ha with rfl | ha
   ·exact g2
   ·exact fun z=>g5 _ _ ha z.symm
  refine⟨m,hn.sameBut hsame na,fun h' hs'=>?_⟩
  exact⟨_,H',I5.turned (t':=s5.toks) (it:=s2.heap.objs.size+1) (fun b o hb e=>hs'.extBut b o hb e) hCn g2 g4 g5 g6,q'⟩
 rw [show (newEnv sc Hh.objs.size X.env.globals cl X.env.qual none .none (some X.env) builtinsNs).locals=s2.heap.objs.size+1 from hCe]
 show codeAny (model X.prog X.w) X.A (.compStart (.ListComp elt [⟨tg,iter,ifs,0⟩] sc pos) 0 (.ref it) (.ref s2.heap.objs.size) (compEnvC sc cl (s2.heap.objs.size+1) X.env)) _ _
 exact codeAny_compStart_list (loop _) (T.self _ 0 _ _ _ st3 (loop _))
end
end L2
namespace Dp
open PySem PySem.Spec PyProof.Rows L2
section
variable {X:Cx}{κe:Kd}{tg elt iter:Expr}{ifs:List Expr}{sc:Scope}{pos:Pos}{src:GJ}{b:BW}{tt:HL}{te:DW}
theorem QY(hc:X.calm=true)(N':List Str)(js:List (Option Nat))(hi:T4 X tg iter src)(hg:∀cl C s H fp,DG (A8 X sc N' cl C s H fp) tg b)(ht:∀cl C s H fp,U5 (A8 X sc N' cl C s H fp) ifs tt)(he:∀cl C s H fp,DE (A8 X sc N' cl C s H fp) elt κe te)
  (hB:IP sc X.env.scope X.N N' js=true) (hk:κe≠.tp:=by intro z; cases z)
  (hs:∀x,foldedSetIterable iter X.env x=pure x:=by intro _; rfl):∃wi,PI X tg iter wi/\∀(C:Fm) (M:Addr->Prop) (H:Hp) (n:Nat) (ρ:List Slot) (σ:L2.St) (P:D->Nat->Prop) (Q:VK),Rel X.K C M H n ρ σ->Cg js src b tt te n ρ P ->
   (∀v H' d n',Ext C.U H H'->FeedC X.K C.F M H' n'->VR X.K C.V M H H' .fr v d->P d n'->Q v H')->Oy X sc N' js tg elt ifs wi σ H Q:=by
 obtain⟨wi,a1,a2⟩:=hi
 refine⟨wi,a1,fun C M H n ρ σ P Q R w q=>?_⟩
 refine a2 C M H n ρ σ _ _ R w fun J H1 ds n1 e1 f1 y w1=>?_
 obtain⟨hlen,w1⟩:=w1
 have R1:=R.step e1 f1
 intro l hl hkl cl Ca s0 H0 fp
 obtain⟨g,g1,g2⟩:=hg cl Ca s0 H0 fp
 obtain⟨tc,c1,c2⟩:=ht cl Ca s0 H0 fp
 obtain⟨tx,x1,x2⟩:=he cl Ca s0 H0 fp
 have noU:¬C.U l:=fun z=>by
  obtain⟨o,z⟩:=R1.udom l z
  rw [hl] at z; cases z
 generalize hM':(fun b=>M b\/b=l)=M'
 have M'l:M' l:=by rw [← hM']; exact .inr rfl
 have M'of:∀b,M b->M' b:=fun b z=>by rw [← hM']; exact .inl z
 have ofM':∀b,M' b->M b\/b=l:=fun b z=>by rw [← hM'] at z; exact z
 have inV:∀b,C.V b\/b=l->M' b:=fun b z=>z.elim (fun z=>M'of b (R1.vM b z)) fun z=>by rw [z]; exact M'l
 have lenj:js.length=N'.length:=Em (CompOk.of hB).cap
 refine⟨g,tc,tx,fun i m σ' H'=>m=ds.length - i/\i<=ds.length/\∃n' ρ' acc vs,Rel X.K ⟨M',C.F,C.U,fun b=>C.V b\/b=l,H1,[],[]⟩ M' H' n' ρ' σ'/\H' l=some (.lst vs)/\Ats X.K M' H' acc vs/\acc.length<=i/\Pres M H1 M' H' /\
   Da b tt te (fun acc n2=>P (.lst acc) n2) (ds.drop i) acc n' ρ',g1,c1,x1,⟨ds.length,by simp,Nat.zero_le _,n1,Fu js ρ,[],[],?_⟩,?_⟩
 ·have gr:Grow H1 (BA H1 l (.lst [])):=Av hl
  have pr:Pres M H1 M' (BA H1 l (.lst [])):=⟨fun b o e _=>gr.all b o e,fun b z=>(ofM' b z).elim .inl fun z=>.inr (by rw [z]; exact hl)⟩
  refine⟨⟨?_,fun a z=>z,fun a z=>?_,gr.ext,R1.fU,fun a z=>.inl (R1.uV a z),inV,f1.pres pr fun f o _ e=>gr.all f.1 o e,?_,fun p hp=>absurd hp (by simp),fun i d a q z=>NL R1.sl q z,fun i s a q o _=>absurd o (by rw [D7 q]; decide),fun i j s t a q o _ _ _ _=>absurd o (by rw [D7 q]; decide),fun p hp=>absurd hp (by simp)⟩,Ab,rfl,Nat.zero_le _,pr,w1⟩
  ·unfold Fu Cp
   rw [List.length_map,List.length_map]
  ·rcases ofM' a z with z | z
   ·obtain⟨o,z⟩:=R1.dom a z
    exact⟨o,gr.all a o z⟩
   ·subst z
    exact⟨_,Ab⟩
  ·refine Li R1.sl pr fun d v h=>h.same pr (fun a o _ e=>gr.all a o e) fun a e n1 z=>z.elim n1 fun z=>?_
   subst e
   obtain⟨o,w⟩:=h.lies
   rw [z,hl] at w
   cases w
 ·rintro i m σ' H' ⟨rfl,hi,n',ρ',acc,vs,R',hlv,hac,hal,pr,w'⟩
  by_cases hlt:i<ds.length
  ·have ed:ds.drop i=ds[i]::ds.drop (i+1):=List.drop_eq_getElem_cons hlt
   rw [ed] at w'
   obtain⟨go,yl⟩:=(y i M' H' pr R'.ext R'.dom).1 ds[i] (List.getElem?_eq_getElem hlt)
   refine .inr ⟨go,fun x H2 hy=>?_⟩
   obtain⟨gr,hx⟩:=yl x H2 hy
   have R2':=R'.step gr.ext (R'.feed.grow gr)
   refine g2 _ M' H2 n' ρ' σ' ds[i] x _ _ R2' hx w' fun ρ3 σ3 R3 w3=>?_
   refine c2 _ M' H2 n' ρ3 σ3 _ _ R3 w3 fun c H4 n4 e4 f4 w4=>?_
   have R4:=R3.step e4 f4
   have p4:Pres M' H' M' H4:=gr.pres.trans (R3.pres e4)
   have l4:H4 l=some (.lst vs):=e4.keep (gr.all _ _ hlv) noU
   cases c with
   | false=>exact⟨ds.length - (i+1),by omega,rfl,hlt,n4,ρ3,acc,vs,R4,l4,hac.pres p4,by omega,pr.trans p4,w4⟩
   | true =>
    refine x2 _ M' H4 n4 ρ3 σ3 _ _ R4 w4 fun yv H5 d5 n5 e5 f5 r5 w5=>?_
    have R5:=R4.step e5 f5
    have p5:Pres M' H4 M' H5:=R4.pres e5
    have l5:H5 l=some (.lst vs):=e5.keep l4 noU
    have hy5:=r5.shOf R4.dom hk
    have a5:=(hac.pres p4).pres p5
    have pu:Pres M' H5 M' (BA H5 l (.lst (vs++[yv]))):=⟨fun b o e nb=>by rw [AU (fun z=>nb (by rw [z]; exact M'l))]; exact e,fun _ z=>.inl z⟩
    have hvl:vs.length=acc.length:=hac.length
    refine⟨vs,l5,by rw [sizeLine_eq]; omega,ds.length - (i+1),by omega,rfl,hlt,n5,ρ3,acc++[d5],vs++[yv],?_,Ab,(a5.append (Ats.one hy5)).pres pu,by rw [List.length_append,List.length_singleton]; omega,(pr.trans p4).trans (p5.trans pu),w5⟩
    refine⟨R5.len,R5.sub,fun a z=>?_,fun b o e=>?_,R5.fU,R5.uV,R5.vM,?_,fun j s hs=>?_,fun p hp=>absurd hp (by simp),R5.br0,R5.new,R5.two,fun p hp=>absurd hp (by simp)⟩
    ·by_cases ha:a=l
     ·subst ha; exact⟨_,Ab⟩
     ·rw [AU ha]; exact R5.dom a z
    ·obtain⟨o',q1,q2⟩:=R5.ext b o e
     by_cases hb:b=l
     ·subst hb
      have e':H1 b=some o:=e
      rw [hl] at e'; cases e'
     ·exact⟨o',by rw [AU hb]; exact q1,q2⟩
    ·refine f5.pres pu fun f o hf e=>?_
     rw [AU (fun z=>noU (by rw [← z]; exact R1.fU f hf))]
     exact e
    ·have hs5:=R5.sl j s hs
     cases s with
     | no=>trivial
     | sh d=>obtain⟨v,e1,h2⟩:=hs5; exact⟨v,e1,h2.pres pu⟩
     | br d =>
      obtain⟨v,e1,h2⟩:=hs5
      refine⟨v,e1,h2.same pu (fun a o z e=>?_) fun _ _ z=>z⟩
      subst z
      obtain⟨o3,w⟩:=R5.br0 j d a hs e1
      have hal:a≠l:=fun z=>by
       have w':H1 a=some o3:=w
       rw [z,hl] at w'; cases w'
      rw [AU hal]; exact e
     | ow d =>
      obtain⟨a,e1,h2,_⟩:=hs5
      exact absurd h2 (R5.new j _ a hs rfl e1).1
     | lt a d =>
      obtain⟨e1,h2,_⟩:=hs5
      exact absurd h2 (R5.new j _ a hs rfl e1).1
     | fd=>exact hs5
  ·have e:i=ds.length:=by omega
   subst e
   rw [List.drop_length] at w'
   refine .inl ⟨(y _ M' H' pr R'.ext R'.dom).2 (Nat.le_refl _),?_⟩
   have eb:Ext C.U H1 H':=R'.ext
   have less:Pres M' H' M H':=Pres.less M'of
   refine q _ H' (.lst acc) n' (e1.trans eb) (R'.feed.pres less fun _ _ _ z=>z) (VR.back e1 ?_) w'
   exact⟨l,rfl,hl,vs,hlv,by rw [hM']; exact hac⟩
theorem NX{κ:Kd}{i:Nat}{x:Str}{pos' spos:Pos}(hN:X.N.Nodup)(hix:X.N[i]?=some x)(hx:Rs X.env.scope x)(hc:X.calm=true)(N':List Str)(js:List (Option Nat))(hi:T4 X tg iter src)(hg:∀cl C s H fp,DG (A8 X sc N' cl C s H fp) tg b)(ht:∀cl C s H fp,U5 (A8 X sc N' cl C s H fp) ifs tt)(he:∀cl C s H fp,DE (A8 X sc N' cl C s H fp) elt κe te)
  (hB:IP sc X.env.scope X.N N' js=true) (hsw:swapsWith (.ListComp elt [⟨tg,iter,ifs,0⟩] sc pos) (some (.Name x pos')) spos.line X.env=pure true:=by rfl) (hk:κe≠.tp:=by intro z; cases z)
  (hs:∀x,foldedSetIterable iter X.env x=pure x:=by intro _; rfl)
  (hf:X.fn x=true\/X.env.scope.names.lookup x=some .local:=by first | exact .inl rfl | exact .inr rfl | assumption):DS X κ (.Assign [.Name x pos'] (.ListComp elt [⟨tg,iter,ifs,0⟩] sc pos) spos) (Bl i (Cg js src b tt te)):=by
 obtain⟨wi,a1,a2⟩:=QY hc N' js hi hg ht he hB hk hs
 refine⟨_,RA hc N' js a1 hB hN hix hx hsw hs hf,fun C M H n ρ σ D2 E R L w=>?_⟩
 refine a2 C M H n ρ σ _ _ R w fun v H' d n' e1 f1 r1 p=>?_
 exact L.nx M H' n' _ _ ((R.step e1 f1).set (r1.shOf R.dom (by intro z; cases z))) p
end
end Dp
namespace L2
open PySem PySem.Spec PyProof.Rows
def UZ:R2:=fun y x H Q=>∃a o,x=.ref a/\DGet H a y o/\Q (.bl o.isSome) H
def R7:R2:=fun y x H Q=>∃a o,x=.ref a/\DGet H a y o/\Q (.bl (!o.isSome)) H
def R8:R2:=fun x y H Q=>∃a v,x=.ref a/\DGet H a y (some v)/\Q v H
theorem MV{X:Cx}{k:Nat}(hr:Room k X.A):OpR X (compareOp .In) UZ:=by
 intro pins s σ H y x iv u Q I ry rx ⟨a,ov,ex,g,q⟩
 subst ex
 obtain rfl:u=Value.ref a:=rx
 exact Vm (Jg hr) I g ry fun s3 I3=>⟨.bl ov.isSome,H,I3,rfl,q⟩
theorem JV{X:Cx}{k:Nat}(hr:Room k X.A):OpR X (compareOp .NotIn) R7:=by
 intro pins s σ H y x iv u Q I ry rx ⟨a,ov,ex,g,q⟩
 subst ex
 obtain rfl:u=Value.ref a:=rx
 exact Rl (Jg hr) I g ry fun s3 I3=>⟨.bl (!ov.isSome),H,I3,rfl,q⟩
end L2
namespace Dp
open PySem PySem.Spec PyProof.Rows L2
def Bb:List AY->List D->AY->Option D
 | k0::ks,d::ds,k=>if k0=k then some d else Bb ks ds k
 | _,_,_=>none
section
variable {K:Frag}{X:Cx}
theorem Fd{M:Addr->Prop}{H:Hp}{k:AY}:∀{ks:List AY} {ds:List D} {vs:List V},Ats K M H ds vs ->
  match Bb ks ds k with
  | some z=>∃v,C9 (ks.zip vs) k=some v/\At K M H z v
  | none=>C9 (ks.zip vs) k=none
 | [],ds,vs,h=>by unfold Bb; exact rfl
 | k0::ks,[],vs,h=>by cases h; exact rfl
 | k0::ks,d::ds,vs,h=>by
  obtain⟨v,r,rfl,h1,h2⟩:=h
  have ih:=Fd (k:=k) (ks:=ks) h2
  unfold Bb
  by_cases e:k0=k
  ·rw [if_pos e]
   refine⟨v,?_,h1⟩
   show C9 ((k0,v)::ks.zip r) k=some v
   rw [ER e]
  ·rw [if_neg e]
   have:C9 ((k0,v)::ks.zip r) k=C9 (ks.zip r) k:=ES e
   rw [show (k0::ks).zip (v::r)=(k0,v)::ks.zip r from rfl,this]
   exact ih
def IA:D->Option AY
 | .int i=>some (.inl i)
 | .str x=>some (.inr x)
 | _=>none
theorem Dq{U M:Addr->Prop}{H:Hp}{d:D}{v:V}{k:AY}(e:IA d=some k)(h:AtT K U M H d v):v=kV k:=by
 cases d with
 | int i=>cases e; exact h
 | str x=>cases e; exact h.str.1
 | _=>cases e
def Gx:D->Option (List AY×List D)
 | .dic ks ds=>some (ks,ds)
 | .fdi ks ds=>some (ks,ds)
 | _=>none
theorem FV{U M:Addr->Prop}{H:Hp}{d:D}{x:V}{ks:List AY}{ds:List D}(e:Gx d=some (ks,ds))(h:AtT K U M H d x):∃a vs,x=.ref a/\Rd H a (.dK (ks.zip vs))/\Ats K M H ds vs:=by
 cases d with
 | dic k2 d2=>cases e; obtain⟨a,vs,rfl,_,ha,_,hs⟩:=h; exact⟨a,vs,rfl,.inl ha,hs⟩
 | fdi k2 d2=>cases e; obtain⟨a,vs,rfl,⟨o,_,ha⟩,_,hs⟩:=h; exact⟨a,vs,rfl,.inr ⟨o,ha⟩,hs⟩
 | _=>cases e
theorem HG{H:Hp}{a:Addr}{kvs:List (AY×V)}{k:AY}(e:Rd H a (.dK kvs)):DGet H a (kV k) (C9 kvs k):=.inl ⟨kvs,k,e,rfl,rfl⟩
def Kc(neg:Bool)(e d:D)(P:D->Prop):Prop:=∃ks ds k,Gx d=some (ks,ds)/\IA e=some k/\P (.bl (if neg then !(Bb ks ds k).isSome else (Bb ks ds k).isSome))
def CT(d e:D)(P:D->Prop):Prop:=∃ks ds k z,Gx d=some (ks,ds)/\IA e=some k/\Bb ks ds k=some z/\P z
theorem Qn:Gp K .sh UZ (Kc false):=fun U M H e d y x P Q dom vM hy hx w q=>by
 obtain⟨ks,ds,k,hd,he,w⟩:=w
 obtain⟨a,vs,rfl,ha,hs⟩:=FV hd hx
 refine⟨a,C9 (ks.zip vs) k,rfl,by rw [Dq he hy]; exact HG ha,q _ H (.bl _) .refl rfl ?_⟩
 have h:=Fd (k:=k) (ks:=ks) hs
 cases c:Bb ks ds k with
 | none=>rw [c] at h w; rw [show C9 (ks.zip vs) k=none from h]; exact w
 | some z=>rw [c] at h w; obtain⟨v,h1,_⟩:=h; rw [h1]; exact w
theorem L6:Gp K .sh R7 (Kc true):=fun U M H e d y x P Q dom vM hy hx w q=>by
 obtain⟨ks,ds,k,hd,he,w⟩:=w
 obtain⟨a,vs,rfl,ha,hs⟩:=FV hd hx
 refine⟨a,C9 (ks.zip vs) k,rfl,by rw [Dq he hy]; exact HG ha,q _ H (.bl _) .refl rfl ?_⟩
 have h:=Fd (k:=k) (ks:=ks) hs
 cases c:Bb ks ds k with
 | none=>rw [c] at h w; rw [show C9 (ks.zip vs) k=none from h]; exact w
 | some z=>rw [c] at h w; obtain⟨v,h1,_⟩:=h; rw [h1]; exact w
theorem Tl:Gp K .sh R8 CT:=fun U M H d e x y P Q dom vM hx hy w q=>by
 obtain⟨ks,ds,k,z,hd,he,hz,w⟩:=w
 obtain⟨a,vs,rfl,ha,hs⟩:=FV hd hx
 have h:=Fd (k:=k) (ks:=ks) hs
 rw [hz] at h
 obtain⟨v,h1,h2⟩:=h
 exact⟨a,v,rfl,by rw [Dq he hy,← h1]; exact HG ha,q v H z .refl h2 w⟩
variable {a b:Expr}{κa κb:Kd}{wa wb:DW}{pos:Pos}
theorem DB{k:Nat}(hr:Room k X.A)(ha:DE X a κa wa)(hb:DE X b κb wb)(hs:Ts b:=by intro _ _; rfl):DE X (.Subscript a b pos) .sh (AV CT wa wb):=by
 obtain⟨ta,ha1,ha2⟩:=ha
 obtain⟨tb,hb1,hb2⟩:=hb
 exact⟨Dl R8 ta tb,KJ (Jg hr) ha1 hb1 hs,fun C M H n ρ σ P Q R w q=>En Tl ha2 hb2 C M H n ρ σ P Q R w q⟩
end
end Dp
namespace So
open PySem PySem.W PyProof.Rows
section
variable {O:KeyOrd}{key:Nat->O.α}{N:Nat}{cmp:Nat->Nat->(Bool->Shared->Prop)->Shared->Prop}{s:Shared}{p p0:Array Nat}
def KN(O:KeyOrd)(key:Nat->O.α)(p:Array Nat)(i:Nat):O.α:=key (p.getD i 0)
def Srt(O:KeyOrd)(key:Nat->O.α)(p:Array Nat)(k:Nat):Prop:=∀i j,i<=j->j<k->O.kle (KN O key p i) (KN O key p j)
def U3(O:KeyOrd)(key:Nat->O.α)(p:Array Nat)(k:Nat):Prop:=∀i j,i<=j->j<k->O.kle (KN O key p j) (KN O key p i)
def SN(O:KeyOrd)(key:Nat->O.α)(N:Nat)(cmp:Nat->Nat->(Bool->Shared->Prop)->Shared->Prop)(s:Shared):Prop:=∀(i j:Nat) (C:Bool->Shared->Prop),i<N->j<N->C (O.blt (key i) (key j)) s->cmp i j C s
def Bd(N:Nat)(p:Array Nat):Prop:=0<N/\∀x∈p,x<N
theorem KZ(p:Array Nat)(i:Nat):p.getD i 0=(p[i]?).getD 0:=by
 simp
theorem Bd.get(h:Bd N p)(i:Nat):p.getD i 0<N:=by
 rw [KZ]
 cases e:p[i]? with
 | none=>exact h.1
 | some x=>exact h.2 x (Array.mem_of_getElem? e)
theorem Bd.perm{p':Array Nat}(h:Bd N p)(hp:p'.Perm p):Bd N p':=⟨h.1,fun x hx=>h.2 x (hp.mem_iff.mp hx)⟩
theorem Ev{p q:Array Nat}{i j:Nat}(h:p[i]?=q[j]?):KN O key p i=KN O key q j:=by
 unfold KN
 rw [KZ,KZ,h]
theorem Jv{src d:Nat}(hs:src<p.size)(hd:d<=src)(k:Nat) :
  KN O key (bubble p src d) k=if k=src - d then KN O key p src else if src - d<k/\k<=src then KN O key p (k - 1) else KN O key p k:=by
 have e:=getElem?_bubble hs d hd k
 by_cases h1:k=src - d
 ·rw [if_pos h1] at e ⊢; exact Ev e
 ·rw [if_neg h1] at e ⊢
  by_cases h2:src - d<k/\k<=src
  ·rw [if_pos h2] at e ⊢; exact Ev e
  ·rw [if_neg h2] at e ⊢; exact Ev e
theorem Gq{i j:Nat}(hj:j<=p.size)(k:Nat):KN O key (kas_rev p i j) k=if i<=k/\k<j then KN O key p (i+j - 1 - k) else KN O key p k:=by
 have e:=getElem?_mirror_all (i:=i) hj k
 unfold kas_rev
 by_cases h1:i<=k/\k<j
 ·rw [if_pos h1] at e ⊢; exact Ev e
 ·rw [if_neg h1] at e ⊢; exact Ev e
theorem Br{i j:Nat}(hj:j<=p.size)(heq:∀k,i<=k->k<j->KN O key p k=KN O key p (j - 1))(k:Nat):KN O key (kas_rev p i j) k=KN O key p k:=by
 rw [Gq hj]
 split
 ·rw [heq _ (by omega) (by omega),heq k (by omega) (by omega)]
 ·rfl
theorem CV(p:Array Nat)(i j:Nat):(kas_rev p i j).Perm p:=mirror_perm _ _ _ _
theorem T6{α:Type}{T₁ T₂:KasT α}{Q:α->Shared->Prop}(h:T₁.kasWp cmp Q s):(if true=true then T₁ else T₂).kasWp cmp Q s:=by rw [if_pos rfl]; exact h
theorem no{α:Type}{T₁ T₂:KasT α}{Q:α->Shared->Prop}(h:T₂.kasWp cmp Q s):(if false=true then T₁ else T₂).kasWp cmp Q s:=by rw [if_neg (by simp)]; exact h
theorem Mq(hC:SN O key N cmp s)(hb:Bd N p){nrem:Nat}{G:Nat->Shared->Prop}:∀(f n:Nat),1<=n->n+f=nrem->Srt O key p n ->
  (∀m,n<=m->m<=nrem->Srt O key p m->(m=nrem\/O.klt (KN O key p m) (KN O key p (m - 1)))->G m s)->(kas_asc p f n).kasWp cmp G s
 | 0,n,_,e,hs,h=>h n (Nat.le_refl _) (by omega) hs (.inl (by omega))
 | f+1,n,h1,e,hs,h=>by
  show cmp (p.getD n 0) (p.getD (n - 1) 0) (fun c s'=>(if c=true then KasT.ret n else kas_asc p f (n+1)).kasWp cmp G s') s
  refine hC _ _ _ (hb.get n) (hb.get _) ?_
  cases hless:O.blt (key (p.getD n 0)) (key (p.getD (n - 1) 0)) with
  | true=>exact T6 (h n (Nat.le_refl _) (by omega) hs (.inr hless))
  | false =>
   refine no (Mq hC hb f (n+1) (by omega) (by omega) (fun i j hij hj=>?_) fun m m1 m2 m3 m4=>h m (by omega) m2 m3 m4)
   by_cases hjx:j<n
   ·exact hs i j hij hjx
   ·have hj':j=n:=by omega
    subst hj'
    by_cases hi':i=j
    ·subst hi'; exact KeyOrd.kle_refl _
    ·exact KeyOrd.kle_trans (hs i (j - 1) (by omega) (by omega)) hless
theorem HH(hC:SN O key N cmp s){nrem:Nat}{G:Array Nat×Nat×Nat->Shared->Prop}:∀(f:Nat) (p:Array Nat) (n q:Nat),p.Perm p0->Bd N p->nrem<=p.size->1<=n->n+f=nrem->U3 O key p n->q+1<=n ->
  (∀i,n - (q+1)<=i->i<n->KN O key p i=KN O key p (n - 1)) ->
  (∀p' m q',p'.Perm p0->Bd N p'->p'.size=p.size->n<=m->m<=nrem->U3 O key p' m->q'+1<=m->(∀i,m - (q'+1)<=i->i<m->KN O key p' i=KN O key p' (m - 1))->G (p',m,q') s)->(kas_desc f p n q).kasWp cmp G s
 | 0,p,n,q,hp,hb,hz,h1,e,hs,hq,he,h=>h p n q hp hb rfl (Nat.le_refl _) (by omega) hs hq he
 | f+1,p,n,q,hp,hb,hz,h1,e,hs,hq,he,h=>by
  show cmp (p.getD n 0) (p.getD (n - 1) 0) (fun c s'=>(if c=true then (if q > 0 then kas_desc f (kas_rev p (n - (q+1)) n) (n+1) 0 else kas_desc f p (n+1) 0)
   else .ask (p.getD (n - 1) 0) (p.getD n 0) fun d=>if d=true then .ret (p,n,q) else kas_desc f p (n+1) (q+1)).kasWp cmp G s') s
  refine hC _ _ _ (hb.get n) (hb.get _) ?_
  cases hless:O.blt (key (p.getD n 0)) (key (p.getD (n - 1) 0)) with
  | true =>
   have hl:O.klt (KN O key p n) (KN O key p (n - 1)):=hless
   have step1:∀xs:Array Nat,(∀k,KN O key xs k=KN O key p k)->U3 O key xs (n+1):=by
    intro xs hk i j hij hj
    rw [hk,hk]
    by_cases hjx:j<n
    ·exact hs i j hij hjx
    ·have hj':j=n:=by omega
     subst hj'
     by_cases hi':i=j
     ·subst hi'; exact KeyOrd.kle_refl _
     ·exact KeyOrd.kle_trans (KeyOrd.kle_of_klt hl) (hs i (j - 1) (by omega) (by omega))
   refine T6 ?_
   have hsz:n<=p.size:=by omega
   by_cases hq0:q > 0
   ·rw [if_pos hq0]
    refine HH hC f _ (n+1) 0 ((CV _ _ _).trans hp) (hb.perm (CV _ _ _)) (by rw [kas_rev_size]; exact hz) (by omega) (by omega) (step1 _ (Br hsz he)) (by omega) (fun i a b=>by congr 1; omega) fun p' m q' a1 a2 a3 a4 a5 a6 a7 a8=>h p' m q' a1 a2 (a3.trans (kas_rev_size _ _)) (by omega) a5 a6 a7 a8
   ·rw [if_neg hq0]
    exact HH hC f _ (n+1) 0 hp hb hz (by omega) (by omega) (step1 _ fun _=>rfl) (by omega) (fun i a b=>by congr 1; omega) fun p' m q' a1 a2 a3 a4 a5 a6 a7 a8=>h p' m q' a1 a2 a3 (by omega) a5 a6 a7 a8
  | false =>
   refine no ?_
   show cmp (p.getD (n - 1) 0) (p.getD n 0) (fun d s'=>(if d=true then KasT.ret (p,n,q) else kas_desc f p (n+1) (q+1)).kasWp cmp G s') s
   refine hC _ _ _ (hb.get _) (hb.get n) ?_
   cases hlarger:O.blt (key (p.getD (n - 1) 0)) (key (p.getD n 0)) with
   | true=>exact T6 (h p n q hp hb rfl (Nat.le_refl _) (by omega) hs hq he)
   | false =>
    have heqx:KN O key p n=KN O key p (n - 1):=KeyOrd.kle_antisymm (O:=O) hlarger hless
    refine no (HH hC f p (n+1) (q+1) hp hb hz (by omega) (by omega) (fun i j hij hj=>?_) (by omega) (fun i a b=>?_) fun p' m q' a1 a2 a3 a4 a5 a6 a7 a8=>h p' m q' a1 a2 a3 (by omega) a5 a6 a7 a8)
    ·by_cases hjx:j<n
     ·exact hs i j hij hjx
     ·have hj':j=n:=by omega
      subst hj'
      by_cases hi':i=j
      ·subst hi'; exact KeyOrd.kle_refl _
      ·rw [heqx]; exact hs i (j - 1) (by omega) (by omega)
    ·rw [show n+1 - 1=n by omega]
     by_cases hix:i=n
     ·subst hix; rfl
     ·rw [heqx]; exact he i (by omega) (by omega)
theorem LK(hC:SN O key N cmp s){n nrem:Nat}{G:Nat×Array Nat->Shared->Prop}(hp:p.Perm p0)(hb:Bd N p)(hz:nrem<=p.size)(h1:1<=n)(hn:n<=nrem)(hs:U3 O key p n)
  (h:∀m p',p'.Perm p0->Bd N p'->p'.size=p.size->1<=m->m<=nrem->Srt O key p' m->G (m,p') s):(kas_tail3 n nrem p).kasWp cmp G s:=by
 unfold kas_tail3
 rw [KasT.kasWp_bind]
 have hsz:n<=p.size:=by omega
 refine Mq hC (hb.perm (CV _ _ _)) (nrem - n) n h1 (by omega) (fun i j hij hj=>?_) fun m m1 m2 m3 _=>h m _ ((CV _ _ _).trans hp) (hb.perm (CV _ _ _)) (kas_rev_size _ _) (by omega) m2 m3
 rw [Gq hsz,Gq hsz,if_pos (by omega),if_pos (by omega)]
 exact hs _ _ (by omega) (by omega)
theorem Gy(hC:SN O key N cmp s){n nrem:Nat}{G:Nat×Array Nat->Shared->Prop}(hp:p.Perm p0)(hb:Bd N p)(hz:nrem<=p.size)(hn:n+1<=nrem)(hs:U3 O key p (n+1))
  (h:∀m p',p'.Perm p0->Bd N p'->p'.size=p.size->1<=m->m<=nrem->Srt O key p' m->G (m,p') s):(kas_descPart n nrem p).kasWp cmp G s:=by
 unfold kas_descPart
 rw [KasT.kasWp_bind]
 refine HH (p0:=p0) hC (nrem - (n+1)) p (n+1) 0 hp hb hz (by omega) (by omega) hs (by omega) (fun i a b=>by congr 1; omega) fun p' m q' a1 a2 a3 a4 a5 a6 a7 a8=>?_
 have hsz:m<=p'.size:=by omega
 show (if q' > 0 then kas_tail3 m nrem (kas_rev p' (m - (q'+1)) m) else kas_tail3 m nrem p').kasWp cmp G s
 by_cases hq0:q' > 0
 ·rw [if_pos hq0]
  refine LK hC ((CV _ _ _).trans a1) (a2.perm (CV _ _ _)) (by rw [kas_rev_size]; omega) (by omega) a5 (fun i j hij hj=>?_) fun m' p'' b1 b2 b3 b4 b5 b6=>h m' p'' b1 b2 (b3.trans ((kas_rev_size _ _).trans a3)) b4 b5 b6
  rw [Br hsz a8,Br hsz a8]
  exact a6 i j hij hj
 ·rw [if_neg hq0]
  exact LK hC a1 a2 (by omega) (by omega) a5 a6 fun m' p'' b1 b2 b3 b4 b5 b6=>h m' p'' b1 b2 (b3.trans a3) b4 b5 b6
theorem QX(hC:SN O key N cmp s){nrem:Nat}{G:Nat×Array Nat->Shared->Prop}(hp:p.Perm p0)(hb:Bd N p)(hz:nrem<=p.size)(h1:1<=nrem)
  (h:∀m p',p'.Perm p0->Bd N p'->p'.size=p.size->1<=m->m<=nrem->Srt O key p' m->G (m,p') s):(kas_count nrem p).kasWp cmp G s:=by
 unfold kas_count
 rw [KasT.kasWp_bind]
 refine Mq (nrem:=nrem) hC hb (nrem - 1) 1 (Nat.le_refl _) (by omega) (fun i j hij hj=>by have:i=j:=(by omega); subst this; exact KeyOrd.kle_refl _) fun n hn1 hn2 hsn hor=>?_
 by_cases hnn:n=nrem
 ·rw [if_pos (by simpa using hnn)]
  exact h n p hp hb rfl hn1 hn2 hsn
 ·rw [if_neg (by simpa using hnn)]
  have hlt:O.klt (KN O key p n) (KN O key p (n - 1)):=hor.resolve_left hnn
  by_cases hgt:n > 1
  ·rw [if_pos hgt]
   show cmp (p.getD 0 0) (p.getD (n - 1) 0) (fun c s'=>(if c=true then KasT.ret (n,p) else kas_descPart n nrem (kas_rev p 0 n)).kasWp cmp G s') s
   refine hC _ _ _ (hb.get _) (hb.get _) ?_
   cases hrose:O.blt (key (p.getD 0 0)) (key (p.getD (n - 1) 0)) with
   | true=>exact T6 (h n p hp hb rfl hn1 hn2 hsn)
   | false =>
    have hrose':O.kle (KN O key p (n - 1)) (KN O key p 0):=hrose
    have hsz:n<=p.size:=by omega
    have hall:∀k,0<=k->k<n->KN O key p k=KN O key p (n - 1):=by
     intro k _ hk
     have a1:=hsn 0 k (by omega) hk
     have a2:=hsn k (n - 1) (by omega) (by omega)
     exact KeyOrd.kle_antisymm a2 (KeyOrd.kle_trans hrose' a1)
    refine no (Gy hC ((CV _ _ _).trans hp) (hb.perm (CV _ _ _)) (by rw [kas_rev_size]; exact hz) (by omega) (fun i j hij hj=>?_) fun m' p'' b1 b2 b3 b4 b5 b6=>h m' p'' b1 b2 (b3.trans (kas_rev_size _ _)) b4 b5 b6)
    rw [Br hsz hall,Br hsz hall]
    by_cases hjn:j<n
    ·rw [hall i (by omega) (by omega),hall j (by omega) hjn]; exact KeyOrd.kle_refl _
    ·have hj':j=n:=by omega
     subst hj'
     by_cases hi':i=j
     ·subst hi'; exact KeyOrd.kle_refl _
     ·rw [hall i (by omega) (by omega)]; exact KeyOrd.kle_of_klt hlt
  ·rw [if_neg hgt]
   have hn1':n=1:=by omega
   subst hn1'
   refine Gy hC hp hb hz (by omega) (fun i j hij hj=>?_) h
   by_cases hi':i=j
   ·subst hi'; exact KeyOrd.kle_refl _
   ·have hi0:i=0:=by omega
    have hj1:j=1:=by omega
    subst hi0; subst hj1
    exact KeyOrd.kle_of_klt hlt
theorem Hl(hC:SN O key N cmp s)(hb:Bd N p){k:Nat}(hs:Srt O key p k){G:Nat->Shared->Prop}
  (h:∀l,l<=k->(∀i,i<l->O.kle (KN O key p i) (KN O key p k))->(∀i,l<=i->i<k->O.klt (KN O key p k) (KN O key p i))->G l s):∀(f l r:Nat),l<=r->r<=k->r - l<=f ->
  (∀i,i<l->O.kle (KN O key p i) (KN O key p k))->(∀i,r<=i->i<k->O.klt (KN O key p k) (KN O key p i))->(kas_place p k f l r).kasWp cmp G s
 | 0,l,r,hlr,hrk,hm,hlo,hhi=>by
  have:l=r:=by omega
  subst this
  exact h l hrk hlo hhi
 | f+1,l,r,hlr,hrk,hm,hlo,hhi=>by
  unfold kas_place
  by_cases hge:l≥r
  ·rw [if_pos hge]
   have:l=r:=by omega
   subst this
   exact h l hrk hlo hhi
  ·rw [if_neg hge]
   show cmp (p.getD k 0) (p.getD ((l+r) / 2) 0) (fun c s'=>(if c=true then kas_place p k f l ((l+r) / 2) else kas_place p k f ((l+r) / 2+1) r).kasWp cmp G s') s
   refine hC _ _ _ (hb.get _) (hb.get _) ?_
   cases hless:O.blt (key (p.getD k 0)) (key (p.getD ((l+r) / 2) 0)) with
   | true =>
    have hl:O.klt (KN O key p k) (KN O key p ((l+r) / 2)):=hless
    exact T6 (Hl hC hb hs h f l ((l+r) / 2) (by omega) (by omega) (by omega) hlo fun i h1 h2=>KeyOrd.klt_of_klt_of_kle hl (hs _ _ h1 h2))
   | false =>
    have hl:O.kle (KN O key p ((l+r) / 2)) (KN O key p k):=hless
    exact no (Hl hC hb hs h f ((l+r) / 2+1) r (by omega) (by omega) (by omega) (fun i h1=>KeyOrd.kle_trans (hs i ((l+r) / 2) (by omega) (by omega)) hl) hhi)
theorem En(hC:SN O key N cmp s){n:Nat}{G:Array Nat->Shared->Prop}(h:∀p',p'.Perm p0->Srt O key p' n->G p' s):∀(f:Nat) (p:Array Nat) (k:Nat),p.Perm p0->Bd N p->n<=p.size->k+f=n->Srt O key p k->(kas_bin f p k).kasWp cmp G s
 | 0,p,k,hp,hb,hz,e,hs=>h p hp (by rw [← e]; exact hs)
 | f+1,p,k,hp,hb,hz,e,hs=>by
  rw [show kas_bin (f+1) p k=(kas_place p k k 0 k).bind fun l=>kas_bin f (bubble p k (k - l)) (k+1) from rfl,KasT.kasWp_bind]
  refine Hl hC hb hs (fun l hlk hlo hhi=>?_) k 0 k (Nat.zero_le _) (Nat.le_refl _) (by omega) (fun i hi=>by omega) fun i a b=>by omega
  have hks:k<p.size:=by omega
  refine En hC h f _ (k+1) ((bubble_perm _ _ _).trans hp) (hb.perm (bubble_perm _ _ _)) (by rw [bubble_size]; exact hz) (by omega) fun i j hij hj=>?_
  rw [Jv hks (by omega),Jv hks (by omega),show k - (k - l)=l by omega]
  by_cases hi1:i=l
  ·rw [if_pos hi1]
   by_cases hj1:j=l
   ·rw [if_pos hj1]; exact KeyOrd.kle_refl _
   ·rw [if_neg hj1,if_pos (by omega)]
    exact KeyOrd.kle_of_klt (hhi (j - 1) (by omega) (by omega))
  ·rw [if_neg hi1]
   by_cases hi2:l<i/\i<=k
   ·rw [if_pos hi2,if_neg (by omega),if_pos (by omega)]
    exact hs (i - 1) (j - 1) (by omega) (by omega)
   ·rw [if_neg hi2]
    by_cases hj1:j=l
    ·rw [if_pos hj1]; exact hlo i (by omega)
    ·rw [if_neg hj1]
     by_cases hj2:l<j/\j<=k
     ·rw [if_pos hj2]
      exact hs i (j - 1) (by omega) (by omega)
     ·rw [if_neg hj2]
      exact hs i j hij (by omega)
theorem sort_ok{n:Nat}(h1:1<=n)(hC:SN O key n cmp s){G:Array Nat->Shared->Prop}(h:∀p,p.Perm (List.toArray (List.range n))->Srt O key p n->G p s):(kas_sort n).kasWp cmp G s:=by
 unfold kas_sort
 rw [KasT.kasWp_bind]
 have hb:Bd n (List.toArray (List.range n)):=⟨h1,fun x hx=>by simpa using hx⟩
 have hsz:(List.toArray (List.range n)).size=n:=by simp
 refine QX hC (Array.Perm.refl _) hb (by omega) h1 fun m p' a1 a2 a3 a4 a5 a6=>?_
 show (if m<n then kas_bin (n - max m 1) p' (max m 1) else KasT.ret p').kasWp cmp G s
 by_cases hlt:m<n
 ·rw [if_pos hlt,show max m 1=m by omega]
  exact En (p0:=List.toArray (List.range n)) hC h (n - m) p' m a1 a2 (by omega) (by omega) a6
 ·rw [if_neg hlt]
  exact h p' a1 (by rw [show n=m by omega]; exact a6)
end
end So
namespace L2
open PySem PySem.Spec PyProof.Rows PySem.W
def S7:AY->AY->Bool
 | .inl i,.inl j=>decide (i<j)
 | .inr x,.inr y=>decide (x.cps.toList<y.cps.toList)
 | .inl _,.inr _=>true
 | .inr _,.inl _=>false
def BP:List AY->List AY->Bool
 | [],[]=>false
 | [],_::_=>true
 | _::_,[]=>false
 | x::xs,y::ys=>if x=y then BP xs ys else S7 x y
theorem Me:∀x:AY,S7 x x=false
 | .inl i=>decide_eq_false (Int.lt_irrefl i)
 | .inr x=>decide_eq_false (List.lt_irrefl _)
theorem OK:∀x y z:AY,S7 x y=true->S7 y z=true->S7 x z=true
 | .inl i,.inl j,.inl k,h1,h2=>decide_eq_true (Int.lt_trans (of_decide_eq_true h1) (of_decide_eq_true h2))
 | .inr i,.inr j,.inr k,h1,h2=>decide_eq_true (List.lt_trans (of_decide_eq_true h1) (of_decide_eq_true h2))
 | .inl i,.inl j,.inr k,_,_=>rfl
 | .inl i,.inr j,.inr k,_,_=>rfl
 | .inl i,.inr j,.inl k,_,h=>by cases h
 | .inr i,.inl j,_,h,_=>by cases h
 | .inr i,.inr j,.inl k,_,h=>by cases h
theorem OL:∀x y:AY,S7 x y=false->S7 y x=false->x=y
 | .inl i,.inl j,h1,h2=>congrArg Sum.inl (by have a:=of_decide_eq_false h1; have b:=of_decide_eq_false h2; omega)
 | .inr x,.inr y,h1,h2=>by
  have a:=of_decide_eq_false h1
  have b:=of_decide_eq_false h2
  have e:x.cps.toList=y.cps.toList:=List.le_antisymm (as:=x.cps.toList) (bs:=y.cps.toList) b a
  obtain⟨u⟩:=x
  obtain⟨v⟩:=y
  exact congrArg Sum.inr (congrArg Str.mk (Array.ext' e))
 | .inl i,.inr j,h,_=>by cases h
 | .inr i,.inl j,_,h=>by cases h
theorem C0:∀x:List AY,BP x x=false
 | []=>rfl
 | x::xs=>by unfold BP; rw [if_pos rfl]; exact C0 xs
theorem Cq:∀x y z:List AY,BP x y=true->BP y z=true->BP x z=true
 | [],[],_,h,_=>by cases h
 | [],_::_,[],_,h=>by cases h
 | [],_::_,_::_,_,_=>rfl
 | _::_,[],_,h,_=>by cases h
 | _::_,_::_,[],_,h=>by cases h
 | x::xs,y::ys,z::zs,h1,h2=>by
  unfold BP at h1 h2 ⊢
  by_cases e1:x=y
  ·subst e1
   rw [if_pos rfl] at h1
   by_cases e2:x=z
   ·subst e2
    rw [if_pos rfl] at h2 ⊢
    exact Cq xs ys zs h1 h2
   ·rw [if_neg e2] at h2 ⊢
    exact h2
  ·rw [if_neg e1] at h1
   by_cases e2:y=z
   ·subst e2
    rw [if_neg e1]
    exact h1
   ·rw [if_neg e2] at h2
    have h3:=OK x y z h1 h2
    by_cases e3:x=z
    ·subst e3
     rw [Me] at h3
     cases h3
    ·rw [if_neg e3]
     exact h3
theorem Cr:∀x y:List AY,BP x y=false->BP y x=false->x=y
 | [],[],_,_=>rfl
 | [],_::_,h,_=>by cases h
 | _::_,[],_,h=>by cases h
 | x::xs,y::ys,h1,h2=>by
  unfold BP at h1 h2
  by_cases e:x=y
  ·subst e
   rw [if_pos rfl] at h1 h2
   rw [Cr xs ys h1 h2]
  ·rw [if_neg e] at h1
   rw [if_neg (fun z=>e z.symm)] at h2
   exact absurd (OL x y h1 h2) e
def RL:KeyOrd:=⟨List AY,BP,C0,Cq,fun a b c h=>by
 cases h1:BP a b with
 | true=>exact .inl rfl
 | false =>
  cases h2:BP b a with
  | true=>exact .inr (Cq b a c h2 h)
  | false=>rw [← Cr a b h1 h2]; exact .inr h,Cr⟩
theorem HD:∀x y:List AY,CL x y=true->Ea x y=BP x y
 | [],[],_=>rfl
 | [],_::_,_=>rfl
 | _::_,[],_=>rfl
 | x::xs,y::ys,h=>by
  have h':(JP x y&&CL xs ys)=true:=h
  rw [Bool.and_eq_true] at h'
  unfold Ea BP
  by_cases e:x=y
  ·rw [if_pos e,if_pos e]; exact HD xs ys h'.2
  ·rw [if_neg e,if_neg e]
   cases x with
   | inl i=>cases y with
    | inl j=>rfl
    | inr z=>cases h'.1
   | inr i=>cases y with
    | inl j=>cases h'.1
    | inr z=>rfl
section
variable {prog:Program}{w:World}{A:Around}{E:Value->Shared->Prop}{s:Shared}
theorem Pw{b:Bool}{Q:Bool->Shared->Prop}{nx ny:Nat}:∀(ns ms:List AY) (us ws:List Value) (i:Nat),Vals (ns.map Ga) us->Vals (ms.map Ga) ws->CL ns ms=true->ns.length+ny=ms.length+nx->Q (Ea ns ms) s ->
  KatLex prog w A b (decide (nx<ny)) Q (us.zip ws) i s
 | [],[],us,ws,i,h1,h2,_,hl,q=>by
  cases h1
  cases h2
  refine kat_nil ?_
  rw [show decide (nx<ny)=false from decide_eq_false (by simp only [List.length_nil] at hl; omega)]
  exact q
 | [],m::ms,us,ws,i,h1,h2,_,hl,q=>by
  cases h1
  rw [List.zip_nil_left]
  refine kat_nil ?_
  rw [show decide (nx<ny)=true from decide_eq_true (by simp only [List.length_nil,List.length_cons] at hl; omega)]
  exact q
 | n::ns,[],us,ws,i,h1,h2,_,hl,q=>by
  cases h2
  rw [List.zip_nil_right]
  refine kat_nil ?_
  rw [show decide (nx<ny)=false from decide_eq_false (by simp only [List.length_nil,List.length_cons] at hl; omega)]
  exact q
 | n::ns,m::ms,us,ws,i,h1,h2,hs,hl,q=>by
  have hs':(JP n m&&CL ns ms)=true:=hs
  rw [Bool.and_eq_true] at hs'
  have q':Q (if n=m then Ea ns ms else VC n m) s:=q
  cases h1 with
  | @cons _ u _ ur r1 t1 =>
   cases h2 with
   | @cons _ v _ vr r2 t2 =>
    rw [List.zip_cons_cons]
    have ih:n=m->KatLex prog w A b (decide (nx<ny)) Q (ur.zip vr) (i+1) s:=fun e=>Pw ns ms ur vr (i+1) t1 t2 hs'.2 (by simp only [List.length_cons] at hl; omega) (by rw [if_pos e] at q'; exact q')
    cases n with
    | inl x =>
     cases m with
     | inr y=>cases hs'.1
     | inl y =>
      obtain⟨tu,rfl⟩:=r1
      obtain⟨tv,rfl⟩:=r2
      refine kat_cons (wpAny_eqBool_int ?_)
      by_cases e:x=y
      ·rw [show (x==y)=true by simpa using e]
       exact kat_yes (ih (by rw [e]))
      ·rw [show (x==y)=false by simpa using e]
       refine kat_no ?_
       rw [if_neg (fun z=>e (Sum.inl.inj z))] at q'
       cases hf:(b&&i==0) with
       | true=>exact oneLt_int q'
       | false=>exact kat_one _ _ (PyProof.Rows.lt_int (show PySem.W.BoolBack Q (.bool (decide (x<y))) s from q'))
    | inr x =>
     cases m with
     | inl y=>cases hs'.1
     | inr y =>
      obtain⟨tu,rfl⟩:=r1
      obtain⟨tv,rfl⟩:=r2
      refine kat_cons (wpAny_eqBool_str ?_)
      by_cases e:x=y
      ·rw [show decide (x=y)=true by simpa using e]
       exact kat_yes (ih (by rw [e]))
      ·rw [show decide (x=y)=false by simpa using e]
       refine kat_no ?_
       rw [if_neg (fun z=>e (Sum.inr.inj z))] at q'
       cases hf:(b&&i==0) with
       | true=>exact oneLt_str q'
       | false=>exact kat_one _ _ (PySem.P.lt_str (show PySem.W.BoolBack Q (.bool (decide (x.cps.toList<y.cps.toList))) s from q'))
structure Nl (h:Heap) (ks:List Value) (keys:List (List AY)):Prop where
 at_:∀(i:Nat) (ns:List AY),keys[i]?=some ns->∃a o its n,ks[i]?=some (.ref a)/\h.get? a=some o/\o.cls=.type "tuple"/\o.data=.seq its n/\Vals (ns.map Ga) its.toList
 len:ks.length=keys.length
 same:∀x∈keys,∀y∈keys,CL x y=true
 ne:∀x∈keys,x≠[]
def U8:AY->String
 | .inl _ => "int"
 | .inr _ => "str"
theorem QA{h:Heap}:∀(ks:List Value) (keys:List (List AY)) (T:String),ks.length=keys.length->(∀(i:Nat) (ns:List AY),keys[i]?=some ns->∃a o its n,ks[i]?=some (.ref a)/\h.get? a=some o/\o.cls=.type "tuple"/\o.data=.seq its n/\Vals (ns.map Ga) its.toList) ->
  (∀x∈keys,∃k r,x=k::r/\U8 k=T)->∃fs:List Value,KatTups h ks fs/\fs.length=keys.length/\∀v∈fs,typeOf v=pure (.type T)
 | [],[],T,_,_,_=>⟨[],trivial,rfl,fun v hv=>by cases hv⟩
 | [],_::_,T,hl,_,_=>by cases hl
 | _::_,[],T,hl,_,_=>by cases hl
 | k::ks,x::keys,T,hl,h1,h2=>by
  obtain⟨fs,g1,g2,g3⟩:=QA ks keys T (by simpa using hl) (fun i ns e=>by
   obtain⟨a,o,its,n,e1,r⟩:=h1 (i+1) ns (by simpa using e)
   exact⟨a,o,its,n,by simpa using e1,r⟩) fun y hy=>h2 y (List.mem_cons_of_mem _ hy)
  obtain⟨a,o,its,n,e1,e2,e3,e4,e5⟩:=h1 0 x rfl
  have e1:k=.ref a:=by simpa using e1
  subst e1
  obtain⟨k,r,rfl,hk⟩:=h2 x List.mem_cons_self
  rw [List.map_cons] at e5
  cases hits:its.toList with
  | nil=>rw [hits] at e5; cases e5
  | cons f tl =>
   rw [hits] at e5
   cases e5 with
   | cons r1 r2 =>
    refine⟨f::fs,KatTups.cons e2 e3 e4 (by rw [← Array.getElem?_toList,hits]; rfl) g1,by rw [List.length_cons,List.length_cons,g2],fun v hv=>?_⟩
    rcases List.mem_cons.mp hv with rfl | hv
    ·cases k with
     | inl i=>obtain⟨t,rfl⟩:=r1; subst hk; rfl
     | inr i=>obtain⟨t,rfl⟩:=r1; subst hk; rfl
    ·exact g3 v hv
theorem Nv{ks:List Value}{keys:List (List AY)}(K:Nl s.heap ks keys)(h2:2<=ks.length){G:Array Nat->Shared->Prop}(h:∀p,p.Perm (List.toArray (List.range ks.length))->So.Srt RL (fun i=>keys.getD i []) p ks.length->G p s) :
  wpAny (model prog w) A (keyKind' ks.toArray) (fun κ s'=>(kas_sort ks.length).kasWp (kas_ask prog w A κ ks) G s') (fun _ _=>False) s:=by
 obtain⟨x0,xr,hx⟩:∃x0 xr,keys=x0::xr:=by
  cases e:keys with
  | nil=>have:=K.len; rw [e] at this; simp only [List.length_nil] at this; omega
  | cons x r=>exact⟨x,r,rfl⟩
 have m0:x0∈keys:=by rw [hx]; exact List.mem_cons_self
 obtain⟨k0,r0,e0⟩:∃k r,x0=k::r:=by
  cases e:x0 with
  | nil=>exact absurd e (K.ne x0 m0)
  | cons k r=>exact⟨k,r,rfl⟩
 have hty:∀x∈keys,∃k r,x=k::r/\U8 k=U8 k0:=fun x hm=>by
  cases e:x with
  | nil=>exact absurd e (K.ne x hm)
  | cons k r =>
   refine⟨k,r,rfl,?_⟩
   have hsm:=K.same x hm x0 m0
   rw [e,e0] at hsm
   have hsm:(JP k k0&&CL r r0)=true:=hsm
   rw [Bool.and_eq_true] at hsm
   cases k with
   | inl i=>cases k0 with
    | inl j=>rfl
    | inr j=>cases hsm.1
   | inr i=>cases k0 with
    | inl j=>cases hsm.1
    | inr j=>rfl
 obtain⟨fs,g1,g2,g3⟩:=QA ks keys (U8 k0) K.len K.at_ hty
 refine kat_kind g1 (by rw [g2,← K.len]; omega) (fun v hv=>by rw [g3 v hv]; exact Looks.now) (by simp) ?_
 refine So.sort_ok (O:=RL) (key:=fun i=>keys.getD i []) (by omega) (fun i j C hi hj hC=>?_) h
 have hi':i<keys.length:=by rw [← K.len]; exact hi
 have hj':j<keys.length:=by rw [← K.len]; exact hj
 obtain⟨a,o,its,n,e1,e2,e3,e4,e5⟩:=K.at_ i keys[i] (List.getElem?_eq_getElem hi')
 obtain⟨a',o',its',n',e1',e2',e3',e4',e5'⟩:=K.at_ j keys[j] (List.getElem?_eq_getElem hj')
 unfold kas_ask
 rw [show ks.getD i Value.none=.ref a by rw [List.getD_eq_getElem?_getD,e1]; rfl,show ks.getD j Value.none=.ref a' by rw [List.getD_eq_getElem?_getD,e1']; rfl]
 have hsm:=K.same _ (List.getElem_mem hi') _ (List.getElem_mem hj')
 refine kat_lt e2 e4 e2' e4' (Pw keys[i] keys[j] _ _ 0 e5 e5' hsm ?_ ?_)
 ·have l1:=e5.length
  have l2:=e5'.length
  have l3:(keys[i].map Ga).length=keys[i].length:=List.length_map ..
  have l4:(keys[j].map Ga).length=keys[j].length:=List.length_map ..
  have l5:its.toList.length=its.size:=Array.length_toList
  have l6:its'.toList.length=its'.size:=Array.length_toList
  omega
 ·rw [HD _ _ hsm]
  have g1:keys.getD i []=keys[i]:=by rw [List.getD_eq_getElem?_getD,List.getElem?_eq_getElem hi']; rfl
  have g2:keys.getD j []=keys[j]:=by rw [List.getD_eq_getElem?_getD,List.getElem?_eq_getElem hj']; rfl
  have hC':C (BP (keys.getD i []) (keys.getD j [])) s:=hC
  rw [g1,g2] at hC'
  exact hC'
theorem Fh{v:Value}{kw:List (Str×Value)}{Q:Value->Shared->Prop}(ha1:argsOk "sorted" ⟨[v],kw⟩)(ha2:∀x,argsOk "list.sort" ⟨[.ref x],kw⟩)
  (hc:wpAny (model prog w) A.in1 (collect v) (fun vs s1=>vs.length<=sizeLine/\wpAny (model prog w) A.in1.in1 (Builtin.«list.sort» ⟨[.ref s1.heap.objs.size],kw⟩) (fun fin s'=>fin=.done (.ret .none)/\Q (.ref s1.heap.objs.size) s') E { s1 with heap:=s1.heap.push (seqObj "list" vs.toArray 0) }) E s) :
  wpAny (model prog w) A (call (.builtin "sorted") [v] kw) Q E s:=by
 refine call_function_entry_kw kind_sorted plain_sorted entry_sorted ha1 ?_
 unfold Builtin.«sorted»
 refine wpAny_bind (m:=checkCount "sorted" 1 1 _) (wpAny_pure ?_)
 refine wpAny_bind (wpAny_mono hc (fun vs s1 h=>?_) fun _ _ x=>x)
 refine wpAny_bind (wpAny_newList ?_ h.1)
 have hoL:(s1.heap.push (seqObj "list" vs.toArray 0)).get? s1.heap.objs.size=some (seqObj "list" vs.toArray 0):=Heap.get?_push_size _ rfl
 refine wpAny_bind (wpAny_holding (wpAny_call_entry_kw PyProof.Rows.slot_list_sort ⟨_,hoL,rfl⟩ PyProof.Rows.entry_list_sort (wpAny_mono h.2 (fun fin s' hf=>?_) fun _ _ x=>x) (ha2 _)))
 exact⟨_,hf.1,wpAny_pure ⟨_,rfl,hf.2⟩⟩
def Gr(h:Heap)(D:Addr)(vs:List Value):Heap:=((h.update D (Obj.mapSeq fun _=>(#[]:Array Value))).push (seqObj "tuple" vs.toArray 0)).push (seqObj "list" #[] 0)
theorem JN{h:Heap}{D:Addr}{vs:List Value}{b:Addr}{o:Obj}(hb:b≠D)(e:h.get? b=some o):(Gr h D vs).get? b=some o :=
 Heap.get?_push_of_some _ (Heap.get?_push_of_some _ ((Heap.get?_update_other _ _ (Ne.symm hb)).trans e))
theorem O4{h:Heap}{D:Addr}{vs:List Value}{n:Nat}(ho:h.get? D=some (seqObj "list" vs.toArray n)):∃e1,(Gr h D vs).get? D=some (seqObj "list" #[] e1)/\(h.update D (Obj.mapSeq fun _=>(#[]:Array Value))).get? D=some (seqObj "list" #[] e1):=by
 obtain⟨e1,ho1⟩:∃e1,(h.update D (Obj.mapSeq fun _=>(#[]:Array Value))).get? D=some (seqObj "list" #[] e1):=⟨_,get?_update_seq ho fun _=>#[]⟩
 exact⟨e1,Heap.get?_push_of_some _ (Heap.get?_push_of_some _ ho1),ho1⟩
theorem Lh{D:Addr}{vs:List Value}{n:Nat}{P:PySem.Fin->Shared->Prop}{G:Array Nat->Prop}(ho:s.heap.get? D=some (seqObj "list" vs.toArray n))(h64:vs.length<64)
  (hk:2<=vs.length->wpAny (model prog w) A (keyKind' vs.toArray) (fun κ s'=>(kas_sort vs.length).kasWp (kas_ask prog w A κ vs) (fun p s''=>s''={ s with heap:=Gr s.heap D vs }/\G p) s') (fun _ _=>False) { s with heap:=Gr s.heap D vs })
  (h1:vs.length<2->G (List.toArray (List.range vs.length))) (hfin:∀(p:Array Nat) (h':Heap) (c:Nat),p.size=vs.length->G p->(∀b o,b≠D->s.heap.get? b=some o->h'.get? b=some o)->h'.get? D=some (seqObj "list" (List.toArray (p.toList.map fun i=>vs.getD i Value.none)) c)->P (.done (.ret .none)) { s with heap:=h' }) :
  wpAny (model prog w) A (Builtin.«list.sort» ⟨[.ref D],[]⟩) P E s:=by
 obtain⟨e1,ho6,ho1⟩:=O4 ho
 have fin:∀(p:Array Nat),p.size=vs.length->G p->P (.done (.ret .none)) { s with heap:=(Gr s.heap D vs).update D (Obj.mapSeq fun _=>List.toArray (p.toList.map fun i=>vs.getD i Value.none)) }:=fun p hp hg=>by
  obtain⟨c2,hc2⟩:∃c2,((Gr s.heap D vs).update D (Obj.mapSeq fun _=>List.toArray (p.toList.map fun i=>vs.getD i Value.none))).get? D=some (seqObj "list" (List.toArray (p.toList.map fun i=>vs.getD i Value.none)) c2):=⟨_,get?_update_seq ho6 fun _=>List.toArray (p.toList.map fun i=>vs.getD i Value.none)⟩
  exact hfin p _ c2 hp hg (fun b o hb e=>(Heap.get?_update_other _ _ (Ne.symm hb)).trans (JN hb e)) hc2
 rw [list_sort_plain]
 refine wpAny_bind (listItems_at ho rfl ?_)
 refine wpAny_bind (listUpdate_at ho rfl ?_ (by rw [List.size_toArray,sizeLine_eq]; omega) (Nat.zero_le _))
 refine wpAny_bind (seqEpoch_at ho1 rfl ?_)
 refine wpAny_bind (wpAny_newTuple ?_ (by show vs.length<=_; rw [sizeLine_eq]; omega))
 refine wpAny_bind (wpAny_newList ?_ (Nat.zero_le _))
 refine wpAny_holding ?_
 show wpAny (model prog w) A _ P E { s with heap:=Gr s.heap D vs }
 dsimp only
 by_cases h2:vs.length<2
 ·have h2':vs.toArray.size<2:=by rw [List.size_toArray]; exact h2
  rw [if_pos h2',if_pos h2']
  refine wpAny_bind (wpAny_pure ?_)
  rw [StateT.run_pure]
  refine wpAny_bind (wpAny_pure ?_)
  dsimp only
  refine wpAny_bind (seqEpoch_at ho6 rfl ?_)
  have hsz:(List.toArray (List.range vs.length)).size=vs.length:=by simp
  have hout:(arrOf (SortSt.mk' general' (vs.toArray.zip vs.toArray) #[] 7 none)).map (·.2)=List.toArray ((List.toArray (List.range vs.length)).toList.map fun i=>vs.getD i Value.none):=by
   refine kat_snds rfl ?_
   have e:=kas_range (vs.toArray.zip vs.toArray)
   rw [show (vs.toArray.zip vs.toArray).size=vs.length by simp] at e
   exact e.symm
  rw [hout]
  refine wpAny_bind (listUpdate_at ho6 rfl ?_ (Nat.zero_le _) (by rw [List.size_toArray,List.length_map,Array.length_toList,hsz,sizeLine_eq]; omega))
  simp only [bne_self_eq_false,Bool.false_eq_true,if_false]
  exact wpAny_pure (fin _ hsz (h1 h2))
 ·have h2':¬vs.toArray.size<2:=by rw [List.size_toArray]; exact h2
  rw [if_neg h2',if_neg h2']
  refine wpAny_bind (wpAny_mono (hk (by omega)) (fun κ s0 hk=>?_) fun _ _ x=>x.elim)
  refine wpAny_bind (wpAny_mono (kat_run (Q:=fun st' s'=>∃p:Array Nat,p.size=vs.length/\arrOf st'=p.map (kas_item (vs.toArray.zip vs.toArray))/\failedOf st'=none/\s'={ s with heap:=Gr s.heap D vs }/\G p)
   rfl (by omega) h64 (fun p' st' s' a1 a2 a3 a4=>⟨p',a1,a2,a3,a4⟩) hk) ?_ fun _ _ e=>e)
  rintro ⟨⟨⟩,st'⟩ s' ⟨p,hp,har,hf,rfl,hg⟩
  dsimp only
  have hout:=kat_snds rfl har
  have hsz:(List.toArray (p.toList.map fun i=>vs.getD i Value.none)).size=vs.length:=by rw [List.size_toArray,List.length_map,Array.length_toList,hp]
  rw [hout]
  refine wpAny_bind (seqEpoch_at ho6 rfl ?_)
  refine wpAny_bind (listUpdate_at ho6 rfl ?_ (Nat.zero_le _) (Nat.le_trans (Nat.le_of_eq hsz) (by rw [sizeLine_eq]; omega)))
  rw [hf]
  simp only [bne_self_eq_false,Bool.false_eq_true,if_false]
  exact wpAny_pure (fin p hp hg)
end
section
variable {X:Cx}{pins:List (Addr×Obj)}{σ:L2.St}{H:Hp}{s:Shared}{h':Heap}
structure WE (X:Cx) (pins:List (Addr×Obj)) (D:Addr):Prop where
 new:X.s₀.heap.objs.size<=D
 loc:D≠X.env.locals
 cell:∀x c,X.env.cells.lookup x=some c->c≠D
 pin:∀p∈X.pn++pins,p.1≠D
 fs:D∉X.fs
structure KeysAt (K:Frag) (H:Hp) (vs:List V) (keys:List (List AY)):Prop where
 len:vs.length=keys.length
 at_:∀(i:Nat) (ns:List AY),keys[i]?=some ns->∃a,vs[i]?=some (.ref a)/\SqT K H a (ns.map Ga)
 same:∀x∈keys,∀y∈keys,CL x y=true
 ne:∀x∈keys,x≠[]
def Nn(keys:List (List AY))(ix:List Nat):Prop:=ix.Perm (List.range keys.length)/\∀i j,i<=j->j<keys.length->BP (keys.getD (ix.getD j 0) []) (keys.getD (ix.getD i 0) [])=false
theorem KeysAt.tups{vs:List V}{us:List Value}{keys:List (List AY)}(I:Inv X pins σ H s)(r:Vals vs us)(k:KeysAt X.K H vs keys){h':Heap}(hk:∀b o,s.heap.get? b=some o->h'.get? b=some o):Nl h' us keys:=by
 refine⟨fun i ns e=>?_,r.length.symm.trans k.len,k.same,k.ne⟩
 obtain⟨a,e1,h1⟩:=k.at_ i ns e
 obtain⟨u,e2,r2⟩:=r.get e1
 cases r2
 obtain⟨its,r3,⟨o,ho,hc,n,hd⟩,_⟩:=I.tuple h1
 exact⟨a,o,its.toArray,n,e2,hk a o ho,hc,hd,by rw [List.toList_toArray]; exact r3⟩
theorem JE:∀{vs:List V} {us:List Value},Vals vs us->∀i:Nat,RelV (vs.getD i .non) (us.getD i Value.none)
 | _,_,.nil,i=>by simp [RelV]
 | _,_,.cons r t,0=>by simpa using r
 | _,_,.cons r t,i+1=>by simpa using JE t i
theorem LE{f:Nat->V}{g:Nat->Value}(h:∀i,RelV (f i) (g i)):∀ix:List Nat,Vals (ix.map f) (ix.map g)
 | []=>.nil
 | i::ix=>.cons (h i) (LE h ix)
theorem Jh(p:Array Nat)(i:Nat):p.getD i 0=p.toList.getD i 0:=by simp
theorem S1{keys:List (List AY)}{n:Nat}{p:Array Nat}(hn:keys.length=n)(h1:p.Perm (List.toArray (List.range n)))(h2:So.Srt RL (fun i=>keys.getD i []) p n):Nn keys p.toList:=by
 subst hn
 refine⟨Array.perm_iff_toList_perm.mp h1,fun i j hij hj=>?_⟩
 have h:=h2 i j hij hj
 unfold So.KN at h
 rw [Jh,Jh] at h
 exact h
theorem N0{A':Around}{E':Value->Shared->Prop}{vs:List V}{us:List Value}{keys:List (List AY)}{Q:VK}(I:Inv X pins σ H s)(r:Vals vs us)(h64:vs.length<64)(k:KeysAt X.K H vs keys)
  (q:∀(ix:List Nat) (l:Addr),Nn keys ix->H l=none->Q (.ref l) (BA H l (.lst (ix.map fun i=>vs.getD i .non)))) :
  wpAny (model X.prog X.w) A' (Builtin.«list.sort» ⟨[.ref s.heap.objs.size],[]⟩) (fun fin s'=>fin=.done (.ret .none)/\EP X pins σ Q (.ref s.heap.objs.size) s') E' { s with heap:=s.heap.push (seqObj "list" us.toArray 0) }:=by
 have hl:=r.length
 have hkl:keys.length=us.length:=k.len.symm.trans hl
 refine Lh (G:=fun p=>p.Perm (List.toArray (List.range us.length))/\So.Srt RL (fun i=>keys.getD i []) p us.length) (n:=0) (Heap.get?_push_size _ rfl) (by omega) (fun h2=>?_) (fun h1=>⟨Array.Perm.refl _,fun i j hij hj=>?_⟩) (fun p h' c hp hg hold hD=>⟨rfl,?_⟩)
 ·refine Nv (keys:=keys) (k.tups I r fun b o e=>?_) h2 (fun p a b=>⟨rfl,a,b⟩)
  exact JN (Nat.ne_of_lt (Heap.lt_size e)) (Heap.get?_push_of_some _ e)
 ·have:i=j:=by omega
  subst this
  exact KeyOrd.kle_refl _
 ·have hf:H s.heap.objs.size=none:=I.fresh
  have hix:(p.toList.map fun i=>vs.getD i .non).length=us.length:=by rw [List.length_map,Array.length_toList,hp]
  refine⟨.ref s.heap.objs.size,BA H s.heap.objs.size (.lst (p.toList.map fun i=>vs.getD i .non)),I.laid (t':=s.toks) (fun b o e=>hold b o (Nat.ne_of_lt (Heap.lt_size e)) (Heap.get?_push_of_some _ e)) (Nat.le_refl _) ⟨by rw [hix,← hl,sizeLine_eq]; omega,_,c,LE (JE r) p.toList,hD⟩,rfl,q _ _ (S1 hkl hg.1 hg.2) hf⟩
theorem Lw{prog:Program}{w:World}{A:Around}{E:Value->Shared->Prop}{s:Shared}{l:Addr}{vs:List Value}{Q:List Value->Shared->Prop}(hl:IsTup s.heap l vs.toArray)
  (h:Q vs { s with heap:=(s.heap.push (seqObj "list" #[] 0)).update s.heap.objs.size (Obj.mapSeq (·++vs.toArray)) }) (hsz:vs.length<=sizeLine) :
  wpAny (model prog w) A (collect (.ref l)) Q E s:=by
 obtain⟨o,ho,hc,n,hd⟩:=id hl
 unfold collect
 refine wpAny_bind (wpAny_runValue (codeAny_builtin entry_proto_collect' ?_))
 show wpAny _ _ (do again (.builtin "list.__iadd__" ⟨[← newList [],.ref l],[]⟩)) _ _ s
 refine wpAny_bind (wpAny_newList (wpAny_pure ⟨Code.quiet_builtin _ (by decide +kernel),codeAny_builtin entry_list_iadd' ?_⟩))
 show wpAny _ _ (Builtin.List.listExtendWith (.ref s.heap.objs.size) (.ref l) (.ref s.heap.objs.size)) _ _ { s with heap:=s.heap.push (seqObj "list" #[] 0) }
 unfold Builtin.List.listExtendWith
 have ho':(s.heap.push (seqObj "list" #[] 0)).get? l=some o:=Heap.get?_push_of_some _ ho
 refine wpAny_bind (wpAny_typeOf (T := "tuple") ⟨o,ho',hc⟩ ?_)
 have ht:(Value.type "tuple"==Value.type "tuple")=true:=by rfl
 rw [if_pos (by rw [ht]; simp)]
 refine wpAny_bind (listItems_at ho' hd ?_)
 refine wpAny_bind (listItems_at (xs:=#[]) (n:=0) (Heap.get?_push_size _ rfl) rfl ?_)
 rw [if_neg (by simp)]
 refine wpAny_bind (listUpdate_at (xs:=#[]) (n:=0) (Heap.get?_push_size _ rfl) rfl ?_ (Nat.zero_le _) (by show (#[]++vs.toArray).size<=sizeLine+1; simp only [Array.size_append,List.size_toArray,List.length_nil]; omega))
 refine wpAny_pure ?_
 show wpAny (model prog w) A (do
   let o ← load s.heap.objs.size
   match o.data with
   | .seq xs _=>pure xs.toList
   | _=>unsupported "internal:collect") Q E { s with heap:=(s.heap.push (seqObj "list" #[] 0)).update s.heap.objs.size (Obj.mapSeq (·++vs.toArray)) }
 refine wpAny_bind (wpAny_load (get?_update_seq (Heap.get?_push_size _ rfl) _) ?_)
 show wpAny _ _ (pure ((#[]:Array Value)++vs.toArray).toList) Q E _
 rw [show ((#[]:Array Value)++vs.toArray).toList=vs by simp]
 exact wpAny_pure h
theorem Lx{h:Heap}{g:Array Value->Array Value}{b:Addr}{o:Obj}(e:h.get? b=some o):((h.push (seqObj "list" #[] 0)).update h.objs.size (Obj.mapSeq g)).get? b=some o :=
 (Heap.get?_update_other _ _ (Ne.symm (Nat.ne_of_lt (Heap.lt_size e)))).trans (Heap.get?_push_of_some _ e)
theorem QZ{κ:Bool}{A':Around}{E':Value->Shared->Prop}{p:Addr}{vs:List V}{Q:List Value->Shared->Prop}(I:Inv X pins σ H s)(h:SqK κ X.K H p vs)(q:∀us s1,Vals vs us->vs.length<=sizeLine->Inv X pins σ H s1->Q us s1) :
  wpAny (model X.prog X.w) A' (collect (.ref p)) Q E' s:=by
 cases κ with
 | true =>
  obtain⟨its,r,pl,hz⟩:=I.list h
  exact collect_list pl.isList (q its _ r hz (I.kept (t':=s.toks) fun b o e=>Lx e)) (by rw [← r.length]; exact hz)
 | false =>
  obtain⟨its,r,pl,hz⟩:=I.tuple h
  exact Lw pl (q its _ r hz (I.kept (t':=s.toks) fun b o e=>Lx e)) (by rw [← r.length]; exact hz)
def PQ(K:Frag):List V->Hp->VK->Prop:=fun xs H Q=>∃(κ:Bool) (p:Addr) (vs:List V) (keys:List (List AY)),xs=[.ref p]/\SqK κ K H p vs/\vs.length<64/\KeysAt K H vs keys /\
 ∀(ix:List Nat) (l:Addr),Nn keys ix->H l=none->Q (.ref l) (BA H l (.lst (ix.map fun i=>vs.getD i .non)))
theorem Cu:C8 X (.builtin "sorted") (PQ X.K):=by
 intro pins s σ H xs us Q I r h
 obtain⟨κ,p,vs,keys,rfl,hq,h64,hk,q⟩:=h
 obtain⟨u,rfl,rx⟩:=Fc r
 cases rx
 refine Fh (kw:=[]) (args_sorted1 _) (fun x=>args_list_sort _) (QZ I hq fun us s1 r1 hz I1=>⟨by rw [← r1.length]; exact hz,?_⟩)
 exact N0 I1 r1 h64 hk q
end
end L2
namespace L2
open PySem PySem.Spec PyProof.Rows
def E6(H:Hp)(L:List Addr)(f:Addr->Obj):Hp:=fun b=>if b∈L then (H b).map (HO.frz (f b)) else H b
theorem DN{H:Hp}{L:List Addr}{f:Addr->Obj}{b:Addr}(h:b∉L):E6 H L f b=H b:=by unfold E6; rw [if_neg h]
theorem Ka{H:Hp}{L:List Addr}{f:Addr->Obj}{b:Addr}{o:HO}(h:b∈L)(e:H b=some o):E6 H L f b=some (.frz (f b) o):=by unfold E6; rw [if_pos h,e]; rfl
section
variable {X:Cx}{pins:List (Addr×Obj)}{σ:L2.St}{H:Hp}{s:Shared}
theorem Inv.frz{L:List Addr}(I:Inv X pins σ H s)(hL:∀b∈L,∃kvs,H b=some (.dK kvs)):∃f,Inv X pins σ (E6 H L f) s:=by
 have keep:∀(f:Addr->Obj) b o,H b=some o->(∀kvs,o≠.dK kvs)->E6 H L f b=some o:=fun f b o e n=>by
  rw [DN (fun hm=>by obtain⟨kvs,e2⟩:=hL b hm; rw [e] at e2; cases e2; exact n _ rfl)]
  exact e
 refine⟨fun b=>(s.heap.get? b).getD { cls:=.none,data:=.fields #[] },?_⟩
 refine I.step (g':=s.gens) (d':=s.drawn) (t':=s.toks) (h':=s.heap) (ch:=[]) (fun _ z=>nomatch z) (fun _ _ _ _ _ e _=>e) (fun b o _ _ _ e _=>⟨o.slots,e⟩) (fun b o _ e n=>?_) (fun b o _ e=>⟨o,e⟩) (fun b xs e=>keep _ b _ e fun _ z=>by cases z) (fun b o u e=>keep _ b _ e fun _ z=>by cases z) (fun b ps e=>⟨#[],by rw [keep _ b _ e fun _ z=>by cases z]; simp⟩) (fun _ h=>h) (fun b u e=>?_) I.bare
 ·unfold E6
  split
  ·rw [n]; rfl
  ·exact n
 ·by_cases hb:b∈L
  ·obtain⟨kvs,e2⟩:=hL b hb
   rw [Ka hb e2] at e
   cases e
   obtain⟨z,y,vs,r,ob,es,ep,e3,c⟩:=(show ObjOk X.prog X.w H s.heap b (.dK kvs) from I.hok b _ e2)
   exact⟨by rw [e3]; rfl,z,y,vs,r,ob,es,ep,e3,c⟩
  ·rw [DN hb] at e
   exact(I.hok b u e).stay (fun _ _ _ q=>q) (fun c q=>keep _ c _ q fun _ z=>by cases z) fun c xs q=>keep _ c _ q fun _ z=>by cases z
def VU(t:TE):TE:=fun σ H Q=>t σ H fun v H1=>∃L:List Addr,(∀b∈L,∃kvs,H1 b=some (.dK kvs))/\∀f:Addr->Obj,Q v (E6 H1 L f)
theorem Pl{e:Expr}{t:TE}(h:PE X e t):PE X e (VU t):=by
 intro pins s σ H Q I hq
 refine Bp (h pins s σ H _ I hq) fun u s1 ⟨v,H1,I1,r,L,hL,q⟩=>?_
 obtain⟨f,I2⟩:=I1.frz hL
 exact⟨v,_,I2,r,q f⟩
end
end L2
namespace Nt
open PySem PySem.Spec PyProof.Rows L2 Dp
def Fa(ts:List BI)(p:Str):List (Str×Int):=ts.flatMap fun t=>(if t.a=p then [(t.b,t.len)] else [])++(if t.b=p then [(t.a,t.len)] else [])
def RR(ts:List BI)(p:Str):D:=.fdi ((Fa ts p).map fun x=>.inr x.1) ((Fa ts p).map fun x=>.int x.2)
def GN(N:Net):D:=.dic (N.ps.map .inr) (N.ps.map (RR N.ts))
def K_:W2:=fun ss n P=>∃N:Net,ss=[.sh (enc N)]/\N.Ok/\N.ps.length<=1000/\N.ts.length<=1000/\P (GN N) n
def kv(x:Str×Int):AY×V:=(.inr x.1,.int x.2)
structure Stp (H:Hp) (d:Addr) (as:List (Str×Addr)) (tb:Str->List (AY×V)) (H':Hp):Prop where
 old:∀b o,H b=some o->H' b=some o
 new:H d=none
 top:H' d=some (.dK (as.map fun x=>(.inr x.1,.ref x.2)))
 inn:∀x∈as,H x.2=none/\x.2≠d/\H' x.2=some (.dK (tb x.1))
 ads:(as.map (·.2)).Nodup
 nms:(as.map (·.1)).Nodup
theorem G9{as:List (Str×Addr)}(hn:(as.map (·.1)).Nodup){p:Str}{a:Addr}(h:(p,a)∈as):C9 (as.map fun x=>((.inr x.1:AY),V.ref x.2)) (.inr p)=some (.ref a):=by
 induction as with
 | nil=>cases h
 | cons x r ih =>
  rw [List.map_cons,List.nodup_cons] at hn
  rcases List.mem_cons.mp h with e | h
  ·rw [← e]
   exact ER rfl
  ·have hne:(Sum.inr x.1:AY)≠.inr p:=fun e=>hn.1 (by rw [Sum.inr.inj e]; exact List.mem_map.mpr ⟨_,h,rfl⟩)
   rw [List.map_cons]
   exact(ES hne).trans (ih hn.2 h)
theorem MO{as:List (Str×Addr)}{p:Str}{v:V}(h:p∉as.map (·.1)):DL (as.map fun x=>((.inr x.1:AY),V.ref x.2)) (.inr p) v=(as.map fun x=>((.inr x.1:AY),V.ref x.2))++[(.inr p,v)]:=by
 unfold DL
 rw [if_neg]
 rw [List.any_eq_true]
 rintro ⟨y,hy,e⟩
 obtain⟨x,hx,rfl⟩:=List.mem_map.mp hy
 exact h (List.mem_map.mpr ⟨x,hx,Sum.inr.inj (of_decide_eq_true e)⟩)
theorem NE{xs:List (Str×Int)}{p:Str}{l:Int}(h:p∉xs.map (·.1)):DL (xs.map kv) (.inr p) (.int l)=(xs++[(p,l)]).map kv:=by
 unfold DL
 rw [if_neg,List.map_append]
 ·rfl
 ·rw [List.any_eq_true]
  rintro ⟨y,hy,e⟩
  obtain⟨x,hx,rfl⟩:=List.mem_map.mp hy
  exact h (List.mem_map.mpr ⟨x,hx,Sum.inr.inj (of_decide_eq_true e)⟩)
theorem Stp.more{H H':Hp}{d q:Addr}{as:List (Str×Addr)}{tb:Str->List (AY×V)}{p:Str}(s:Stp H d as tb H')(hq:H' q=none)(hp:p∉as.map (·.1))(ht:tb p=[]) :
  Stp H d (as++[(p,q)]) tb (BA (BA H' q (.dK [])) d (.dK (DL (as.map fun x=>((.inr x.1:AY),V.ref x.2)) (.inr p) (.ref q)))):=by
 have nq:q≠d:=fun e=>by rw [e,s.top] at hq; cases hq
 have hHq:H q=none:=by
  cases c:H q with
  | none=>rfl
  | some o=>rw [s.old q o c] at hq; cases hq
 refine⟨fun b o e=>?_,s.new,?_,fun x hx=>?_,?_,?_⟩
 ·have n1:b≠d:=fun z=>by rw [z,s.new] at e; cases e
  have n2:b≠q:=fun z=>by rw [z,hHq] at e; cases e
  rw [AU n1,AU n2]
  exact s.old b o e
 ·rw [Ab,MO hp,List.map_append]; rfl
 ·rcases List.mem_append.mp hx with hx | hx
  ·obtain⟨h1,h2,h3⟩:=s.inn x hx
   have n2:x.2≠q:=fun z=>by rw [z,hq] at h3; cases h3
   exact⟨h1,h2,by rw [AU h2,AU n2]; exact h3⟩
  ·rw [List.mem_singleton.mp hx]
   exact⟨hHq,nq,by rw [AU nq,Ab,ht]⟩
 ·rw [List.map_append,List.nodup_append]
  refine⟨s.ads,List.nodup_cons.mpr ⟨(fun h=>by cases h),List.nodup_nil⟩,fun a ha b hb e=>?_⟩
  obtain⟨x,hx,rfl⟩:=List.mem_map.mp ha
  have hb:b=q:=List.mem_singleton.mp hb
  obtain⟨h1,h2,h3⟩:=s.inn x hx
  rw [e,hb,hq] at h3
  cases h3
 ·rw [List.map_append,List.nodup_append]
  refine⟨s.nms,List.nodup_cons.mpr ⟨(fun h=>by cases h),List.nodup_nil⟩,fun a ha b hb e=>?_⟩
  have hb:b=p:=List.mem_singleton.mp hb
  exact hp (by rw [← hb,← e]; exact ha)
theorem OF{as:List (Str×Addr)}(hn:(as.map (·.1)).Nodup){p:Str}{a b:Addr}(h1:(p,a)∈as)(h2:(p,b)∈as):a=b:=by
 have:=(G9 hn h1).symm.trans (G9 hn h2)
 exact V.ref.inj (Option.some.inj this)
theorem OE{as:List (Str×Addr)}(hn:(as.map (·.2)).Nodup){p q:Str}{a:Addr}(h1:(p,a)∈as)(h2:(q,a)∈as):p=q:=by
 induction as with
 | nil=>cases h1
 | cons x r ih =>
  rw [List.map_cons,List.nodup_cons] at hn
  rcases List.mem_cons.mp h1 with e1 | g1
  ·rcases List.mem_cons.mp h2 with e2 | g2
   ·rw [← e1] at e2; exact(Prod.mk.inj e2).1.symm
   ·exact absurd (List.mem_map.mpr ⟨_,g2,by rw [← e1]⟩) hn.1
  ·rcases List.mem_cons.mp h2 with e2 | g2
   ·exact absurd (List.mem_map.mpr ⟨_,g1,by rw [← e2]⟩) hn.1
   ·exact ih hn.2 g1 g2
theorem Stp.put{H H':Hp}{d a:Addr}{as:List (Str×Addr)}{tb tb2:Str->List (AY×V)}{p:Str}{kvs:List (AY×V)}(s:Stp H d as tb H')(ha:(p,a)∈as)(h1:tb2 p=kvs)(h2:∀q,q≠p->tb2 q=tb q) :
  Stp H d as tb2 (BA H' a (.dK kvs)):=by
 obtain⟨i1,i2,i3⟩:=s.inn _ ha
 refine⟨fun b o e=>?_,s.new,?_,fun x hx=>?_,s.ads,s.nms⟩
 ·have n1:b≠a:=fun z=>by rw [z] at e; rw [show H a=none from i1] at e; cases e
  rw [AU n1]
  exact s.old b o e
 ·rw [AU (Ne.symm i2)]
  exact s.top
 ·obtain⟨g1,g2,g3⟩:=s.inn x hx
  refine⟨g1,g2,?_⟩
  by_cases e:x.2=a
  ·have:x.1=p:=OE s.ads (show (x.1,a)∈as by rw [← e]; exact hx) ha
   rw [e,Ab,this,h1]
  ·have:x.1≠p:=fun z=>e (OF s.nms (show (p,x.2)∈as by rw [← z]; exact hx) ha)
   rw [AU e,h2 _ this]
   exact g3
theorem Le(ts:List BI)(t:BI)(p:Str):Fa (ts++[t]) p=Fa ts p++((if t.a=p then [(t.b,t.len)] else [])++(if t.b=p then [(t.a,t.len)] else [])):=by
 unfold Fa
 rw [List.flatMap_append,List.flatMap_cons,List.flatMap_nil,List.append_nil]
theorem NJ{ts:List BI}{p q:Str}(h:q∈(Fa ts p).map (·.1)):∃t∈ts,(t.a=p/\t.b=q)\/(t.b=p/\t.a=q):=by
 obtain⟨x,hx,rfl⟩:=List.mem_map.mp h
 obtain⟨t,ht,hx⟩:=List.mem_flatMap.mp hx
 refine⟨t,ht,?_⟩
 rcases List.mem_append.mp hx with hx | hx
 ·split at hx
  ·rename_i e; rw [List.mem_singleton.mp hx]; exact .inl ⟨e,rfl⟩
  ·cases hx
 ·split at hx
  ·rename_i e; rw [List.mem_singleton.mp hx]; exact .inr ⟨e,rfl⟩
  ·cases hx
theorem NK(ts:List BI)(p:Str):(Fa ts p).length<=2*ts.length:=by
 induction ts with
 | nil=>exact Nat.zero_le _
 | cons t r ih =>
  unfold Fa at ih ⊢
  rw [List.flatMap_cons,List.length_append,List.length_append,List.length_cons]
  have h1:(if t.a=p then [(t.b,t.len)] else []).length<=1:=by split; exact Nat.le_refl 1; exact Nat.zero_le _
  have h2:(if t.b=p then [(t.a,t.len)] else []).length<=1:=by split; exact Nat.le_refl 1; exact Nat.zero_le _
  omega
theorem QI{ts:List BI}{t:BI}(hp:(ts++[t]).Pairwise A_)(hlt:∀s∈ts++[t],cs s.a<cs s.b):t.b∉(Fa ts t.a).map (·.1)/\t.a∉(Fa ts t.b).map (·.1):=by
 rw [List.pairwise_append] at hp
 have key:∀s∈ts,¬((s.a=t.a/\s.b=t.b)\/(s.b=t.a/\s.a=t.b)):=fun s hs e=>by
  have h1:=hp.2.2 s hs t (List.mem_singleton.mpr rfl)
  have h2:=hlt s (List.mem_append_left _ hs)
  have h3:=hlt t (List.mem_append_right _ (List.mem_singleton.mpr rfl))
  rcases e with ⟨e1,e2⟩ | ⟨e1,e2⟩
  ·unfold A_ at h1
   rw [e1,e2] at h1
   rcases h1 with h | ⟨_,h⟩
   ·exact List.lt_irrefl _ h
   ·exact List.lt_irrefl _ h
  ·rw [e1,e2] at h2
   exact List.lt_irrefl _ (List.lt_trans h2 h3)
 refine⟨fun h=>?_,fun h=>?_⟩
 ·obtain⟨s,hs,e⟩:=NJ h
  exact key s hs e
 ·obtain⟨s,hs,e⟩:=NJ h
  exact key s hs (e.elim (fun z=>.inr ⟨z.2,z.1⟩) fun z=>.inl ⟨z.2,z.1⟩)
theorem J9{xs:List Str}(h:EV xs):xs.Nodup:=h.imp fun {a b} hlt e=>by rw [e] at hlt; exact List.lt_irrefl _ hlt
theorem MY{xs:List Str}(h:xs.Nodup){i:Nat}(hi:i<xs.length):xs[i]∉xs.take i:=by
 have e:xs=xs.take i++xs[i]::xs.drop (i+1):=by
  rw [← List.drop_eq_getElem_cons hi,List.take_append_drop]
 intro hm
 rw [e,List.nodup_append] at h
 exact h.2.2 _ hm _ List.mem_cons_self rfl
theorem Stp.at_{K:Frag}{M:Addr->Prop}{H H':Hp}{d:Addr}{as:List (Str×Addr)}{N:Net}(dom:∀a,M a->∃o,H a=some o)(s:Stp H d as (fun p=>(Fa N.ts p).map kv) H')(hp:as.map (·.1)=N.ps)(f:Addr->Obj):At K M (E6 H' (as.map (·.2)) f) (GN N) (.ref d):=by
 have nd:∀b,H b=none->¬M b:=fun b e m=>by obtain⟨o,h⟩:=dom b m; rw [h] at e; cases e
 have zip1:∀as:List (Str×Addr),(as.map fun x=>((.inr x.1:AY),V.ref x.2))=((as.map (·.1)).map (.inr:Str->AY)).zip (as.map fun x=>V.ref x.2):=fun as=>by
  induction as with
  | nil=>rfl
  | cons x r ih=>rw [List.map_cons,ih]; rfl
 refine⟨d,as.map fun x=>.ref x.2,rfl,⟨nd d s.new,by rw [DN (fun hm=>by obtain⟨x,hx,e⟩:=List.mem_map.mp hm; exact(s.inn x hx).2.1 e),s.top,zip1,hp]⟩,by rw [List.length_map,List.length_map],?_⟩
 rw [← hp]
 have go:∀bs:List (Str×Addr),(∀x∈bs,x∈as)->Ats K M (E6 H' (as.map (·.2)) f) ((bs.map (·.1)).map (RR N.ts)) (bs.map fun x=>V.ref x.2):=fun bs=>by
  induction bs with
  | nil=>intro _; rfl
  | cons x r ih =>
   intro hx
   refine⟨.ref x.2,r.map fun x=>V.ref x.2,rfl,?_,ih fun y hy=>hx y (List.mem_cons_of_mem _ hy)⟩
   obtain⟨g1,g2,g3⟩:=s.inn x (hx x List.mem_cons_self)
   have zip2:∀xs:List (Str×Int),xs.map kv=(xs.map fun x=>(.inr x.1:AY)).zip (xs.map fun x=>V.int x.2):=fun xs=>by
    induction xs with
    | nil=>rfl
    | cons x r ih=>rw [List.map_cons,ih]; rfl
   refine⟨x.2,(Fa N.ts x.1).map fun x=>V.int x.2,rfl,⟨f x.2,nd _ g1,by rw [Ka (List.mem_map.mpr ⟨x,hx x List.mem_cons_self,rfl⟩) g3,zip2]⟩,by rw [List.length_map,List.length_map],?_⟩
   generalize Fa N.ts x.1=xs
   induction xs with
   | nil=>rfl
   | cons x r ih=>exact⟨.int x.2,_,rfl,rfl,ih⟩
 exact go as fun _ h=>h
end Nt
namespace L2
open PySem PySem.Spec PyProof.Rows PySem.W
section
variable {X:Cx}{pins:List (Addr×Obj)}{σ:L2.St}{H:Hp}{s:Shared}{h':Heap}
theorem TF{P:Program}{w:World}{k:AY}{u:Value}(h:(A5 P w).is k u=true):RelV (Ga k) u:=by
 rcases BF h with ⟨i,t,rfl,rfl⟩ | ⟨x,t,rfl,rfl⟩
 ·exact⟨t,rfl⟩
 ·exact⟨t,rfl⟩
theorem Ho{α β:Type}{F:α->β->Prop}:∀{l₁:List α} {l₂:List β} {j:Nat} {a:α} {b:β},Paired F l₁ l₂->l₁[j]?=some a->l₂[j]?=some b->F a b
 | _,_,_,_,_,.nil,h,_=>by simp at h
 | _,_,0,_,_,.cons r t,h1,h2=>by
  have h1:=Option.some.inj (by simpa using h1)
  have h2:=Option.some.inj (by simpa using h2)
  subst h1 h2
  exact r
 | _,_,j+1,_,_,.cons r t,h1,h2=>Ho (j:=j) t (by simpa using h1) (by simpa using h2)
end
end L2
namespace Dp
open PySem PySem.Spec PyProof.Rows L2
section
variable {X:Cx}{K:Frag}
def QD(ds:List D)(P:D->Prop):Prop:=match ds with
 | [.int i,.int j]=>P (.int (if j > i then j else i))
 | _=>False
def Lo(ds:List D)(P:D->Prop):Prop:=match ds with
 | [.int i,.int j]=>P (.int (if j<i then j else i))
 | _=>False
theorem Tk:Dd K .sh (fun xs H Q=>∃i j,xs=[.int i,.int j]/\Q (.int (if j > i then j else i)) H) QD:=by
 intro U M H ds vs P Q dom vM hp w q
 unfold QD at w
 split at w
 ·rename_i i j
  cases hp with
  | cons r1 r2=>cases r2 with
   | cons r3 r4 =>
    cases r4
    cases r1.int
    cases r3.int
    exact⟨i,j,rfl,q _ H (.int _) .refl rfl w⟩
 ·exact w.elim
theorem Qh:Dd K .sh (fun xs H Q=>∃i j,xs=[.int i,.int j]/\Q (.int (if j<i then j else i)) H) Lo:=by
 intro U M H ds vs P Q dom vM hp w q
 unfold Lo at w
 split at w
 ·rename_i i j
  cases hp with
  | cons r1 r2=>cases r2 with
   | cons r3 r4 =>
    cases r4
    cases r1.int
    cases r3.int
    exact⟨i,j,rfl,q _ H (.int _) .refl rfl w⟩
 ·exact w.elim
end
def D9:D->Option (List AY)
 | .tup xs=>Fw xs
 | _=>none
def Jw(kf:D->Option (List AY))(xs:List D):Prop:=xs.Pairwise fun a b=>∀ka kb,kf a=some ka->kf b=some kb->BP kb ka=false
def Np(kf:D->Option (List AY))(xs:List D):Prop:=(∀x∈xs,∃k,kf x=some k/\k≠[])/\∀x∈xs,∀y∈xs,∀ka kb,kf x=some ka->kf y=some kb->CL ka kb=true
theorem MN(xs:List D):(List.range xs.length).map (fun i=>xs.getD i .non)=xs:=by
 apply List.ext_getElem
 ·simp
 ·intro i h1 h2
  simp [h2]
theorem RK{kf:D->Option (List AY)}{xs:List D}{keys:List (List AY)}{ix:List Nat}(hl:keys.length=xs.length)(hk:∀(i:Nat) (x:D),xs[i]?=some x->∃k,keys[i]?=some k/\kf x=some k)(h:Nn keys ix) :
  (ix.map fun i=>xs.getD i .non).Perm xs/\Jw kf (ix.map fun i=>xs.getD i .non):=by
 obtain⟨hp,hs⟩:=h
 constructor
 ·have:=hp.map fun i=>xs.getD i D.non
  rw [hl,MN] at this
  exact this
 ·unfold Jw
  rw [List.pairwise_iff_getElem]
  intro i j hi hj hij ka kb ea eb
  rw [List.getElem_map] at ea eb
  rw [List.length_map] at hi hj
  have il:ix.length=keys.length:=by rw [hp.length_eq,List.length_range]
  have g:∀i (h:i<ix.length) k,kf (xs.getD ix[i] .non)=some k->keys.getD (ix.getD i 0) []=k:=fun i h k e=>by
   have hm:ix[i]<keys.length:=List.mem_range.mp (hp.mem_iff.mp (List.getElem_mem h))
   have hx:ix[i]<xs.length:=by rw [← hl]; exact hm
   obtain⟨k',e1,e2⟩:=hk ix[i] xs[ix[i]] (List.getElem?_eq_getElem hx)
   have e3:xs.getD ix[i] .non=xs[ix[i]]:=by rw [List.getD_eq_getElem?_getD,List.getElem?_eq_getElem hx]; rfl
   rw [e3,e2] at e
   have e4:ix.getD i 0=ix[i]:=by rw [List.getD_eq_getElem?_getD,List.getElem?_eq_getElem h]; rfl
   rw [e4,List.getD_eq_getElem?_getD,e1]
   exact Option.some.inj e
  have:=hs i j (Nat.le_of_lt hij) (by rw [← il]; exact hj)
  rw [g i hi ka ea,g j hj kb eb] at this
  exact this
theorem GY{kf:D->Option (List AY)}:∀{xs:List D},(∀x∈xs,∃k,kf x=some k/\k≠[])->∃keys:List (List AY),keys.length=xs.length/\(∀(i:Nat) (x:D),xs[i]?=some x->∃k,keys[i]?=some k/\kf x=some k/\k≠[])
 | [],_=>⟨[],rfl,fun i x e=>by simp at e⟩
 | x::xs,h=>by
  obtain⟨k,e1,e2⟩:=h x List.mem_cons_self
  obtain⟨keys,l,g⟩:=GY (xs:=xs) fun y hy=>h y (List.mem_cons_of_mem _ hy)
  refine⟨k::keys,by rw [List.length_cons,List.length_cons,l],fun i y e=>?_⟩
  cases i with
  | zero =>
   have e:x=y:=by simpa using e
   subst e
   exact⟨k,rfl,e1,e2⟩
  | succ i =>
   obtain⟨k',a,b⟩:=g i y (by simpa using e)
   exact⟨k',by simpa using a,b⟩
section
variable {K:Frag}{M:Addr->Prop}{H:Hp}
theorem Ats.getD:∀{ds:List D} {vs:List V},Ats K M H ds vs->∀i:Nat,At K M H (ds.getD i .non) (vs.getD i .non)
 | [],vs,h,i=>by cases (show vs=[] from h); simp [At]
 | d::ds,vs,h,0=>by
  obtain⟨v,r,e,h1,h2⟩:=h
  subst e
  simpa using h1
 | d::ds,vs,h,i+1=>by
  obtain⟨v,r,e,h1,h2⟩:=h
  subst e
  simpa using Ats.getD h2 i
theorem Ats.pick{ds:List D}{vs:List V}(h:Ats K M H ds vs):∀ix:List Nat,Ats K M H (ix.map fun i=>ds.getD i .non) (ix.map fun i=>vs.getD i .non)
 | []=>rfl
 | i::ix=>⟨_,_,rfl,h.getD i,Ats.pick h ix⟩
theorem Jc{kf:D->Option (List AY)}{ds:List D}{vs:List V}{keys:List (List AY)}(hkf:∀d k v,d∈ds->kf d=some k->At K M H d v->∃a,v=.ref a/\SqT K H a (k.map Ga))(hs:Ats K M H ds vs)(hK:Np kf ds)(hl:keys.length=ds.length)(hk:∀(i:Nat) (x:D),ds[i]?=some x->∃k,keys[i]?=some k/\kf x=some k/\k≠[]):KeysAt K H vs keys:=by
 have from_:∀(i:Nat) (ns:List AY),keys[i]?=some ns->∃x,ds[i]?=some x/\kf x=some ns/\ns≠[]:=fun i ns e=>by
  have hi:i<ds.length:=by rw [← hl]; exact(List.getElem?_eq_some_iff.mp e).1
  obtain⟨k,e1,e2,e3⟩:=hk i ds[i] (List.getElem?_eq_getElem hi)
  rw [e] at e1
  cases e1
  exact⟨ds[i],List.getElem?_eq_getElem hi,e2,e3⟩
 refine⟨hs.length.trans hl.symm,fun i ns e=>?_,fun x hx y hy=>?_,fun x hx=>?_⟩
 ·obtain⟨d,e1,e2,_⟩:=from_ i ns e
  obtain⟨v,e3,h3⟩:=hs.get e1
  obtain⟨a,rfl,h4⟩:=hkf d ns v (List.mem_of_getElem? e1) e2 h3
  exact⟨a,e3,h4⟩
 ·obtain⟨i,hi⟩:=List.mem_iff_getElem?.mp hx
  obtain⟨j,hj⟩:=List.mem_iff_getElem?.mp hy
  obtain⟨d,e1,e2,_⟩:=from_ i x hi
  obtain⟨d',e1',e2',_⟩:=from_ j y hj
  exact hK.2 d (List.mem_of_getElem? e1) d' (List.mem_of_getElem? e1') x y e2 e2'
 ·obtain⟨i,hi⟩:=List.mem_iff_getElem?.mp hx
  obtain⟨d,e1,e2,e3⟩:=from_ i x hi
  exact e3
theorem Jd{d:D}{k:List AY}{v:V}(e:D9 d=some k)(h:At K M H d v):∃a,v=.ref a/\SqT K H a (k.map Ga):=by
 cases d with
 | tup xs =>
  obtain⟨a,vs,e1,hn,hs⟩:=h
  have:=Fv (show Fw xs=some k from e) hs
  subst this
  exact⟨a,e1,hn.sq⟩
 | _=>cases e
def CZ(ds:List D)(P:D->Prop):Prop:=∃d xs,ds=[d]/\Id d=some xs/\xs.length<64/\Np D9 xs/\∀xs':List D,xs'.Perm xs->Jw D9 xs'->P (.lst xs')
theorem E1:Dd K .fr (PQ K) CZ:=by
 intro U M H ds vs P Q dom vM hp w q
 obtain⟨d,xs,rfl,e,h64,hK,w⟩:=w
 obtain⟨v,rfl,hx⟩:=EY hp
 obtain⟨κ,a,us,rfl,hs,sq⟩:=MI (U:=U) hx e (fun _ z=>z) vM
 obtain⟨keys,hl,hk⟩:=GY hK.1
 refine⟨κ,a,us,keys,rfl,sq M H (Pres.refl _ _) (Ext.refl _ _),by rw [hs.length]; exact h64,Jc (fun d k v _=>Jd) hs hK hl hk,fun ix l ho hn=>?_⟩
 obtain⟨o1,o2⟩:=RK (kf:=D9) hl (fun i x e=>by obtain⟨k,a,b,_⟩:=hk i x e; exact⟨k,a,b⟩) ho
 exact q _ _ (.lst (ix.map fun i=>xs.getD i .non)) (Av hn) (C2 hn (hs.pick ix)) (w _ o1 o2)
end
section
variable {X:Cx}{a e:Expr}{κa:Kd}{wa:DW}{pos p fp kp apos cpos:Pos}
def Tx:AY->D
 | .inl i=>.int i
 | .inr x=>.str x
def NO:AY->Prop
 | .inl _=>True
 | .inr x=>x.length<=sizeLine
theorem Tb{K:Frag}{M:Addr->Prop}{H:Hp}{k:AY}(h:NO k):At K M H (Tx k) (Ga k):=by
 cases k with
 | inl i=>exact rfl
 | inr x=>exact⟨rfl,h⟩
end
end Dp
namespace L2
open PySem PySem.Spec PyProof.Rows
section
open PySem.MeetsSeq
open PySem.AutoSeq1 (wpAny_loadPart')
theorem O8(l:Addr)(items:Array Value)(n:Nat)(x:Value)(e:Value->Bool)(j:Nat)(hj:j<items.size)(hit:e items[j]=true)(hs1:items.size<=sizeLine)(prog:Program)(w:World)(A:Around)(R:Result->Shared->Prop)(hp:Heap)(g:Array GenState)(d:Drawn)(tk:Nat)(os:_)
  (hl:hp.get? l=some { cls:=.type "list",dict:=none,data:=.seq items n,slots:=#[] }) (he:∀y,y∈items->PySem.SeqAt.EqAt A.in1 ⟨hp,g,d,tk,os⟩ y x (e y)) (h:R (.ok (.ret .none)) ⟨hp.update l (Obj.mapSeq fun xs=>xs.eraseIdxIfInBounds j),g,d,tk,os⟩) :
  ∀k i:Nat,j - i=k->i<=j->(∀m (hm:m<items.size),i<=m->m<j->e items[m]=false) ->
   wpAny (model prog w) A.in1 (Builtin.«list.remove.loop» ⟨[.ref l,x,rawInt i],[]⟩) (fun fin s'=>match fin with | .done f=>R (.ok f) s' | .again c'=>c'.quiet=true/\codeAny (model prog w) A c' R s') (fun e s'=>R (.error e) s') ⟨hp,g,d,tk,os⟩:=by
 intro k
 induction k with
 | zero =>
  intro i hk hij hno
  have hij':i=j:=by omega
  subst hij'
  wp_walk using wpAny_loadPart' hl
  have hi:items[((i:Nat):Int).toNat]?=some items[i]:=by simp [hj]
  rw [hi]
  refine wpAny_bind (he _ (Array.getElem_mem hj) prog w _ _ ?_)
  rw [hit]
  have hz':(items.eraseIdxIfInBounds i).size<=sizeLine+1:=Nat.le_trans (size_erased items _) (Nat.le_succ_of_le hs1)
  wp_walk using (wpAny_updateSeq hl rfl (hz:=hs1) (_hz':=hz')),wpAny_loadPart' hl
  simpa using h
 | succ k ih =>
  intro i hk hij hno
  have hlt:i<items.size:=by omega
  wp_walk using wpAny_loadPart' hl
  have hi:items[((i:Nat):Int).toNat]?=some items[i]:=by simp [hlt]
  have hc:((i:Int)+1)=((i+1:Nat):Int):=by push_cast; rfl
  rw [hi]
  refine wpAny_bind (he _ (Array.getElem_mem hlt) prog w _ _ ?_)
  rw [hno i hlt (Nat.le_refl _) (by omega)]
  wp_walk
  rw [hc]
  exact⟨plainId_quiet plain_remove_loop _,codeAny_builtin entry_remove_loop (by
   rw [Around.under_plainId plain_remove_loop _]
   exact ih (i+1) (by omega) (by omega) (fun m hm h1 h2=>hno m hm (by omega) h2))⟩
theorem O9{prog:Program}{w:World}{A:Around}{E:Value->Shared->Prop}{s:Shared}{Q:Value->Shared->Prop}(l:Addr)(items:Array Value)(n:Nat)(x:Value)(e:Value->Bool)(j:Nat)(hj:j<items.size)(hit:e items[j]=true)(hno:∀m (hm:m<items.size),m<j->e items[m]=false)
  (hs1:items.size<=sizeLine) (hl:s.heap.get? l=some { cls:=.type "list",dict:=none,data:=.seq items n,slots:=#[] }) (he:∀y,y∈items->PySem.SeqAt.EqAt A.in1 s y x (e y))
  (h:Q .none { s with heap:=s.heap.update l (Obj.mapSeq fun xs=>xs.eraseIdxIfInBounds j) }):wpAny (model prog w) A (call (.builtin "list.remove") [.ref l,x]) Q E s:=by
 have key:wpAny (model prog w) A.in1 (Builtin.«list.remove» ⟨[.ref l,x],[]⟩) (fun fin s'=>match fin with | .done f=>wants Q E (.ok f) s' | .again c'=>c'.quiet=true/\codeAny (model prog w) A c' (wants Q E) s') (fun e s'=>wants Q E (.error e) s') s:=by
  obtain⟨hp,g,d,tk,os⟩:=s
  wp_walk using wpAny_loadPart' hl
  exact⟨plainId_quiet plain_remove_loop _,codeAny_builtin entry_remove_loop (by
   rw [Around.under_plainId plain_remove_loop _]
   exact O8 l items n x e j hj hit hs1 prog w A (wants Q E) hp g d tk os hl he h _ 0 rfl (Nat.zero_le _) (fun m hm _ h2=>hno m hm h2))⟩
 exact wpAny_call (codeAny_call_builtin PySem.F.slot_list_remove.plain PySem.F.entry_list_remove (PySem.F.slot_list_remove.check _ _ _ _ _ _ _ _ ⟨_,hl,rfl⟩ (PySem.F.args_list_remove_2 _ _) key))
end
section
variable {X:Cx}
def M_:V->List V->Hp->VK->Prop:=fun x vs H Q=>∃(l:Addr) (xs:List V) (y:V) (ds:List PyData) (d:PyData) (j:Nat),x=.ref l/\vs=[y]/\H l=some (.lst xs)/\RVs H ds xs/\RV H d y/\PyData.canLayAll0 ds=true/\d.canLay0=true/\d.depth<=100 /\
 (∃dj,ds[j]?=some dj/\PyData.eqv dj d=true)/\(∀m dm,m<j->ds[m]?=some dm->PyData.eqv dm d=false)/\Q .non (BA H l (.lst (xs.eraseIdx j)))
theorem OH{k:Nat}(hr:Room k X.A):Vr X "list.remove" M_:=by
 intro pins s σ H x vs v us Q I rx rv h
 obtain⟨l,xs,y,ds,d,j,rfl,rfl,hH,hds,hd,c1,c2,dd,⟨dj,hj,hit⟩,hno,q⟩:=h
 cases rx
 obtain⟨u,rfl,ru⟩:=rv.one
 obtain⟨z,its,n,r,hl,e⟩:=I.lstM hH
 obtain⟨as,ra⟩:=RVs.reads I hds r
 obtain⟨bs,rb⟩:=RV.reads I hd ru
 have hm:=PySem.SeqAt.readsAll_map ds its as c1 ra
 have hlen:ds.length=its.length:=by rw [← hm,List.length_map]
 have hu:=hr.un
 have hmin:min (PyData.depthAll ds) d.depth<=d.depth:=Nat.min_le_right _ _
 have at_:∀m dm,ds[m]?=some dm->∀(h:m<its.toArray.size),PySem.SeqAt.readOf s.heap its.toArray[m]=dm:=fun m dm e h=>by
  rw [← hm,List.getElem?_map] at e
  have h':m<its.length:=by simpa using h
  rw [List.getElem?_eq_getElem h'] at e
  have e:=Option.some.inj e
  simpa using e
 have hjl:j<its.length:=by rw [← hlen]; exact(List.getElem?_eq_some_iff.mp hj).1
 refine O9 l its.toArray n u (fun y=>PyData.eqv (PySem.SeqAt.readOf s.heap y) d) j (by rw [List.size_toArray]; exact hjl) (by rw [at_ j dj hj]; exact hit) (fun m hm' hlt=>?_) (by rw [List.size_toArray]; omega) e (PySem.SeqAt.items_eqAt (vs:=its.toArray) (by rw [List.toList_toArray]; exact ra) rb c1 c2 (by omega)) ?_
 ·have hml:m<ds.length:=by rw [hlen]; simpa using hm'
  rw [at_ m ds[m] (List.getElem?_eq_getElem hml) hm']
  exact hno m ds[m] hlt (List.getElem?_eq_getElem hml)
 ·refine⟨.non,_,I.lset (t':=s.toks) (its':=its.eraseIdx j) hH e ?_ (r.eraseIdx j) ?_,rfl,q⟩
  ·show its.toArray.eraseIdxIfInBounds j=(its.eraseIdx j).toArray
   rw [List.eraseIdxIfInBounds_toArray]
  ·have:=GV xs j
   omega
end
end L2
namespace Dp
open PySem PySem.Spec PyProof.Rows L2
def Um(d:D)(ds:List D)(P:D->D->Prop):Prop:=∃(xs:List D) (y:D) (j:Nat),d=.lst xs/\ds=[y]/\DV (.lst xs)/\DV y/\(∃x,xs[j]?=some x/\Ej x y=true)/\(∀m x,m<j->xs[m]?=some x->Ej x y=false)/\P (.lst (xs.eraseIdx j)) .non
theorem Uw{K:Frag}:Rq K M_ Um:=by
 intro M H a d ds vs P Q m t hv w q
 obtain⟨xs,y,j,rfl,rfl,⟨n1,l1,_⟩,⟨n2,l2,d2⟩,⟨x,hx,hit⟩,hno,w⟩:=w
 obtain⟨us,h1,h2⟩:=t
 obtain⟨u,r,rfl,hu,hr⟩:=hv
 cases (show r=[] from hr)
 have get:∀(m:Nat) (p:PyData),(BE xs)[m]?=some p->∃x,xs[m]?=some x/\p=BO x:=fun m p e=>by
  rw [Ew,List.getElem?_map] at e
  obtain⟨x,e1,rfl⟩:=Option.map_eq_some_iff.mp e
  exact⟨x,e1,rfl⟩
 refine⟨a,us,u,BE xs,BO y,j,rfl,rfl,h1,h2.rv n1,hu.rv n2,l1,l2,d2,⟨BO x,by rw [Ew,List.getElem?_map,hx]; rfl,hit⟩,fun m p hm e=>?_,q _ (.lst (xs.eraseIdx j)) .non _ ⟨us.eraseIdx j,Ab,?_⟩ rfl w⟩
 ·obtain⟨x',e1,rfl⟩:=get m p e
  exact hno m x' hm e1
 ·exact(h2.eraseIdx j).pres (D5 m)
def HN(c:HL)(wb:Ad):Ad:=fun D2 n ρ=>∃W:Nat->Nat->List Slot->Prop,(∃m,W m n ρ)/\∀m n ρ,W m n ρ ->
 c n ρ fun b n1=>if b=true then ∃N:Nat->List Slot->Prop,(∀n' ρ',N n' ρ'->∃m',m'<m/\W m' n' ρ')/\wb { D2 with nx:=N,ct:=N,bk:=D2.nx } n1 ρ else D2.nx n1 ρ
section
variable {X:Cx}{κ:Kd}{c:Expr}{body:List Stmt}{wc:HL}{wb:Ad}{pos:Pos}
theorem IM(hp:PassesOwn (model X.prog X.w) X.A X.env X.xe)(hc:DT X c wc)(hb:Qt X κ body wb):DS X κ (.While c body [] pos) (HN wc wb):=by
 obtain⟨tc,c1,c2⟩:=hc
 obtain⟨tb,b1,b2⟩:=hb
 refine⟨_,Pc hp c1 b1,fun C M H n ρ σ D2 E R L w=>?_⟩
 obtain⟨W,⟨m0,w0⟩,turn⟩:=w
 refine⟨fun m σ' H'=>∃M' n' ρ',Rel X.K C M' H' n' ρ' σ'/\W m n' ρ',⟨m0,M,n,ρ,R,w0⟩,?_⟩
 rintro m σ' H' ⟨M',n',ρ',R',w'⟩
 refine c2 C M' H' n' ρ' σ' _ _ R' (turn m n' ρ' w') fun b H2 n2 e f p=>?_
 have R2:=R'.step e f
 cases b with
 | true =>
  rw [if_pos rfl] at p ⊢
  obtain⟨N,hN,p⟩:=p
  refine⟨fun σ3 H3=>∃M3 n3 ρ3,Rel X.K C M3 H3 n3 ρ3 σ3/\N n3 ρ3,fun σ3 H3 ⟨M3,n3,ρ3,R3,w3⟩=>?_,?_⟩
  ·obtain⟨m',hm,w4⟩:=hN n3 ρ3 w3
   exact⟨m',hm,M3,n3,ρ3,R3,w4⟩
  ·exact b2 C M' H2 n2 ρ' σ' { D2 with nx:=N,ct:=N,bk:=D2.nx } _ R2 ⟨fun M4 H4 n4 ρ4 σ4 R4 w4=>⟨M4,n4,ρ4,R4,w4⟩,L.rt,fun M4 H4 n4 ρ4 σ4 R4 w4=>L.nx M4 H4 n4 ρ4 σ4 R4 w4,fun M4 H4 n4 ρ4 σ4 R4 w4=>⟨M4,n4,ρ4,R4,w4⟩⟩ p
 | false =>
  rw [if_neg (by decide)] at p ⊢
  exact L.nx M' H2 n2 ρ' σ' R2 p
theorem GL{D2:E2}{n:Nat}{ρ:List Slot}(I:Nat->Nat->List Slot->Prop)(m0:Nat)(h0:I m0 n ρ)
  (hs:∀m n ρ (N:Nat->List Slot->Prop),I m n ρ->(∀m' n' ρ',m'<m->I m' n' ρ'->N n' ρ')->wc n ρ fun b n1=>if b=true then wb { D2 with nx:=N,ct:=N,bk:=D2.nx } n1 ρ else D2.nx n1 ρ)
  (mono:∀n ρ (P Q:Bool->Nat->Prop),(∀b n1,P b n1->Q b n1)->wc n ρ P->wc n ρ Q):HN wc wb D2 n ρ:=by
 refine⟨I,⟨m0,h0⟩,fun m n ρ h=>?_⟩
 refine mono n ρ _ _ (fun b n1 p=>?_) (hs m n ρ (fun n' ρ'=>∃m',m'<m/\I m' n' ρ') h fun m' n' ρ' hm hi=>⟨m',hm,hi⟩)
 cases b with
 | true=>rw [if_pos rfl] at p ⊢; exact⟨_,fun _ _ z=>z,p⟩
 | false=>exact p
end
section
variable {X:Cx}{κ:Kd}{tg:Expr}{body:List Stmt}{b:BW}{wb:Ad}{pos p:Pos}{x:Str}{i:Nat}
end
end Dp
namespace Nt
open PySem PySem.Spec PyProof.Rows L2 Dp
def UC(s t:BI):Decidable (s=t) :=
 if h:s.a=t.a/\s.b=t.b/\s.len=t.len then .isTrue (by obtain⟨a,b,l⟩:=s; obtain⟨a',b',l'⟩:=t; obtain⟨h1,h2,h3⟩:=h; simp only at h1 h2 h3; subst h1 h2 h3; rfl) else .isFalse fun e=>h (by rw [e]; exact⟨rfl,rfl,rfl⟩)
instance:DecidableEq BI:=UC
abbrev EF(Pd:D->Nat->Prop):E2:={ nx:=fun n _=>Kd.fr=.sh/\Pd .non n,rt:=Pd }
def O6(t:BI):List AY:=[.inl t.len,.inr t.a,.inr t.b]
def Mo(ts:List BI):Prop:=ts.Pairwise fun s t=>BP (O6 t) (O6 s)=false
def PN:D->D
 | .tup [x,y,z]=>.tup [z,x,y]
 | d=>d
def VD(x:Str×Int):D:=.tup [.str x.1,.int x.2]
def IY:W2:=fun ss n P=>∃(d:D) (ts:List BI),ss=[.sh d]/\Id d=some (ts.map AT)/\ts.length<64/\∀ts':List BI,ts'.Perm ts->Mo ts'->P (.lst (ts'.map AT)) n
theorem KH{α:Type}{R:α->α->Prop}(anti:∀a b,R a b->R b a->a=b):∀{l1 l2:List α},l1.Perm l2->l1.Pairwise R->l2.Pairwise R->l1=l2
 | [],l2,p,_,_=>(List.nil_perm.mp p).symm
 | a::l1,[],p,_,_=>absurd (List.perm_nil.mp p) (List.cons_ne_nil _ _)
 | a::l1,b::l2,p,h1,h2=>by
  have e:a=b:=by
   rcases List.mem_cons.mp (p.mem_iff.mp List.mem_cons_self) with e | h
   ·exact e
   ·rcases List.mem_cons.mp (p.mem_iff.mpr (List.mem_cons_self (a:=b) (l:=l2))) with e | h'
    ·exact e.symm
    ·exact anti a b ((List.pairwise_cons.mp h1).1 b h') ((List.pairwise_cons.mp h2).1 a h)
  subst e
  rw [KH anti ((List.perm_cons a).mp p) (List.pairwise_cons.mp h1).2 (List.pairwise_cons.mp h2).2]
theorem Mw{α:Type}{f:α->D}{g:D->α}(hg:∀x,g (f x)=x){xs:List D}{ts:List α}(h:xs.Perm (ts.map f)):∃ts':List α,ts'.Perm ts/\xs=ts'.map f:=by
 refine⟨xs.map g,?_,?_⟩
 ·have:=h.map g
  rw [List.map_map,show g∘f=id from funext hg,List.map_id] at this
  exact this
 ·rw [List.map_map]
  have:∀x∈xs,(f∘g) x=x:=fun x hx=>by
   obtain⟨t,_,rfl⟩:=List.mem_map.mp (h.mem_iff.mp hx)
   show f (g (f t))=f t
   rw [hg]
  rw [List.map_congr_left this,List.map_id']
def TX:D->BI
 | .tup [.str a,.str b,.int l]=>⟨a,b,l⟩
 | _=>⟨"","",0⟩
section
variable {ss:List Slot}{n:Nat}{Pd:D->Nat->Prop}
theorem KR{N:Net}(ok:N.Ok){x:Str}{p:Str×Int}(h:p∈Fa N.ts x):p.1∈N.ps/\1<=p.2/\p.2<=1000000/\∃t∈N.ts,t.len=p.2/\((t.a=x/\t.b=p.1)\/(t.b=x/\t.a=p.1)):=by
 unfold Fa at h
 obtain⟨t,ht,h⟩:=List.mem_flatMap.mp h
 obtain⟨m1,m2,m3,m4,m5⟩:=ok.tin t ht
 rcases List.mem_append.mp h with h | h
 ·split at h
  ·rename_i e
   rw [List.mem_singleton.mp h]
   exact⟨m2,m4,m5,t,ht,rfl,.inl ⟨e,rfl⟩⟩
  ·cases h
 ·split at h
  ·rename_i e
   rw [List.mem_singleton.mp h]
   exact⟨m1,m4,m5,t,ht,rfl,.inr ⟨e,rfl⟩⟩
  ·cases h
theorem Ke(s t:BI):Ej (AT s) (AT t)=true↔s=t:=by
 obtain⟨a,b,l⟩:=s
 obtain⟨a',b',l'⟩:=t
 show (a==a'&&(b==b'&&(l==l'&&true)))=true↔_
 rw [Bool.and_true,Bool.and_eq_true,Bool.and_eq_true,beq_iff_eq,beq_iff_eq,beq_iff_eq]
 constructor
 ·rintro ⟨rfl,rfl,rfl⟩; rfl
 ·rintro h; cases h; exact⟨rfl,rfl,rfl⟩
theorem Ja{xs:List D}(h:∀d∈xs,item d):DV (.lst xs):=by
 have d1:IZ xs<=1:=dps_le.mpr fun d hd=>(h d hd).2.2
 exact D8 (B:=1000001) (by decide) (fines_iff.mpr fun d hd=>(h d hd).1) (by show IZ xs+1<=100; omega)
theorem Ey{α β:Type}(f:α->β):∀(l:List α) (i:Nat),(l.map f).eraseIdx i=(l.eraseIdx i).map f
 | [],i=>rfl
 | x::l,0=>rfl
 | x::l,i+1=>by
  show f x::(l.map f).eraseIdx i=f x::(l.eraseIdx i).map f
  rw [Ey f l i]
theorem TU(xs:List D):Ej (.lst xs) (.lst [])=xs.isEmpty:=by
 cases xs with
 | nil=>rfl
 | cons x r=>rfl
end
def By(t:BI):List AY:=[.inr t.a,.inr t.b,.inl t.len]
def QK(t:BI):List AY:=[.inr t.a,.inr t.b]
def IU(ts:List BI):Prop:=ts.Pairwise fun s t=>BP (By t) (By s)=false
def LA(N:Net)(d:D):Prop:=∃ts:List BI,d=.tup [.tup (N.ps.map .str),.tup (ts.map AT)]/\(∀t∈ts,t∈N.ts)/\ts.Pairwise A_
noncomputable def E9(N:Net)(d:D):Bool:=@decide (LA N d) (Classical.propDecidable _)
theorem thinB_iff{N:Net}{d:D}:E9 N d=true↔LA N d:=by
 unfold E9
 exact @decide_eq_true_iff _ (Classical.propDecidable _)
theorem QG{N:Net}{d:D}{b:Bool}(h:b=true↔LA N d):b=E9 N d:=by
 rw [Bool.eq_iff_iff,thinB_iff]
 exact h
def UB(N:Net)(d:D):Prop:=∃s∈N.ts,d=AT s
noncomputable def EQ(N:Net)(d:D):Bool:=@decide (UB N d) (Classical.propDecidable _)
theorem tofB_iff{N:Net}{d:D}:EQ N d=true↔UB N d:=by
 unfold EQ
 exact @decide_eq_true_iff _ (Classical.propDecidable _)
theorem SI{a:Str}{x:D}(h:Ej (.str a) x=true):x=.str a:=by
 cases x with
 | str b =>
  have h:(a==b)=true:=h
  rw [eq_of_beq h]
 | _=>cases h
theorem Ur{a:Str}{x:D}(h:Ej x (.str a)=true):x=.str a:=by
 cases x with
 | str b =>
  have h:(b==a)=true:=h
  rw [eq_of_beq h]
 | _=>cases h
theorem Eh:∀{xs:List D} {ps:List Str},PyData.eqvAll (BE xs) (BE (ps.map .str))=true->xs=ps.map .str
 | [],[],_=>rfl
 | [],_::_,h=>by cases h
 | _::_,[],h=>by cases h
 | x::xs,p::ps,h=>by
  have h:(PyData.eqv (BO x) (BO (.str p))&&PyData.eqvAll (BE xs) (BE (ps.map .str)))=true:=h
  rw [Bool.and_eq_true] at h
  rw [Ur (a:=p) (x:=x) h.1,Eh h.2]
  rfl
theorem Ei:∀ps:List Str,PyData.eqvAll (BE (ps.map .str)) (BE (ps.map .str))=true
 | []=>rfl
 | p::ps=>by
  show ((p==p)&&PyData.eqvAll (BE (ps.map .str)) (BE (ps.map .str)))=true
  rw [beq_self_eq_true,Ei ps]
  rfl
theorem eqD_strs{p:D}{ps:List Str}:Ej p (.tup (ps.map .str))=true↔p=.tup (ps.map .str):=by
 constructor
 ·intro h
  cases p with
  | tup xs=>rw [Eh (xs:=xs) (ps:=ps) h]
  | _=>cases h
 ·rintro rfl
  exact Ei ps
theorem Jj{s:BI}{d:D}(h:Ej (AT s) d=true):∃z,d=.tup [.str s.a,.str s.b,z]/\∀i,z=.int i->i=s.len:=by
 cases d with
 | tup xs =>
  match xs,h with
  | [x,y,z],h =>
   have h:(PyData.eqv (BO (.str s.a)) (BO x)&&(PyData.eqv (BO (.str s.b)) (BO y)&&(PyData.eqv (.int s.len) (BO z)&&true)))=true:=h
   rw [Bool.and_true,Bool.and_eq_true,Bool.and_eq_true] at h
   refine⟨z,by rw [SI (a:=s.a) (x:=x) h.1,SI (a:=s.b) (x:=y) h.2.1],fun i e=>?_⟩
   subst e
   have h3:(s.len==i)=true:=h.2.2
   exact(eq_of_beq h3).symm
  | [],h=>cases h
  | [x],h=>exact absurd h (by show ¬((PyData.eqv (BO (.str s.a)) (BO x)&&false)=true); simp)
  | [x,y],h=>exact absurd h (by show ¬((PyData.eqv (BO (.str s.a)) (BO x)&&(PyData.eqv (BO (.str s.b)) (BO y)&&false))=true); simp)
  | x::y::z::u::r,h=>exact absurd h (by show ¬((PyData.eqv (BO (.str s.a)) (BO x)&&(PyData.eqv (BO (.str s.b)) (BO y)&&(PyData.eqv (.int s.len) (BO z)&&false)))=true); simp)
 | _=>cases h
theorem Kf(s:BI):Ej (AT s) (AT s)=true:=(Ke s s).mpr rfl
theorem K8{f:BI->D}{k:BI->List AY}(hk:∀s t,Oi (f s) (f t)=some (BP (k s) (k t))):∀{ts:List BI},Oj (ts.map f)=true↔ts.Pairwise fun s t=>BP (k s) (k t)=true
 | []=>⟨fun _=>.nil,fun _=>rfl⟩
 | [t]=>⟨fun _=>List.pairwise_singleton _ _,fun _=>rfl⟩
 | s::t::r=>by
  have ih:=K8 hk (ts:=t::r)
  show ((Oi (f s) (f t)==some true)&&Oj ((t::r).map f))=true↔_
  rw [Bool.and_eq_true,ih,hk,List.pairwise_cons (a:=s) (l:=t::r)]
  constructor
  ·rintro ⟨h1,h2⟩
   have h1:BP (k s) (k t)=true:=Option.some.inj (eq_of_beq h1)
   refine⟨fun u hu=>?_,h2⟩
   rcases List.mem_cons.mp hu with rfl | hu
   ·exact h1
   ·exact Cq _ _ _ h1 ((List.pairwise_cons.mp h2).1 u hu)
  ·rintro ⟨h1,h2⟩
   exact⟨by rw [h1 t List.mem_cons_self]; rfl,h2⟩
theorem Hv(s t:BI):Oi (AT s) (AT t)=some (BP (By s) (By t)):=by
 show (if (true&&(true&&(true&&true)))=true then some (Ea (By s) (By t)) else none)=_
 rw [if_pos (show (true&&(true&&(true&&true)))=true from rfl),HD _ _ rfl]
theorem ekey_iff{s t:BI}:BP (QK s) (QK t)=true↔A_ s t:=by
 show (if (Sum.inr s.a:AY)=.inr t.a then (if (Sum.inr s.b:AY)=.inr t.b then false else decide (cs s.b<cs t.b)) else decide (cs s.a<cs t.a))=true↔(cs s.a<cs t.a\/(s.a=t.a/\cs s.b<cs t.b))
 by_cases h1:s.a=t.a
 ·rw [if_pos (by rw [h1])]
  by_cases h2:s.b=t.b
  ·rw [if_pos (by rw [h2]),h1,h2]
   constructor
   ·intro h; cases h
   ·rintro (h | ⟨_,h⟩)
    ·exact absurd h (BT _)
    ·exact absurd h (BT _)
  ·rw [if_neg (fun e=>h2 (Sum.inr.inj e)),decide_eq_true_eq,h1]
   constructor
   ·intro h; exact .inr ⟨rfl,h⟩
   ·rintro (h | ⟨_,h⟩)
    ·exact absurd h (BT _)
    ·exact h
 ·rw [if_neg (fun e=>h1 (Sum.inr.inj e)),decide_eq_true_eq]
  constructor
  ·intro h; exact .inl h
  ·rintro (h | ⟨h,_⟩)
   ·exact h
   ·exact absurd h h1
theorem Iu(s:BI):¬A_ s s:=by
 rintro (h | ⟨_,h⟩) <;> exact BT _ h
theorem J0{s t:BI}(h:A_ s t):BP (By s) (By t)=true:=by
 show (if (Sum.inr s.a:AY)=.inr t.a then (if (Sum.inr s.b:AY)=.inr t.b then (if (Sum.inl s.len:AY)=.inl t.len then false else decide (s.len<t.len)) else decide (cs s.b<cs t.b)) else decide (cs s.a<cs t.a))=true
 rcases h with h | ⟨h,h'⟩
 ·rw [if_neg (fun e=>BT s.a (by rw [Sum.inr.inj e] at h ⊢; exact h)),decide_eq_true h]
 ·rw [if_pos (by rw [h]),if_neg (fun e=>BT s.b (by rw [Sum.inr.inj e] at h' ⊢; exact h')),decide_eq_true h']
theorem JO:∀{ts:List BI},ts.Pairwise A_->∀s∈ts,∀t∈ts,s.a=t.a->s.b=t.b->s=t
 | [],_,s,hs,_,_,_,_=>by cases hs
 | x::ts,h,s,hs,t,ht,e1,e2=>by
  have h:=List.pairwise_cons.mp h
  rcases List.mem_cons.mp hs with es | hs
  ·rcases List.mem_cons.mp ht with et | ht
   ·rw [es,et]
   ·rcases h.1 t ht with h | ⟨_,h⟩
    ·rw [← es,e1] at h; exact absurd h (BT _)
    ·rw [← es,e2] at h; exact absurd h (BT _)
  ·rcases List.mem_cons.mp ht with et | ht
   ·rcases h.1 s hs with h | ⟨_,h⟩
    ·rw [← et,e1] at h; exact absurd h (BT _)
    ·rw [← et,e2] at h; exact absurd h (BT _)
   ·exact JO h.2 s hs t ht e1 e2
theorem NW{N:Net}(ok:N.Ok){s t:BI}(hs:s∈N.ts)(ht:t∈N.ts)(h:BP (By s) (By t)=true):A_ s t:=by
 have h:(if (Sum.inr s.a:AY)=.inr t.a then (if (Sum.inr s.b:AY)=.inr t.b then (if (Sum.inl s.len:AY)=.inl t.len then false else decide (s.len<t.len)) else decide (cs s.b<cs t.b)) else decide (cs s.a<cs t.a))=true:=h
 by_cases h1:s.a=t.a
 ·rw [if_pos (by rw [h1])] at h
  by_cases h2:s.b=t.b
  ·rw [if_pos (by rw [h2]),if_pos (by rw [JO ok.trise s hs t ht h1 h2])] at h
   cases h
  ·rw [if_neg (fun e=>h2 (Sum.inr.inj e)),decide_eq_true_eq] at h
   exact .inr ⟨h1,h⟩
 ·rw [if_neg (fun e=>h1 (Sum.inr.inj e)),decide_eq_true_eq] at h
  exact .inl h
theorem Ct{ts:List BI}(h:ts.Pairwise A_):ts.Nodup:=h.imp fun {s t} h e=>by rw [e] at h; exact Iu _ h
theorem J2{l m:List BI}(hl:l.Nodup)(hm:m.Nodup)(h:∀t∈l,t∈m):l.length<=m.length:=by
 have:l.Perm (m.filter fun t=>decide (t∈l)):=(List.perm_ext_iff_of_nodup hl (hm.filter _)).mpr fun t=>by
  rw [List.mem_filter,decide_eq_true_eq]
  exact⟨fun z=>⟨h t z,z⟩,fun z=>z.2⟩
 rw [this.length_eq]
 exact List.length_filter_le _ _
theorem O3{N:Net}(ok:N.Ok){ts:List BI}(h:∀t∈ts,t∈N.ts)(hp:ts.Pairwise A_):Net.Ok ⟨N.ps,ts⟩:=⟨ok.names,ok.rise,fun t ht=>ok.tin t (h t ht),hp⟩
theorem JJ{P:BI->Prop}:∀{xs:List D},(∀d∈xs,∃s,P s/\d=AT s)->∃ts:List BI,xs=ts.map AT/\∀t∈ts,P t
 | [],_=>⟨[],rfl,fun t h=>by cases h⟩
 | d::xs,h=>by
  obtain⟨s,hs,rfl⟩:=h d List.mem_cons_self
  obtain⟨ts,rfl,ht⟩:=JJ fun e he=>h e (List.mem_cons_of_mem _ he)
  refine⟨s::ts,rfl,fun t z=>?_⟩
  rcases List.mem_cons.mp z with rfl | z
  ·exact hs
  ·exact ht t z
theorem HX{N:Net}{xs:List D}(h:xs.all (EQ N)=true):∃ts:List BI,xs=ts.map AT/\∀t∈ts,t∈N.ts :=
 JJ fun d hd=>by
  obtain⟨s,hs,e⟩:=tofB_iff.mp (List.all_eq_true.mp h d hd)
  exact⟨s,hs,e⟩
theorem JK{N:Net}(ok:N.Ok)(p:D)(xs:List D):(Ej p (.tup (N.ps.map .str))&&(xs.all (EQ N)&&Oj xs))=E9 N (.tup [p,.tup xs]):=by
 refine QG ⟨fun h=>?_,fun h=>?_⟩
 ·rw [Bool.and_eq_true,Bool.and_eq_true] at h
  obtain⟨ts,rfl,hts⟩:=HX h.2.1
  refine⟨ts,by rw [eqD_strs.mp h.1],hts,?_⟩
  have:=(K8 Hv).mp h.2.2
  exact this.imp_of_mem fun {s t} hs ht z=>NW ok (hts s hs) (hts t ht) z
 ·obtain⟨ts,e,hts,hp⟩:=h
  cases e
  rw [Bool.and_eq_true,Bool.and_eq_true]
  refine⟨eqD_strs.mpr rfl,List.all_eq_true.mpr fun d hd=>?_,(K8 Hv).mpr (hp.imp fun {s t} z=>J0 z)⟩
  obtain⟨t,ht,rfl⟩:=List.mem_map.mp hd
  exact tofB_iff.mpr ⟨t,hts t ht,rfl⟩
theorem ET{N:Net}{d:D}(h:∀p xs,d≠.tup [p,.tup xs]):E9 N d=false:=by
 rw [Bool.eq_false_iff]
 intro z
 obtain⟨ts,e,_⟩:=thinB_iff.mp z
 exact h _ _ e
end Nt
namespace L2
open PySem PySem.Spec PyProof.Rows PySem.W
section
variable {X:Cx}
end
end L2
namespace Dp
open PySem PySem.Spec PyProof.Rows L2
section
variable {X:Cx}{K:Frag}
end
end Dp
namespace Nt
open PySem PySem.Spec PyProof.Rows L2 Dp
section
variable {ss:List Slot}{n:Nat}{Pd:D->Nat->Prop}
theorem Do{b:BW}{tt:HL}{te:DW}{P:List D->Nat->Prop}(c:D->Bool)(g:D->D)(I:List Slot->Prop):∀(ds acc:List D) (n:Nat) (ρ:List Slot),
  (∀d∈ds,∀(ρ:List Slot) (n:Nat) (nx:D->Nat->List Slot->Prop) (sk:Nat->List Slot->Prop),I ρ->(∀ρ',I ρ'->c d=true->nx (g d) n ρ')->(∀ρ',I ρ'->c d=false->sk n ρ')->b d ρ fun ρ1=>tt n ρ1 fun c n1=>if c=true then te n1 ρ1 fun y n2=>nx y n2 ρ1 else sk n1 ρ1)->I ρ->P (acc++(ds.filter c).map g) n->Da b tt te P ds acc n ρ
 | [],acc,n,ρ,_,_,h=>by rw [List.filter_nil,List.map_nil,List.append_nil] at h; exact h
 | d::ds,acc,n,ρ,ht,hρ,h=>ht d List.mem_cons_self ρ n (fun y n2 ρ1=>Da b tt te P ds (acc++[y]) n2 ρ1) (fun n2 ρ1=>Da b tt te P ds acc n2 ρ1) hρ
  (fun ρ' hρ' hc=>Do c g I ds (acc++[g d]) n ρ' (fun d hd=>ht d (List.mem_cons_of_mem _ hd)) hρ' (by rw [List.filter_cons_of_pos hc] at h; rw [List.append_assoc]; exact h))
  (fun ρ' hρ' hc=>Do c g I ds acc n ρ' (fun d hd=>ht d (List.mem_cons_of_mem _ hd)) hρ' (by rw [List.filter_cons_of_neg (by rw [hc]; decide)] at h; exact h))
end
def Qp:W2:=fun ss n P=>∃(N:Net) (d:D),ss=[.sh (enc N),.sh d]/\N.Ok/\DV d/\P (.bl (EQ N d)) n
def FJ:W2:=fun ss n P=>∃(N:Net) (d:D),ss=[.sh (enc N),.sh d]/\N.Ok/\N.ps.length<=24/\N.ts.length<=60/\fine (10 ^ 41) d/\DU d<=200000/\Gg d<=90/\P (.bl (E9 N d)) n
def G0:Ad:=(BZ (LD (AV (QF false) (AC 1) (AV BC (AC 0) (wC (D.int 1)))) (Ag Di (AG (AZ (AV BC (AC 1) (wC (D.int 2)))) Ai))))
def Jt:Ad:=(Aj (Bx (Fb (EG (Af (Ag Et (AG (AZ (wC (D.int 2))) (AG (AZ (AC 1)) Ai))))) (EG (Af (GM "tuple" (AV BC (AC 1) (wC (D.int 1))))))) (BZ (wC (D.bl false))) BN)
 (BZ (LD (AV Re (AV BC (AC 1) (wC (D.int 0))) (AV BC (AC 0) (wC (D.int 0)))) (LD (CK Lq (AD (Cg [some 0,none] (BY (AV BC (AC 1) (wC (D.int 1)))) (Ak 1) E4 (Ag Qp (AG (AZ (AC 0)) (AG (AZ (AC 1)) Ai)))) AR)) (Ag GH (AG (AZ (AV BC (AC 1) (wC (D.int 1)))) Ai))))))
theorem RJ{ts:List BI}(h:Jw D9 (ts.map AT)):IU ts:=by
 unfold Jw at h
 rw [List.pairwise_map] at h
 exact h.imp fun {s t} z=>z _ _ rfl rfl
theorem Ec{N:Net}(ok:N.Ok){ts:List BI}(h:∀t∈ts,t∈N.ts):DV (.tup (ts.map AT))/\DV (.lst (ts.map AT)):=by
 have it:∀d∈ts.map AT,item d:=fun d hd=>by
  obtain⟨t,ht,rfl⟩:=List.mem_map.mp hd
  exact Ee ok _ (List.mem_map.mpr ⟨t,h t ht,rfl⟩)
 have d1:IZ (ts.map AT)<=1:=dps_le.mpr fun d hd=>(it d hd).2.2
 exact⟨D8 (B:=1000001) (by decide) (fines_iff.mpr fun d hd=>(it d hd).1) (by show IZ (ts.map AT)+1<=100; omega),Ja it⟩
theorem RU{N:Net}(ok:N.Ok){t:BI}(h:t∈N.ts):DV (AT t):=by
 have it:=Ee ok _ (List.mem_map.mpr ⟨t,h,rfl⟩)
 exact D8 (B:=1000001) (by decide) it.1 (by have:=it.2.2; omega)
theorem Nd{ts:List BI}{t:BI}:((ts.map AT).any fun y=>Ej y (AT t))=decide (t∈ts):=by
 rw [Bool.eq_iff_iff,List.any_eq_true,decide_eq_true_eq]
 constructor
 ·rintro ⟨d,hd,e⟩
  obtain⟨s,hs,rfl⟩:=List.mem_map.mp hd
  rw [← (Ke s t).mp e]
  exact hs
 ·intro h
  exact⟨AT t,List.mem_map.mpr ⟨t,h,rfl⟩,(Ke t t).mpr rfl⟩
theorem KS:∀xs:List D,xs.length<=Cv xs
 | []=>Nat.zero_le _
 | x::xs=>by
  have:=KS xs
  show xs.length+1<=DU x+1+Cv xs
  omega
theorem Hw:∀ts:List BI,200*ts.length<=Cv (ts.map AT)
 | []=>Nat.zero_le _
 | t::ts=>by
  have:=Hw ts
  show 200*(ts.length+1)<=t.a.length+1+(t.b.length+1+(200+1+0))+1+Cv (ts.map AT)
  omega
section
variable {ss:List Slot}{n:Nat}{Pd:D->Nat->Prop}
theorem KB(h:Qp ss n Pd):G0 (EE Pd) n (ss++List.replicate 0 .no):=by
 obtain⟨N,d,rfl,ok,hl,p⟩:=h
 unfold G0
 refine⟨_,AH (j:=1) rfl,hl,(Ec ok fun _ h=>h).1,_,rfl,?_⟩
 cases c:(N.ts.map AT).any fun y=>Ej y d with
 | false =>
  have:EQ N d=false:=by
   rw [Bool.eq_false_iff]
   intro z
   obtain⟨s,hs,rfl⟩:=tofB_iff.mp z
   rw [Nd,decide_eq_true hs] at c
   cases c
  rw [this] at p
  exact p
 | true =>
  obtain⟨e,he,q⟩:=List.any_eq_true.mp c
  obtain⟨s,hs,rfl⟩:=List.mem_map.mp he
  obtain⟨z,rfl,hz⟩:=Jj q
  refine⟨_,AH (j:=2) rfl,[z],rfl,rfl,?_⟩
  have:EQ N (.tup [.str s.a,.str s.b,z])=GK z:=by
   rw [Bool.eq_iff_iff,tofB_iff]
   constructor
   ·rintro ⟨t,_,e⟩
    have e:z=.int t.len:=by injection e with e; injection e with _ e; injection e with _ e; injection e
    rw [e]
    rfl
   ·intro hw
    cases z with
    | int i=>exact⟨s,hs,by rw [hz i rfl]; rfl⟩
    | _=>cases hw
  rw [this] at p
  exact p
theorem MM(h:FJ ss n Pd):Jt (EE Pd) n (ss++List.replicate 0 .no):=by
 obtain⟨N,d,rfl,ok,l1,l2,hf,hs,hd,p⟩:=h
 unfold Jt
 refine⟨2,d,rfl,?_⟩
 cases h2:HS 2 d with
 | false =>
  rw [ET (fun p xs e=>by rw [e] at h2; cases h2)] at p
  exact Ef p
 | true =>
  obtain⟨x,y,rfl⟩:=VN h2
  refine E5 ⟨_,AH (j:=1) rfl,?_⟩
  cases y with
  | tup xs =>
   rw [← JK ok] at p
   have f1:fine (10 ^ 41) x:=hf.1
   have f2:FD (10 ^ 41) xs:=hf.2.1
   have hd':max (Gg x) (max (IZ xs+1) 0)+1<=90:=hd
   have hs':DU x+1+(Cv xs+1+0)<=200000:=hs
   refine E5 ⟨_,AH (j:=0) rfl,_,AH (j:=0) rfl,D8 (B:=10 ^ 41) (by decide) f1 (by omega),GW ok.names,?_⟩
   refine K7 (b1:=Ej x (.tup (N.ps.map .str))) (b2:=xs.all (EQ N)&&Oj xs) (P:=Pd) (n:=n) (k:=fun P=>_) (fun _ hp=>?_) p
   refine⟨_,AH (j:=1) rfl,by show xs.length<=10000000; have:=KS xs; omega,?_⟩
   refine CS (fun d=>.bl (EQ N d)) (fun ρ=>∃s,ρ=[.sh (enc N),s]) _ _ _ _ ?_ ⟨_,rfl⟩ ?_
   ·rintro e he ρ m nx ⟨s,rfl⟩ hnx
    have dx:IZ xs<=88:=by omega
    exact⟨N,e,rfl,ok,D8 (B:=10 ^ 41) (by decide) (fines_iff.mp f2 e he) (by have:=dps_le.mp dx e he; omega),hnx _ ⟨_,rfl⟩⟩
   rw [List.nil_append]
   refine⟨_,_,rfl,IX (EQ N) xs,?_⟩
   rw [Tf]
   refine K7 (b1:=xs.all (EQ N)) (b2:=Oj xs) (P:=Pd) (n:=n) (k:=fun P=>_) (fun ha hp=>?_) hp
   obtain⟨ts,rfl,hts⟩:=HX ha
   have:=Hw ts
   refine⟨_,AH (j:=1) rfl,_,_,rfl,rfl,by rw [List.length_map]; omega,fun a ha b hb=>?_,hp⟩
   obtain⟨s,_,rfl⟩:=List.mem_map.mp ha
   obtain⟨t,_,rfl⟩:=List.mem_map.mp hb
   exact⟨_,Hv s t⟩
  | _ =>
   rw [ET (fun p xs e=>by cases e)] at p
   exact Ef p
end
section
variable {ss:List Slot}{n:Nat}{Pd:D->Nat->Prop}
end
theorem LJ{s t:BI}(h:By s=By t):s=t:=by
 obtain⟨a,b,l⟩:=s
 obtain⟨a',b',l'⟩:=t
 unfold By at h
 simp only [List.cons.injEq,Sum.inl.injEq,Sum.inr.injEq,and_true] at h
 obtain⟨rfl,rfl,rfl⟩:=h
 rfl
theorem ME{l1 l2:List BI}(p:l1.Perm l2)(h1:IU l1)(h2:IU l2):l1=l2:=KH (fun a b x y=>LJ (Cr _ _ y x)) p h1 h2
theorem Mn{ts:List BI}(h:ts.Pairwise A_):IU ts:=h.imp fun {s t} z=>by
 cases e:BP (By t) (By s) with
 | false=>rfl
 | true =>
  have:=Cq _ _ _ (J0 z) e
  rw [C0] at this
  cases this
section
variable {ss:List Slot}{n:Nat}{Pd:D->Nat->Prop}
end
end Nt
namespace L2
open PySem PySem.Spec PyProof.Rows PySem.W
section
variable {prog:Program}{w:World}{A:Around}{E:Value->Shared->Prop}{R:Result->Shared->Prop}{I:Addr}{fp wr:List Addr}{n:Nat}{P:Nat->Value->Prop}{St:Nat->Heap->Prop}
def SM(prog:Program)(w:World)(A:Around)(op:CmpOp)(P:Nat->Value->Prop)(Cm:Heap->Prop)(bt:Nat->Nat->Bool):Prop :=
 ∀i j vi vj (s:Shared) (Q:Value->Shared->Prop) (E:Value->Shared->Prop),Cm s.heap->P i vi->P j vj->Q (.bool (bt i j)) s->wpAny (model prog w) A (richCompare op vi vj) Q E s
theorem OJ(W:Walks prog w A.in1 I fp wr n P St)(bt:Nat->Nat->Bool)(Cm:Heap->Prop)(hcmp:SM prog w A.in1 .Lt P Cm bt)(S:Addr)(hSf:S∉fp)(hmono:∀h h':Heap,Cm h->(∀b o,b∉wr->b≠S->h.get? b=some o->h'.get? b=some o)->Cm h') :
  ∀(k j:Nat) (s:Shared) (vb:Value) (c:Nat),n - (j+1)=k->j+1<=n->St (j+1) s.heap->Cm s.heap->P (argBest bt j) vb ->
  s.heap.get? S=some { cls:=.type "list",dict:=none,data:=.seq #[vb,vb] c,slots:=#[] } ->
  (∀v h' tk,P (argBest bt (n - 1)) v->(∀b o,b∉wr->b≠S->s.heap.get? b=some o->h'.get? b=some o)->R (.ok (.ret v)) { s with heap:=h',toks:=tk }) ->
  codeAny (model prog w) A (.builtin "min.loop" ⟨[.ref I,.none,.ref S],[]⟩) R s:=by
 have hSw:S∉wr:=fun h=>hSf (W.sub _ h)
 have hname:(toString "min"++toString ".loop" : String) = "min.loop":=by decide
 intro k
 induction k with
 | zero =>
  intro j s vb c hk hj hst hcm hPb hS hR
  have hin:j+1=n:=by omega
  refine codeAny_builtin PySem.F.entry_min_loop ?_
  rw [Around.under_plainId PySem.F.plain_min_loop _]
  show wpAny _ A.in1 (seqItems? (.ref S) >>= _) _ _ s
  refine wpAny_bind (wpAny_seqItems hS rfl ?_)
  show wpAny _ A.in1 (tryCatch (pyNext (.ref I)) _ >>= _) _ _ s
  refine wpAny_bind (wpAny_tryCatch (W.done s _ _ (hin▸hst) fun h' tk hk'=>?_))
  have hS':=hk' S _ hSw hS
  show wpAny _ A.in1 (updateSeq S (fun _=>#[]) >>= _) _ _ _
  refine wpAny_bind ?_
  refine wpAny_updateSeq hS' rfl (wpAny_bind (wpAny_letGo (wpAny_pure ?_)))
  refine hR vb _ tk (by rw [← hin]; exact hPb) fun b o hbw hbS e=>(Heap.get?_update_other _ _ (Ne.symm hbS)).trans (hk' b o hbw e)
 | succ k ih =>
  intro j s vb c hk hj hst hcm hPb hS hR
  have hlt:j+1<n:=by omega
  refine codeAny_builtin PySem.F.entry_min_loop ?_
  rw [Around.under_plainId PySem.F.plain_min_loop _]
  show wpAny _ A.in1 (seqItems? (.ref S) >>= _) _ _ s
  refine wpAny_bind (wpAny_seqItems hS rfl ?_)
  show wpAny _ A.in1 (tryCatch (pyNext (.ref I)) _ >>= _) _ _ s
  refine wpAny_bind (wpAny_tryCatch (W.item (j+1) s _ _ hlt hst fun v h' tk hP hst' hk'=>?_))
  have hS':=hk' S _ hSw hS
  have hcm':Cm h':=hmono _ _ hcm fun b o h1 _ e=>hk' b o h1 e
  show wpAny _ A.in1 (tryCatch (holding [v,v] (richCompare .Lt v vb >>= _)) _ >>= _) _ _ _
  refine wpAny_bind (wpAny_tryCatch (wpAny_holding (wpAny_bind (hcmp (j+1) (argBest bt j) v vb _ _ _ hcm' hP hPb ?_))))
  refine wpAny_bind (wpAny_holding (wpAny_truthy_bool ?_))
  refine wpAny_bind (wpAny_letGo (wpAny_pure ?_))
  cases hb:bt (j+1) (argBest bt j) with
  | true =>
   simp only [if_true]
   refine wpAny_bind ?_
   refine wpAny_updateSeq hS' rfl (wpAny_bind (wpAny_letGo ?_))
   rw [hname]
   refine wpAny_pure ⟨plainId_quiet PySem.F.plain_min_loop _,ih (j+1) _ v _ (by omega) hlt (W.frame _ _ _ hst' fun b hbf o e=>?_) (hmono _ _ hcm' fun b o _ h2 e=>(Heap.get?_update_other _ _ (Ne.symm h2)).trans e) (by simp only [argBest,hb,if_true]; exact hP) (Heap.get?_update_self _ hS' rfl)
    fun v' h'' tk'' hP' hk''=>?_⟩
   ·exact(Heap.get?_update_other _ _ (fun h:S=b=>hSf (by rw [h]; exact hbf))).trans e
   ·exact hR v' h'' tk'' hP' fun b o hbw hbS e=>hk'' b o hbw hbS ((Heap.get?_update_other _ _ (Ne.symm hbS)).trans (hk' b o hbw e))
  | false =>
   simp only [Bool.false_eq_true,if_false]
   refine wpAny_bind (wpAny_letGo ?_)
   rw [hname]
   refine wpAny_pure ⟨plainId_quiet PySem.F.plain_min_loop _,ih (j+1) _ vb c (by omega) hlt hst' hcm' (by simp only [argBest,hb,Bool.false_eq_true,if_false]; exact hPb) hS' fun v' h'' tk'' hP' hk''=>?_⟩
   exact hR v' h'' tk'' hP' fun b o hbw hbS e=>hk'' b o hbw hbS (hk' b o hbw e)
theorem Mc(W:Walks prog w A.in1 I fp wr n P St)(bt:Nat->Nat->Bool)(Cm:Heap->Prop)(hcmp:SM prog w A.in1 .Lt P Cm bt)(S:Addr)(hSf:S∉fp)(hmono:∀h h':Heap,Cm h->(∀b o,b∉wr->b≠S->h.get? b=some o->h'.get? b=some o)->Cm h')(hn:0<n){s:Shared}{c:Nat}(hst:St 0 s.heap)(hcm:Cm s.heap)
  (hS:s.heap.get? S=some { cls:=.type "list",dict:=none,data:=.seq #[] c,slots:=#[] })
  (hR:∀v h' tk,P (argBest bt (n - 1)) v->(∀b o,b∉wr->b≠S->s.heap.get? b=some o->h'.get? b=some o)->R (.ok (.ret v)) { s with heap:=h',toks:=tk }) :
  codeAny (model prog w) A (.builtin "min.loop" ⟨[.ref I,.none,.ref S],[]⟩) R s:=by
 have hSw:S∉wr:=fun h=>hSf (W.sub _ h)
 have hname:(toString "min"++toString ".loop" : String) = "min.loop":=by decide
 refine codeAny_builtin PySem.F.entry_min_loop ?_
 rw [Around.under_plainId PySem.F.plain_min_loop _]
 show wpAny _ A.in1 (seqItems? (.ref S) >>= _) _ _ s
 refine wpAny_bind (wpAny_seqItems hS rfl ?_)
 show wpAny _ A.in1 (tryCatch (pyNext (.ref I)) _ >>= _) _ _ s
 refine wpAny_bind (wpAny_tryCatch (W.item 0 s _ _ hn hst fun v h' tk hP hst' hk'=>?_))
 have hS':=hk' S _ hSw hS
 have hcm':Cm h':=hmono _ _ hcm fun b o h1 _ e=>hk' b o h1 e
 show wpAny _ A.in1 (updateSeq S (fun _=>#[v,v]) >>= _) _ _ _
 refine wpAny_bind ?_
 refine wpAny_updateSeq hS' rfl ?_
 rw [hname]
 refine wpAny_pure ⟨plainId_quiet PySem.F.plain_min_loop _,OJ W bt Cm hcmp S hSf hmono _ 0 _ v _ rfl hn (W.frame _ _ _ hst' fun b hbf o e=>?_) (hmono _ _ hcm' fun b o _ h2 e=>(Heap.get?_update_other _ _ (Ne.symm h2)).trans e) hP (Heap.get?_update_self _ hS' rfl) fun v' h'' tk'' hP' hk''=>?_⟩
 ·exact(Heap.get?_update_other _ _ (fun h:S=b=>hSf (by rw [h]; exact hbf))).trans e
 ·exact hR v' h'' tk'' hP' fun b o hbw hbS e=>hk'' b o hbw hbS ((Heap.get?_update_other _ _ (Ne.symm hbS)).trans (hk' b o hbw e))
theorem Pr{s:Shared}{l:Addr}{items:Array Value}{Q:Value->Shared->Prop}(bt:Nat->Nat->Bool)(hh:A.handled=none)(hl:s.heap.IsList l items)(hn:0<items.size)
  (hcmp:∀i j vi vj (s':Shared) (Q:Value->Shared->Prop) (E:Value->Shared->Prop),(∀b o,s.heap.get? b=some o->s'.heap.get? b=some o)->items[i]?=some vi->items[j]?=some vj->Q (.bool (bt i j)) s'->wpAny (model prog w) A.in1 (richCompare .Lt vi vj) Q E s')
  (h:∀v h' tk,items[argBest bt (items.size - 1)]?=some v->(∀b o,s.heap.get? b=some o->h'.get? b=some o)->Q v { s with heap:=h',toks:=tk }):wpAny (model prog w) A (call (.builtin "min") [.ref l]) Q E s:=by
 have hname:(toString "min"++toString ".loop" : String) = "min.loop":=by decide
 have hlt:l<s.heap.objs.size:=by obtain⟨_,e,_⟩:=hl; exact Heap.lt_size e
 refine call_function_tree PySem.F.kind_min PySem.F.plain_min PySem.F.entry_min (PySem.F.args_min1 _) ?_
 show wpAny _ A.in1 (Builtin.Builtins.bindParams "min" ["key","default"] 0 ⟨[],[]⟩ >>= _) _ _ s
 refine wpAny_bind (wpAny_of_eq (show Builtin.Builtins.bindParams "min" ["key","default"] 0 ⟨[],[]⟩=pure [none,none] from rfl) ?_)
 refine wpAny_bind (wpAny_pure ?_)
 refine wpAny_bind (wpAny_pyIter_list hl ?_)
 refine wpAny_bind (wpAny_newObj_type ?_)
 rw [hname]
 have W:=Walks.list (prog:=prog) (w:=w) (A:=A.in1) hh s.heap.objs.size l (Nat.ne_of_lt hlt) items
 have hs1:(s.heap.push { cls:=.type "list_iterator",data:=.fields #[.ref l,.int 0 0] }).objs.size=s.heap.objs.size+1:=Heap.size_push _ _
 refine wpAny_pure ⟨plainId_quiet PySem.F.plain_min_loop _,Mc W bt (fun h'=>∀b o,s.heap.get? b=some o->h'.get? b=some o) (fun i j vi vj s' Q E hc h1 h2 q=>hcmp i j vi vj s' Q E hc h1 h2 q) (s.heap.push { cls:=.type "list_iterator",data:=.fields #[.ref l,.int 0 0] }).objs.size (fun hm=>?_) (fun h1 h2 hc hk b o e=>hk b o (fun hm=>?_) ?_ (hc b o e)) hn ⟨⟨_,Heap.get?_push_of_some _ (Heap.get?_push_size _ rfl),rfl,rfl⟩,(hl.push _).push _⟩ (fun b o e=>Heap.get?_push_of_some _ (Heap.get?_push_of_some _ e)) (Heap.get?_push_size _ rfl) fun v h' tk hP hk=>?_⟩
 ·rw [hs1] at hm
  rcases List.mem_cons.mp hm with e | hm
  ·exact absurd e (Nat.succ_ne_self _)
  ·rw [← List.mem_singleton.mp hm] at hlt
   exact absurd hlt (Nat.not_lt.mpr (Nat.le_succ _))
 ·rw [List.mem_singleton.mp hm] at e
  exact absurd (Heap.lt_size e) (Nat.lt_irrefl _)
 ·rw [hs1]
  exact Nat.ne_of_lt (Nat.lt_succ_of_lt (Heap.lt_size e))
 ·refine h v h' tk hP fun b o e=>hk b o (fun hm=>?_) ?_ (Heap.get?_push_of_some _ (Heap.get?_push_of_some _ e))
  ·rw [List.mem_singleton.mp hm] at e
   exact absurd (Heap.lt_size e) (Nat.lt_irrefl _)
  ·rw [hs1]
   exact Nat.ne_of_lt (Nat.lt_succ_of_lt (Heap.lt_size e))
end
theorem IW(keys:List (List AY)):∀m:Nat,argBest (fun i j=>BP (keys.getD i []) (keys.getD j [])) m<=m/\∀i,i<=m->BP (keys.getD i []) (keys.getD (argBest (fun i j=>BP (keys.getD i []) (keys.getD j [])) m) [])=false
 | 0=>⟨Nat.le_refl _,fun i hi=>by
  have:i=0:=by omega
  subst this
  exact C0 _⟩
 | m+1=>by
  obtain⟨h1,h2⟩:=IW keys m
  unfold argBest
  by_cases c:BP (keys.getD (m+1) []) (keys.getD (argBest (fun i j=>BP (keys.getD i []) (keys.getD j [])) m) [])=true
  ·rw [if_pos c]
   refine⟨Nat.le_refl _,fun i hi=>?_⟩
   by_cases e:i=m+1
   ·subst e; exact C0 _
   ·cases z:BP (keys.getD i []) (keys.getD (m+1) []) with
    | false=>rfl
    | true =>
     have:=Cq _ _ _ z c
     rw [h2 i (by omega)] at this
     cases this
  ·rw [if_neg c]
   refine⟨by omega,fun i hi=>?_⟩
   by_cases e:i=m+1
   ·subst e
    cases z:BP (keys.getD (m+1) []) (keys.getD (argBest (fun i j=>BP (keys.getD i []) (keys.getD j [])) m) []) with
    | false=>rfl
    | true=>exact absurd z c
   ·exact h2 i (by omega)
section
variable {X:Cx}
def R6(K:Frag):List V->Hp->VK->Prop:=fun xs H Q=>∃(p:Addr) (vs:List V) (keys:List (List AY)),xs=[.ref p]/\SqL K H p vs/\0<vs.length/\KeysAt K H vs keys /\
 ∀j v,vs[j]?=some v->(∀i,i<vs.length->BP (keys.getD i []) (keys.getD j [])=false)->Q v H
theorem Oc{k:Nat}(hr:Room k X.A):C8 X (.builtin "min") (R6 X.K):=by
 intro pins s σ H xs us Q I r h
 obtain⟨p,vs,keys,rfl,hq,hn,hk,q⟩:=h
 obtain⟨u,rfl,rx⟩:=Fc r
 cases rx
 obtain⟨its,r',pl,hz⟩:=I.list hq
 have hl:=r'.length
 have tk:=hk.tups I r' fun b o e=>e
 have hu:=hr.un
 refine Pr (fun i j=>BP (keys.getD i []) (keys.getD j [])) hr.hd pl.isList (by rw [List.size_toArray]; omega) (fun i j vi vj s' Q' E' hold h1 h2 q'=>?_) fun v h' tk' hv hold=>?_
 ·have hi:i<keys.length:=by rw [← hk.len,hl]; have:=(Array.getElem?_eq_some_iff.mp h1).1; simpa using this
  have hj:j<keys.length:=by rw [← hk.len,hl]; have:=(Array.getElem?_eq_some_iff.mp h2).1; simpa using this
  obtain⟨a,⟨cls,dd,data,sl⟩,xs,n,e1,e2,e3,e4,e5⟩:=tk.at_ i keys[i] (List.getElem?_eq_getElem hi)
  obtain⟨a',⟨cls',dd',data',sl'⟩,xs',n',e1',e2',e3',e4',e5'⟩:=tk.at_ j keys[j] (List.getElem?_eq_getElem hj)
  simp only at e3 e4 e3' e4'
  subst e3 e4 e3' e4'
  have e1:its.toArray[i]?=some (.ref a):=by rw [← e1]; simp
  have e1':its.toArray[j]?=some (.ref a'):=by rw [← e1']; simp
  rw [e1] at h1
  rw [e1'] at h2
  cases h1
  cases h2
  have hsm:=hk.same _ (List.getElem_mem hi) _ (List.getElem_mem hj)
  have g1:keys.getD i []=keys[i]:=by rw [List.getD_eq_getElem?_getD,List.getElem?_eq_getElem hi]; rfl
  have g2:keys.getD j []=keys[j]:=by rw [List.getD_eq_getElem?_getD,List.getElem?_eq_getElem hj]; rfl
  simp only [g1,g2] at q'
  rw [← HD _ _ hsm] at q'
  exact richCompare_meets_room (op:=.Lt) ⟨_,hold _ _ e2,rfl⟩ ⟨_,hold _ _ e2',rfl⟩ PySem.F.slot_tuple_lt PySem.F.entry_tuple_lt (PySem.F.args_tuple_lt_2 _ _) (E8 a a' xs xs' n n' dd dd' sl sl' keys[i] keys[j] e5 e5' hsm)
   ⟨hold _ _ e2,hold _ _ e2',show Value.bool (Ea keys[i] keys[j])≠Value.notImplemented/\Q' (.bool (Ea keys[i] keys[j])) s' from⟨(fun x=>nomatch x),q'⟩⟩ (by show X.A.units+1<cLine; omega)
 ·obtain⟨b1,b2⟩:=IW keys (its.toArray.size - 1)
  rw [List.size_toArray] at hv b1 b2
  have hj:argBest (fun i j=>BP (keys.getD i []) (keys.getD j [])) (its.length - 1)<vs.length:=by omega
  obtain⟨u,e1,ru⟩:=r'.get (List.getElem?_eq_getElem hj)
  have e2:its.toArray[argBest (fun i j=>BP (keys.getD i []) (keys.getD j [])) (its.length - 1)]?=some u:=by rw [← e1]; simp
  rw [e2] at hv
  cases hv
  exact⟨_,H,I.kept (t':=tk') hold,ru,q _ _ (List.getElem?_eq_getElem hj) fun i hi=>b2 i (by omega)⟩
end
end L2
namespace Dp
open PySem PySem.Spec PyProof.Rows L2
def SG(ds:List D)(P:D->Prop):Prop:=∃xs,ds=[.lst xs]/\0<xs.length/\Np D9 xs/\∀x∈xs,(∀y∈xs,∀kx ky,D9 x=some kx->D9 y=some ky->BP ky kx=false)->P x
theorem Tj{K:Frag}:Dd K .sh (R6 K) SG:=by
 intro U M H ds vs P Q dom vM hp w q
 obtain⟨xs,rfl,hn,hK,w⟩:=w
 obtain⟨v,rfl,hx⟩:=EY hp
 obtain⟨a,us,rfl,_,hq,hs⟩:=hx
 obtain⟨keys,hl,hk⟩:=GY hK.1
 have hlen:=hs.length
 refine⟨a,us,keys,rfl,.inl hq,by omega,Jc (fun d k v _=>Jd) hs hK hl hk,fun j v hv hle=>?_⟩
 have hj:j<xs.length:=by rw [← hlen]; exact(List.getElem?_eq_some_iff.mp hv).1
 obtain⟨v',e1,h1⟩:=hs.get (List.getElem?_eq_getElem hj)
 rw [hv] at e1
 cases e1
 refine q v H xs[j] .refl h1 (w _ (List.getElem_mem hj) fun y hy kx ky ex ey=>?_)
 obtain⟨i,hi⟩:=List.mem_iff_getElem?.mp hy
 have hil:i<xs.length:=(List.getElem?_eq_some_iff.mp hi).1
 obtain⟨k1,a1,b1,_⟩:=hk i y hi
 obtain⟨k2,a2,b2,_⟩:=hk j xs[j] (List.getElem?_eq_getElem hj)
 have:=hle i (by omega)
 rw [List.getD_eq_getElem?_getD,List.getD_eq_getElem?_getD,a1,a2] at this
 rw [ey] at b1
 rw [ex] at b2
 cases b1
 cases b2
 exact this
end Dp
namespace L2
open PySem PySem.Spec PyProof.Rows
def Vx(d:Addr)(o:Obj)(kvs:List (AY×V)):It :=
 ⟨fun i H=>H d=some (.frz o (.dK kvs))/\i<kvs.length,fun i H x H'=>∃T p,x=.ref T/\H T=none/\kvs[i]?=some p/\H'=BA H T (.tup [kV p.1,p.2]),fun i H=>H d=some (.frz o (.dK kvs))/\kvs.length<=i⟩
theorem TC{P:Program}{w:World}{k:AY}{u:Value}(h:(A5 P w).is k u=true):RelV (kV k) u:=by
 rcases BF h with ⟨i,t,rfl,rfl⟩ | ⟨x,t,rfl,rfl⟩
 ·exact⟨t,rfl⟩
 ·exact⟨t,rfl⟩
theorem Kj{X:Cx}{pins:List (Addr×Obj)}{σ:L2.St}{H:Hp}{s:Shared}{d:Addr}{o:Obj}{kvs:List (AY×V)}{es:Array DictEntry}{ep:Nat}(I:Inv X pins σ H s)(h:H d=some (.frz o (.dK kvs)))(hd:o.data=.dict es ep) :
  ∃ws,KV kvs ws/\s.heap.DictAt (A5 X.prog X.w) d ws ep:=by
 obtain⟨e0,_,_,ws,kv,o',es',ep',e1,e2,e3,e4⟩:=(show ObjOk X.prog X.w H s.heap d (.frz o (.dK kvs)) from I.hok d _ h)
 rw [e0] at e1
 cases e1
 rw [hd] at e3
 cases e3
 exact⟨ws,kv,o,es,e0,e2,hd,e4⟩
theorem MD{P:Program}{w:World}{K:Frag}{els:List Expr}{j:Nat}{pos:Pos}(d it:Addr)(o:Obj)(kvs:List (AY×V))(es:Array DictEntry)(ep:Nat)(hdat:o.data=.dict es ep) :
  L8 P w K (.Tuple els j pos) (Vx d o kvs) [it] it (fun i h=>∃ok ov,IsItemIter h it d i kvs.length ep ok ov) where
 mem:=by simp
 obj:=fun i h ⟨ok,ov,st⟩ c hc=>by
  rw [List.mem_singleton.mp hc]
  exact⟨_,st,fun v q=>by cases q⟩
 keep:=fun i h h' ⟨ok,ov,st⟩ k=>⟨ok,ov,k it (by simp) _ st⟩
 item:=by
  intro X hP hw hK hc i pins s σ H E I hf st hg
  subst hP hw hK
  obtain⟨hH,hi⟩:=hg
  obtain⟨ok,ov,st⟩:=st
  obtain⟨ws,kv,D⟩:=Kj I hH hdat
  have hl:=kv.length
  have hiw:i<ws.length:=by omega
  rw [hl] at st
  obtain⟨k,v,hkv⟩:∃k v,ws[i]=(k,v):=⟨_,_,rfl⟩
  have hx:ws[i]?=some (k,v):=by rw [List.getElem?_eq_getElem hiw,hkv]
  have hp:kvs[i]?=some kvs[i]:=List.getElem?_eq_getElem hi
  obtain⟨ek,rv⟩:=Ho kv hp hx
  have ek:kvs[i].1=k:=ek
  refine wpAny_pyNext_items_item st D hx fun key h' hkey hout htup hsz hold=>⟨_,rfl,?_⟩
  refine wpAny_letOwnedTupleGo_items hout fun h2 hit2 hsame=>?_
  have hT:H s.heap.objs.size=none:=I.hok.fresh (Nat.le_refl _)
  have nit:s.heap.objs.size≠it:=Nat.ne_of_gt (Heap.lt_size st)
  have kk:∀c o,c∉[it]->s.heap.get? c=some o->h2.get? c=some o:=fun c o hc e=>by
   have hc:c≠it:=fun z=>hc (by rw [z]; exact List.mem_singleton.mpr rfl)
   exact(hsame.2 c hc).trans (hold c o hc e)
  have I2:Inv X pins σ (BA H s.heap.objs.size (.tup [kV kvs[i].1,kvs[i].2])) { s with heap:=h2 }:=by
   refine I.turnLaid (t':=s.toks) (ch:=[it]) (fun c hc=>hf c hc) kk (Nat.le_refl _) ?_
   exact⟨by show 2<=sizeLine; decide,[key,v],.cons (TC (by rw [ek]; exact hkey)) (.cons rv .nil),⟨_,(hsame.2 _ nit).trans htup,rfl,_,rfl⟩⟩
  refine⟨.ref s.heap.objs.size,_,I2,rfl,⟨_,_,rfl,hT,hp,rfl⟩,⟨key,v,by rw [hl]; exact hit2⟩,fun c hc=>?_⟩
  rw [List.mem_singleton.mp hc,AU (Ne.symm nit)]
  exact(hf it (by simp)).1
 done:=by
  intro X hP hw hK hc i pins s σ H E I hf st hg
  subst hP hw hK
  obtain⟨hH,hi⟩:=hg
  obtain⟨ok,ov,st⟩:=st
  obtain⟨ws,kv,D⟩:=Kj I hH hdat
  have hl:=kv.length
  rw [hl] at st
  refine wpAny_pyNext_items_end (I.ok.hd hc) st D (List.getElem?_eq_none (by omega)) fun h' ext=>⟨rfl,?_⟩
  exact I.turnedL (t':=s.toks) (ch:=[it]) (fun c hc=>hf c hc) fun c o hc e=>ext c o (fun z=>hc (by rw [z]; exact List.mem_singleton.mpr rfl)) e
 self:=fun A i s Q E ⟨ok,ov,st⟩ h=>PySem.W.kcp_self st h
def TM(to:TE):TI:=fun σ H R=>to σ H fun x H1=>∃d o kvs,x=.ref d/\H1 d=some (.frz o (.dK kvs))/\∀r,H1 r=none->R (Vx d o kvs) (BA H1 r (.ext fun h=>h.IsItemsView r d))
theorem Pi{X:Cx}{e:Expr}{els:List Expr}{j:Nat}{tpos apos cpos:Pos}{to:TE}(ho:PE X e to)(hbase:attributeBase e "items" X.env (eval e X.env)=eval e X.env:=by rfl)(hline:(apos.endLine==cpos.line)=true:=by rfl) :
  PI X (.Tuple els j tpos) (.Call (.Attribute e "items" apos) [] [] cpos) (TM to):=by
 intro pins s σ H R I h
 refine wpAny_Call_method0_late hbase hline (Bp (ho pins s σ H _ I h) fun v s1 ⟨x,H1,I1,r1,d,o,kvs,ex,hd,q⟩=>?_)
 subst ex
 cases r1
 obtain⟨h1,h2,lo⟩:=P7 I1 (.inl ⟨kvs,.inr ⟨o,hd⟩⟩)
 obtain⟨_,_,ws,kv,D⟩:=FF I1.hok (.inr ⟨o,hd⟩)
 refine⟨"dict","dict.items",PySem.F.plainAttrs_dict,PySem.F.slot_dict_items,PySem.F.type_dict_items,h1,h2,Calls.callWith_builtin rfl (PySem.evalArgs_none ?_)⟩
 refine call_meetsIn PySem.F.slot_dict_items D.typeIs PySem.F.entry_dict_items (PySem.F.args_dict_items_1 _) (meets_dict_items (A5 X.prog X.w) d lo) ⟨⟨ws,D⟩,?_⟩
 have hf:H1 s1.heap.objs.size=none:=I1.fresh
 have hv:(s1.heap.push { cls:=.type "dict_items",data:=.fields #[.ref d] }).IsItemsView s1.heap.objs.size d:=⟨_,Heap.get?_push_size _ rfl,rfl,rfl⟩
 have I2:Inv X pins σ (BA H1 s1.heap.objs.size (.ext fun h=>h.IsItemsView s1.heap.objs.size d)) { s1 with heap:=s1.heap.push { cls:=.type "dict_items",data:=.fields #[.ref d] } } :=
  I1.laid (t':=s1.toks) (fun b o e=>Heap.get?_push_of_some _ e) (Nat.le_refl _) ⟨hv,⟨_,Heap.get?_push_size _ rfl⟩,fun h1 h2 ⟨o,e,c⟩ k=>⟨o,k o e,c⟩⟩
 have hd2:(BA H1 s1.heap.objs.size (.ext fun h=>h.IsItemsView s1.heap.objs.size d)) d=some (.frz o (.dK kvs)):=by rw [AU (BB hd hf)]; exact hd
 obtain⟨es,ep,hdat⟩:∃es ep,o.data=.dict es ep:=by
  obtain⟨e0,_,_,ws,kv,o',es',ep',e1,e2,e3,e4⟩:=(show ObjOk X.prog X.w H1 s1.heap d (.frz o (.dK kvs)) from I1.hok d _ hd)
  rw [e0] at e1
  cases e1
  exact⟨es',ep',e3⟩
 obtain⟨ws2,kv2,D2⟩:=Kj I2 hd2 hdat
 have hl:=kv2.length
 refine wpAny_pyIter_items (s:={ s1 with heap:=s1.heap.push { cls:=.type "dict_items",data:=.fields #[.ref d] } }) hv D2 ?_
 refine⟨_,[(s1.heap.push { cls:=.type "dict_items",data:=.fields #[.ref d] }).objs.size],_,Vx d o kvs,_,rfl,I2.kept (t':=s1.toks) (fun b o e=>Heap.get?_push_of_some _ e),MD d _ o kvs es ep hdat,⟨.none,.none,by rw [hl]; exact Heap.get?_push_size _ rfl⟩,fun c hc=>?_,q _ hf⟩
 rw [List.mem_singleton.mp hc]
 exact I2.fpOk (Nat.le_refl _) I2.fresh
end L2
namespace Dp
open PySem PySem.Spec PyProof.Rows L2
def Oq(wa:DW):GJ:=fun n ρ P=>wa n ρ fun d n1=>∃ks ds,d=.fdi ks ds/\(∀k∈ks,NO k)/\P (Dz (ks.map Tx) ds) n1
theorem TD(k:AY):kV k=Ga k:=by cases k <;> rfl
section
variable {X:Cx}{a:Expr}{κa:Kd}{wa:DW}{els:List Expr}{j:Nat}{tpos apos cpos:Pos}
theorem QP(ha:DE X a κa wa)(hbase:attributeBase a "items" X.env (eval a X.env)=eval a X.env:=by rfl)(hline:(apos.endLine==cpos.line)=true:=by rfl):DI X (.Tuple els j tpos) (.Call (.Attribute a "items" apos) [] [] cpos) (Oq wa):=by
 obtain⟨t,a1,a2⟩:=ha
 refine⟨_,Pi a1 hbase hline,fun C M H n ρ σ P Rr R w q=>?_⟩
 refine a2 C M H n ρ σ _ _ R w fun v H1 d n1 ee f1 r1 p=>?_
 obtain⟨ks,ds,rfl,hfit,p⟩:=p
 have R1:=R.step ee f1
 obtain⟨ad,vs,rfl,⟨o,nM,hd⟩,hlen,hs⟩:∃a vs,v=.ref a/\NdF M H1 a ks vs/\ks.length=ds.length/\Ats X.K M H1 ds vs:=r1.tpOf R.dom R.vM
 have hl:=hs.length
 refine⟨ad,o,_,rfl,hd,fun r hr=>?_⟩
 have g:Grow H1 (BA H1 r (.ext fun h=>h.IsItemsView r ad)):=Av hr
 refine q _ _ _ n1 (ee.trans g.ext) (f1.grow g) (fun i M' H' pr dom=>?_) p
 have pr2:Pres M H1 M' H':=g.pres.trans pr
 have hd':H' ad=some (.frz o (.dK (ks.zip vs))):=(pr2.nd nM hd).2
 have zl:(ks.zip vs).length=ks.length:=by rw [List.length_zip]; omega
 have zd:(Dz (ks.map Tx) ds).length=ks.length:=by unfold Dz; rw [List.length_zipWith,List.length_map]; omega
 refine⟨fun e he=>?_,fun hle=>⟨hd',by omega⟩⟩
 have hi:i<ks.length:=by rw [← zd]; exact(List.getElem?_eq_some_iff.mp he).1
 have hid:i<ds.length:=by omega
 refine⟨⟨hd',by omega⟩,fun x H2 y=>?_⟩
 obtain⟨T,pp,rfl,hT,hp,rfl⟩:=y
 obtain⟨v',e1,h1⟩:=(hs.pres pr2).get (List.getElem?_eq_getElem hid)
 have e2:(ks.zip vs)[i]?=some (ks[i],v'):=by
  rw [List.getElem?_zip_eq_some]
  exact⟨List.getElem?_eq_getElem hi,e1⟩
 rw [e2] at hp
 cases hp
 have e3:e=.tup [Tx ks[i],ds[i]]:=by
  unfold Dz at he
  rw [List.getElem?_zipWith,List.getElem?_map,List.getElem?_eq_getElem hi,List.getElem?_eq_getElem hid] at he
  exact(Option.some.inj he).symm
 subst e3
 refine⟨Av hT,DP dom hT ⟨_,_,rfl,?_,_,_,rfl,h1,rfl⟩⟩
 show At X.K M' H' (Tx ks[i]) (kV ks[i])
 rw [TD]
 exact Tb (hfit _ (List.getElem_mem hi))
end
section
variable {K:Frag}{C:Fm}{M:Addr->Prop}{H H':Hp}{n n':Nat}{ρ:List Slot}{σ:L2.St}
theorem Rel.hold(R:Rel K C M H n ρ σ){p:Addr}{o:HO}(hp:H p=none):Rel K C (fun b=>M b\/b=p) (BA H p o) n ρ σ:=by
 have g:Grow H (BA H p o):=Av hp
 have pr:Pres M H (fun b=>M b\/b=p) (BA H p o):=FS hp
 refine⟨R.len,fun a z=>.inl (R.sub a z),fun a z=>?_,R.ext.trans g.ext,R.fU,R.uV,fun a z=>.inl (R.vM a z),(R.feed.grow g).more p fun f hf q=>?_,fun i s q=>(R.sl i s q).pres pr (fun _ z=>.inl z) g.ext R.uV,fun q hq=>(R.pin q hq).trans pr,R.br0,R.new,R.two,fun q hq=>?_⟩
 ·rcases z with z | z
  ·obtain⟨u,h1⟩:=R.dom a z
   exact⟨u,g.all a u h1⟩
  ·rw [z]; exact⟨o,Ab⟩
 ·obtain⟨_,_,_,_,_,h3,_⟩:=R.feed f hf
  have:=h3.2
  rw [q,hp] at this; cases this
 ·obtain⟨h1,h2,h3,h4⟩:=R.kept q hq
  exact⟨g.all _ _ h1,.inl h2,h3,h4⟩
end
def IE(ks:List AY)(k:AY):Bool:=ks.any fun k0=>decide (k0=k)
theorem hasK_iff{ks:List AY}{k:AY}:IE ks k=true↔k∈ks:=by
 unfold IE
 rw [List.any_eq_true]
 exact⟨fun⟨x,hx,e⟩=>by rw [← of_decide_eq_true e]; exact hx,fun h=>⟨k,h,decide_eq_true rfl⟩⟩
def Cz(ks:List AY)(k:AY):List AY:=if IE ks k=true then ks else ks++[k]
def C4{α:Type}(ks:List AY)(ds:List α)(k:AY)(d:α):List α:=if IE ks k=true then List.zipWith (fun k0 d0=>if k0=k then d else d0) ks ds else ds++[d]
theorem Rm{ks:List AY}{vs:List V}(hl:ks.length=vs.length)(k:AY):((ks.zip vs).any fun kv=>decide (kv.1=k))=IE ks k:=by
 rw [Bool.eq_iff_iff,List.any_eq_true,hasK_iff]
 constructor
 ·rintro ⟨⟨a,b⟩,hm,e⟩
  have e:a=k:=of_decide_eq_true e
  rw [← e]
  exact(List.of_mem_zip hm).1
 ·intro h
  obtain⟨i,hi,e⟩:=List.mem_iff_getElem.mp h
  refine⟨(ks[i],vs[i]'(by omega)),?_,by rw [e]; exact decide_eq_true rfl⟩
  exact List.mem_iff_getElem.mpr ⟨i,by rw [List.length_zip]; omega,by rw [List.getElem_zip]⟩
theorem Pa{ks:List AY}{vs:List V}(hl:ks.length=vs.length)(k:AY)(v:V):DL (ks.zip vs) k v=(Cz ks k).zip (C4 ks vs k v):=by
 unfold DL Cz C4
 rw [Rm hl]
 by_cases h:IE ks k=true
 ·rw [if_pos h,if_pos h,if_pos h]
  have go:∀(ks:List AY) (vs:List V),((ks.zip vs).map fun kv=>if kv.1=k then (kv.1,v) else kv)=ks.zip (List.zipWith (fun k0 d0=>if k0=k then v else d0) ks vs):=by
   intro ks
   induction ks with
   | nil=>intro vs; rfl
   | cons a ks ih =>
    intro vs
    cases vs with
    | nil=>rfl
    | cons b vs =>
     show (if a=k then (a,v) else (a,b))::_=(a,if a=k then v else b)::_
     exact List.cons_eq_cons.mpr ⟨by split <;> rfl,ih vs⟩
  exact go ks vs
 ·rw [if_neg h,if_neg h,if_neg h,List.zip_append hl]
  rfl
theorem Ats.put{K:Frag}{M:Addr->Prop}{H:Hp}{k:AY}{d:D}{v:V}(hd:At K M H d v):∀{ks:List AY} {ds:List D} {vs:List V},Ats K M H ds vs->Ats K M H (List.zipWith (fun k0 d0=>if k0=k then d else d0) ks ds) (List.zipWith (fun k0 d0=>if k0=k then v else d0) ks vs)
 | [],ds,vs,h=>rfl
 | a::ks,[],vs,h=>by cases (show vs=[] from h); rfl
 | a::ks,e::ds,vs,h=>by
  obtain⟨u,r,rfl,h1,h2⟩:=h
  refine⟨_,_,rfl,?_,Ats.put hd h2⟩
  show At K M H (if a=k then d else e) (if a=k then v else u)
  by_cases e1:a=k
  ·rw [if_pos e1,if_pos e1]; exact hd
  ·rw [if_neg e1,if_neg e1]; exact h1
theorem Ats.putX{K:Frag}{M:Addr->Prop}{H:Hp}{k:AY}{d:D}{v:V}{ks:List AY}{ds:List D}{vs:List V}(hd:At K M H d v)(h:Ats K M H ds vs):Ats K M H (C4 ks ds k d) (C4 ks vs k v):=by
 unfold C4
 split
 ·exact Ats.put hd h
 ·exact h.append (Ats.one hd)
theorem ND{α:Type}{ks:List AY}{ds:List α}{k:AY}{d:α}(hl:ks.length=ds.length):(Cz ks k).length=(C4 ks ds k d).length:=by
 unfold Cz C4
 split
 ·rw [List.length_zipWith]; omega
 ·rw [List.length_append,List.length_append]; show ks.length+1=ds.length+1; omega
theorem JG:∀{ks:List AY} {ds:List D} {k:AY},k∉ks->Bb ks ds k=none
 | [],ds,k,_=>by unfold Bb; rfl
 | a::ks,[],k,_=>rfl
 | a::ks,d::ds,k,h=>by
  unfold Bb
  rw [if_neg (fun e=>h (by rw [e]; exact List.mem_cons_self))]
  exact JG fun z=>h (List.mem_cons_of_mem _ z)
theorem JF:∀{ks:List AY} {ds:List D} {k:AY},ks.length=ds.length->k∈ks->∃z,Bb ks ds k=some z
 | [],ds,k,_,h=>by cases h
 | a::ks,[],k,h,_=>by cases h
 | a::ks,d::ds,k,hl,h=>by
  unfold Bb
  by_cases e:a=k
  ·exact⟨d,if_pos e⟩
  ·rw [if_neg e]
   exact JF (by simpa using hl) ((List.mem_cons.mp h).resolve_left fun z=>e z.symm)
theorem Ou{ks:List AY}{ds:List D}{k:AY}{d:D}(hl:ks.length=ds.length)(j:AY):Bb (Cz ks k) (C4 ks ds k d) j=if j=k then some d else Bb ks ds j:=by
 unfold Cz C4
 by_cases h':IE ks k=true
 ·have h:=hasK_iff.mp h'
  rw [if_pos h',if_pos h']
  have go:∀(ks:List AY) (ds:List D),ks.length=ds.length->(j=k->k∈ks)->Bb ks (List.zipWith (fun k0 d0=>if k0=k then d else d0) ks ds) j=if j=k then some d else Bb ks ds j:=by
   intro ks
   induction ks with
   | nil =>
    intro ds _ hm
    by_cases e:j=k
    ·exact absurd (hm e) List.not_mem_nil
    ·rw [if_neg e]; cases ds <;> rfl
   | cons a ks ih =>
    intro ds hl hm
    cases ds with
    | nil=>cases hl
    | cons e ds =>
     show (if a=j then some (if a=k then d else e) else Bb ks _ j)=if j=k then some d else if a=j then some e else Bb ks ds j
     by_cases e1:a=j
     ·rw [if_pos e1,if_pos e1]
      by_cases e2:j=k
      ·rw [if_pos e2,if_pos (e1.trans e2)]
      ·rw [if_neg e2,if_neg (fun z=>e2 (e1.symm.trans z))]
     ·rw [if_neg e1,if_neg e1]
      refine ih ds (by simpa using hl) fun z=>(List.mem_cons.mp (hm z)).resolve_left fun w=>e1 (w.symm.trans z.symm)
  exact go ks ds hl fun _=>h
 ·have h:k∉ks:=fun z=>h' (hasK_iff.mpr z)
  rw [if_neg h',if_neg h']
  have go:∀(ks:List AY) (ds:List D),ks.length=ds.length->k∉ks->Bb (ks++[k]) (ds++[d]) j=if j=k then some d else Bb ks ds j:=by
   intro ks
   induction ks with
   | nil =>
    intro ds hl _
    cases ds with
    | nil =>
     show (if k=j then some d else none)=if j=k then some d else none
     by_cases e:j=k
     ·rw [if_pos e,if_pos e.symm]
     ·rw [if_neg e,if_neg (fun z=>e z.symm)]
    | cons e ds=>cases hl
   | cons a ks ih =>
    intro ds hl hm
    cases ds with
    | nil=>cases hl
    | cons e ds =>
     show (if a=j then some e else Bb (ks++[k]) (ds++[d]) j)=if j=k then some d else if a=j then some e else Bb ks ds j
     rw [ih ds (by simpa using hl) fun z=>hm (List.mem_cons_of_mem _ z)]
     by_cases e1:a=j
     ·rw [if_pos e1,if_pos e1,if_neg (fun z=>hm (by rw [← z,← e1]; exact List.mem_cons_self))]
     ·rw [if_neg e1,if_neg e1]
  exact go ks ds hl h
section
variable {X:Cx}{a b e:Expr}{κ κa κb:Kd}{wa wb:DW}{pos pos':Pos}
def MB(wk wv:DW):DW:=fun n ρ P=>wk n ρ fun k n1=>wv n1 ρ fun d n2=>∃key,IA k=some key/\P (.dic [key] [d]) n2
theorem Lv(ha:DE X a κa wa)(hb:DE X b κb wb)(hk:κb≠.tp:=by intro z; cases z):DE X (.Dict [some a] [b] pos) .fr (MB wa wb):=by
 obtain⟨t,h1,h2⟩:=ha
 obtain⟨u,g1,g2⟩:=hb
 refine⟨_,RF (Pf h1 g1 RC) rfl rfl (List.cons_ne_nil _ _) (by show 1<=15; decide),fun C M H n ρ σ P Q R w q=>fun p hp=>?_⟩
 have R1:=R.hold (o:=.dK []) hp
 have np:¬C.U p:=fun z=>by
  obtain⟨o,w⟩:=R.dom p (R.vM p (R.uV p z))
  rw [hp] at w; cases w
 refine h2 C _ _ n ρ σ _ _ R1 w fun x H2 k n1 e1 f1 r1 p1=>?_
 have R2:=R1.step e1 f1
 refine g2 C _ _ n1 ρ σ _ _ R2 p1 fun y H3 d n2 e2 f2 r2 p2=>?_
 obtain⟨key,hkey,p2⟩:=p2
 have R3:=R2.step e2 f2
 have hat:At X.K (fun b=>M b\/b=p) H3 d y:=r2.shOf R2.dom hk
 have hp3:H3 p=some (.dK []):=e2.keep (e1.keep Ab np) np
 have hx:x=kV key:=Dq hkey (r1.tpOf R1.dom R1.vM)
 refine⟨hp3,[(key,y)],by rw [hx]; rfl,by show 1<=15; decide,?_⟩
 show Q (.ref p) (BA H3 p (.dK [(key,y)]))
 refine q _ _ (.dic [key] [d]) n2 (fun b o eb=>?_) ?_ ⟨p,rfl,hp,[y],Ab,rfl,?_⟩ p2
 ·have nb:b≠p:=BB eb hp
  obtain⟨o1,z1,k1⟩:=e1 b o (by rw [AU nb]; exact eb)
  obtain⟨o2,z2,k2⟩:=e2 b o1 z1
  exact⟨o2,by rw [AU nb]; exact z2,fun nu=>(k2 nu).trans (k1 nu)⟩
 ·refine f2.pres ⟨fun b o eb nb=>by rw [AU (fun z=>nb (.inr z))]; exact eb,fun b z=>.inl (.inl z)⟩ fun f o hf eb=>?_
  rw [AU (fun z=>np (by rw [← z]; exact R.fU f hf))]
  exact eb
 ·exact⟨y,[],rfl,hat.pres (D5 (.inr rfl)),rfl⟩
def Dn(i:Nat)(wk wv:DW):Ad:=fun D2 n ρ=>∃ks ds,ρ[i]?=some (.ow (.dic ks ds))/\wv n ρ fun d n1=>wk n1 ρ fun k n2=>∃key,IA k=some key/\ks.length<sizeLine/\D2.nx n2 (ρ.set i (.ow (.dic (Cz ks key) (C4 ks ds key d))))
theorem Fx{i k:Nat}{x:Expr}(hr:Room k X.A)(hx:PE X x (CB i))(ha:DE X a κa wa)(hb:DE X b κb wb)(hk:κb≠.tp:=by intro z; cases z)
  (hs:swapsWith b (some (.Subscript x a pos')) pos.line X.env=pure false:=by rfl):DS X κ (.Assign [.Subscript x a pos'] b pos) (Dn i wa wb):=by
 obtain⟨t,h1,h2⟩:=ha
 obtain⟨u,g1,g2⟩:=hb
 refine⟨_,HB (Jg hr) hx h1 g1 hs,fun C M H n ρ σ D2 E R L w=>?_⟩
 obtain⟨ks,ds,hd,w⟩:=w
 refine g2 C M H n ρ σ _ _ R w fun v H1 d n1 e1 f1 r1 p=>?_
 have R1:=R.step e1 f1
 obtain⟨ad,ea,m,nv,tt⟩:=R1.sl i _ hd
 refine⟨.ref ad,getD_some ea,?_⟩
 refine h2 C M H1 n1 ρ σ _ _ R1 p fun y H2 kk n2 e2 f2 r2 p=>?_
 obtain⟨key,hkey,hlt,p⟩:=p
 have R2:=R1.step e2 f2
 obtain⟨ad',ea',m',nv',tt'⟩:=R2.sl i _ hd
 rw [ea] at ea'
 cases ea'
 obtain⟨vs,hH,hl,hs'⟩:=tt'
 have hat:At X.K M H2 d v:=(r1.shOf R.dom hk).pres (R1.pres e2)
 have hvl:ks.length=vs.length:=by rw [hl,hs'.length]
 refine⟨ad,_,rfl,by rw [Dq hkey (r2.tpOf R1.dom R1.vM)]; exact DPut.k hH (by rw [List.length_zip]; omega),L.nx M _ n2 _ σ (R2.mut (e:=.dic (Cz ks key) (C4 ks ds key d)) hd ea ⟨C4 ks vs key v,by rw [Ab,Pa hvl],ND hl,(hs'.putX hat).pres (D5 m')⟩) p⟩
def UA:D->Option Bool
 | .lst xs=>some (!xs.isEmpty)
 | .tup xs=>some (!xs.isEmpty)
 | .bl b=>some b
 | .non=>some false
 | _=>none
def SS(wa:DW):HL:=fun n ρ P=>wa n ρ fun d n1=>∃c,UA d=some c/\P c n1
theorem Ju{K:Frag}{M:Addr->Prop}{H:Hp}{ds:List D}{vs:List V}(h:Ats K M H ds vs):vs.isEmpty=ds.isEmpty:=by
 have:=h.length
 cases vs <;> cases ds <;> first | rfl | cases this
theorem SY{U M:Addr->Prop}{H:Hp}{K:Frag}{d:D}{x:V}{c:Bool}(h:AtT K U M H d x)(e:UA d=some c):Tm K x H c:=by
 cases d with
 | lst ds=>cases e; obtain⟨a,vs,rfl,_,hq,hs⟩:=h; exact .inl ⟨vs,.inl hq,by rw [Ju hs]⟩
 | tup ds=>cases e; obtain⟨a,vs,rfl,hq,hs⟩:=h; exact .inr (.inl ⟨vs,.inl (.inl hq.2),by rw [Ju hs]⟩)
 | bl b=>cases e; rw [h.bl]; exact rfl
 | non=>cases e; rw [show x=.non from h]; exact rfl
 | _=>cases e
theorem TW(h:DE X e κ wa)(he:∀whole,isTrue e X.env whole=(do let v ← whole; standAt e.pos; holding [v] (truthy v)):=by intro _; rfl):DT X e (SS wa):=by
 obtain⟨t,h1,h2⟩:=h
 refine⟨_,Pb h1 he,fun C M H n ρ σ P Q R w q=>?_⟩
 refine h2 C M H n ρ σ _ _ R w fun v H' d n' e1 f1 r1 p=>?_
 obtain⟨c,hc,p⟩:=p
 exact⟨c,SY (r1.tpOf R.dom R.vM) hc,q c H' n' e1 f1 p⟩
variable {apos cpos:Pos}{f:Expr}{κf:Kd}{wf:DW}
def Os(wa wk wx:DW):DW:=fun n ρ P=>wa n ρ fun d n1=>∃ks ds,Gx d=some (ks,ds)/\wk n1 ρ fun k n2=>wx n2 ρ fun z n3=>∃key,IA k=some key/\P ((Bb ks ds key).getD z) n3
theorem SU{U M:Addr->Prop}{H:Hp}{K:Frag}{d z:D}{x v:V}{ks:List AY}{ds:List D}{key:AY}(e:Gx d=some (ks,ds))(h:AtT K U M H d x)(hz:At K M H z v):∃a o,x=.ref a/\DGet H a (kV key) o/\At K M H ((Bb ks ds key).getD z) (o.getD v):=by
 obtain⟨a,vs,rfl,ha,hs⟩:=FV e h
 refine⟨a,C9 (ks.zip vs) key,rfl,HG ha,?_⟩
 have h:=Fd (k:=key) (ks:=ks) hs
 cases c:Bb ks ds key with
 | none=>rw [c] at h; rw [show C9 (ks.zip vs) key=none from h]; exact hz
 | some y=>rw [c] at h; obtain⟨u,h1,h2⟩:=h; rw [h1]; exact h2
theorem TL{U M:Addr->Prop}{H:Hp}{K:Frag}{d:D}{x:V}{ks:List AY}{ds:List D}(e:Gx d=some (ks,ds))(h:AtT K U M H d x):∃a,x=.ref a/\Vy H a:=by
 obtain⟨a,vs,rfl,ha,hs⟩:=FV e h
 exact⟨a,rfl,.inl ⟨_,ha⟩⟩
theorem Rj{k:Nat}(hr:Room k X.A)(ha:DE X a κa wa)(hb:DE X b κb wb)(hf:DE X f κf wf)(hk:κf≠.tp:=by intro z; cases z)(m:M2 X a "get" apos b f cpos:=by exact⟨rfl,rfl,rfl,rfl⟩):DE X (.Call (.Attribute a "get" apos) [b,f] [] cpos) .sh (Os wa wb wf):=by
 obtain⟨t,h1,h2⟩:=ha
 obtain⟨u,g1,g2⟩:=hb
 obtain⟨u2,k1,k2⟩:=hf
 refine⟨_,Pm (Jg hr) h1 g1 k1 m,fun C M H n ρ σ P Q R w q=>?_⟩
 refine h2 C M H n ρ σ _ _ R w fun v H1 d n1 e1 f1 r1 p=>?_
 obtain⟨ks,ds,hd,p⟩:=p
 have R1:=R.step e1 f1
 obtain⟨ad,rfl,hI⟩:=TL hd (r1.tpOf R.dom R.vM)
 refine⟨ad,rfl,hI,?_⟩
 refine g2 C M H1 n1 ρ σ _ _ R1 p fun y H2 kk n2 e2 f2 r2 p=>?_
 have R2:=R1.step e2 f2
 refine k2 C M H2 n2 ρ σ _ _ R2 p fun z H3 dz n3 e3 f3 r3 p=>?_
 obtain⟨key,hkey,p⟩:=p
 have R3:=R2.step e3 f3
 have hat:=((r1.tpOf R.dom R.vM).pres (R1.pres e2) e2 R.uV).pres (R2.pres e3) e3 R.uV
 have hy:=(r2.tpOf R1.dom R1.vM).pres (R2.pres e3) e3 R.uV
 obtain⟨ad',o,ex,g,hz⟩:=SU (key:=key) hd hat (r3.shOf R2.dom hk)
 cases ex
 exact⟨o,by rw [Dq hkey hy]; exact g,q _ H3 _ n3 ((e1.trans e2).trans e3) f3 hz p⟩
end
end Dp
namespace L2
open PySem PySem.Spec PyProof.Rows
open AutoSeq1 (wpAny_loadPart')
theorem Iz:bootBuiltins "reversed"=some (.type "reversed"):=by decide +kernel
section
variable {prog:Program}{w:World}{A:Around}{E:Value->Shared->Prop}{s:Shared}{I:Addr}{fp wr:List Addr}{G:Array GenState->Array GenState->Prop}{n:Nat}{P:Nat->Value->Prop}{St:Nat->Shared->Prop}
end
section
variable {X:Cx}{e:Expr}{te:TE}{p1 p2 q1 q2:Pos}
end
end L2
namespace Dp
open PySem PySem.Spec PyProof.Rows L2
section
variable {X:Cx}{a:Expr}{κa:Kd}{wa:DW}{p1 p2 q1 q2:Pos}
end
end Dp
namespace Nt
open PySem PySem.Spec PyProof.Rows L2 Dp
def Ed(N:Net)(x y:Str)(l:Int):Prop:=(y,l)∈Fa N.ts x
inductive Wk (N:Net) (s:Str):Str->Int->Prop
 | nil:Wk N s s 0
 | snoc {x y:Str} {d l:Int}:Wk N s x d->Ed N x y l->Wk N s y (d+l)
def No(N:Net)(s x:Str)(d:Int):Prop:=Wk N s x d/\∀d',Wk N s x d'->d<=d'
theorem Ed.pos{N:Net}(ok:N.Ok){x y:Str}{l:Int}(h:Ed N x y l):1<=l/\l<=1000000:=by
 obtain⟨_,h1,h2,_⟩:=KR ok h
 exact⟨h1,h2⟩
theorem Ed.ins{N:Net}(ok:N.Ok){x y:Str}{l:Int}(h:Ed N x y l):y∈N.ps:=(KR ok h).1
theorem Wk.pos{N:Net}(ok:N.Ok){s x:Str}{d:Int}(h:Wk N s x d):0<=d:=by
 induction h with
 | nil=>exact Int.le_refl _
 | snoc _ he ih=>have:=he.pos ok; omega
theorem F_{N:Net}{s:Str}{F:Str->Option Int}(h0:∃d,F s=some d/\d<=0)(hw:∀x d,F x=some d->Wk N s x d)(hc:∀x d y l,F x=some d->Ed N x y l->∃d',F y=some d'/\d'<=d+l) :
  (∀x d,F x=some d->No N s x d)/\∀x d,Wk N s x d->F x≠none:=by
 have main:∀x d,Wk N s x d->∃d',F x=some d'/\d'<=d:=by
  intro x d h
  induction h with
  | nil=>exact h0
  | snoc _ he ih =>
   obtain⟨d1,e1,h1⟩:=ih
   obtain⟨d2,e2,h2⟩:=hc _ _ _ _ e1 he
   exact⟨d2,e2,by omega⟩
 refine⟨fun x d e=>⟨hw x d e,fun d' h=>?_⟩,fun x d h e=>?_⟩
 ·obtain⟨d1,e1,h1⟩:=main x d' h
  rw [e] at e1
  cases e1
  exact h1
 ·obtain⟨d1,e1,_⟩:=main x d h
  rw [e] at e1
  cases e1
theorem Ki{N:Net}{t:BI}(ht:t∈N.ts):Ed N t.a t.b t.len/\Ed N t.b t.a t.len:=by
 constructor
 ·exact List.mem_flatMap.mpr ⟨t,ht,List.mem_append_left _ (by rw [if_pos rfl]; exact List.mem_singleton.mpr rfl)⟩
 ·exact List.mem_flatMap.mpr ⟨t,ht,List.mem_append_right _ (by rw [if_pos rfl]; exact List.mem_singleton.mpr rfl)⟩
theorem Ed.tie{N:Net}(ok:N.Ok){x y:Str}{l:Int}(h:Ed N x y l):∃t∈N.ts,t.len=l/\((t.a=x/\t.b=y)\/(t.b=x/\t.a=y)):=by
 obtain⟨_,_,_,t,ht,e,h⟩:=KR ok h
 exact⟨t,ht,e,h⟩
structure Dmap (ks:List AY) (ds:List D) (enc:α->D) (F:Str->Option α):Prop where
 len:ks.length=ds.length
 at_:∀x:Str,Bb ks ds (.inr x)=(F x).map enc
 dom:∀k∈ks,∃x:Str,k=.inr x
 nd:ks.Nodup
theorem Dmap.mem{α:Type}{ks:List AY}{ds:List D}{enc:α->D}{F:Str->Option α}(h:Dmap ks ds enc F)(x:Str):(.inr x∈ks)↔F x≠none:=by
 constructor
 ·intro hm e
  obtain⟨z,hz⟩:=JF h.len hm
  rw [h.at_,e] at hz
  cases hz
 ·intro hn
  by_cases hm:(Sum.inr x:AY)∈ks
  ·exact hm
  ·have:=JG (ds:=ds) hm
   rw [h.at_] at this
   cases e:F x with
   | none=>exact absurd e hn
   | some a=>rw [e] at this; cases this
theorem Dmap.one{α:Type}{enc:α->D}{s:Str}{a:α}:Dmap [.inr s] [enc a] enc (fun x=>if x=s then some a else none):=by
 refine⟨rfl,fun x=>?_,fun k hk=>⟨s,List.mem_singleton.mp hk⟩,List.nodup_cons.mpr ⟨List.not_mem_nil,List.nodup_nil⟩⟩
 show (if (Sum.inr s:AY)=.inr x then some (enc a) else none)=(if x=s then some a else none).map enc
 by_cases e:x=s
 ·rw [if_pos e,if_pos (by rw [e])]; rfl
 ·rw [if_neg e,if_neg (fun z=>e (Sum.inr.inj z).symm)]; rfl
def Fi{α:Type}(F:Str->Option α)(x:Str)(a:α):Str->Option α:=fun y=>if y=x then some a else F y
theorem BR{α:Type}{F:Str->Option α}{x:Str}{a:α}:Fi F x a x=some a:=if_pos rfl
theorem BJ{α:Type}{F:Str->Option α}{x y:Str}{a:α}(h:y≠x):Fi F x a y=F y:=if_neg h
theorem Dmap.put{α:Type}{ks:List AY}{ds:List D}{enc:α->D}{F:Str->Option α}(h:Dmap ks ds enc F)(x:Str)(a:α):Dmap (Cz ks (.inr x)) (C4 ks ds (.inr x) (enc a)) enc (Fi F x a):=by
 refine⟨ND h.len,fun y=>?_,fun k hk=>?_,?_⟩
 ·rw [Ou h.len]
  unfold Fi
  by_cases e:y=x
  ·rw [if_pos e,if_pos (by rw [e])]; rfl
  ·rw [if_neg e,if_neg (fun z=>e (Sum.inr.inj z)),h.at_]
 ·unfold Cz at hk
  split at hk
  ·exact h.dom k hk
  ·rcases List.mem_append.mp hk with hk | hk
   ·exact h.dom k hk
   ·exact⟨x,List.mem_singleton.mp hk⟩
 ·unfold Cz
  split
  ·exact h.nd
  ·rename_i hn
   rw [List.nodup_append]
   refine⟨h.nd,List.nodup_cons.mpr ⟨List.not_mem_nil,List.nodup_nil⟩,fun a ha b hb e=>hn (hasK_iff.mpr ?_)⟩
   rw [← List.mem_singleton.mp hb,← e]
   exact ha
theorem Dmap.le{α:Type}{ks:List AY}{ds:List D}{enc:α->D}{F:Str->Option α}(h:Dmap ks ds enc F){ps:List Str}(hp:∀x,F x≠none->x∈ps):ks.length<=ps.length:=by
 have:∀(ks:List AY) (ps:List Str),ks.Nodup->(∀k∈ks,∃x:Str,k=.inr x/\x∈ps)->ks.length<=ps.length:=by
  intro ks
  induction ks with
  | nil=>intro ps _ _; exact Nat.zero_le _
  | cons k ks ih =>
   intro ps hn hm
   obtain⟨x,rfl,hx⟩:=hm k List.mem_cons_self
   have hn:=List.nodup_cons.mp hn
   have h1:=ih (ps.erase x) hn.2 fun j hj=>by
    obtain⟨y,rfl,hy⟩:=hm j (List.mem_cons_of_mem _ hj)
    refine⟨y,rfl,(List.mem_erase_of_ne fun e=>?_).mpr hy⟩
    rw [e] at hj
    exact hn.1 hj
   rw [List.length_erase_of_mem hx] at h1
   have:=List.length_pos_of_mem hx
   rw [List.length_cons]
   omega
 refine this ks ps h.nd fun k hk=>?_
 obtain⟨x,rfl⟩:=h.dom k hk
 exact⟨x,rfl,hp x ((h.mem x).mp hk)⟩
abbrev L9:=Str->Option (Int×Option Str)
structure Dj (N:Net) (s:Str) (F:L9) (Wt:List Str):Prop where
 start:F s=some (0,none)
 ins:∀x,F x≠none->x∈N.ps
 wk:∀x d p,F x=some (d,p)->Wk N s x d
 prev:∀x d p,F x=some (d,p)->(p=none/\x=s)\/∃y dy q l,p=some y/\F y=some (dy,q)/\y∉Wt/\Ed N y x l/\d=dy+l
 wfound:∀x∈Wt,F x≠none
 nd:Wt.Nodup
 done:∀x d p y l,F x=some (d,p)->x∉Wt->Ed N x y l->∃dy q,F y=some (dy,q)/\dy<=d+l
 near:∀x d p y dy q,F x=some (d,p)->x∉Wt->F y=some (dy,q)->y∈Wt->d<=dy
theorem Dj.init{N:Net}{s:Str}(hs:s∈N.ps):Dj N s (fun x=>if x=s then some (0,none) else none) [s]:=by
 have iff:∀x d p,(if x=s then some ((0:Int),(none:Option Str)) else none)=some (d,p)->x=s/\d=0/\p=none:=fun x d p e=>by
  by_cases h:x=s
  ·rw [if_pos h] at e; cases e; exact⟨h,rfl,rfl⟩
  ·rw [if_neg h] at e; cases e
 refine⟨if_pos rfl,fun x e=>?_,fun x d p e=>?_,fun x d p e=>?_,fun x hx=>?_,List.nodup_cons.mpr ⟨List.not_mem_nil,List.nodup_nil⟩,fun x d p y l e hx=>?_,fun x d p y dy q e hx=>?_⟩
 ·by_cases h:x=s
  ·rw [h]; exact hs
  ·exact absurd (if_neg h) e
 ·obtain⟨rfl,rfl,rfl⟩:=iff x d p e
  exact .nil
 ·obtain⟨rfl,rfl,rfl⟩:=iff x d p e
  exact .inl ⟨rfl,rfl⟩
 ·rw [List.mem_singleton.mp hx,if_pos rfl]
  intro z; cases z
 ·exact absurd (List.mem_singleton.mpr (iff x d p e).1) hx
 ·exact absurd (List.mem_singleton.mpr (iff x d p e).1) hx
structure Dm (N:Net) (s:Str) (F:L9) (Wt:List Str) (v:Str) (dv:Int) (seen:List (Str×Int)):Prop where
 start:F s=some (0,none)
 ins:∀x,F x≠none->x∈N.ps
 wk:∀x d p,F x=some (d,p)->Wk N s x d
 prev:∀x d p,F x=some (d,p)->(p=none/\x=s)\/∃y dy q l,p=some y/\F y=some (dy,q)/\y∉Wt/\Ed N y x l/\d=dy+l
 wfound:∀x∈Wt,F x≠none
 nd:Wt.Nodup
 done:∀x d p y l,F x=some (d,p)->x∉Wt->x≠v->Ed N x y l->∃dy q,F y=some (dy,q)/\dy<=d+l
 near:∀x d p y dy q,F x=some (d,p)->x∉Wt->F y=some (dy,q)->y∈Wt->d<=dy
 here:∃p,F v=some (dv,p)
 out:v∉Wt
 least:∀x d p,F x=some (d,p)->x∉Wt->d<=dv
 gone:∀y l,(y,l)∈seen->∃dy q,F y=some (dy,q)/\dy<=dv+l
theorem Dj.take{N:Net}{s:Str}{F:L9}{Wt:List Str}(h:Dj N s F Wt){v:Str}{dv:Int}{p:Option Str}(hv:v∈Wt)(e:F v=some (dv,p))(hmin:∀y∈Wt,∀dy q,F y=some (dy,q)->dv<=dy):Dm N s F (Wt.erase v) v dv []:=by
 have sub:∀x,x∈Wt.erase v->x∈Wt:=fun x hx=>List.mem_of_mem_erase hx
 have out:v∉Wt.erase v:=fun z=>(h.nd.mem_erase_iff.mp z).1 rfl
 have back:∀x,x∉Wt.erase v->x=v\/x∉Wt:=fun x hx=>by
  by_cases e:x=v
  ·exact .inl e
  ·exact .inr fun z=>hx (h.nd.mem_erase_iff.mpr ⟨e,z⟩)
 refine⟨h.start,h.ins,h.wk,fun x d q ex=>?_,fun x hx=>h.wfound x (sub x hx),h.nd.erase v,fun x d q y l ex hx nx he=>?_,fun x d q y dy q2 ex hx ey hy=>?_,⟨p,e⟩,out,fun x d q ex hx=>?_,fun y l hy=>by cases hy⟩
 ·rcases h.prev x d q ex with z | ⟨y,dy,q2,l,e1,e2,e3,e4,e5⟩
  ·exact .inl z
  ·exact .inr ⟨y,dy,q2,l,e1,e2,fun z=>e3 (sub y z),e4,e5⟩
 ·rcases back x hx with z | z
  ·exact absurd z nx
  ·exact h.done x d q y l ex z he
 ·rcases back x hx with z | z
  ·subst z
   rw [e] at ex
   cases ex
   exact hmin y (sub y hy) dy q2 ey
  ·exact h.near x d q y dy q2 ex z ey (sub y hy)
 ·rcases back x hx with z | z
  ·subst z
   rw [e] at ex
   cases ex
   exact Int.le_refl _
  ·exact h.near x d q v dv p ex z e hv
theorem Dm.finish{N:Net}{s:Str}{F:L9}{Wt:List Str}{v:Str}{dv:Int}{seen:List (Str×Int)}(h:Dm N s F Wt v dv seen)(hs:∀y l,Ed N v y l->(y,l)∈seen):Dj N s F Wt:=by
 refine⟨h.start,h.ins,h.wk,h.prev,h.wfound,h.nd,fun x d p y l e hx he=>?_,h.near⟩
 by_cases z:x=v
 ·subst z
  obtain⟨p',e'⟩:=h.here
  rw [e'] at e
  cases e
  exact h.gone y l (hs y l he)
 ·exact h.done x d p y l e hx z he
theorem Dm.find{N:Net}(ok:N.Ok){s:Str}{F:L9}{Wt:List Str}{v:Str}{dv:Int}{seen:List (Str×Int)}(h:Dm N s F Wt v dv seen){y:Str}{l:Int}(he:Ed N v y l)(hy:F y=none):Dm N s (Fi F y (dv+l,some v)) (Wt++[y]) v dv (seen++[(y,l)]):=by
 have hpos:=(he.pos ok).1
 obtain⟨pv,ev⟩:=h.here
 have ne:∀x d p,F x=some (d,p)->x≠y:=fun x d p e z=>by rw [z,hy] at e; cases e
 have keep:∀x d p,F x=some (d,p)->Fi F y (dv+l,some v) x=some (d,p):=fun x d p e=>by rw [BJ (ne x d p e)]; exact e
 have yW:y∉Wt:=fun z=>h.wfound y z hy
 have cases_:∀x d p,Fi F y (dv+l,some v) x=some (d,p)->(x=y/\d=dv+l/\p=some v)\/(x≠y/\F x=some (d,p)):=fun x d p e=>by
  by_cases z:x=y
  ·rw [z,BR] at e; cases e; exact .inl ⟨z,rfl,rfl⟩
  ·rw [BJ z] at e; exact .inr ⟨z,e⟩
 have inW:∀x,x∉Wt++[y]->x∉Wt/\x≠y:=fun x hx=>⟨fun z=>hx (List.mem_append_left _ z),fun z=>hx (List.mem_append_right _ (by rw [z]; exact List.mem_singleton.mpr rfl))⟩
 have vW:v∉Wt++[y]:=fun z=>by
  rcases List.mem_append.mp z with z | z
  ·exact h.out z
  ·exact ne v dv pv ev (List.mem_singleton.mp z)
 refine⟨keep _ _ _ h.start,fun x hx=>?_,fun x d p e=>?_,fun x d p e=>?_,fun x hx=>?_,?_,fun x d p z l2 e hx nx he2=>?_,fun x d p z dz q e hx ez hz=>?_,⟨pv,keep _ _ _ ev⟩,vW,fun x d p e hx=>?_,fun z l2 hz=>?_⟩
 ·by_cases z:x=y
  ·rw [z]; exact he.ins ok
  ·rw [BJ z] at hx; exact h.ins x hx
 ·rcases cases_ x d p e with ⟨rfl,rfl,_⟩ | ⟨_,e⟩
  ·exact .snoc (h.wk v dv pv ev) he
  ·exact h.wk x d p e
 ·rcases cases_ x d p e with ⟨rfl,rfl,rfl⟩ | ⟨_,e⟩
  ·exact .inr ⟨v,dv,pv,l,rfl,keep _ _ _ ev,vW,he,rfl⟩
  ·rcases h.prev x d p e with z | ⟨u,du,q,l2,e1,e2,e3,e4,e5⟩
   ·exact .inl z
   ·refine .inr ⟨u,du,q,l2,e1,keep _ _ _ e2,fun z=>?_,e4,e5⟩
    rcases List.mem_append.mp z with z | z
    ·exact e3 z
    ·exact ne u du q e2 (List.mem_singleton.mp z)
 ·rcases List.mem_append.mp hx with hx | hx
  ·have:=h.wfound x hx
   cases e:F x with
   | none=>exact absurd e this
   | some a=>rw [keep x a.1 a.2 e]; intro z; cases z
  ·rw [List.mem_singleton.mp hx,BR]; intro z; cases z
 ·rw [List.nodup_append]
  exact⟨h.nd,List.nodup_cons.mpr ⟨List.not_mem_nil,List.nodup_nil⟩,fun a ha b hb e=>yW (by rw [← List.mem_singleton.mp hb,← e]; exact ha)⟩
 ·obtain⟨w1,w2⟩:=inW x hx
  rcases cases_ x d p e with ⟨z,_⟩ | ⟨_,e⟩
  ·exact absurd z w2
  ·obtain⟨d3,q3,e3,h3⟩:=h.done x d p z l2 e w1 nx he2
   exact⟨d3,q3,keep _ _ _ e3,h3⟩
 ·obtain⟨w1,w2⟩:=inW x hx
  rcases cases_ x d p e with ⟨z,_⟩ | ⟨_,ex⟩
  ·exact absurd z w2
  ·rcases cases_ z dz q ez with ⟨_,e2,_⟩ | ⟨nz,ez⟩
   ·have:=h.least x d p ex w1
    omega
   ·rcases List.mem_append.mp hz with hz | hz
    ·exact h.near x d p z dz q ex w1 ez hz
    ·exact absurd (List.mem_singleton.mp hz) nz
 ·obtain⟨w1,w2⟩:=inW x hx
  rcases cases_ x d p e with ⟨z,_⟩ | ⟨_,e⟩
  ·exact absurd z w2
  ·exact h.least x d p e w1
 ·rcases List.mem_append.mp hz with hz | hz
  ·obtain⟨d3,q3,e3,h3⟩:=h.gone z l2 hz
   exact⟨d3,q3,keep _ _ _ e3,h3⟩
  ·cases List.mem_singleton.mp hz
   exact⟨_,_,BR,Int.le_refl _⟩
theorem Dm.nearer{N:Net}(ok:N.Ok){s:Str}{F:L9}{Wt:List Str}{v:Str}{dv:Int}{seen:List (Str×Int)}(h:Dm N s F Wt v dv seen){y:Str}{l dy:Int}{qy:Option Str}(he:Ed N v y l)(hy:F y=some (dy,qy))(hlt:dv+l<dy):Dm N s (Fi F y (dv+l,some v)) Wt v dv (seen++[(y,l)]):=by
 have hpos:=(he.pos ok).1
 obtain⟨pv,ev⟩:=h.here
 have yW:y∈Wt:=by
  by_cases z:y∈Wt
  ·exact z
  ·have:=h.least y dy qy hy z
   omega
 have vy:v≠y:=fun z=>h.out (by rw [z]; exact yW)
 have keep:∀x,x∉Wt->Fi F y (dv+l,some v) x=F x:=fun x hx=>BJ fun z=>hx (by rw [z]; exact yW)
 have cases_:∀x d p,Fi F y (dv+l,some v) x=some (d,p)->(x=y/\d=dv+l/\p=some v)\/(x≠y/\F x=some (d,p)):=fun x d p e=>by
  by_cases z:x=y
  ·rw [z,BR] at e; cases e; exact .inl ⟨z,rfl,rfl⟩
  ·rw [BJ z] at e; exact .inr ⟨z,e⟩
 have less:∀x d p,F x=some (d,p)->∃d' q,Fi F y (dv+l,some v) x=some (d',q)/\d'<=d:=fun x d p e=>by
  by_cases z:x=y
  ·subst z
   rw [hy] at e
   cases e
   exact⟨_,_,BR,by omega⟩
  ·exact⟨d,p,by rw [BJ z]; exact e,Int.le_refl _⟩
 have sy:s≠y:=fun z=>by
  have:=h.start
  rw [z,hy] at this
  cases this
  have:=(h.wk v dv pv ev).pos ok
  omega
 refine⟨by rw [BJ sy]; exact h.start,fun x hx=>?_,fun x d p e=>?_,fun x d p e=>?_,fun x hx=>?_,h.nd,fun x d p z l2 e hx nx he2=>?_,fun x d p z dz q e hx ez hz=>?_,⟨pv,by rw [BJ vy]; exact ev⟩,h.out,fun x d p e hx=>?_,fun z l2 hz=>?_⟩
 ·by_cases z:x=y
  ·rw [z]; exact he.ins ok
  ·rw [BJ z] at hx; exact h.ins x hx
 ·rcases cases_ x d p e with ⟨rfl,rfl,_⟩ | ⟨_,e⟩
  ·exact .snoc (h.wk v dv pv ev) he
  ·exact h.wk x d p e
 ·rcases cases_ x d p e with ⟨rfl,rfl,rfl⟩ | ⟨_,e⟩
  ·exact .inr ⟨v,dv,pv,l,rfl,by rw [BJ vy]; exact ev,h.out,he,rfl⟩
  ·rcases h.prev x d p e with z | ⟨u,du,q,l2,e1,e2,e3,e4,e5⟩
   ·exact .inl z
   ·exact .inr ⟨u,du,q,l2,e1,by rw [keep u e3]; exact e2,e3,e4,e5⟩
 ·by_cases z:x=y
  ·rw [z,BR]; intro w; cases w
  ·rw [BJ z]; exact h.wfound x hx
 ·rw [keep x hx] at e
  obtain⟨d3,q3,e3,h3⟩:=h.done x d p z l2 e hx nx he2
  obtain⟨d4,q4,e4,h4⟩:=less z d3 q3 e3
  exact⟨d4,q4,e4,by omega⟩
 ·rw [keep x hx] at e
  rcases cases_ z dz q ez with ⟨rfl,rfl,_⟩ | ⟨nz,ez⟩
  ·have:=h.least x d p e hx
   omega
  ·exact h.near x d p z dz q e hx ez hz
 ·rw [keep x hx] at e
  exact h.least x d p e hx
 ·rcases List.mem_append.mp hz with hz | hz
  ·obtain⟨d3,q3,e3,h3⟩:=h.gone z l2 hz
   obtain⟨d4,q4,e4,h4⟩:=less z d3 q3 e3
   exact⟨d4,q4,e4,by omega⟩
  ·cases List.mem_singleton.mp hz
   exact⟨_,_,BR,Int.le_refl _⟩
theorem Dm.skip{N:Net}{s:Str}{F:L9}{Wt:List Str}{v:Str}{dv:Int}{seen:List (Str×Int)}(h:Dm N s F Wt v dv seen){y:Str}{l dy:Int}{qy:Option Str}(hy:F y=some (dy,qy))(hle:dy<=dv+l):Dm N s F Wt v dv (seen++[(y,l)]):=by
 refine⟨h.start,h.ins,h.wk,h.prev,h.wfound,h.nd,h.done,h.near,h.here,h.out,h.least,fun z l2 hz=>?_⟩
 rcases List.mem_append.mp hz with hz | hz
 ·exact h.gone z l2 hz
 ·cases List.mem_singleton.mp hz
  exact⟨_,_,hy,hle⟩
structure To (N:Net) (s:Str) (F:L9):Prop where
 start:F s=some (0,none)
 ins:∀x,F x≠none->x∈N.ps
 least:∀x d p,F x=some (d,p)->No N s x d
 all:∀x d,Wk N s x d->F x≠none
 prev:∀x d p,F x=some (d,p)->(p=none/\x=s)\/∃y dy q l,p=some y/\F y=some (dy,q)/\Ed N y x l/\d=dy+l
theorem Dj.told{N:Net}{s:Str}{F:L9}(h:Dj N s F []):To N s F:=by
 have cl:=F_ (N:=N) (s:=s) (F:=fun x=>(F x).map (·.1)) ⟨0,by rw [h.start]; rfl,Int.le_refl _⟩ (fun x d e=>by
  obtain⟨⟨d',p⟩,e1,e2⟩:=Option.map_eq_some_iff.mp e
  cases e2
  exact h.wk x _ p e1) (fun x d y l e he=>by
  obtain⟨⟨d',p⟩,e1,e2⟩:=Option.map_eq_some_iff.mp e
  cases e2
  obtain⟨dy,q,e3,h3⟩:=h.done x _ p y l e1 List.not_mem_nil he
  exact⟨dy,by rw [e3]; rfl,h3⟩)
 refine⟨h.start,h.ins,fun x d p e=>cl.1 x d (by rw [e]; rfl),fun x d hw e=>cl.2 x d hw (by rw [e]; rfl),fun x d p e=>?_⟩
 rcases h.prev x d p e with z | ⟨y,dy,q,l,e1,e2,_,e4,e5⟩
 ·exact .inl z
 ·exact .inr ⟨y,dy,q,l,e1,e2,e4,e5⟩
abbrev Kn:=Str->Option Int
structure Bf (N:Net) (s:Str) (c:Nat) (K:Kn):Prop where
 start:∃d,K s=some d/\d<=0
 ins:∀x,K x≠none->x∈N.ps
 wk:∀x d,K x=some d->Wk N s x d
 top:∀x d,K x=some d->d<=1000000*(c:Int)
def big:Nat:=27000001
def wt(K:Kn)(x:Str):Nat:=match K x with
 | some d=>d.toNat
 | none=>big
def Oh(ps:List Str)(K:Kn):Nat:=(ps.map (wt K)).sum
theorem O2{f g:Str->Nat}:∀{ps:List Str},(∀x∈ps,f x<=g x)->(ps.map f).sum<=(ps.map g).sum
 | [],_=>Nat.le_refl _
 | x::ps,h=>by
  have h1:=h x List.mem_cons_self
  have h2:=O2 fun y hy=>h y (List.mem_cons_of_mem _ hy)
  rw [List.map_cons,List.map_cons,List.sum_cons,List.sum_cons]
  omega
theorem O1{f g:Str->Nat}:∀{ps:List Str},(∀x∈ps,f x<=g x)->(∃x∈ps,f x<g x)->(ps.map f).sum<(ps.map g).sum
 | [],_,⟨x,hx,_⟩=>by cases hx
 | x::ps,h,⟨y,hy,hl⟩=>by
  have h1:=h x List.mem_cons_self
  rw [List.map_cons,List.map_cons,List.sum_cons,List.sum_cons]
  rcases List.mem_cons.mp hy with rfl | hy
  ·have h2:=O2 fun y hy=>h y (List.mem_cons_of_mem _ hy)
   omega
  ·have h2:=O1 (fun y hy=>h y (List.mem_cons_of_mem _ hy)) ⟨y,hy,hl⟩
   omega
theorem Bf.put {N : Net} (ok : N.Ok) {s : Str} {c c' : Nat} {K : Kn} (h : Bf N s c K) (hc : c' ≤ 26) (hcc : c ≤ c') {x y : Str} {d l : Int} (hx : K x = some d) (he : Ed N x y l) (hn : K y = none → c' = c + 1) (hl : ∀ d', K y = some d' → d + l < d') : Bf N s c' (Fi K y (d + l)) ∧ Oh N.ps (Fi K y (d + l)) < Oh N.ps K := by
  have hp := he.pos ok
  have hd := (h.wk x d hx).pos ok
  have hw : Wk N s y (d + l) := .snoc (h.wk x d hx) he
  have td := h.top x d hx
  have ht : d + l ≤ 1000000 * (c' : Int) := by
    cases e : K y with
    | none => rw [hn e]; have : ((c + 1 : Nat) : Int) = (c : Int) + 1 := by omega
              rw [this, Int.mul_add]; omega
    | some d' =>
      have h1 := hl d' e
      have h2 := h.top y d' e
      have : (1000000 : Int) * (c : Int) ≤ 1000000 * (c' : Int) := Int.mul_le_mul_of_nonneg_left (by omega) (by omega)
      omega
  refine ⟨⟨?_, fun z hz => ?_, fun z dz e => ?_, fun z dz e => ?_⟩, O1 (fun z _ => ?_) ⟨y, he.ins ok, ?_⟩⟩
  · obtain ⟨d0, e0, h0⟩ := h.start
    by_cases z : s = y
    · have := hl d0 (by rw [← z]; exact e0)
      omega
    · exact ⟨d0, by rw [BJ z]; exact e0, h0⟩
  · by_cases e : z = y
    · rw [e]; exact he.ins ok
    · rw [BJ e] at hz; exact h.ins z hz
  · by_cases w : z = y
    · rw [w, BR] at e; cases e; rw [w]; exact hw
    · rw [BJ w] at e; exact h.wk z dz e
  · by_cases w : z = y
    · rw [w, BR] at e; cases e; exact ht
    · rw [BJ w] at e
      have h2 := h.top z dz e
      have : (1000000 : Int) * (c : Int) ≤ 1000000 * (c' : Int) := Int.mul_le_mul_of_nonneg_left (by omega) (by omega)
      omega
  · unfold wt
    by_cases w : z = y
    · rw [w, BR]
      cases e : K y with
      | none => show (d + l).toNat ≤ big; unfold big; omega
      | some d' => show (d + l).toNat ≤ d'.toNat; have := hl d' e; omega
    · rw [BJ w]
      exact Nat.le_refl _
  · unfold wt
    rw [BR]
    cases e : K y with
    | none => show (d + l).toNat < big; unfold big; omega
    | some d' => show (d + l).toNat < d'.toNat; have := hl d' e; omega
theorem Bf.init{N:Net}{s:Str}(hs:s∈N.ps):Bf N s 1 (fun x=>if x=s then some 0 else none):=by
 have iff:∀x d,(if x=s then some (0:Int) else none)=some d->x=s/\d=0:=fun x d e=>by
  by_cases h:x=s
  ·rw [if_pos h] at e; cases e; exact⟨h,rfl⟩
  ·rw [if_neg h] at e; cases e
 refine⟨⟨0,if_pos rfl,Int.le_refl _⟩,fun x e=>?_,fun x d e=>?_,fun x d e=>?_⟩
 ·by_cases h:x=s
  ·rw [h]; exact hs
  ·exact absurd (if_neg h) e
 ·obtain⟨rfl,rfl⟩:=iff x d e
  exact .nil
 ·obtain⟨rfl,rfl⟩:=iff x d e
  decide
def HV(K:Kn)(e:Str×Str×Int):Prop:=∀d,K e.1=some d->∃d',K e.2.1=some d'/\d'<=d+e.2.2
structure LTold (N:Net) (s:Str) (K:Kn):Prop where
 ins:∀x,K x≠none->x∈N.ps
 least:∀x d,K x=some d->No N s x d
 all:∀x d,Wk N s x d->K x≠none
 top:∀x d,K x=some d->d<=30000000
theorem Bf.told{N:Net}(ok:N.Ok){s:Str}{c:Nat}{K:Kn}(h:Bf N s c K)(hc:c<=26)(ht:∀t∈N.ts,HV K (t.a,t.b,t.len)/\HV K (t.b,t.a,t.len)):LTold N s K:=by
 have cl:=F_ h.start h.wk (fun x d y l e he=>by
  obtain⟨t,hm,e1,h2⟩:=he.tie ok
  subst e1
  rcases h2 with ⟨rfl,rfl⟩ | ⟨rfl,rfl⟩
  ·exact(ht t hm).1 d e
  ·exact(ht t hm).2 d e)
 exact⟨h.ins,cl.1,cl.2,fun x d e=>by have:=h.top x d e; omega⟩
def walk(N:Net):List Str->Int->Prop
 | [],_=>False
 | [_],d=>d=0
 | x::y::r,d=>∃l e,Ed N x y l/\walk N (y::r) e/\d=l+e
def V6(N:Net)(a b:Str):Option Int->Prop
 | some d=>No N a b d
 | none=>∀d,¬Wk N a b d
theorem LTold.far{N:Net}{s:Str}{K:Kn}(h:LTold N s K)(x:Str):V6 N s x (K x):=by
 cases e:K x with
 | none=>exact fun d hw=>h.all x d hw e
 | some d=>exact h.least x d e
def VY:Option Str->D
 | some y=>.str y
 | none=>.non
def IK(p:Int×Option Str):D:=.tup [.int p.1,VY p.2]
def Ft(N:Net):Prop:=N.Ok/\N.ps.length<=25/\N.ts.length<=60
def L7:W2:=fun ss n P=>∃(Wt:List Str) (ks:List AY) (ds:List D) (F:L9),ss=[.br (.lst (Wt.map .str)),.br (.dic ks ds)]/\Dmap ks ds IK F/\(∀x∈Wt,F x≠none)/\Wt≠[]/\Wt.length<=100 /\
 ∀v∈Wt,(∀y∈Wt,∀dv pv dy py,F v=some (dv,pv)->F y=some (dy,py)->dv<=dy)->P (.str v) n
def Gn:W2:=fun ss n P=>∃(N:Net) (s:Str),ss=[.sh (enc N),.sh (.str s)]/\Ft N/\s∈N.ps/\∀(ks:List AY) (ds:List D) (F:L9),Dmap ks ds IK F->To N s F->P (.dic ks ds) n
def GB:Ad:=(BZ (AV BC (CK SG (AD (Cg [some 1,none] (BY (Az 0)) (Ak 1) E4 (Bh (AD (AV BC (AV CT (Az 0) (AC 1)) (wC (D.int 0))) (AD (AC 1) AR)))) AR)) (wC (D.int 1))))
def GC:Ad:=(Aj (Bl 2 (Ag K_ (AG (AZ (AC 0)) Ai)))
 (Aj (EC 3 (MB (AC 1) (Bh (AD (wC (D.int 0)) (AD (wC D.non) AR)))))
 (Aj (EC 4 (DH (AD (AC 1) AR)))
 (Aj (HN (SS (Az 4)) (Aj (Bl 5 (Ag L7 (AG (FL (Az 4)) (AG (FL (Az 3)) Ai))))
 (Aj (Jz 4 "list" Um (AD (AC 5) AR))
 (EO (Oq (AV CT (AC 2) (AC 5))) (Gi 2 (A9 (Ak 6) (A9 (Ak 7) Ds))) (Aj (Bl 8 (AV Ax (AV BC (AV CT (Az 3) (AC 5)) (wC (D.int 0))) (AC 7)))
 (Bx (Af (AV (Kc true) (AC 6) (Az 3))) (Aj (Jz 4 "list" Eg (AD (AC 6) AR))
 (Dn 3 (AC 6) (Bh (AD (AC 8) (AD (AC 5) AR))))) (Bx (Af (AV FT (AC 8) (AV BC (AV CT (Az 3) (AC 6)) (wC (D.int 0))))) (Dn 3 (AC 6) (Bh (AD (AC 8) (AD (AC 5) AR)))) BN)))))))
 (LC 3)))))
theorem Vn{i j:Int}{x y:Str}(h:BP [.inl j,.inr y] [.inl i,.inr x]=false):i<=j:=by
 have h:(if (Sum.inl j:AY)=.inl i then (if (Sum.inr y:AY)=.inr x then false else decide (y.cps.toList<x.cps.toList)) else decide (j<i))=false:=h
 by_cases e:j=i
 ·omega
 ·rw [if_neg (fun z=>e (Sum.inl.inj z)),decide_eq_false_iff_not] at h
  omega
section
variable {ss:List Slot}{n:Nat}{Pd:D->Nat->Prop}
theorem Ih(h:L7 ss n Pd):GB (EE Pd) n (ss++List.replicate 0 .no):=by
 obtain⟨Wt,ks,ds,F,rfl,M,hF,hne,hl,p⟩:=h
 unfold GB
 refine⟨by show (Wt.map D.str).length<=10000000; rw [List.length_map]; omega,?_⟩
 have dist:∀x∈Wt,∃d q,F x=some (d,q):=fun x hx=>by
  cases e:F x with
  | none=>exact absurd e (hF x hx)
  | some a=>exact⟨a.1,a.2,rfl⟩
 refine CS (fun d=>match d with | .str x=>.tup [.int ((F x).getD (0,none)).1,.str x] | d=>d) (fun ρ=>∃s,ρ=[.br (.dic ks ds),s]) _ _ _ _ ?_ ⟨_,rfl⟩ ?_
 ·rintro d hd ρ m nx ⟨s,rfl⟩ hnx
  obtain⟨x,hx,rfl⟩:=List.mem_map.mp hd
  obtain⟨dx,q,ex⟩:=dist x hx
  refine⟨ks,ds,_,IK (dx,q),rfl,rfl,by rw [M.at_,ex]; rfl,_,AH (j:=0) rfl,(by decide:2<=sizeLine),?_⟩
  have this:nx (.tup [.int ((F x).getD (0,none)).1,.str x]) m [.br (.dic ks ds),.sh (.str x)]:=hnx [.br (.dic ks ds),.sh (.str x)] ⟨_,rfl⟩
  rw [show ((F x).getD (0,none)).1=dx by rw [ex]; rfl] at this
  exact this
 rw [List.nil_append,List.map_map]
 refine⟨_,rfl,?_,⟨fun x hx=>?_,fun x hx y hy ka kb ea eb=>?_⟩,fun x hx hmin=>?_⟩
 ·rw [List.length_map]
  cases Wt with
  | nil=>exact absurd rfl hne
  | cons a r=>exact Nat.succ_pos _
 ·obtain⟨z,_,rfl⟩:=List.mem_map.mp hx
  exact⟨_,rfl,List.cons_ne_nil _ _⟩
 ·obtain⟨z,_,rfl⟩:=List.mem_map.mp hx
  obtain⟨u,_,rfl⟩:=List.mem_map.mp hy
  cases (show some [Sum.inl _,Sum.inr _]=some ka from ea)
  cases (show some [Sum.inl _,Sum.inr _]=some kb from eb)
  rfl
 ·obtain⟨v,hv,rfl⟩:=List.mem_map.mp hx
  refine⟨_,AH (j:=1) rfl,p v hv fun y hy dv pv dy py ev ey=>?_⟩
  have:=Vn (hmin _ (List.mem_map.mpr ⟨y,hy,rfl⟩) _ _ rfl rfl)
  rw [ev,ey] at this
  exact this
theorem A6(x:Str):IA (.str x)=some (.inr x):=rfl
theorem OG{N:Net}(ok:N.Ok){xs:List Str}(h:∀x∈xs,x∈N.ps):DV (.lst (xs.map .str)):=by
 have it:∀d∈xs.map D.str,item d:=fun d hd=>by
  obtain⟨x,hx,rfl⟩:=List.mem_map.mp hd
  exact DF (ok.names x (h x hx))
 exact Ja it
theorem On{N:Net}{Wt:List Str}(hn:Wt.Nodup)(h:∀x∈Wt,x∈N.ps):Wt.length<=N.ps.length:=by
 have:∀(xs ps:List Str),xs.Nodup->(∀x∈xs,x∈ps)->xs.length<=ps.length:=by
  intro xs
  induction xs with
  | nil=>intro ps _ _; exact Nat.zero_le _
  | cons x xs ih =>
   intro ps hn hm
   have hx:=hm x List.mem_cons_self
   have hn:=List.nodup_cons.mp hn
   have h1:=ih (ps.erase x) hn.2 fun j hj=>(List.mem_erase_of_ne fun e=>hn.1 (by rw [← e]; exact hj)).mpr (hm j (List.mem_cons_of_mem _ hj))
   rw [List.length_erase_of_mem hx] at h1
   have:=List.length_pos_of_mem hx
   rw [List.length_cons]
   omega
 exact this Wt N.ps hn h
theorem Hk(ks:List AY)(k:AY):(Cz ks k).length=if IE ks k=true then ks.length else ks.length+1:=by
 unfold Cz
 split
 ·rfl
 ·rw [List.length_append]; rfl
theorem Dmap.has{α:Type}{ks:List AY}{ds:List D}{enc:α->D}{F:Str->Option α}(h:Dmap ks ds enc F){x:Str}:(F x=none->IE ks (.inr x)=false)/\(F x≠none->IE ks (.inr x)=true):=by
 constructor
 ·intro e
  cases c:IE ks (.inr x) with
  | false=>rfl
  | true=>exact absurd e ((h.mem x).mp (hasK_iff.mp c))
 ·intro e
  exact hasK_iff.mpr ((h.mem x).mpr e)
theorem Nz{N:Net}{x:Str}(hx:x∈N.ps):Bb (N.ps.map .inr) (N.ps.map (RR N.ts)) (.inr x)=some (RR N.ts x):=by
 have go:∀ps:List Str,x∈ps->Bb (ps.map .inr) (ps.map (RR N.ts)) (.inr x)=some (RR N.ts x):=by
  intro ps
  induction ps with
  | nil=>intro h; cases h
  | cons q ps ih =>
   intro h
   show (if (Sum.inr q:AY)=.inr x then some (RR N.ts q) else Bb (ps.map .inr) (ps.map (RR N.ts)) (.inr x))=_
   by_cases e:q=x
   ·rw [if_pos (by rw [e]),e]
   ·rw [if_neg (fun z=>e (Sum.inr.inj z))]
    exact ih ((List.mem_cons.mp h).resolve_left fun z=>e z.symm)
 exact go N.ps hx
theorem Qw(l:List (Str×Int)):Dz ((l.map fun x=>(.inr x.1:AY)).map Tx) (l.map fun x=>.int x.2)=l.map VD:=by
 induction l with
 | nil=>rfl
 | cons p l ih =>
  show D.tup [.str p.1,.int p.2]::Dz _ _=VD p::l.map VD
  rw [← ih]
  rfl
theorem Ii(h:Gn ss n Pd):GC (EF Pd) n (ss++List.replicate 7 .no):=by
 obtain⟨N,s,rfl,⟨ok,lp,lt⟩,hs,p⟩:=h
 have szl:=PySem.sizeLine_eq
 unfold GC
 refine⟨N,rfl,ok,by omega,by omega,?_⟩
 refine⟨(by decide:2<=sizeLine),_,A6 s,(by decide:1<=sizeLine),?_⟩
 refine GL (fun m n' ρ=>n'=n/\∃(Wt:List Str) (ks:List AY) (ds:List D) (F:L9) (s5 s6 s7 s8:Slot),ρ=[.sh (enc N),.sh (.str s),.sh (GN N),.ow (.dic ks ds),.ow (.lst (Wt.map .str)),s5,s6,s7,s8]/\Dmap ks ds IK F/\Dj N s F Wt/\m+ks.length=N.ps.length+Wt.length) (N.ps.length) ⟨rfl,[s],[.inr s],[IK (0,none)],_,_,_,_,_,rfl,Dmap.one,Dj.init hs,rfl⟩ ?_ ?_
 ·rintro m n' ρ N' ⟨rfl,Wt,ks,ds,F,s5,s6,s7,s8,rfl,M,J,hm⟩ hN
  cases Wt with
  | nil =>
   exact⟨false,rfl,_,rfl,p ks ds F M J.told⟩
  | cons w0 Wr =>
   refine⟨true,rfl,?_⟩
   have insW:∀x∈w0::Wr,x∈N.ps:=fun x hx=>J.ins x (J.wfound x hx)
   have wl:=On J.nd insW
   refine⟨w0::Wr,ks,ds,F,rfl,M,J.wfound,List.cons_ne_nil _ _,by omega,fun v hv hmin=>?_⟩
   obtain⟨dv,pv,ev⟩:∃d q,F v=some (d,q):=by
    cases e:F v with
    | none=>exact absurd e (J.wfound v hv)
    | some a=>exact⟨a.1,a.2,rfl⟩
   have D0:=J.take hv ev fun y hy dy q ey=>hmin y hy dv pv dy q ev ey
   have hvp:=insW v hv
   have hidx:(w0::Wr).idxOf v<(w0::Wr).length:=List.idxOf_lt_length_of_mem hv
   have hget:(w0::Wr)[(w0::Wr).idxOf v]?=some v:=by rw [List.getElem?_eq_getElem hidx,List.getElem_idxOf]
   have ee:((w0::Wr).map D.str).eraseIdx ((w0::Wr).idxOf v)=((w0::Wr).erase v).map D.str:=by
    rw [List.erase_eq_eraseIdx_of_idxOf (rfl:(w0::Wr).idxOf v=_),Ey]
   refine⟨_,rfl,rfl,_,_,(w0::Wr).idxOf v,rfl,rfl,OG ok insW,Lj (ok.names v hvp),⟨.str v,by rw [List.getElem?_map,hget]; rfl,by show (v==v)=true; exact beq_self_eq_true v⟩,fun k x hk hx=>?_,?_⟩
   ·rw [List.getElem?_map] at hx
    obtain⟨t,ht,rfl⟩:=Option.map_eq_some_iff.mp hx
    have hkl:k<(w0::Wr).length:=(List.getElem?_eq_some_iff.mp ht).1
    have hh:=List.not_of_lt_findIdx (p:=fun y=>y==v) (xs:=w0::Wr) hk
    have e2:(w0::Wr)[k]=t:=(List.getElem?_eq_some_iff.mp ht).2
    have h3:((w0::Wr)[k]==v)=false:=hh
    rw [e2] at h3
    exact h3
   rw [ee]
   refine⟨_,_,_,RR N.ts v,rfl,A6 v,Nz hvp,_,_,rfl,fun k hk=>?_,?_⟩
   ·obtain⟨q,hq,rfl⟩:=List.mem_map.mp hk
    have:=(ok.names _ (KR ok hq).1).2.1
    show q.1.length<=sizeLine
    omega
   rw [Qw]
   have el:=List.length_erase_of_mem hv
   have inner:∀(rest seen:List (Str×Int)) (Wt:List Str) (ks:List AY) (ds:List D) (F:L9) (s6 s7 s8:Slot),seen++rest=Fa N.ts v->Dmap ks ds IK F->Dm N s F Wt v dv seen->m+ks.length=N.ps.length+Wt.length+1 ->
     Be (Gi 2 (A9 (Ak 6) (A9 (Ak 7) Ds))) (Aj (Bl 8 (AV Ax (AV BC (AV CT (Az 3) (AC 5)) (wC (D.int 0))) (AC 7)))
 (Bx (Af (AV (Kc true) (AC 6) (Az 3))) (Aj (Jz 4 "list" Eg (AD (AC 6) AR))
 (Dn 3 (AC 6) (Bh (AD (AC 8) (AD (AC 5) AR))))) (Bx (Af (AV FT (AC 8) (AV BC (AV CT (Az 3) (AC 6)) (wC (D.int 0))))) (Dn 3 (AC 6) (Bh (AD (AC 8) (AD (AC 5) AR)))) BN))) { EF Pd with nx:=N',ct:=N',bk:=LC 3 (EF Pd) } (rest.map VD) n' [.sh (enc N),.sh (.str s),.sh (GN N),.ow (.dic ks ds),.ow (.lst (Wt.map .str)),.sh (.str v),s6,s7,s8]:=by
    intro rest
    induction rest with
    | nil =>
     intro seen Wt ks ds F s6 s7 s8 e M D0 hm
     rw [List.append_nil] at e
     exact hN (m - 1) n' _ (by have:=M.le D0.ins; omega) ⟨rfl,Wt,ks,ds,F,_,_,_,_,rfl,M,D0.finish fun y l hy=>by rw [e]; exact hy,by have:=M.le D0.ins; omega⟩
    | cons q rest ih =>
     intro seen Wt ks ds F s6 s7 s8 e M D0 hm
     obtain⟨y,l⟩:=q
     have he:Ed N v y l:=by show (y,l)∈Fa N.ts v; rw [← e]; exact List.mem_append_right _ List.mem_cons_self
     have e':(seen++[(y,l)])++rest=Fa N.ts v:=by rw [List.append_assoc]; exact e
     obtain⟨pv,ev⟩:=D0.here
     have kl:=M.le D0.ins
     have hyp:=he.ins ok
     have insW:∀x∈Wt,x∈N.ps:=fun x hx=>D0.ins x (D0.wfound x hx)
     have wl:=On D0.nd insW
     refine⟨rfl,rfl,?_⟩
     refine⟨ks,ds,_,IK (dv,pv),rfl,A6 v,by rw [M.at_,ev]; rfl,_,AH (j:=0) rfl,?_⟩
     refine⟨ks,ds,_,rfl,A6 y,?_⟩
     show if (!(Bb ks ds (.inr y)).isSome)=true then _ else _
     cases ey:F y with
     | none =>
      have hno:=(M.has (x:=y)).1 ey
      rw [M.at_,ey]
      refine Ef ⟨_,rfl,rfl,_,_,rfl,rfl,by rw [List.length_map]; omega,?_⟩
      refine⟨ks,ds,rfl,(by decide:2<=sizeLine),_,A6 y,by omega,?_⟩
      have:=ih (seen++[(y,l)]) (Wt++[y]) (Cz ks (.inr y)) (C4 ks ds (.inr y) (IK (dv+l,some v))) _ (.sh (.str y)) (.sh (.int l)) (.sh (.int (dv+l))) e' (M.put y (dv+l,some v)) (D0.find ok he ey) (by rw [Hk,if_neg (by rw [hno]; decide),List.length_append,List.length_singleton]; omega)
      rw [List.map_append] at this
      exact this
     | some a =>
      obtain⟨dy,qy⟩:=a
      have hyes:=(M.has (x:=y)).2 (by rw [ey]; intro z; cases z)
      rw [M.at_,ey]
      refine E5 ⟨ks,ds,_,IK (dy,qy),rfl,A6 y,by rw [M.at_,ey]; rfl,_,AH (j:=0) rfl,?_⟩
      show if decide (dv+l<dy)=true then _ else _
      by_cases c:dv+l<dy
      ·rw [decide_eq_true c]
       refine Ef ⟨ks,ds,rfl,(by decide:2<=sizeLine),_,A6 y,by omega,?_⟩
       exact ih (seen++[(y,l)]) Wt (Cz ks (.inr y)) (C4 ks ds (.inr y) (IK (dv+l,some v))) _ (.sh (.str y)) (.sh (.int l)) (.sh (.int (dv+l))) e' (M.put y (dv+l,some v)) (D0.nearer ok he ey c) (by rw [Hk,if_pos hyes]; omega)
      ·rw [decide_eq_false c]
       exact E5 (ih (seen++[(y,l)]) Wt ks ds F (.sh (.str y)) (.sh (.int l)) (.sh (.int (dv+l))) e' M (D0.skip ey (by omega)) hm)
   exact inner (Fa N.ts v) [] ((w0::Wr).erase v) ks ds F _ _ _ rfl M D0 (by have:=List.length_pos_of_mem hv; omega)
 ·rintro n' ρ P Q hPQ h
  unfold SS Az at h ⊢
  split at h
  all_goals first
   | exact h.elim
   | (obtain⟨c,hc,h⟩:=h; exact⟨c,hc,hPQ _ _ h⟩)
end
structure WD (N:Net) (F:L9) (b:Str) (db:Int) (acc:List Str) (pl:Option Str):Prop where
 st:(acc=[]/\pl=some b)\/∃z r dz,acc.reverse=z::r/\F z=some (dz,pl)/\walk N acc.reverse (db - dz)/\acc.reverse.getLast?=some b
 nd:acc.Nodup
 ins:∀x∈acc,x∈N.ps
 less:∀y dy q,pl=some y->F y=some (dy,q)->∀x∈acc,∃dx qx,F x=some (dx,qx)/\dy<dx
 fnd:∀y,pl=some y->F y≠none
section
variable {ss:List Slot}{n:Nat}{Pd:D->Nat->Prop}
end
section
variable {ss:List Slot}{n:Nat}{Pd:D->Nat->Prop}
end
def Kh(t:BI):Str×Str:=(t.a,t.b)
def eL(p q:Str×Str):Prop:=cs p.1<cs q.1\/(p.1=q.1/\cs p.2<cs q.2)
section
variable {ss:List Slot}{n:Nat}{Pd:D->Nat->Prop}
end
theorem K5{ps:List Str}{r:Int}(h0:0<=r)(h1:r<(ps.length:Int)):∃x∈ps,atI (ps.map D.str) r=some (.str x):=by
 obtain⟨k,rfl⟩:∃k:Nat,r=(k:Int):=⟨r.toNat,by omega⟩
 have hk:k<ps.length:=by omega
 exact⟨ps[k],List.getElem_mem hk,AH (by rw [List.getElem?_map,List.getElem?_eq_getElem hk]; rfl)⟩
end Nt
namespace Dp
open PySem PySem.Spec PyProof.Rows L2
def Rv(i:Nat)(b:BW)(body:Ad):Ad:=fun D2 n ρ=>∃d ds,ρ[i]?=some (.br d)/\Id d=some ds/\Be b body D2 ds n ρ
section
variable {X:Cx}{κ:Kd}{tg:Expr}{body:List Stmt}{b:BW}{wb:Ad}{pos p:Pos}{x:Str}{i:Nat}
theorem Rel.lessKp{K:Frag}{C:Fm}{q:Addr×HO}{M:Addr->Prop}{H:Hp}{n:Nat}{ρ:List Slot}{σ:L2.St}(R:Rel K { C with kp:=q::C.kp } M H n ρ σ):Rel K C M H n ρ σ :=
 ⟨R.len,R.sub,R.dom,R.ext,R.fU,R.uV,R.vM,R.feed,R.sl,R.pin,R.br0,R.new,R.two,fun p hp=>R.kept p (List.mem_cons_of_mem _ hp)⟩
theorem Rg(hp:PassesOwn (model X.prog X.w) X.A X.env X.xe)(hc:X.calm=true)(h:PE X (.Name x p) (CB i))(hg:DG X tg b)(hb:Qt X κ body wb)
  (hs:∀y,foldedSetIterable (.Name x p) X.env y=pure y:=by intro _; rfl):DS X κ (.For tg (.Name x p) body [] pos) (Rv i b wb):=by
 obtain⟨g,g1,g2⟩:=hg
 obtain⟨tb,b1,b2⟩:=hb
 refine⟨_,KF hp hc (MQ h) g1 b1 hs,fun C M H n ρ σ D2 E R L w=>?_⟩
 obtain⟨d,ds,hi,hd,w⟩:=w
 obtain⟨v,e1,hAt⟩:=R.sl i _ hi
 cases d with
 | tup ds' =>
  cases hd
  obtain⟨a,vs,rfl,hn,hat⟩:=hAt
  refine⟨.ref a,getD_some e1,.inr (.inl ⟨a,rfl,⟨vs,hn.sq⟩,?_⟩)⟩
  obtain⟨kp',ek⟩:∃kp',kp'=C.kp:=⟨_,rfl⟩
  have R1:Rel X.K { C with kp:=kp' } M H n ρ σ:=by rw [ek]; exact R
  have less:∀{M H n ρ σ},Rel X.K { C with kp:=kp' } M H n ρ σ->Rel X.K C M H n ρ σ:=fun R=>by rw [ek] at R; exact R
  have st:∀M' H' n' ρ' σ',Rel X.K { C with kp:=kp',pins:=(M,H)::C.pins } M' H' n' ρ' σ'->SqT X.K H' a vs:=fun M' H' n' ρ' σ' R'=>(hn.pres (R'.pin (M,H) List.mem_cons_self)).sq
  refine⟨fun i m σ' H'=>m=ds.length - i/\i<=ds.length/\∃M' n' ρ',Rel X.K { C with kp:=kp',pins:=(M,H)::C.pins } M' H' n' ρ' σ'/\Be b wb D2 (ds.drop i) n' ρ',⟨ds.length,by simp,Nat.zero_le _,M,n,ρ,R1.pinned,w⟩,?_⟩
  rintro i m σ' H' ⟨rfl,hil,M',n',ρ',R',w'⟩
  have pr:Pres M H M' H':=R'.pin (M,H) List.mem_cons_self
  have hq:=st M' H' n' ρ' σ' R'
  by_cases hlt:i<ds.length
  ·have ed:ds.drop i=ds[i]::ds.drop (i+1):=List.drop_eq_getElem_cons hlt
   rw [ed] at w'
   obtain⟨v,ev,hv⟩:=(hat.pres pr).get (List.getElem?_eq_getElem hlt)
   refine .inr ⟨⟨vs,v,hq,ev⟩,fun σ2 H2=>∃M2 n2 ρ2,Rel X.K { C with kp:=kp',pins:=(M,H)::C.pins } M2 H2 n2 ρ2 σ2/\Be b wb D2 (ds.drop (i+1)) n2 ρ2,fun σ2 H2 ⟨M2,n2,ρ2,R2',w2⟩=>⟨ds.length - (i+1),by omega,rfl,hlt,M2,n2,ρ2,R2',w2⟩,fun y H2 hy=>?_⟩
   obtain⟨e2,hy⟩:=hy
   subst e2
   have:some v=some y:=ev.symm.trans (hy vs hq)
   cases this
   refine g2 _ M' H2 n' ρ' σ' ds[i] v _ _ R' hv w' fun ρ3 σ3 R3 w3=>?_
   refine b2 _ M' H2 n' ρ3 σ3 { D2 with nx:=Be b wb D2 (ds.drop (i+1)),ct:=Be b wb D2 (ds.drop (i+1)),bk:=D2.nx } _ R3 ⟨fun M4 H4 n4 ρ4 σ4 R4 w4=>⟨M4,n4,ρ4,R4,w4⟩,L.rt,fun M4 H4 n4 ρ4 σ4 R4 w4=>L.nx M4 H4 n4 ρ4 σ4 (less R4.unpin) w4,fun M4 H4 n4 ρ4 σ4 R4 w4=>⟨M4,n4,ρ4,R4,w4⟩⟩ w3
  ·have e:i=ds.length:=by omega
   subst e
   rw [List.drop_length] at w'
   exact .inl ⟨⟨vs,hq,by rw [hat.length]; exact Nat.le_refl _⟩,L.nx M' H' n' ρ' σ' (less R'.unpin) w'⟩
 | lst ds' =>
  cases hd
  obtain⟨a,vs,rfl,nV,hH,hat⟩:=hAt
  obtain⟨o,ho,hro⟩:∃o,H a=some o/\∀H':Hp,H' a=some o->SqL X.K H' a vs:=by
   rcases hH with z | ⟨u,z⟩
   ·exact⟨_,z,fun H' e=>.inl (.inl e)⟩
   ·exact⟨_,z,fun H' e=>.inl (.inr ⟨u,e⟩)⟩
  refine⟨.ref a,getD_some e1,.inl ⟨a,rfl,⟨vs,hro H ho⟩,?_⟩⟩
  obtain⟨kp',R1,less,st⟩:∃kp',Rel X.K { C with kp:=kp' } M H n ρ σ/\(∀{M H n ρ σ},Rel X.K { C with kp:=kp' } M H n ρ σ->Rel X.K C M H n ρ σ)/\(∀M' H' n' ρ' σ',Rel X.K { C with kp:=kp',pins:=(M,H)::C.pins } M' H' n' ρ' σ'->SqL X.K H' a vs):=by
   by_cases hM:M a
   ·refine⟨(a,o)::C.kp,⟨R.len,R.sub,R.dom,R.ext,R.fU,R.uV,R.vM,R.feed,R.sl,R.pin,R.br0,R.new,R.two,fun q hq=>?_⟩,fun R=>R.lessKp,fun M' H' n' ρ' σ' R'=>hro H' (R'.kept (a,o) List.mem_cons_self).1⟩
    rcases List.mem_cons.mp hq with rfl | hq
    ·refine⟨ho,hM,nV,fun j e q z=>?_⟩
     obtain⟨u,hu⟩:=R.br0 i _ a hi e1
     have:=(R.new j _ a q rfl z).2
     rw [hu] at this
     cases this
    ·exact R.kept q hq
   ·exact⟨C.kp,R,fun R=>R,fun M' H' n' ρ' σ' R'=>hro H' ((R'.pin (M,H) List.mem_cons_self).1 a o ho hM)⟩
  refine⟨fun i m σ' H'=>m=ds.length - i/\i<=ds.length/\∃M' n' ρ',Rel X.K { C with kp:=kp',pins:=(M,H)::C.pins } M' H' n' ρ' σ'/\Be b wb D2 (ds.drop i) n' ρ',⟨ds.length,by simp,Nat.zero_le _,M,n,ρ,R1.pinned,w⟩,?_⟩
  rintro i m σ' H' ⟨rfl,hil,M',n',ρ',R',w'⟩
  have pr:Pres M H M' H':=R'.pin (M,H) List.mem_cons_self
  have hq:=st M' H' n' ρ' σ' R'
  by_cases hlt:i<ds.length
  ·have ed:ds.drop i=ds[i]::ds.drop (i+1):=List.drop_eq_getElem_cons hlt
   rw [ed] at w'
   obtain⟨v,ev,hv⟩:=(hat.pres pr).get (List.getElem?_eq_getElem hlt)
   refine .inr ⟨⟨vs,v,hq,ev⟩,fun σ2 H2=>∃M2 n2 ρ2,Rel X.K { C with kp:=kp',pins:=(M,H)::C.pins } M2 H2 n2 ρ2 σ2/\Be b wb D2 (ds.drop (i+1)) n2 ρ2,fun σ2 H2 ⟨M2,n2,ρ2,R2',w2⟩=>⟨ds.length - (i+1),by omega,rfl,hlt,M2,n2,ρ2,R2',w2⟩,fun y H2 hy=>?_⟩
   obtain⟨e2,hy⟩:=hy
   subst e2
   have:some v=some y:=ev.symm.trans (hy vs hq)
   cases this
   refine g2 _ M' H2 n' ρ' σ' ds[i] v _ _ R' hv w' fun ρ3 σ3 R3 w3=>?_
   refine b2 _ M' H2 n' ρ3 σ3 { D2 with nx:=Be b wb D2 (ds.drop (i+1)),ct:=Be b wb D2 (ds.drop (i+1)),bk:=D2.nx } _ R3 ⟨fun M4 H4 n4 ρ4 σ4 R4 w4=>⟨M4,n4,ρ4,R4,w4⟩,L.rt,fun M4 H4 n4 ρ4 σ4 R4 w4=>L.nx M4 H4 n4 ρ4 σ4 (less R4.unpin) w4,fun M4 H4 n4 ρ4 σ4 R4 w4=>⟨M4,n4,ρ4,R4,w4⟩⟩ w3
  ·have e:i=ds.length:=by omega
   subst e
   rw [List.drop_length] at w'
   exact .inl ⟨⟨vs,hq,by rw [hat.length]; exact Nat.le_refl _⟩,L.nx M' H' n' ρ' σ' (less R'.unpin) w'⟩
 | _=>cases hd
end
end Dp
namespace Nt
open PySem PySem.Spec PyProof.Rows L2 Dp
def sub(N:Net)(kept:List BI):Net:=⟨N.ps,N.ts.filter fun u=>decide (u∈kept)⟩
def CH:W2:=fun ss n P=>∃(N:Net) (s:Str) (z:D) (us:List BI),ss=[.br z,.sh (.str s)]/\Id z=some (us.map AT)/\(∀u,u∈us↔u∈N.ts)/\Ft N/\s∈N.ps/\∀(ks:List AY) (ds:List D) (K:Kn),Dmap ks ds D.int K->LTold N s K->P (.dic ks ds) n
theorem sub_mem{N:Net}{kept:List BI}{u:BI}:u∈(sub N kept).ts↔u∈N.ts/\u∈kept:=by
 show u∈N.ts.filter _↔_
 rw [List.mem_filter,decide_eq_true_eq]
theorem M7{N:Net}(okn:Ft N)(kept:List BI):Ft (sub N kept):=⟨O3 okn.1 (fun t h=>(sub_mem.mp h).1) (okn.1.trise.filter _),okn.2.1,Nat.le_trans (List.length_filter_le _ _) okn.2.2⟩
theorem Sc{N:Net}(ok:N.Ok){kept ts:List BI}(hk:∀t∈kept,t∈N.ts)(nd:kept.Nodup)(hp:ts.Perm kept)(hb:IU ts):(⟨N.ps,ts⟩:Net)=sub N kept:=by
 unfold sub
 congr 1
 refine ME ((List.perm_ext_iff_of_nodup (hp.nodup_iff.mpr nd) ((Ct ok.trise).filter _)).mpr fun t=>?_) hb (Mn (ok.trise.filter _))
 rw [List.mem_filter,decide_eq_true_eq,hp.mem_iff]
 exact⟨fun h=>⟨hk t h,h⟩,fun h=>h.2⟩
theorem Wk.mono{N N':Net}(h:∀t∈N.ts,t∈N'.ts){s x:Str}{d:Int}(hw:Wk N s x d):Wk N' s x d:=by
 induction hw with
 | nil=>exact .nil
 | snoc _ he ih =>
  refine .snoc ih ?_
  obtain⟨t,ht,z⟩:=List.mem_flatMap.mp he
  exact List.mem_flatMap.mpr ⟨t,h t ht,z⟩
section
variable {ss:List Slot}{n:Nat}{Pd:D->Nat->Prop}
end
section
variable {ss:List Slot}{n:Nat}{Pd:D->Nat->Prop}
end
section
variable {ss:List Slot}{n:Nat}{Pd:D->Nat->Prop}
end
end Nt
namespace Dp
open PySem PySem.Spec PyProof.Rows L2
def Qz(i:Nat)(we:DW)(b:BW):Ad:=fun D2 n ρ=>∃xs,ρ[i]?=some (.ow (.lst xs))/\we n ρ fun d n1=>∃(k:Nat) (x:D),d=.int (k:Int)/\xs[k]?=some x/\k<2 ^ 60/\b x (ρ.set i (.ow (.lst (xs.eraseIdx k)))) fun ρ1=>D2.nx n1 ρ1
section
variable {X:Cx}{κ κe:Kd}{tg e:Expr}{b:BW}{we:DW}{pos p apos cpos:Pos}{x:Str}{i:Nat}
theorem N3{k n:Nat}(h:k<n):seqIndex? (k:Int) n=some k:=by
 refine(KU ?_).1
 unfold RW
 rw [if_pos (by omega),if_pos (by omega)]
 simp
theorem NZ(h:PE X (.Name x p) (CB i))(ha:DE X e κe we)(hg:DG X tg b)
  (hs:swapsWithSole [tg] (.Call (.Attribute (.Name x p) "pop" apos) [e] [] cpos) pos.line X.env=pure false:=by rfl) (hw:swappedStores [tg] (.Call (.Attribute (.Name x p) "pop" apos) [e] [] cpos) X.env=pure none:=by rfl)
  (h1:(assignEach [tg] X.env).map (·.2)=[assign tg X.env]:=by rfl)
  (hbase:attributeBase (.Name x p) "pop" X.env (eval (.Name x p) X.env)=eval (.Name x p) X.env:=by rfl)
  (hfew:((backTo cpos (starEach [e] X.env)).all (fun x=>!x.1)&&(backToKw cpos (keywordEach [] X.env)).all (fun x=>x.1.isSome)
   && decide ([e].length+([]:List Keyword).length+(if ([]:List Keyword).isEmpty then 0 else 1)<30))=true:=by rfl)
  (hline:(apos.endLine==cpos.line)=true:=by rfl) (hst:starEach [e] X.env=(false,eval e X.env)::starEach [] X.env:=by rfl) (hplain:(backTo cpos (starEach [] X.env)).any (·.1)=false:=by rfl) :
  DS X κ (.Assign [tg] (.Call (.Attribute (.Name x p) "pop" apos) [e] [] cpos) pos) (Qz i we b):=by
 obtain⟨t,a1,a2⟩:=ha
 obtain⟨g,g1,g2⟩:=hg
 refine⟨_,KG (SC PySem.F.plainAttrs_list PySem.F.slot_list_pop PySem.F.type_list_pop Pq h (B8 a1 DM hst) hbase hfew hline hst hplain) g1 hs hw h1,fun C M H n ρ σ D2 E R L w=>?_⟩
 obtain⟨xs,hi,w⟩:=w
 obtain⟨a,e1,m,nv,tt⟩:=R.sl i _ hi
 refine⟨.ref a,getD_some e1,P1 (show Vd "list" (.lst xs) from rfl) (tt.att nv),?_⟩
 refine a2 C M H n ρ σ _ _ R w fun v H1 d n1 ee f1 r1 p=>?_
 obtain⟨k,y,rfl,hx,hk,p⟩:=p
 have R1:=R.step ee f1
 obtain⟨a',e1',m',nv',vs,hH,hat⟩:=R1.sl i _ hi
 rw [e1] at e1'
 cases e1'
 obtain⟨v',ev,hv⟩:=hat.get hx
 have hkl:k<vs.length:=(List.getElem?_eq_some_iff.mp ev).1
 refine⟨a,vs,(k:Int),k,v',rfl,by rw [KW r1],hH,by omega,by omega,N3 hkl,ev,?_⟩
 have R2:=R1.mut (e:=.lst (xs.eraseIdx k)) hi e1 (o:=.lst (vs.eraseIdx k)) ⟨vs.eraseIdx k,Ab,(hat.eraseIdx k).pres (D5 m')⟩
 exact g2 C M _ n1 _ σ y v' _ _ R2 (hv.pres (D5 m')) p fun ρ' σ' R' w'=>L.nx M _ n1 ρ' σ' R' w'
end
section
variable {X:Cx}{κ κe:Kd}{e:Expr}{we:DW}{pos p apos cpos p2 apos2 cpos2:Pos}{x y:Str}{i j:Nat}
end
end Dp
namespace Nt
open PySem PySem.Spec PyProof.Rows L2 Dp
def Eu:W2:=fun ss n P=>∃m:Nat,ss=[.fd,.sh (.int m)]/\m<=24/\1<=n/\∀xs:List Str,xs.length=m->(∀x∈xs,P2 x)->EV xs->P (.tup (xs.map .str)) (n - 1)
def Gm:W2:=fun ss n P=>∃s:Int,ss=[.fd,.sh (.int s)]/\0<=s/\1<=n/\∀r:Int,1<=r->r<=1000000->P (.int r) (n - 1)
def Gk:W2:=fun ss n P=>∃most ties:Nat,ss=[.fd,.sh (.int most),.sh (.int ties)]/\2<=most/\most<=24/\3<=ties/\ties<=60/\130<=n/\∀(N:Net) (n':Nat),N.Ok->2<=N.ps.length->N.ps.length<=most->N.ts.length<=ties->n - 130<=n'->P (enc N) n'
def Ep:Ad:=(Aj (Bl 2 (DH (AD (wC (D.str "a")) (AD (wC (D.str "ab")) (AD (wC (D.str "aba")) (AD (wC (D.str "b")) (AD (wC (D.str "in")) (AD (wC (D.str "out")) (AD (wC (D.str "place")) (AD (wC (D.str "tie")) (AD (wC (D.str "c")) (AD (wC (D.str "ca")) (AD (wC (D.str "near")) (AD (wC (D.str "z")) AR))))))))))))))
 (Aj (Bl 2 (AV Ax (AC 2) (DH (AD (wC (D.str "za")) (AD (wC (D.str "zb")) (AD (wC (D.str "x")) (AD (wC (D.str "xy")) (AD (wC (D.str "y")) (AD (wC (D.str "q")) (AD (wC (D.str "qq")) (AD (wC (D.str "d")) (AD (wC (D.str "e")) (AD (wC (D.str "f")) (AD (wC (D.str "g")) (AD (wC (D.str "h")) AR)))))))))))))))
 (Aj (Bl 3 (Ag BM (AG (A3 0) (AG (AZ (wC (D.int 24))) Ai))))
 (BZ (CK Bk (AD (CK QC (AD (Cg [some 2,some 3,none] (ED (AD (AC 1) AR)) (Ak 2) E4 (AV BC (AC 0) (AV (Rf (fun _ j=>0<j) fun i j=>D.int (i % j)) (AV Ax (AC 1) (AC 2)) (wC (D.int 24))))) AR)) AR))))))
def EN:Ad:=(Aj (Bx (Af (AV FT (AC 1) (wC (D.int 3)))) (BZ (AV Ax (wC (D.int 1)) (Ag BM (AG (A3 0) (AG (AZ (AV BC (DH (AD (wC (D.int 2)) (AD (wC (D.int 4)) (AD (wC (D.int 9)) AR)))) (AC 1))) Ai))))) BN)
 (Aj (Bx (Af (AV (G8 false) (AC 1) (wC (D.int 3)))) (BZ (AV Ax (wC (D.int 1)) (Ag BM (AG (A3 0) (AG (AZ (wC (D.int 60))) Ai))))) BN)
 (BZ (AV Dr (AV (Rf Mt fun i j=>D.int (i ^ j.toNat)) (wC (D.int 10)) (wC (D.int 6))) (Ag BM (AG (A3 0) (AG (AZ (wC (D.int 3))) Ai)))))))
def GE:Ad:=(Aj (Bl 3 (Ag Eu (AG (A3 0) (AG (AZ (AV Ax (wC (D.int 2)) (Ag BM (AG (A3 0) (AG (AZ (AV Dr (AC 1) (wC (D.int 1)))) Ai))))) Ai))))
 (Aj (EC 4 (DH AR))
 (Aj (EO (BY (AC 3)) (Ak 5) (Jz 4 "list" Up (AD (Cg [some 5,none] (BY (AC 3)) (Ak 1) (Af (AV FT (AC 0) (AC 1))) (Bh (AD (AC 0) (AD (AC 1) AR)))) AR)))
 (Aj (Bl 6 (Ag BM (AG (A3 0) (AG (AZ (wC (D.int 5))) Ai))))
 (Aj (Bl 7 (AV Dr (AC 2) (Ag BM (AG (A3 0) (AG (AZ (AV Ax (AV (Rf Qv fun i j=>D.int (i / j)) (AC 2) (wC (D.int 2))) (wC (D.int 1)))) Ai)))))
 (Aj (Bx (Af (AV (G8 false) (Ag BM (AG (A3 0) (AG (AZ (wC (D.int 6))) Ai))) (wC (D.int 0)))) (Bl 7 (Ag BM (AG (A3 0) (AG (AZ (wC (D.int 4))) Ai)))) BN)
 (Aj (EC 8 (DH AR))
 (Aj (EO (ED (AD (CK Lo (AD (AC 7) (AD (CK C_ (AD (Az 4) AR)) AR))) AR)) (Ak 9) (Aj (Qz 4 (Ag BM (AG (A3 0) (AG (AZ (CK C_ (AD (Az 4) AR))) Ai))) (Gi 2 (A9 (Ak 5) (A9 (Ak 10) Ds))))
 (Jz 8 "list" Eg (AD (Bh (AD (AC 5) (AD (AC 10) (AD (Ag Gm (AG (A3 0) (AG (AZ (AC 6)) Ai))) AR)))) AR))))
 (BZ (Bh (AD (AC 3) (AD (CK Bk (AD (CK CZ (AD (Az 8) AR)) AR)) AR))))))))))))
def words24:List Str:=["a","ab","aba","b","in","out","place","tie","c","ca","near","z","za","zb","x","xy","y","q","qq","d","e","f","g","h"]
def DY(i:Nat):Str:=words24.getD i "a"
theorem MA:∀i,i<24->P2 (DY i):=by
 have h:∀i∈List.range 24,1<=(DY i).length/\(DY i).length<=8/\∀c∈cs (DY i),97<=c/\c<=122:=by decide +kernel
 exact fun i hi=>h i (List.mem_range.mpr hi)
theorem Nq:∀i j,i<24->j<24->DY i=DY j->i=j:=by
 have h:∀i∈List.range 24,∀j∈List.range 24,cs (DY i)=cs (DY j)->i=j:=by decide +kernel
 exact fun i j hi hj e=>h i (List.mem_range.mpr hi) j (List.mem_range.mpr hj) (congrArg cs e)
theorem Oo(i:Nat)(h:i<24):(words24.map D.str)[i]?=some (.str (DY i)):=by
 have hl:i<words24.length:=h
 unfold DY
 rw [List.getElem?_map,List.getD_eq_getElem?_getD,List.getElem?_eq_getElem hl]
 rfl
section
variable {ss:List Slot}{n:Nat}{Pd:D->Nat->Prop}
theorem He(h:Eu ss n Pd):Ep (EE Pd) n (ss++List.replicate 2 .no):=by
 obtain⟨m,rfl,hm,hn,p⟩:=h
 unfold Ep
 refine⟨(by decide:12<=sizeLine),(by decide:12<=sizeLine),(by decide:24<=sizeLine),?_⟩
 refine⟨24,rfl,by decide,by decide,hn,fun first f0 f1=>?_⟩
 obtain⟨f,rfl⟩:∃f:Nat,first=(f:Int):=⟨first.toNat,by omega⟩
 refine⟨(m:Int),rfl,⟨by omega,by omega⟩,by rw [DK]; omega,?_⟩
 refine CS (fun d=>match d with | .int k=>.str (DY ((f+k.toNat) % 24)) | _=>.non) (fun ρ=>∃s,ρ=[.sh (.lst (words24.map .str)),.sh (.int f),s]) _ _ _ _ ?_ ⟨_,rfl⟩ ?_
 ·rintro d hd ρ n' nx ⟨s,rfl⟩ hnx
  obtain⟨k,hk,rfl⟩:=DJ hd
  have hlt:(f+k) % 24<24:=Nat.mod_lt _ (by decide)
  refine⟨by show (0:Int)<24; decide,.str (DY ((f+k) % 24)),?_,?_⟩
  ·rw [show ((f:Int)+(0+(k:Int))) % 24=(((f+k) % 24:Nat):Int) by omega]
   exact AH (Oo _ hlt)
  ·have:=hnx [.sh (.lst (words24.map .str)),.sh (.int f),.sh (.int (0+(k:Int)))] ⟨_,rfl⟩
   rw [show (0+(k:Int))=k by omega] at this ⊢
   exact this
 ·have e:[]++(EU 0 ((m:Int)).toNat).map (fun d=>match d with | .int k=>D.str (DY ((f+k.toNat) % 24)) | _=>.non)=((List.range m).map fun k:Nat=>DY ((f+k) % 24)).map .str:=by
   unfold EU
   rw [List.nil_append,List.map_map,List.map_map,Int.toNat_natCast]
   refine List.map_congr_left fun k _=>?_
   have:(0+(k:Int)).toNat=k:=by omega
   simp only [Function.comp,this]
  rw [e]
  refine⟨_,_,rfl,Qe _,by rw [List.length_map,List.length_range]; omega,fun ss' hp hs=>p ss' ?_ ?_ ?_⟩
  ·rw [hp.length_eq,List.length_map,List.length_range]
  ·intro y hy
   obtain⟨k,_,rfl⟩:=List.mem_map.mp (hp.mem_iff.mp hy)
   exact MA _ (Nat.mod_lt _ (by decide))
  ·refine De hs (hp.nodup_iff.mpr (JW List.nodup_range fun j hj k hk e=>?_))
   exact RS hm (List.mem_range.mp hj) (List.mem_range.mp hk) (Nq _ _ (Nat.mod_lt _ (by decide)) (Nat.mod_lt _ (by decide)) e)
theorem G3(h:Gm ss n Pd):EN (EE Pd) n (ss++List.replicate 0 .no):=by
 obtain⟨s,rfl,hs,hn,p⟩:=h
 have e6:((10:Int) ^ (6:Int).toNat)=1000000:=by decide
 unfold EN
 refine CY (fun c=>?_) fun _=>?_
 ·have c:s<3:=of_decide_eq_true c
  obtain⟨z,hz,w,rfl,hw⟩:=Qd (p:=fun d=>∃w:Int,d=.int w/\1<=w/\w<=9) (xs:=[D.int 2,D.int 4,D.int 9]) (fun d hd=>by
   simp only [List.mem_cons,List.not_mem_nil,or_false] at hd
   rcases hd with rfl | rfl | rfl <;> exact⟨_,rfl,by decide,by decide⟩) hs (by show s<3; exact c)
  exact⟨(by decide:3<=sizeLine),_,hz,w,rfl,by omega,by omega,hn,fun r r0 r1=>p _ (by omega) (by omega)⟩
 refine CY (fun _=>⟨60,rfl,by decide,by decide,hn,fun r r0 r1=>p _ (by omega) (by omega)⟩) fun _=>?_
 exact⟨⟨by decide,by decide,by decide⟩,3,rfl,by decide,by decide,hn,fun r r0 r1=>p _ (by rw [e6]; omega) (by rw [e6]; omega)⟩
end
def FA(p:Str×Str):D:=.tup [.str p.1,.str p.2]
def Cd(a:Str)(xs:List Str):List (Str×Str):=(xs.filter fun b=>decide (cs a<cs b)).map fun b=>(a,b)
def Bc(pre xs:List Str):List (Str×Str):=pre.flatMap fun a=>Cd a xs
def Qg(a:Str):D->Bool
 | .str b=>decide (cs a<cs b)
 | _=>false
theorem Qf(a:Str)(xs:List Str):[]++((xs.map D.str).filter (Qg a)).map (fun d=>D.tup [.str a,d])=(Cd a xs).map FA:=by
 rw [List.nil_append,List.filter_map,List.map_map]
 unfold Cd
 rw [List.map_map]
 rfl
theorem LW{pre xs:List Str}{p:Str×Str}(h:p∈Bc pre xs):p.1∈pre/\p.2∈xs/\cs p.1<cs p.2:=by
 obtain⟨a,ha,h⟩:=List.mem_flatMap.mp h
 obtain⟨b,hb,rfl⟩:=List.mem_map.mp h
 obtain⟨h1,h2⟩:=List.mem_filter.mp hb
 exact⟨ha,h1,of_decide_eq_true h2⟩
theorem KK{pre xs:List Str}(hp:EV pre)(hx:EV xs):(Bc pre xs).Pairwise eL:=by
 unfold Bc
 rw [List.pairwise_flatMap]
 refine⟨fun a _=>?_,hp.imp fun {a b} h x hx y hy=>?_⟩
 ·unfold Cd
  rw [List.pairwise_map]
  exact(hx.filter _).imp fun {b c} h=>.inr ⟨rfl,h⟩
 ·obtain⟨_,_,rfl⟩:=List.mem_map.mp hx
  obtain⟨_,_,rfl⟩:=List.mem_map.mp hy
  exact .inl h
theorem QW(x:Str):¬cs x<cs x:=List.lt_irrefl _
theorem QL{l:List (Str×Str)}(h:l.Pairwise eL):l.Nodup:=h.imp fun {p q} h e=>by
 subst e
 rcases h with h | ⟨_,h⟩ <;> exact QW _ h
theorem EX{xs:List Str}:∀{pre:List Str},(Bc pre xs).length<=pre.length*xs.length
 | []=>Nat.zero_le _
 | a::pre=>by
  have ih:=@EX xs pre
  show (Cd a xs++Bc pre xs).length<=_
  rw [List.length_append,List.length_cons,Nat.add_mul,Nat.one_mul]
  have:(Cd a xs).length<=xs.length:=by unfold Cd; rw [List.length_map]; exact List.length_filter_le _ _
  omega
theorem FU{α:Type}:∀{l:List α} {k:Nat} {x:α},l[k]?=some x->(x::l.eraseIdx k).Perm l
 | [],k,x,e=>by simp at e
 | a::l,0,x,e=>by cases e; exact .refl _
 | a::l,k+1,x,e=>(List.Perm.swap a x _).trans ((FU (l:=l) e).cons a)
theorem Qb{ts:List BI}(h:IU ts)(nd:(ts.map Kh).Nodup):ts.Pairwise A_:=by
 have h2:ts.Pairwise fun s t=>Kh s≠Kh t:=List.pairwise_map.mp nd
 refine(h.and h2).imp fun {s t} ⟨a,b⟩=>Classical.byContradiction fun c=>?_
 by_cases d:A_ t s
 ·have:=J0 d
  rw [this] at a
  cases a
 ·refine b ?_
  have e:=Cr (QK s) (QK t) (by rw [Bool.eq_false_iff]; exact fun z=>c (ekey_iff.mp z)) (by rw [Bool.eq_false_iff]; exact fun z=>d (ekey_iff.mp z))
  unfold QK at e
  injection e with e1 e2
  injection e2 with e3 _
  injection e1 with e1
  injection e3 with e3
  unfold Kh
  rw [e1,e3]
theorem FM{ts:List BI}{z:D}{P:D->Prop}(hz:Id z=some (ts.map AT))(h64:ts.length<64)(p:∀ts':List BI,ts'.Perm ts->IU ts'->P (.lst (ts'.map AT))):CZ [z] P:=by
 refine⟨z,_,rfl,hz,by rw [List.length_map]; exact h64,⟨fun x hx=>?_,fun x hx y hy ka kb ea eb=>?_⟩,fun xs' hp ho=>?_⟩
 ·obtain⟨t,_,rfl⟩:=List.mem_map.mp hx
  exact⟨By t,rfl,List.cons_ne_nil _ _⟩
 ·obtain⟨t,_,rfl⟩:=List.mem_map.mp hx
  obtain⟨u,_,rfl⟩:=List.mem_map.mp hy
  cases (show some (By t)=some ka from ea)
  cases (show some (By u)=some kb from eb)
  rfl
 ·obtain⟨ts',h1,rfl⟩:=Mw (g:=TX) (fun _=>rfl) hp
  exact p ts' h1 (RJ ho)
theorem Mb{α:Type}{a:List α}{x:α}{l:List α}{k:Nat}(e:l[k]?=some x):((a++[x])++l.eraseIdx k).Perm (a++l):=by
 rw [List.append_assoc]
 exact(FU e).append_left a
section
variable {ss:List Slot}{n:Nat}{Pd:D->Nat->Prop}
theorem Ji{D2:E2}{m:Nat}{xs:List Str}(hl:xs.length<=24){tg:BW}{mk:List D->Slot->List Slot}(body:Ad)
  (hstep:∀(fr:List D) (s:Slot) (a:Str) (nx:Nat->List Slot->Prop),fr.length+24<=1000->(∀s',nx m (mk (fr++(Cd a xs).map FA) s'))->tg (.str a) (mk fr s) fun ρ1=>body { D2 with nx:=nx,ct:=nx,bk:=D2.nx } m ρ1)
  (hend:∀s,D2.nx m (mk ((Bc xs xs).map FA) s)):∀(rest pre:List Str) (s:Slot),pre++rest=xs->Be tg body D2 (rest.map .str) m (mk ((Bc pre xs).map FA) s)
 | [],pre,s,e=>by
  rw [List.append_nil] at e
  subst e
  exact hend s
 | a::rest,pre,s,e=>by
  have hp:=@EX xs pre
  have l1:pre.length<=24:=by rw [← e,List.length_append] at hl; omega
  have l2:pre.length*xs.length<=24*24:=Nat.mul_le_mul l1 hl
  refine hstep _ s a _ (by rw [List.length_map]; omega) fun s'=>?_
  have ih:=Ji hl body hstep hend rest (pre++[a]) s' (by rw [List.append_assoc]; exact e)
  have e2:Bc (pre++[a]) xs=Bc pre xs++Cd a xs:=by unfold Bc; rw [List.flatMap_append]; simp
  rw [e2,List.map_append] at ih
  exact ih
theorem J_(h:Gk ss n Pd):GE (EE Pd) n (ss++List.replicate 8 .no):=by
 obtain⟨most,ties,rfl,hm1,hm2,ht1,ht2,hn,p⟩:=h
 have szl:=PySem.sizeLine_eq
 unfold GE
 refine⟨_,rfl,by omega,by omega,by omega,fun r r0 r1=>?_⟩
 refine⟨(2+r).toNat,by rw [show (((2+r).toNat:Nat):Int)=2+r by omega],by omega,by omega,fun xs hl hx hr=>⟨(by decide:0<=sizeLine),?_⟩⟩
 have hxs:xs.length<=24:=by omega
 refine Ji (m:=n - 1 - 1) hxs (mk:=fun fr s=>[.fd,.sh (.int most),.sh (.int ties),.sh (.tup (xs.map .str)),.ow (.lst fr),s,.no,.no,.no,.no,.no]) _ (fun fr s a nx hfl hnx=>?_) (fun s5=>?_) xs [] .no rfl
 ·refine⟨_,rfl,rfl,by rw [List.length_map]; omega,?_⟩
  refine Do (Qg a) (fun d=>.tup [.str a,d]) (fun ρ=>∃s,ρ=[.sh (.str a),s]) _ _ _ _ ?_ ⟨_,rfl⟩ ?_
  ·rintro d hd ρ m nx2 sk ⟨s2,rfl⟩ h1 h2
   obtain⟨b,hb,rfl⟩:=List.mem_map.mp hd
   refine CY (fun c=>⟨z2,h1 _ ⟨_,rfl⟩ c⟩) fun c=>h2 _ ⟨_,rfl⟩ (Bool.eq_false_iff.mpr c)
  ·rw [Qf]
   have hal:(Cd a xs).length<=24:=by unfold Cd; rw [List.length_map]; exact Nat.le_trans (List.length_filter_le _ _) hxs
   exact⟨fr,_,rfl,rfl,by rw [List.length_map]; omega,hnx _⟩
 refine⟨5,rfl,by decide,by decide,by omega,fun way w0 w1=>?_⟩
 refine⟨⟨by decide,by decide⟩,_,rfl,by omega,by omega,by omega,fun q q0 q1=>?_⟩
 refine⟨6,rfl,by decide,by decide,by omega,fun r6 _ _=>?_⟩
 have rest:∀(many:Int) (n':Nat),0<=many->many<=ties->n - 6<=n'->(Aj (EC 8 (DH AR))
 (Aj (EO (ED (AD (CK Lo (AD (AC 7) (AD (CK C_ (AD (Az 4) AR)) AR))) AR)) (Ak 9) (Aj (Qz 4 (Ag BM (AG (A3 0) (AG (AZ (CK C_ (AD (Az 4) AR))) Ai))) (Gi 2 (A9 (Ak 5) (A9 (Ak 10) Ds))))
 (Jz 8 "list" Eg (AD (Bh (AD (AC 5) (AD (AC 10) (AD (Ag Gm (AG (A3 0) (AG (AZ (AC 6)) Ai))) AR)))) AR))))
 (BZ (Bh (AD (AC 3) (AD (CK Bk (AD (CK CZ (AD (Az 8) AR)) AR)) AR)))))) (EE Pd) n' [.fd,.sh (.int most),.sh (.int ties),.sh (.tup (xs.map .str)),.ow (.lst ((Bc xs xs).map FA)),s5,.sh (.int way),.sh (.int many),.no,.no,.no]:=by
  intro many n' hmany0 hmany hn'
  have pl:=@EX xs xs
  have pl2:xs.length*xs.length<=24*24:=Nat.mul_le_mul hxs hxs
  refine⟨(by decide:0<=sizeLine),_,_,rfl,rfl,?_⟩
  obtain⟨cnt,hcnt⟩:∃cnt:Int,cnt=(if (((Bc xs xs).map FA).length:Int)<many then (((Bc xs xs).map FA).length:Int) else many):=⟨_,rfl⟩
  have hc1:cnt<=many:=by rw [hcnt]; split <;> omega
  have hc2:cnt<=(Bc xs xs).length:=by rw [hcnt,List.length_map]; split <;> omega
  have hc0:0<=cnt:=by rw [hcnt]; split <;> omega
  refine⟨cnt,by rw [hcnt],⟨by omega,by omega⟩,?_⟩
  refine JX (all:=EU 0 cnt.toNat) (fun pre m ρ=>n' - 2*pre.length<=m/\∃(found:List BI) (free:List (Str×Str)) (s5 s9 s10:Slot),found.length=pre.length/\(found.map Kh++free).Perm (Bc xs xs)/\(∀t∈found,1<=t.len/\t.len<=1000000) /\
   ρ=[.fd,.sh (.int most),.sh (.int ties),.sh (.tup (xs.map .str)),.ow (.lst (free.map FA)),s5,.sh (.int way),.sh (.int many),.ow (.lst (found.map AT)),s9,s10]) ?_ ?_ _ [] _ _ rfl ⟨by simp,[],Bc xs xs,_,_,_,rfl,.refl _,(fun _ h=>by cases h),rfl⟩
  ·rintro m ρ ⟨hm,found,free,s5,s9,s10,h1,h2,h3,rfl⟩
   rw [DK] at h1 hm
   show CZ [D.lst (found.map AT)] fun z=>Bk [z] fun y=>2<=sizeLine/\Pd (.tup [.tup (xs.map .str),y]) m
   refine FM (ts:=found) rfl (by omega) fun ts' p1 p2=>?_
   have hmem:∀t∈ts',(t.a∈xs/\t.b∈xs/\cs t.a<cs t.b)/\1<=t.len/\t.len<=1000000:=fun t ht=>by
    have hf:=p1.mem_iff.mp ht
    have:Kh t∈Bc xs xs:=h2.mem_iff.mp (List.mem_append_left _ (List.mem_map_of_mem hf))
    exact⟨LW this,h3 t hf⟩
   have nd:(ts'.map Kh).Nodup:=by
    have a:=h2.nodup_iff.mpr (QL (KK hr hr))
    exact((p1.map Kh).nodup_iff).mpr (List.nodup_append.mp a).1
   refine⟨z2,p ⟨xs,ts'⟩ m ⟨hx,hr,fun t ht=>?_,Qb p2 nd⟩ (by show 2<=xs.length; omega) (by show xs.length<=most; omega) (by show ts'.length<=ties; rw [p1.length_eq]; omega) (by omega)⟩
   obtain⟨⟨a,b,c⟩,d⟩:=hmem t ht
   exact⟨a,b,c,d⟩
  ·rintro pre d post m ρ nx hall ⟨hm,found,free,s5,s9,s10,h1,h2,h3,rfl⟩ hnx
   obtain⟨rfl,hk⟩:=Q_ hall
   have hlen:=h2.length_eq
   rw [List.length_append,List.length_map] at hlen
   rw [List.length_append,List.length_singleton] at hnx
   have hfl:(free.map FA).length=free.length:=List.length_map ..
   refine⟨_,rfl,_,_,rfl,rfl,_,rfl,by omega,by omega,by omega,fun r r0 r1=>?_⟩
   obtain⟨k,rfl⟩:∃k:Nat,r=(k:Int):=⟨r.toNat,by omega⟩
   have hkf:k<free.length:=by omega
   have e1:free[k]?=some free[k]:=List.getElem?_eq_getElem hkf
   refine⟨k,FA free[k],rfl,by rw [List.getElem?_map,e1]; rfl,by omega,rfl,rfl,?_⟩
   refine⟨_,rfl,rfl,way,rfl,w0,by omega,fun l l0 l1=>⟨z3,_,_,rfl,rfl,by rw [List.length_map]; omega,?_⟩⟩
   rw [Ey]
   refine hnx _ _ ⟨by omega,found++[⟨free[k].1,free[k].2,l⟩],free.eraseIdx k,_,_,_,by rw [List.length_append,List.length_singleton]; omega,?_,fun t ht=>?_,by rw [List.map_append]; rfl⟩
   ·rw [List.map_append]
    exact(Mb (a:=found.map Kh) e1).trans h2
   ·rcases List.mem_append.mp ht with ht | ht
    ·exact h3 t ht
    ·rw [List.mem_singleton.mp ht]
     exact⟨l0,l1⟩
 refine CY (fun _=>⟨4,rfl,by decide,by decide,by omega,fun r4 _ _=>rest _ _ (by omega) (by omega) (by omega)⟩) fun _=>rest _ _ (by omega) (by omega) (by omega)
end
def Du:Ad:=(Aj (EC 2 (MB (AC 1) (wC (D.int 0))))
 (Aj (Bl 3 (wC (D.bl true)))
 (Aj (HN (Af (AC 3)) (Aj (Bl 3 (wC (D.bl false)))
 (Rv 0 (Gi 3 (A9 (Ak 4) (A9 (Ak 5) (A9 (Ak 6) Ds)))) (EO (BY (DH (AD (Bh (AD (AC 4) (AD (AC 5) AR))) (AD (Bh (AD (AC 5) (AD (AC 4) AR))) AR)))) (Gi 2 (A9 (Ak 7) (A9 (Ak 8) Ds))) (Bx (HQ (Af (AV (Kc false) (AC 7) (Az 2))) (Af (AV FT (AV Ax (AV CT (Az 2) (AC 7)) (AC 6)) (Os (Az 2) (AC 8) (AV (Rf Mt fun i j=>D.int (i ^ j.toNat)) (wC (D.int 10)) (wC (D.int 20))))))) (Aj (Dn 2 (AC 8) (AV Ax (AV CT (Az 2) (AC 7)) (AC 6)))
 (Bl 3 (wC (D.bl true)))) BN)))))
 (LC 2))))
def Eo:Ad:=(Aj (Bl 1 (CK CZ (AD (Cg [none] (BY (AC 0)) (Ak 0) E4 (Bh (AD (AV BC (AC 0) (wC (D.int 2))) (AD (AV BC (AC 0) (wC (D.int 0))) (AD (AV BC (AC 0) (wC (D.int 1))) AR))))) AR)))
 (BZ (Cg [none,none,none] (BY (AC 1)) (Gi 3 (A9 (Ak 0) (A9 (Ak 1) (A9 (Ak 2) Ds)))) E4 (Bh (AD (AC 1) (AD (AC 2) (AD (AC 0) AR)))))))
abbrev Qc:Ad:=(Bx (HQ (Af (AV (Kc false) (AC 7) (Az 2))) (Af (AV FT (AV Ax (AV CT (Az 2) (AC 7)) (AC 6)) (Os (Az 2) (AC 8) (AV (Rf Mt fun i j=>D.int (i ^ j.toNat)) (wC (D.int 10)) (wC (D.int 20))))))) (Aj (Dn 2 (AC 8) (AV Ax (AV CT (Az 2) (AC 7)) (AC 6)))
 (Bl 3 (wC (D.bl true)))) BN)
theorem WC:((10:Int) ^ (20:Int).toNat)=100000000000000000000:=by decide +kernel
section
variable {ss:List Slot}{n:Nat}{Pd:D->Nat->Prop}
theorem GO(h:CH ss n Pd):Du (EF Pd) n (ss++List.replicate 7 .no):=by
 obtain⟨N,s,zz,us,rfl,hzz,hus,okn,hs,p⟩:=h
 have szl:=PySem.sizeLine_eq
 have ok:=okn.1
 have l25:=okn.2.1
 unfold Du
 refine⟨_,A6 s,?_⟩
 have step:∀(D3:E2) (x y:Str) (l:Int),Ed N x y l->∀(ks:List AY) (ds:List D) (K:Kn) (g:Bool) (s4 s5 s7 s8:Slot),Dmap ks ds D.int K->Bf N s ks.length K ->
   (∀(ks':List AY) (ds':List D) (K':Kn) (g':Bool) (t7 t8:Slot),Dmap ks' ds' D.int K'->Bf N s ks'.length K'->((g'=g/\K'=K/\HV K (x,y,l))\/(g'=true/\Oh N.ps K'<Oh N.ps K)) ->
    D3.nx n [.br zz,.sh (.str s),.ow (.dic ks' ds'),.sh (.bl g'),s4,s5,.sh (.int l),t7,t8]) ->
   Qc D3 n [.br zz,.sh (.str s),.ow (.dic ks ds),.sh (.bl g),s4,s5,.sh (.int l),.sh (.str x),.sh (.str y)]:=by
  intro D3 x y l he ks ds K g s4 s5 s7 s8 M B hD
  have kl:=M.le B.ins
  refine⟨ks,ds,_,rfl,A6 x,?_⟩
  show if ((Bb ks ds (.inr x)).isSome)=true then _ else _
  cases ex:K x with
  | none =>
   rw [M.at_,ex]
   exact E5 (hD ks ds K g _ _ M B (.inl ⟨rfl,rfl,fun d e=>by rw [show K x=some d from e] at ex; cases ex⟩))
  | some d =>
   have top:=B.top x d ex
   have lp:=(he.pos ok).2
   rw [M.at_,ex]
   refine Ef ⟨ks,ds,_,_,rfl,A6 x,by rw [M.at_,ex]; rfl,?_⟩
   refine⟨ks,ds,rfl,⟨by decide,by decide,by decide⟩,_,A6 y,?_⟩
   have put:(K y=none\/∃d',K y=some d'/\d+l<d')->(Aj (Dn 2 (AC 8) (AV Ax (AV CT (Az 2) (AC 7)) (AC 6))) (Bl 3 (wC (D.bl true)))) D3 n [.br zz,.sh (.str s),.ow (.dic ks ds),.sh (.bl g),s4,s5,.sh (.int l),.sh (.str x),.sh (.str y)]:=fun hy=>by
    refine⟨ks,ds,rfl,ks,ds,_,.int d,rfl,A6 x,by rw [M.at_,ex]; rfl,_,A6 y,by omega,?_⟩
    have hlen:=Hk ks (.inr y)
    have key:=B.put ok (c':=(Cz ks (.inr y)).length) (by rw [hlen]; split <;> omega) (by rw [hlen]; split <;> omega) ex he (fun e=>by rw [hlen,if_neg (by rw [(M.has (x:=y)).1 e]; decide)]) (fun d' e=>by
     rcases hy with hy | ⟨d2,hy,hlt⟩
     ·rw [e] at hy; cases hy
     ·rw [e] at hy; cases hy; exact hlt)
    exact hD _ _ _ true _ _ (M.put y (d+l)) key.1 (.inr ⟨rfl,key.2⟩)
   rw [M.at_]
   cases ey:K y with
   | none =>
    show if decide (d+l<(10:Int) ^ (20:Int).toNat)=true then _ else _
    rw [decide_eq_true (by rw [WC]; omega)]
    exact Ef (put (.inl ey))
   | some d' =>
    show if decide (d+l<d')=true then _ else _
    by_cases c:d+l<d'
    ·rw [decide_eq_true c]
     exact Ef (put (.inr ⟨d',ey,c⟩))
    ·rw [decide_eq_false c]
     refine E5 (hD ks ds K g _ _ M B (.inl ⟨rfl,rfl,fun d2 e=>?_⟩))
     rw [show K x=some d2 from e] at ex
     cases ex
     exact⟨d',ey,by show d'<=d+l; omega⟩
 refine GL (fun m n' ρ=>n'=n/\∃(ks:List AY) (ds:List D) (K:Kn) (g:Bool) (s4 s5 s6 s7 s8:Slot),ρ=[.br zz,.sh (.str s),.ow (.dic ks ds),.sh (.bl g),s4,s5,s6,s7,s8]/\Dmap ks ds D.int K/\Bf N s ks.length K/\((g=true/\m=Oh N.ps K+1)\/(g=false/\m=0/\∀t∈N.ts,HV K (t.a,t.b,t.len)/\HV K (t.b,t.a,t.len)))) _ ⟨rfl,_,_,_,true,_,_,_,_,_,rfl,Dmap.one (enc:=D.int) (a:=(0:Int)),Bf.init hs,.inl ⟨rfl,rfl⟩⟩ ?_ ?_
 ·rintro m n' ρ N' ⟨rfl,ks,ds,K,g,s4,s5,s6,s7,s8,rfl,M,B,hg⟩ hN
  rcases hg with ⟨rfl,hm⟩ | ⟨rfl,_,ht⟩
  ·have outer:∀(rest done:List BI) (ks:List AY) (ds:List D) (K':Kn) (g:Bool) (s4 s5 s6 s7 s8:Slot),done++rest=us->Dmap ks ds D.int K'->Bf N s ks.length K'->((g=true/\Oh N.ps K'<Oh N.ps K)\/(g=false/\Oh N.ps K'<=Oh N.ps K/\∀t∈done,HV K' (t.a,t.b,t.len)/\HV K' (t.b,t.a,t.len))) ->
     Be (Gi 3 (A9 (Ak 4) (A9 (Ak 5) (A9 (Ak 6) Ds)))) (EO (BY (DH (AD (Bh (AD (AC 4) (AD (AC 5) AR))) (AD (Bh (AD (AC 5) (AD (AC 4) AR))) AR)))) (Gi 2 (A9 (Ak 7) (A9 (Ak 8) Ds))) Qc) { EF Pd with nx:=N',ct:=N',bk:=LC 2 (EF Pd) } (rest.map AT) n' [.br zz,.sh (.str s),.ow (.dic ks ds),.sh (.bl g),s4,s5,s6,s7,s8]:=by
    intro rest
    induction rest with
    | nil =>
     intro done ks ds K' g s4 s5 s6 s7 s8 e M B hg
     rw [List.append_nil] at e
     subst e
     rcases hg with ⟨rfl,hlt⟩ | ⟨rfl,_,ht⟩
     ·exact hN (Oh N.ps K'+1) _ _ (by omega) ⟨rfl,ks,ds,K',true,_,_,_,_,_,rfl,M,B,.inl ⟨rfl,rfl⟩⟩
     ·exact hN 0 _ _ (by omega) ⟨rfl,ks,ds,K',false,_,_,_,_,_,rfl,M,B,.inr ⟨rfl,rfl,fun t h=>ht t ((hus t).mpr h)⟩⟩
    | cons t rest ih =>
     intro done ks ds K' g s4 s5 s6 s7 s8 e M B hg
     have hmem:t∈N.ts:=(hus t).mp (by rw [← e]; exact List.mem_append_right _ List.mem_cons_self)
     have e':(done++[t])++rest=us:=by rw [List.append_assoc]; exact e
     have ed:=Ki hmem
     refine⟨rfl,rfl,z2,z2,z2,?_⟩
     refine⟨rfl,rfl,?_⟩
     refine step _ t.a t.b t.len ed.1 ks ds K' g _ _ s7 s8 M B fun ks1 ds1 K1 g1 t7 t8 M1 B1 h1=>?_
     refine⟨rfl,rfl,?_⟩
     refine step _ t.b t.a t.len ed.2 ks1 ds1 K1 g1 _ _ t7 t8 M1 B1 fun ks2 ds2 K2 g2 u7 u8 M2 B2 h2=>?_
     refine ih (done++[t]) ks2 ds2 K2 g2 _ _ _ _ _ e' M2 B2 ?_
     rcases h1 with ⟨rfl,rfl,t1⟩ | ⟨rfl,lt1⟩
     ·rcases h2 with ⟨rfl,rfl,t2⟩ | ⟨rfl,lt2⟩
      ·rcases hg with z | ⟨z1,z2,z3⟩
       ·exact .inl z
       ·refine .inr ⟨z1,z2,fun u hu=>?_⟩
        rcases List.mem_append.mp hu with hu | hu
        ·exact z3 u hu
        ·rw [List.mem_singleton.mp hu]; exact⟨t1,t2⟩
      ·refine .inl ⟨rfl,?_⟩
       rcases hg with ⟨_,z⟩ | ⟨_,z,_⟩ <;> omega
     ·have base:Oh N.ps K1<Oh N.ps K:=by rcases hg with ⟨_,z⟩ | ⟨_,z,_⟩ <;> omega
      rcases h2 with ⟨rfl,rfl,t2⟩ | ⟨rfl,lt2⟩
      ·exact .inl ⟨rfl,base⟩
      ·exact .inl ⟨rfl,by omega⟩
   exact⟨zz,_,rfl,hzz,outer us [] ks ds K false _ _ _ _ _ rfl M B (.inr ⟨rfl,Nat.le_refl _,fun t h=>by cases h⟩)⟩
  ·exact⟨_,rfl,p ks ds K M (B.told ok (by have:=M.le B.ins; omega) ht)⟩
 ·rintro n' ρ P Q hPQ h
  unfold Af AC at h ⊢
  split at h
  ·rename_i d hd
   cases d with
   | bl b=>exact hPQ _ _ h
   | _=>exact h.elim
  ·exact h.elim
theorem Hd(h:IY ss n Pd):Eo (EF Pd) n (ss++List.replicate 1 .no):=by
 obtain⟨d,ts,rfl,hd,h64,p⟩:=h
 have szl:=PySem.sizeLine_eq
 unfold Eo
 have go:(ts.map AT).length<=10000000/\Da (Ak 0) E4 (Bh (AD (AV BC (AC 0) (wC (D.int 2))) (AD (AV BC (AC 0) (wC (D.int 0))) (AD (AV BC (AC 0) (wC (D.int 1))) AR)))) (fun acc n2=>CZ [.lst acc] fun z=>BY (wC z) n2 [] fun ds n1=>ds.length<=10000000/\Da (Gi 3 (A9 (Ak 0) (A9 (Ak 1) (A9 (Ak 2) Ds)))) E4 (Bh (AD (AC 1) (AD (AC 2) (AD (AC 0) AR)))) (fun acc n2=>Pd (.lst acc) n2) ds [] n1 [.no,.no,.no]) (ts.map AT) [] n [.no]:=by
  refine⟨by rw [List.length_map]; omega,?_⟩
  refine CS PN (fun ρ=>∃s,ρ=[s]) _ _ _ _ ?_ ⟨_,rfl⟩ ?_
  ·rintro d hd ρ m nx ⟨s,rfl⟩ hnx
   obtain⟨t,ht,rfl⟩:=List.mem_map.mp hd
   exact⟨_,AH (j:=2) rfl,_,AH (j:=0) rfl,_,AH (j:=1) rfl,z3,hnx _ ⟨_,rfl⟩⟩
  rw [List.nil_append,List.map_map]
  refine⟨_,_,rfl,rfl,by rw [List.length_map]; exact h64,⟨fun x hx=>?_,fun x hx y hy ka kb ea eb=>?_⟩,fun xs' hp ho=>?_⟩
  ·obtain⟨t,_,rfl⟩:=List.mem_map.mp hx
   exact⟨O6 t,rfl,List.cons_ne_nil _ _⟩
  ·obtain⟨t,_,rfl⟩:=List.mem_map.mp hx
   obtain⟨u,_,rfl⟩:=List.mem_map.mp hy
   cases (show some (O6 t)=some ka from ea)
   cases (show some (O6 u)=some kb from eb)
   rfl
  ·obtain⟨ts',h1,rfl⟩:=Mw (f:=PN∘AT) (g:=fun d=>match d with | .tup [.int l,.str a,.str b]=>⟨a,b,l⟩ | _=>⟨"","",0⟩) (fun _=>rfl) hp
   have ho:Mo ts':=by
    unfold Jw at ho
    rw [List.pairwise_map] at ho
    exact ho.imp fun {s t} z=>z _ _ rfl rfl
   refine⟨by show (ts'.map (PN∘AT)).length<=10000000; rw [List.length_map,h1.length_eq]; omega,?_⟩
   refine CS (fun d=>match d with | .tup [l,a,b]=>.tup [a,b,l] | d=>d) (fun ρ=>∃a b c,ρ=[a,b,c]) _ _ _ _ ?_ ⟨_,_,_,rfl⟩ ?_
   ·rintro d hd ρ m nx ⟨a,b,c,rfl⟩ hnx
    obtain⟨t,ht,rfl⟩:=List.mem_map.mp hd
    exact⟨rfl,rfl,z3,hnx _ ⟨_,_,_,rfl⟩⟩
   ·rw [List.nil_append,List.map_map]
    exact p ts' h1 ho
 cases d with
 | lst ys=>cases hd; exact go
 | tup ys=>cases hd; exact go
 | _=>cases hd
end
end Nt
namespace L2
open PySem PySem.Spec PyProof.Rows
section
variable {X:Cx}
end
end L2
namespace Dp
open PySem PySem.Spec PyProof.Rows L2
section
variable {X:Cx}{a tg:Expr}{κa:Kd}{wa:DW}
def Ru(wa:DW):DW:=fun n ρ P=>wa n ρ fun d n1=>∃ks ds,d=.dic ks ds/\CW ds=true/\P (.fdi ks ds) n1
mutual
theorem At.frz{K:Frag}{M:Addr->Prop}{H:Hp}{a:Addr}{f:Addr->Obj}{kvs:List (AY×V)}(ha:H a=some (.dK kvs)):∀{d:D} {v:V},FB d=true->At K M H d v->At K M (E6 H [a] f) d v
 | .non,v,_,h=>h
 | .bl b,v,_,h=>h
 | .int i,v,_,h=>h
 | .str x,v,_,h=>h
 | .tup ds,v,hn,h=>by
  obtain⟨b,vs,e,⟨n1,n2⟩,hs⟩:=h
  refine⟨b,vs,e,⟨n1,?_⟩,Ats.frz ha hn hs⟩
  rw [DN fun z=>by rw [List.mem_singleton.mp z,ha] at n2; cases n2]
  exact n2
 | .lst ds,v,hn,h=>by
  obtain⟨b,vs,e,⟨n1,n2⟩,hs⟩:=h
  refine⟨b,vs,e,⟨n1,?_⟩,Ats.frz ha hn hs⟩
  rw [DN fun z=>by rw [List.mem_singleton.mp z,ha] at n2; cases n2]
  exact n2
 | .dic _ _,v,hn,h=>by cases hn
 | .fdi _ _,v,hn,h=>by cases hn
theorem Ats.frz{K:Frag}{M:Addr->Prop}{H:Hp}{a:Addr}{f:Addr->Obj}{kvs:List (AY×V)}(ha:H a=some (.dK kvs)):∀{ds:List D} {vs:List V},CW ds=true->Ats K M H ds vs->Ats K M (E6 H [a] f) ds vs
 | [],vs,_,h=>h
 | d::ds,vs,hn,h=>by
  obtain⟨v,r,e,h1,h2⟩:=h
  have hn:(FB d&&CW ds)=true:=hn
  rw [Bool.and_eq_true] at hn
  exact⟨v,r,e,At.frz ha hn.1 h1,Ats.frz ha hn.2 h2⟩
end
theorem TZ(ha:DE X a .fr wa):DE X a .sh (Ru wa):=by
 obtain⟨t,a1,a2⟩:=ha
 refine⟨_,Pl a1,fun C M H n ρ σ P Q R w q=>?_⟩
 refine a2 C M H n ρ σ _ _ R w fun v H1 d n1 e1 f1 r1 p=>?_
 obtain⟨ks,ds,rfl,hnd,p⟩:=p
 obtain⟨b,rfl,hb,vs,hH,hl,hs⟩:=r1
 refine⟨[b],fun c hc=>by rw [List.mem_singleton.mp hc]; exact⟨_,hH⟩,fun f=>?_⟩
 have nM:¬M b:=fun z=>by obtain⟨o,w⟩:=R.dom b z; rw [hb] at w; cases w
 have out:∀{c:Addr},c≠b->E6 H1 [b] f c=H1 c:=fun h=>DN fun z=>h (List.mem_singleton.mp z)
 refine q _ _ (.fdi ks ds) n1 (fun c o ec=>?_) ?_ ⟨b,vs,rfl,⟨f b,nM,Ka (List.mem_singleton.mpr rfl) hH⟩,hl,Ats.frz hH hnd ?_⟩ p
 ·have nb:c≠b:=BB ec hb
  obtain⟨o1,z1,k1⟩:=e1 c o ec
  exact⟨o1,by rw [out nb]; exact z1,k1⟩
 ·intro g hg
  obtain⟨at_,rest,cells,h1,h2,⟨n3,h3⟩,h4⟩:=f1 g hg
  exact⟨at_,rest,cells,by rw [out fun z=>by rw [z,hH] at h1; cases h1]; exact h1,h2,⟨n3,by rw [out fun z=>by rw [z,hH] at h3; cases h3]; exact h3⟩,h4⟩
 ·exact hs.pres (Pres.less (M':=M) fun _ z=>.inl z)
def QE(ds:List D)(P:D->Prop):Prop:=∃d ks es,ds=[d]/\Gx d=some (ks,es)/\ks.length=es.length/\P (.int (ks.length:Int))
theorem Jn:C8 X (.builtin "len") (fun xs H Q=>∃a kvs,xs=[V.ref a]/\Rd H a (.dK kvs)/\Q (.int kvs.length) H):=by
 intro pins s σ H xs us Q I r h
 obtain⟨a,kvs,rfl,ha,q⟩:=h
 obtain⟨u,rfl,ru⟩:=Fc r
 cases ru
 exact Ut I ha fun t s' I'=>⟨.int kvs.length,H,I',⟨t,rfl⟩,q⟩
theorem Qi:Dd X.K .sh (fun xs H Q=>∃a kvs,xs=[V.ref a]/\Rd H a (.dK kvs)/\Q (.int kvs.length) H) QE:=by
 intro U M H ds vs P Q dom vM hp w q
 obtain⟨d,ks,es,rfl,hd,l1,w⟩:=w
 obtain⟨v,rfl,hx⟩:=EY hp
 obtain⟨a,us,rfl,ha,hs⟩:=FV hd hx
 have m1:=hs.length
 refine⟨a,_,rfl,ha,?_⟩
 rw [show (ks.zip us).length=ks.length by rw [List.length_zip]; omega]
 exact q _ H (.int _) .refl rfl w
end
end Dp
namespace L2
open PySem PySem.Spec PyProof.Rows
section
variable {prog:Program}{w:World}{A:Around}{E:Value->Shared->Prop}{s:Shared}{x y:Str}{t u:Tok}
end
section
variable {X:Cx}
end
end L2
namespace Dp
open PySem PySem.Spec PyProof.Rows L2
section
variable {K:Frag}
end
end Dp
namespace Nt
open PySem PySem.Spec PyProof.Rows L2 Dp
structure V3 (N:Net) (s:Str) (F:L9) (c:Nat) (T:List BI):Prop where
 ins:∀t∈T,t∈N.ts
 nd:T.Nodup
 many:T.length+1=c
 wk:∀x d q,F x=some (d,q)->Wk (sub N T) s x d
def Dv:Ad:=(Aj (Bx (Fb (EG (Af (GM "tuple" (AC 1)))) (Fb (Af (AV Mi (CK C_ (AD (AC 1) AR)) (wC (D.int 2)))) (Fb (Af (AV Mi (AV BC (AC 1) (wC (D.int 0))) (AV BC (AC 0) (wC (D.int 0))))) (EG (Af (GM "tuple" (AV BC (AC 1) (wC (D.int 1))))))))) (BZ (wC (D.bl false))) BN)
 (Aj (EO (BY (AV BC (AC 1) (wC (D.int 1)))) (Ak 2) (Bx (Fb (EG (Af (GM "tuple" (AC 2)))) (Fb (Af (AV Mi (CK C_ (AD (AC 2) AR)) (wC (D.int 3)))) (Fb (EG (Af (Ag Di (AG (AZ (AV BC (AC 2) (wC (D.int 2)))) Ai)))) (Af (AV (QF true) (AC 2) (AV BC (AC 0) (wC (D.int 1)))))))) (BZ (wC (D.bl false))) BN))
 (BZ (CK Lq (AD (Cg [some 1,none] (ED (AD (AV Dr (CK C_ (AD (AV BC (AC 1) (wC (D.int 1))) AR)) (wC (D.int 1))) AR)) (Ak 1) E4 (AV FT (AV BC (AV BC (AC 0) (wC (D.int 1))) (AC 1)) (AV BC (AV BC (AC 0) (wC (D.int 1))) (AV Ax (AC 1) (wC (D.int 1)))))) AR)))))
theorem QM{α:Type}{ks:List AY}{ds:List D}{enc:α->D}{F:Str->Option α}(M:Dmap ks ds enc F){i:Nat}{d:D}{y:Str}(hd:ds[i]?=some d)(hk:ks[i]?=some (.inr y)):∃a,d=enc a/\F y=some a:=by
 have nd:=M.nd
 have key:∀(ks:List AY) (ds:List D) (i:Nat),ks.Nodup->ks[i]?=some (.inr y)->ds[i]?=some d->Bb ks ds (.inr y)=some d:=by
  intro ks
  induction ks with
  | nil=>intro ds i _ h _; simp at h
  | cons k ks ih =>
   intro ds i nd h1 h2
   cases ds with
   | nil=>simp at h2
   | cons e ds =>
    rw [List.nodup_cons] at nd
    cases i with
    | zero =>
     cases h1
     cases h2
     show (if (Sum.inr y:AY)=.inr y then some d else _)=_
     rw [if_pos rfl]
    | succ i =>
     have h1:ks[i]?=some (.inr y):=h1
     have h2:ds[i]?=some d:=h2
     have hne:k≠.inr y:=fun z=>nd.1 (by rw [z]; exact List.mem_of_getElem? h1)
     show (if k=.inr y then some e else Bb ks ds (.inr y))=_
     rw [if_neg hne]
     exact ih ds i nd.2 h1 h2
 have h:=key ks ds i nd hk hd
 rw [M.at_] at h
 obtain⟨a,e1,e2⟩:=Option.map_eq_some_iff.mp h
 exact⟨a,e2.symm,e1⟩
theorem QN{α:Type}{ks:List AY}{ds:List D}{enc:α->D}{F:Str->Option α}(M:Dmap ks ds enc F){i:Nat}{d:D}{y:Str}(hd:ds[i]?=some d)(hk:ks[i]?=some (.inr y)):∃a,d=enc a:=let ⟨a,e,_⟩:=QM M hd hk; ⟨a,e⟩
section
variable {ss:List Slot}{n:Nat}{Pd:D->Nat->Prop}
end
inductive Cn (K:List BI) (x:Str):Str->Prop
 | refl:Cn K x x
 | step {y z:Str}:Cn K x y->(∃t∈K,(t.a=y/\t.b=z)\/(t.b=y/\t.a=z))->Cn K x z
theorem Cn.trans{K:List BI}{x y z:Str}(h:Cn K x y)(g:Cn K y z):Cn K x z:=by
 induction g with
 | refl=>exact h
 | step _ e ih=>exact .step ih e
theorem Cn.tie{K:List BI}{t:BI}(h:t∈K):Cn K t.a t.b/\Cn K t.b t.a:=⟨.step .refl ⟨t,h,.inl ⟨rfl,rfl⟩⟩,.step .refl ⟨t,h,.inr ⟨rfl,rfl⟩⟩⟩
theorem Cn.symm{K:List BI}{x y:Str}(h:Cn K x y):Cn K y x:=by
 induction h with
 | refl=>exact .refl
 | step _ e ih =>
  obtain⟨t,ht,e⟩:=e
  refine Cn.trans (.step .refl ⟨t,ht,?_⟩) ih
  exact e.elim (fun e=>.inr ⟨e.2,e.1⟩) fun e=>.inl ⟨e.2,e.1⟩
theorem Cn.bridge{K K':List BI}(hk:∀t∈K,Cn K' t.a t.b){x y:Str}(h:Cn K x y):Cn K' x y:=by
 induction h with
 | refl=>exact .refl
 | step _ e ih =>
  obtain⟨t,ht,⟨rfl,rfl⟩ | ⟨rfl,rfl⟩⟩:=e
  ·exact ih.trans (hk t ht)
  ·exact ih.trans (hk t ht).symm
theorem Cn.mono{K K':List BI}(hk:∀t∈K,t∈K'){x y:Str}(h:Cn K x y):Cn K' x y:=h.bridge fun t ht=>(Cn.tie (hk t ht)).1
theorem Cn.add{B K:List BI}{t:BI}(hk:∀s∈K,s∈B\/s=t){x y:Str}(h:Cn K x y):Cn B x y\/(Cn B x t.a/\Cn B t.b y)\/(Cn B x t.b/\Cn B t.a y):=by
 induction h with
 | refl=>exact .inl .refl
 | step _ e ih =>
  obtain⟨s,hs,e⟩:=e
  rcases hk s hs with hb | rfl
  ·have st:∀{w y z:Str},((s.a=y/\s.b=z)\/(s.b=y/\s.a=z))->Cn B w y->Cn B w z:=fun e h=>.step h ⟨s,hb,e⟩
   rcases ih with h | ⟨h1,h2⟩ | ⟨h1,h2⟩
   ·exact .inl (st e h)
   ·exact .inr (.inl ⟨h1,st e h2⟩)
   ·exact .inr (.inr ⟨h1,st e h2⟩)
  ·rcases e with ⟨rfl,rfl⟩ | ⟨rfl,rfl⟩
   ·rcases ih with h | ⟨h1,h2⟩ | ⟨h1,h2⟩
    ·exact .inr (.inl ⟨h,.refl⟩)
    ·exact .inr (.inl ⟨h1,.refl⟩)
    ·exact .inl h1
   ·rcases ih with h | ⟨h1,h2⟩ | ⟨h1,h2⟩
    ·exact .inr (.inr ⟨h,.refl⟩)
    ·exact .inl h1
    ·exact .inr (.inr ⟨h1,.refl⟩)
theorem Wk.cn{N:Net}(ok:N.Ok){s x:Str}{d:Int}(h:Wk N s x d):Cn N.ts s x:=by
 induction h with
 | nil=>exact .refl
 | snoc _ he ih =>
  obtain⟨t,ht,_,e⟩:=he.tie ok
  exact .step ih ⟨t,ht,e⟩
theorem Cn.wk{N:Net}{s x:Str}(h:Cn N.ts s x):∃d,Wk N s x d:=by
 induction h with
 | refl=>exact⟨0,.nil⟩
 | step _ e ih =>
  obtain⟨d,hd⟩:=ih
  obtain⟨t,ht,⟨rfl,rfl⟩ | ⟨rfl,rfl⟩⟩:=e
  ·exact⟨_,.snoc hd (Ki ht).1⟩
  ·exact⟨_,.snoc hd (Ki ht).2⟩
theorem TR{N:Net}(ok:N.Ok){a b:Str}{o:Option Int}(h:V6 N a b o):o=none↔¬Cn N.ts a b:=by
 cases o with
 | none=>exact⟨fun _ z=>by obtain⟨d,hd⟩:=z.wk; exact h d hd,fun _=>rfl⟩
 | some d=>exact⟨(fun z=>by cases z),fun z=>absurd (Wk.cn ok (show Wk N a b d from h.1)) z⟩
noncomputable def VG(K:List BI)(x y:Str):Bool:=@decide (Cn K x y) (Classical.propDecidable _)
theorem cnB_iff{K:List BI}{x y:Str}:VG K x y=true↔Cn K x y:=by
 unfold VG
 exact @decide_eq_true_iff _ (Classical.propDecidable _)
noncomputable def Hx:List BI->List BI->List BI
 | kept,[]=>kept
 | kept,u::r=>if VG kept u.a u.b=true then Hx kept r else Hx (kept++[u]) r
theorem OQ{kept r:List BI}{u:BI}:Hx kept (u::r)=if VG kept u.a u.b=true then Hx kept r else Hx (kept++[u]) r:=rfl
end Nt
namespace Dp
open PySem PySem.Spec PyProof.Rows L2
section
variable {X:Cx}{pos:Pos}
def Ot:DW:=fun n _ P=>P (.dic [] []) n
theorem QT:DE X (.Dict [] [] pos) .fr Ot:=by
 refine⟨_,Hn,fun C M H n ρ σ P Q R w q=>fun p hp=>?_⟩
 have g:Grow H (BA H p (.dK [])):=Av hp
 exact q _ _ (.dic [] []) n g.ext (R.feed.grow g) ⟨p,rfl,hp,[],Ab,rfl,rfl⟩ w
end
section
variable {X:Cx}{κe:Kd}{tg elt iter:Expr}{ifs:List Expr}{sc:Scope}{pos:Pos}{src:GJ}{b:BW}{tt:HL}{te:DW}
end
end Dp
namespace Nt
open PySem PySem.Spec PyProof.Rows L2 Dp
def G2:W2:=fun ss n P=>∃N:Net,ss=[.sh (enc N)]/\Ft N/\∀ord:List BI,ord.Perm N.ts->Mo ord->P (enc (sub N (Hx [] ord))) n
def Go:W2:=fun ss n P=>∃N:Net,ss=[.fd,.sh (enc N)]/\Ft N/\N.ts.length<=n/\∀(ts:List BI) (n':Nat),(∀t∈ts,t∈N.ts)->ts.Pairwise A_->(∀u∈N.ts,Cn ts u.a u.b)->n - N.ts.length<=n'->P (enc ⟨N.ps,ts⟩) n'
def C7:Ad:=(Aj (EC 1 Ot)
 (Aj (EO (BY (AV BC (AC 0) (wC (D.int 0)))) (Ak 2) (Dn 1 (AC 2) (AC 2)))
 (Aj (EC 3 (DH AR))
 (Aj (EO (BY (Ag IY (AG (AZ (AV BC (AC 0) (wC (D.int 1)))) Ai))) (Ak 4) (Aj (Bl 5 (AV CT (Az 1) (AV BC (AC 4) (wC (D.int 0)))))
 (Aj (Bl 6 (AV CT (Az 1) (AV BC (AC 4) (wC (D.int 1)))))
 (Bx (Af (AV (G8 true) (AC 5) (AC 6))) (Aj (Jz 3 "list" Eg (AD (AC 4) AR))
 (EO (BY (AV BC (AC 0) (wC (D.int 0)))) (Ak 2) (Bx (Af (AV (G8 false) (AV CT (Az 1) (AC 2)) (AC 6))) (Dn 1 (AC 2) (AC 5)) BN))) BN))))
 (BZ (Bh (AD (AV BC (AC 0) (wC (D.int 0))) (AD (CK Bk (AD (CK CZ (AD (Az 3) AR)) AR)) AR))))))))
def Dc:Ad:=(Aj (EC 2 (CK Gb (AD (AV BC (AC 1) (wC (D.int 1))) AR)))
 (Aj (EC 3 (DH AR))
 (Aj (HN (Af (AV Mi (Az 2) (DH AR))) (Aj (Qz 2 (Ag BM (AG (A3 0) (AG (AZ (CK C_ (AD (Az 2) AR))) Ai))) (Ak 4))
 (Bx (Af (AV (Kc true) (AV BC (AC 4) (wC (D.int 1))) (Ag CH (AG (FL (Az 3)) (AG (AZ (AV BC (AC 4) (wC (D.int 0)))) Ai))))) (Jz 3 "list" Eg (AD (AC 4) AR)) BN)))
 (BZ (Bh (AD (AV BC (AC 1) (wC (D.int 0))) (AD (CK Bk (AD (CK CZ (AD (Az 3) AR)) AR)) AR)))))))
theorem Sd{N:Net}{kept:List BI}(hk:∀t∈kept,t∈N.ts){x y:Str}:Cn (sub N kept).ts x y↔Cn kept x y :=
 ⟨fun h=>h.mono fun t ht=>(sub_mem.mp ht).2,fun h=>h.mono fun t ht=>sub_mem.mpr ⟨hk t ht,ht⟩⟩
section
variable {ss:List Slot}{n:Nat}{Pd:D->Nat->Prop}
structure Pcs (N:Net) (ks:List AY) (ds:List D) (F:Str->Option Str):Prop where
 m:Dmap ks ds D.str F
 i:∀x,F x≠none->x∈N.ps
theorem Pcs.put{N:Net}{ks:List AY}{ds:List D}{F:Str->Option Str}(h:Pcs N ks ds F){x:Str}(hx:x∈N.ps)(a:Str):Pcs N (Cz ks (.inr x)) (C4 ks ds (.inr x) (.str a)) (Fi F x a):=⟨h.m.put x a,fun y hy=>by
 by_cases e:y=x
 ·rw [e]; exact hx
 ·rw [BJ e] at hy; exact h.i y hy⟩
theorem Pcs.len{N:Net}(okn:Ft N){ks:List AY}{ds:List D}{F:Str->Option Str}(h:Pcs N ks ds F):ks.length<sizeLine:=by
 have:=h.m.le h.i
 have:=okn.2.1
 rw [PySem.sizeLine_eq]
 omega
theorem JT{N:Net}(okn:Ft N){D2:E2}{s0 s3 s4 s5 s6:Slot}:∀(rest done:List Str) (ks:List AY) (ds:List D) (F:Str->Option Str) (s2:Slot),done++rest=N.ps->Pcs N ks ds F->(∀x∈done,F x=some x) ->
  (∀ks ds F s2,Pcs N ks ds F->(∀x∈N.ps,F x=some x)->D2.nx n [s0,.ow (.dic ks ds),s2,s3,s4,s5,s6])->Be (Ak 2) (Dn 1 (AC 2) (AC 2)) D2 (rest.map .str) n [s0,.ow (.dic ks ds),s2,s3,s4,s5,s6]
 | [],done,ks,ds,F,s2,e,h,ht,hD=>by
  rw [List.append_nil] at e
  subst e
  exact hD ks ds F s2 h ht
 | x::rest,done,ks,ds,F,s2,e,h,ht,hD=>by
  have hx:x∈N.ps:=by rw [← e]; exact List.mem_append_right _ List.mem_cons_self
  refine⟨ks,ds,rfl,_,A6 x,h.len okn,?_⟩
  refine JT okn rest (done++[x]) _ _ _ _ (by rw [List.append_assoc]; exact e) (h.put hx x) (fun y hy=>?_) hD
  by_cases ey:y=x
  ·rw [ey,BR]
  ·rw [BJ ey]
   rcases List.mem_append.mp hy with hy | hy
   ·exact ht y hy
   ·exact absurd (List.mem_singleton.mp hy) ey
def JH(F:Str->Option Str)(a b:Str)(x:Str):Option Str:=if F x=some b then some a else F x
theorem FO{N:Net}(okn:Ft N){D2:E2}{s0 s3 s4:Slot}{a b:Str}{F:Str->Option Str}:∀(rest done:List Str) (ks:List AY) (ds:List D) (G:Str->Option Str) (s2:Slot),done++rest=N.ps->Pcs N ks ds G->(∀x∈N.ps,F x≠none)->(∀x∈done,G x=JH F a b x)->(∀x∈rest,G x=F x) ->
  (∀ks ds G s2,Pcs N ks ds G->(∀x∈N.ps,G x=JH F a b x)->D2.nx n [s0,.ow (.dic ks ds),s2,s3,s4,.sh (.str a),.sh (.str b)]) ->
  Be (Ak 2) (Bx (Af (AV (G8 false) (AV CT (Az 1) (AC 2)) (AC 6))) (Dn 1 (AC 2) (AC 5)) BN) D2 (rest.map .str) n [s0,.ow (.dic ks ds),s2,s3,s4,.sh (.str a),.sh (.str b)]
 | [],done,ks,ds,G,s2,e,h,tF,hd,_,hD=>by
  rw [List.append_nil] at e
  subst e
  exact hD ks ds G s2 h hd
 | x::rest,done,ks,ds,G,s2,e,h,tF,hd,hr,hD=>by
  have hx:x∈N.ps:=by rw [← e]; exact List.mem_append_right _ List.mem_cons_self
  have nd:(done++x::rest).Nodup:=by rw [e]; exact okn.1.rise.imp fun {a b} h z=>by rw [z] at h; exact QW _ h
  have hxr:x∉rest:=by
   rw [List.nodup_append,List.nodup_cons] at nd
   exact nd.2.1.1
  have hxd:x∉done:=fun z=>(List.nodup_append.mp nd).2.2 x z x List.mem_cons_self rfl
  have e':(done++[x])++rest=N.ps:=by rw [List.append_assoc]; exact e
  cases ex:G x with
  | none=>exact absurd ((hr x List.mem_cons_self).symm.trans ex) (tF x hx)
  | some y =>
   have eF:F x=some y:=(hr x List.mem_cons_self).symm.trans ex
   refine⟨ks,ds,_,.str y,rfl,A6 x,by rw [h.m.at_,ex]; rfl,?_⟩
   show if (y==b)=true then _ else _
   by_cases c:y=b
   ·rw [c,beq_self_eq_true]
    refine Ef ⟨ks,ds,rfl,_,A6 x,h.len okn,?_⟩
    refine FO okn rest (done++[x]) _ _ _ _ e' (h.put hx a) tF (fun z hz=>?_) (fun z hz=>?_) hD
    ·by_cases ez:z=x
     ·rw [ez,BR]; unfold JH; rw [eF,c,if_pos rfl]
     ·rw [BJ ez]
      rcases List.mem_append.mp hz with hz | hz
      ·exact hd z hz
      ·exact absurd (List.mem_singleton.mp hz) ez
    ·rw [BJ fun ez=>hxr (by rw [← ez]; exact hz)]
     exact hr z (List.mem_cons_of_mem _ hz)
   ·rw [beq_eq_false_iff_ne.mpr c]
    refine E5 (FO okn rest (done++[x]) ks ds G _ e' h tF (fun z hz=>?_) (fun z hz=>hr z (List.mem_cons_of_mem _ hz)) hD)
    rcases List.mem_append.mp hz with hz | hz
    ·exact hd z hz
    ·rw [List.mem_singleton.mp hz]
     unfold JH
     rw [eF,if_neg fun z=>c (Option.some.inj z)]
     exact ex
theorem Hf(h:G2 ss n Pd):C7 (EE Pd) n (ss++List.replicate 6 .no):=by
 obtain⟨N,rfl,okn,p⟩:=h
 have ok:=okn.1
 have l60:=okn.2.2
 have szl:=PySem.sizeLine_eq
 unfold C7
 refine⟨_,AH (j:=0) rfl,?_⟩
 refine JT okn N.ps [] [] [] (fun _=>none) _ rfl ⟨⟨rfl,fun x=>rfl,fun k hk=>(by cases hk),List.nodup_nil⟩,fun x hx=>absurd rfl hx⟩ (fun x hx=>by cases hx) fun ks ds F s2 hF tF=>?_
 refine⟨z0,_,AH (j:=1) rfl,_,N.ts,rfl,rfl,by omega,fun ord o1 o2=>?_⟩
 have ndo:ord.Nodup:=o1.nodup_iff.mpr (Ct ok.trise)
 have go:∀(rest done kept:List BI) (ks:List AY) (ds:List D) (F:Str->Option Str) (s2 s4 s5 s6:Slot),done++rest=ord->(∀u∈kept,u∈done)->kept.Nodup->Pcs N ks ds F->(∀x∈N.ps,F x≠none)->(∀x∈N.ps,∀y∈N.ps,F x=F y↔Cn kept x y)->Hx kept rest=Hx [] ord ->
   Be (Ak 4) (Aj (Bl 5 (AV CT (Az 1) (AV BC (AC 4) (wC (D.int 0)))))
 (Aj (Bl 6 (AV CT (Az 1) (AV BC (AC 4) (wC (D.int 1)))))
 (Bx (Af (AV (G8 true) (AC 5) (AC 6))) (Aj (Jz 3 "list" Eg (AD (AC 4) AR))
 (EO (BY (AV BC (AC 0) (wC (D.int 0)))) (Ak 2) (Bx (Af (AV (G8 false) (AV CT (Az 1) (AC 2)) (AC 6))) (Dn 1 (AC 2) (AC 5)) BN))) BN))) { EE Pd with nx:=BZ (Bh (AD (AV BC (AC 0) (wC (D.int 0))) (AD (CK Bk (AD (CK CZ (AD (Az 3) AR)) AR)) AR))) (EE Pd) } (rest.map AT) n [.sh (enc N),.ow (.dic ks ds),s2,.ow (.lst (kept.map AT)),s4,s5,s6]:=by
  intro rest
  induction rest with
  | nil =>
   intro done kept ks ds F s2 s4 s5 s6 e h1 h2 hF tF _ h3
   rw [List.append_nil] at e
   subst e
   have hin:∀u∈kept,u∈N.ts:=fun u hu=>o1.mem_iff.mp (h1 u hu)
   have hkl:=J2 h2 (Ct ok.trise) hin
   refine⟨_,AH (j:=0) rfl,?_⟩
   show CZ [D.lst (kept.map AT)] fun z=>Bk [z] fun y=>2<=sizeLine/\Pd (.tup [.tup (N.ps.map .str),y]) n
   refine FM (ts:=kept) rfl (by omega) fun ts' p1 p2=>⟨z2,?_⟩
   have es:=Sc ok hin h2 p1 p2
   have:Pd (enc (sub N kept)) n:=by rw [show kept=Hx [] done from h3]; exact p done o1 o2
   rw [← es] at this
   exact this
  | cons u rest ih =>
   intro done kept ks ds F s2 s4 s5 s6 e h1 h2 hF tF hC h3
   have hu:u∈N.ts:=o1.mem_iff.mp (by rw [← e]; exact List.mem_append_right _ List.mem_cons_self)
   have hin:∀v∈kept,v∈N.ts:=fun v hv=>o1.mem_iff.mp (by rw [← e]; exact List.mem_append_left _ (h1 v hv))
   have hkl:=J2 h2 (Ct ok.trise) hin
   have e':(done++[u])++rest=ord:=by rw [List.append_assoc]; exact e
   have hud:u∉done:=by
    rw [← e,List.nodup_append] at ndo
    exact fun z=>ndo.2.2 u z u List.mem_cons_self rfl
   obtain⟨m1,m2,_⟩:=ok.tin u hu
   rw [OQ] at h3
   cases ea:F u.a with
   | none=>exact absurd ea (tF _ m1)
   | some x =>
    cases eb:F u.b with
    | none=>exact absurd eb (tF _ m2)
    | some y =>
     refine⟨_,AH (j:=0) rfl,ks,ds,_,.str x,rfl,A6 u.a,by rw [hF.m.at_,ea]; rfl,?_⟩
     refine⟨_,AH (j:=1) rfl,ks,ds,_,.str y,rfl,A6 u.b,by rw [hF.m.at_,eb]; rfl,?_⟩
     show if (!(x==y))=true then _ else _
     by_cases c:x=y
     ·rw [c,beq_self_eq_true]
      have cc:Cn kept u.a u.b:=(hC _ m1 _ m2).mp (by rw [ea,eb,c])
      rw [if_pos (cnB_iff.mpr cc)] at h3
      exact E5 (ih (done++[u]) kept ks ds F _ _ _ _ e' (fun v hv=>List.mem_append_left _ (h1 v hv)) h2 hF tF hC h3)
     ·have cc:¬Cn kept u.a u.b:=fun z=>c (Option.some.inj (by rw [← ea,← eb]; exact(hC _ m1 _ m2).mpr z))
      rw [if_neg fun z=>cc (cnB_iff.mp z)] at h3
      rw [beq_eq_false_iff_ne.mpr c]
      refine Ef ⟨_,rfl,rfl,_,_,rfl,rfl,by rw [List.length_map]; omega,?_⟩
      refine⟨_,AH (j:=0) rfl,?_⟩
      refine FO okn (F:=F) N.ps [] ks ds F _ rfl hF tF (fun x hx=>by cases hx) (fun x _=>rfl) fun ks' ds' G s2' hG tG=>?_
      have tt:∀w∈N.ps,G w≠none:=fun w hw=>by
       rw [tG w hw]
       unfold JH
       split
       ·exact fun z=>by cases z
       ·exact tF w hw
      have hC':∀v∈N.ps,∀w∈N.ps,G v=G w↔Cn (kept++[u]) v w:=fun v hv w hw=>by
       have mono:∀{p q:Str},Cn kept p q->Cn (kept++[u]) p q:=fun h=>h.mono fun s hs=>List.mem_append_left _ hs
       have hu':=Cn.tie (K:=kept++[u]) (List.mem_append_right _ List.mem_cons_self:u∈kept++[u])
       have toA:∀z∈N.ps,F z=some x->Cn kept z u.a:=fun z hz e=>(hC z hz _ m1).mp (by rw [e,ea])
       have toB:∀z∈N.ps,F z=some y->Cn kept z u.b:=fun z hz e=>(hC z hz _ m2).mp (by rw [e,eb])
       rw [tG v hv,tG w hw]
       unfold JH
       constructor
       ·intro he
        by_cases cv:F v=some y
        ·by_cases cw:F w=some y
         ·exact mono ((hC v hv w hw).mp (by rw [cv,cw]))
         ·rw [if_pos cv,if_neg cw] at he
          exact((mono (toB v hv cv)).trans hu'.2).trans (mono (toA w hw he.symm).symm)
        ·by_cases cw:F w=some y
         ·rw [if_neg cv,if_pos cw] at he
          exact((mono (toA v hv he)).trans hu'.1).trans (mono (toB w hw cw).symm)
         ·rw [if_neg cv,if_neg cw] at he
          exact mono ((hC v hv w hw).mp he)
       ·intro hc
        have fa:∀z∈N.ps,Cn kept z u.a->F z=some x:=fun z hz h=>by rw [(hC z hz _ m1).mpr h,ea]
        have fb:∀z∈N.ps,Cn kept z u.b->F z=some y:=fun z hz h=>by rw [(hC z hz _ m2).mpr h,eb]
        have nxy:some x≠some y:=fun z=>c (Option.some.inj z)
        rcases Cn.add (B:=kept) (t:=u) (fun s hs=>by
         rcases List.mem_append.mp hs with hs | hs
         ·exact .inl hs
         ·exact .inr (List.mem_singleton.mp hs)) hc with h | ⟨h1,h2⟩ | ⟨h1,h2⟩
        ·rw [(hC v hv w hw).mpr h]
        ·rw [fa v hv h1,fb w hw h2.symm,if_neg nxy,if_pos rfl]
        ·rw [fb v hv h1,fa w hw h2.symm,if_pos rfl,if_neg nxy]
      have:=ih (done++[u]) (kept++[u]) ks' ds' G s2' (.sh (AT u)) (.sh (.str x)) (.sh (.str y)) e' (fun v hv=>by
       rcases List.mem_append.mp hv with hv | hv
       ·exact List.mem_append_left _ (h1 v hv)
       ·exact List.mem_append_right _ hv) (by
       rw [List.nodup_append]
       exact⟨h2,List.nodup_cons.mpr ⟨List.not_mem_nil,List.nodup_nil⟩,fun x hx y hy z=>hud (by rw [← List.mem_singleton.mp hy,← z]; exact h1 x hx)⟩) hG tt hC' h3
      rw [List.map_append] at this
      exact this
 refine go ord [] [] ks ds F _ _ _ _ rfl (fun u h=>by cases h) List.nodup_nil hF (fun x hx=>by rw [tF x hx]; exact fun z=>by cases z) (fun x hx y hy=>?_) rfl
 rw [tF x hx,tF y hy]
 constructor
 ·intro h
  rw [Option.some.inj h]
  exact .refl
 ·intro h
  cases h with
  | refl=>rfl
  | step _ e=>obtain⟨t,ht,_⟩:=e; cases ht
theorem Fl(h:Go ss n Pd):Dc (EE Pd) n (ss++List.replicate 3 .no):=by
 obtain⟨N,rfl,okn,hn,p⟩:=h
 have ok:=okn.1
 have l60:=okn.2.2
 have szl:=PySem.sizeLine_eq
 unfold Dc
 refine⟨_,AH (j:=1) rfl,z0,?_⟩
 refine GL (fun m n' ρ=>∃(L K:List BI) (s4:Slot),m=L.length/\ρ=[.fd,.sh (enc N),.ow (.lst (L.map AT)),.ow (.lst (K.map AT)),s4]/\(∀t∈L,t∈N.ts)/\L.Nodup/\(∀t∈K,t∈N.ts/\t∉L)/\K.Nodup/\(∀u∈N.ts,u∈L\/Cn K u.a u.b)/\L.length<=N.ts.length/\n - (N.ts.length - L.length)<=n') N.ts.length ⟨N.ts,[],_,rfl,rfl,fun t h=>h,Ct ok.trise,(fun t h=>by cases h),List.nodup_nil,fun u h=>.inl h,Nat.le_refl _,by omega⟩ ?_ ?_
 ·rintro m n' ρ N' ⟨L,K,s4,rfl,rfl,hL,ndL,hK,ndK,hC,hll,hn'⟩ hN
  refine⟨z0,(Ec ok hL).2,D8 (B:=0) (by decide) trivial (by decide),?_⟩
  show if (!(Ej (.lst (L.map AT)) (.lst [])))=true then _ else _
  rw [TU]
  have hin:∀t∈K,t∈N.ts:=fun t h=>(hK t h).1
  have hkl:=J2 ndK (Ct ok.trise) hin
  by_cases hLe:L=[]
  ·subst hLe
   refine E5 ⟨_,AH (j:=0) rfl,?_⟩
   show CZ [D.lst (K.map AT)] fun z=>Bk [z] fun y=>2<=sizeLine/\Pd (.tup [.tup (N.ps.map .str),y]) n'
   refine FM (ts:=K) rfl (by omega) fun ts' p1 p2=>⟨z2,?_⟩
   have hin':∀u∈ts',u∈N.ts:=fun u hu=>hin u (p1.mem_iff.mp hu)
   refine p ts' n' hin' ?_ (fun u hu=>?_) (by simpa using hn')
   ·refine(p2.and (ndK.perm p1.symm)).imp_of_mem fun {s t} hs ht ⟨a,b⟩=>?_
    refine NW ok (hin' s hs) (hin' t ht) ?_
    rw [← Bool.not_eq_false]
    exact fun z=>b (LJ (Cr _ _ z a))
   ·rcases hC u hu with h | h
    ·cases h
    ·exact h.mono fun s hs=>p1.mem_iff.mpr hs
  ·have hpos:1<=L.length:=by
    cases L with
    | nil=>exact absurd rfl hLe
    | cons _ _=>rw [List.length_cons]; omega
   have hml:(L.map AT).length=L.length:=List.length_map ..
   rw [show (L.map AT).isEmpty=false by cases L with | nil=>exact absurd rfl hLe | cons _ _=>rfl]
   refine Ef ⟨_,rfl,_,_,rfl,rfl,_,rfl,by omega,by omega,by omega,fun r r0 r1=>?_⟩
   obtain⟨k,rfl⟩:∃k:Nat,r=(k:Int):=⟨r.toNat,by omega⟩
   have e1:L[k]?=some L[k]:=List.getElem?_eq_getElem (by omega)
   refine⟨k,AT L[k],rfl,by rw [List.getElem?_map,e1]; rfl,by omega,?_⟩
   have hpe:=FU e1
   generalize L[k]=u at e1 hpe
   have huL:u∈L:=hpe.mem_iff.mp List.mem_cons_self
   have hu:=hL u huL
   have hsub:∀t∈L.eraseIdx k,t∈L:=fun t ht=>hpe.mem_iff.mp (List.mem_cons_of_mem _ ht)
   have nde:=hpe.nodup_iff.mpr ndL
   rw [List.nodup_cons] at nde
   have hle:(L.eraseIdx k).length+1=L.length:=by have:=hpe.length_eq; rw [List.length_cons] at this; omega
   obtain⟨m1,m2,_⟩:=ok.tin u hu
   refine⟨_,AH (j:=1) rfl,_,AH (j:=0) rfl,sub N K,u.a,_,K,rfl,rfl,fun v=>⟨fun hv=>sub_mem.mpr ⟨hin v hv,hv⟩,fun hv=>(sub_mem.mp hv).2⟩,M7 okn K,m1,fun ks ds F M T=>?_⟩
   refine⟨ks,ds,_,rfl,A6 u.b,?_⟩
   show if (!(Bb ks ds (.inr u.b)).isSome)=true then _ else _
   rw [M.at_,Ey]
   have fc:=TR (M7 okn K).1 (T.far u.b)
   rw [Sd hin] at fc
   cases ef:F u.b with
   | some d =>
    rw [ef] at fc
    have c:Cn K u.a u.b:=Classical.byContradiction fun z=>by cases fc.mpr z
    refine E5 (hN (L.eraseIdx k).length _ _ (by omega) ⟨L.eraseIdx k,K,_,rfl,rfl,fun t h=>hL t (hsub t h),nde.2,fun t h=>⟨hin t h,fun z=>(hK t h).2 (hsub t z)⟩,ndK,fun v hv=>?_,by omega,by omega⟩)
    rcases hC v hv with h | h
    ·rcases List.mem_cons.mp (hpe.mem_iff.mpr h) with e | h
     ·rw [e]; exact .inr c
     ·exact .inl h
    ·exact .inr h
   | none =>
    refine Ef ⟨_,rfl,rfl,_,_,rfl,rfl,by rw [List.length_map]; omega,?_⟩
    have huK:u∉K:=fun z=>(hK u z).2 huL
    refine hN (L.eraseIdx k).length _ _ (by omega) ⟨L.eraseIdx k,K++[u],_,rfl,by rw [List.map_append]; rfl,fun t h=>hL t (hsub t h),nde.2,fun t h=>?_,?_,fun v hv=>?_,by omega,by omega⟩
    ·rcases List.mem_append.mp h with h | h
     ·exact⟨hin t h,fun z=>(hK t h).2 (hsub t z)⟩
     ·rw [List.mem_singleton.mp h]; exact⟨hu,nde.1⟩
    ·rw [List.nodup_append]
     exact⟨ndK,List.nodup_cons.mpr ⟨List.not_mem_nil,List.nodup_nil⟩,fun x hx y hy z=>huK (by rw [← List.mem_singleton.mp hy,← z]; exact hx)⟩
    ·rcases hC v hv with h | h
     ·rcases List.mem_cons.mp (hpe.mem_iff.mpr h) with e | h
      ·rw [e]; exact .inr (Cn.tie (List.mem_append_right _ List.mem_cons_self)).1
      ·exact .inl h
     ·exact .inr (h.mono fun s hs=>List.mem_append_left _ hs)
 ·intro m ρ P Q hPQ w
  revert w
  unfold Af AV Az
  split
  ·exact fun w=>⟨w.1,w.2.1,w.2.2.1,hPQ _ _ w.2.2.2⟩
  ·exact fun w=>⟨w.1,w.2.1,w.2.2.1,hPQ _ _ w.2.2.2⟩
  ·exact fun w=>⟨w.1,w.2.1,w.2.2.1,hPQ _ _ w.2.2.2⟩
  ·exact fun w=>⟨w.1,w.2.1,w.2.2.1,hPQ _ _ w.2.2.2⟩
  ·exact id
end
end Nt
namespace L2
open PySem PySem.Spec PyProof.Rows
section
variable {X:Cx}{pins:List (Addr×Obj)}{σ:St}{H:Hp}{s:Shared}
theorem MH{A':Around}{E':Value->Shared->Prop}{ss:List Str}{us:List Value}{Q:VK}(I:Inv X pins σ H s)(hS:StrsAre us ss)(h64:us.length<64)
  (q:∀(ss':List Str) (l:Addr),ss'.Perm ss->sortedS ss'=true->H l=none->Q (.ref l) (BA H l (.lst (ss'.map V.str)))) :
  wpAny (model X.prog X.w) A' (Builtin.«list.sort» ⟨[.ref s.heap.objs.size],[]⟩) (fun fin s'=>fin=.done (.ret .none)/\EP X pins σ Q (.ref s.heap.objs.size) s') E' { s with heap:=s.heap.push (seqObj "list" us.toArray 0) }:=by
 have ho:(s.heap.push (seqObj "list" us.toArray 0)).get? s.heap.objs.size=some (seqObj "list" us.toArray 0):=Heap.get?_push_size _ rfl
 refine list_sort_treeK strKind_oneLt ho hS.keysOf (fun v₁ v₂ rest e=>keyKind_strs (by rw [← e]; exact hS)) h64 fun st' hp hs=>⟨rfl,?_⟩
 obtain⟨ss',h1,h2,h3⟩:=sorted_out_str hS hp hs
 obtain⟨e,he⟩:=sortedHeap_at (out:=(arrOf st').map (·.2)) ho
 have hf:H s.heap.objs.size=none:=I.fresh
 have l1:=(CU h1).length
 have l2:=(CU hS).length
 have l3:=h2.length_eq
 rw [List.length_map] at l1 l2
 refine⟨.ref s.heap.objs.size,BA H s.heap.objs.size (.lst (ss'.map V.str)),I.laid (t':=s.toks) (fun b o z=>?_) (Nat.le_refl _) ⟨by rw [List.length_map,sizeLine_eq]; omega,_,e,CU h1,he⟩,rfl,q ss' _ h2 h3 hf⟩
 rw [sortedHeap_old (Nat.ne_of_lt (Heap.lt_size z)) (by rw [size_push']; exact Nat.lt_succ_of_lt (Heap.lt_size z))]
 exact Heap.get?_push_of_some _ z
def PU:List V->Hp->VK->Prop:=fun xs H Q=>∃(d:Addr) (kvs:List (AY×V)) (ss:List Str),xs=[.ref d]/\Rd H d (.dK kvs)/\kvs.map (·.1)=ss.map Sum.inr/\ss.length<64 /\
 ∀(ss':List Str) (l:Addr),ss'.Perm ss->sortedS ss'=true->H l=none->Q (.ref l) (BA H l (.lst (ss'.map V.str)))
theorem JL{P:Program}{w:World}:∀{us:List Value} {ss:List Str},us.length=ss.length->(∀(j:Nat) (v:Value) (x:Str),us[j]?=some v->ss[j]?=some x->(A5 P w).is (.inr x) v=true)->StrsAre us ss
 | [],[],_,_=>.nil
 | [],_::_,h,_=>by cases h
 | _::_,[],h,_=>by cases h
 | u::us,x::ss,h,k=>by
  obtain⟨t,rfl⟩:=(TF (k:=.inr x) (k 0 u x rfl rfl):RelV (.str x) u)
  exact .cons x t (JL (P:=P) (w:=w) (by simpa using h) fun j v y e1 e2=>k (j+1) v y (by simpa using e1) (by simpa using e2))
theorem IS(hc:X.calm=true):C8 X (.builtin "sorted") PU:=by
 intro pins s σ H xs us Q I r h
 obtain⟨d,kvs,ss,rfl,hd,hk,h64,q⟩:=h
 obtain⟨u,rfl,rx⟩:=Fc r
 cases rx
 obtain⟨_,lo,ws,kv,o,es,ep,D⟩:=FF I.hok hd
 have hwl:=kv.length
 have hsl:kvs.length=ss.length:=by rw [← List.length_map (f:=(·.1)),hk,List.length_map]
 refine Fh (kw:=[]) (args_sorted1 _) (fun x=>args_list_sort _) (PySem.W.kdu_collect (PySem.W.kdl_dict (knd:=A5 X.prog X.w) (kvs:=ws) (ep:=ep) lo) (show X.A.handled=none from I.ok.hd hc) ⟨o,es,D⟩ (by rw [sizeLine_eq]; omega) fun h' tk acc hkp hacc=>⟨by rw [Array.length_toList,hacc.1,sizeLine_eq]; omega,?_⟩)
 have I1:Inv X pins σ H { s with heap:=h',toks:=tk }:=I.kept (t':=tk) hkp
 refine MH (ss:=ss) I1 (JL (P:=X.prog) (w:=X.w) (by rw [Array.length_toList,hacc.1]; omega) fun j v x e1 e2=>?_) (by rw [Array.length_toList,hacc.1]; omega) q
 obtain⟨k,z,e3,e4⟩:=hacc.2 j v (by rw [← Array.getElem?_toList]; exact e1)
 have jl:j<kvs.length:=by rw [hsl]; exact(List.getElem?_eq_some_iff.mp e2).1
 obtain⟨ek,_⟩:=Ho kv (List.getElem?_eq_getElem jl) e3
 have e5:(kvs.map (·.1))[j]?=some kvs[j].1:=by rw [List.getElem?_map,List.getElem?_eq_getElem jl]; rfl
 rw [hk,List.getElem?_map,e2] at e5
 have e6:Sum.inr x=kvs[j].1:=Option.some.inj e5
 rw [e6,show kvs[j].1=k from ek]
 exact e4
end
end L2
namespace Dp
open PySem PySem.Spec PyProof.Rows L2
section
variable {X:Cx}
def Mh(ds:List D)(P:D->Prop):Prop:=∃(d:D) (ks:List AY) (es:List D) (ss:List Str),ds=[d]/\Gx d=some (ks,es)/\ks.length=es.length/\ks=ss.map Sum.inr/\ss.length<64/\(∀x∈ss,x.length<=sizeLine)/\∀ss':List Str,ss'.Perm ss->sortedS ss'=true->P (.lst (ss'.map .str))
theorem Nj:Dd X.K .fr PU Mh:=by
 intro U M H ds vs P Q dom vM hp w q
 obtain⟨d,ks,es,ss,rfl,hd,l1,hk,h64,hz,w⟩:=w
 obtain⟨v,rfl,hx⟩:=EY hp
 obtain⟨a,us,rfl,ha,hs⟩:=FV hd hx
 have m1:=hs.length
 refine⟨a,_,ss,rfl,ha,?_,h64,fun ss' l h1 h2 hl=>?_⟩
 ·rw [List.map_fst_zip (by omega),hk]
 ·exact q _ _ _ (Av hl) (C2 hl (Ats.strs fun x hx=>hz x (h1.mem_iff.mp hx))) (w ss' h1 h2)
end
end Dp
namespace L2
open PySem PySem.Spec PyProof.Rows
open AutoSeq1 (wpAny_loadPart')
theorem OC:typeLookup (.type "tuple") "__reversed__"=pure none:=by rw [typeLookup_type,builtinLookup_eq_fast]; kernel_rfl
theorem Ll:typeLookup (.type "tuple") "__getitem__"=pure (some (.builtin "tuple.__getitem__")):=by rw [typeLookup_type,builtinLookup_eq_fast]; kernel_rfl
theorem LI:isSubtype (.type "tuple") (.type "dict")=pure false:=by rw [isSubtype_type]; kernel_rfl
theorem Ib:Slot "reversed" "__init__" "object.__init__" :=
 .of (owner := "object") (n := "__init__") (by rw [typeLookup_type,builtinLookup_eq_fast]; kernel_rfl) (by decide +kernel) (by decide +kernel) (by decide +kernel)
  (by first | exact .inl (by decide +kernel) | exact .inr (by decide +kernel)) (by rw [isSubtype_type]; kernel_rfl)
theorem called_reversed:TypeCalled "reversed" "reversed.__new__" "object.__init__" :=
 ⟨by decide +kernel,F.create_reversed,⟨_,_,F.mro_reversed⟩,F.made_reversed,F.plain_reversed_new,F.sub_reversed_self,Ib⟩
theorem slot_rev_next:Slot "reversed" "__next__" "reversed.__next__" :=
 .of (owner := "reversed") (n := "__next__") (by rw [typeLookup_type,builtinLookup_eq_fast]; kernel_rfl) (by decide +kernel) (by decide +kernel) (by decide +kernel)
  (by first | exact .inl (by decide +kernel) | exact .inr (by decide +kernel)) (by rw [isSubtype_type]; kernel_rfl)
theorem Ek:entryFor table "reversed.__next__"=some Builtin.«reversed.__next__»:=entryFor_of_tree (by kernel_rfl)
theorem GQ:Manifest.owners.lookup (String.ofList ['d','e','s','r','e','v','e','r'].reverse)=some Manifest.sig_reversed:=by kernel_rfl
theorem FI(a:Value):argsOk "reversed.__next__" ⟨[a],[]⟩:=by
 unfold argsOk; rw [signature?_of (id := "reversed.__next__") (n:=['_','_','t','x','e','n','_','_']) (o:=['d','e','s','r','e','v','e','r']) (by kernel_rfl) GQ]; kernel_rfl
theorem E_:Slot "reversed" "__iter__" "reversed.__iter__" :=
 .of (owner := "reversed") (n := "__iter__") (by rw [typeLookup_type,builtinLookup_eq_fast]; kernel_rfl) (by decide +kernel) (by decide +kernel) (by decide +kernel)
  (by first | exact .inl (by decide +kernel) | exact .inr (by decide +kernel)) (by rw [isSubtype_type]; kernel_rfl)
theorem I_(a:Value):argsOk "reversed.__iter__" ⟨[a],[]⟩:=by
 unfold argsOk; rw [signature?_of (id := "reversed.__iter__") (n:=['_','_','r','e','t','i','_','_']) (o:=['d','e','s','r','e','v','e','r']) (by kernel_rfl) GQ]; kernel_rfl
theorem II:entryFor table "reversed.__iter__"=some Builtin.«dict_keyiterator.__iter__» :=
 entryFor_alias (id' := "dict_keyiterator.__iter__") (by kernel_rfl) (by first | rfl | decide +kernel | (unfold String.splitOn; simp +decide [String.splitOnAux])) (by decide +kernel) (by kernel_rfl)
theorem OD:typeLookup (.type "reversed") "__len__"=pure none:=by rw [typeLookup_type,builtinLookup_eq_fast]; kernel_rfl
theorem P8:typeLookup (.type "reversed") "__length_hint__"=pure (some (.builtin "reversed.__length_hint__")):=by rw [typeLookup_type,builtinLookup_eq_fast]; kernel_rfl
def LR(l:Addr)(i:Int):Obj:={ cls:=.type "reversed",data:=.fields #[.ref l,rawInt i] }
def IsRt(h:Heap)(a l:Addr)(i:Int):Prop:=∃o,h.get? a=some o/\o.cls=.type "reversed"/\o.data=.fields #[.ref l,rawInt i]
section
variable {prog:Program}{w:World}{A:Around}{E:Value->Shared->Prop}{s:Shared}
theorem Kp{l:Addr}{items:Array Value}{Q₁:Value->Shared->Prop}(hl:IsTup s.heap l items)(hfit:(items.size:Int)<2 ^ 63)
  (h:∀tk,Q₁ (.ref s.heap.objs.size) { s with heap:=s.heap.push (LR l ((items.size:Int) - 1)),toks:=tk }) :
  codeAny (model prog w) A (.call (.builtin "reversed.__new__") ⟨[.type "reversed",.ref l],[]⟩) (wants Q₁ E) s:=by
 refine codeAny_of_tree ?_
 show wpAny _ A.in1 (do checkBuiltinCall "reversed.__new__" ⟨[.type "reversed",.ref l],[]⟩; again (.builtin "reversed.__new__" ⟨[.type "reversed",.ref l],[]⟩)) _ _ s
 refine wpAny_bind (wpAny_of_eq (F.newCall_reversed_1 _) (wpAny_pure ⟨plainId_quiet F.plain_reversed_new _,codeAny_builtin F.entry_reversed_new ?_⟩))
 rw [Around.under_plainId F.plain_reversed_new _]
 have hT:s.TypeIs (.ref l) "tuple":=by obtain⟨o,ho,hc,_⟩:=hl; exact⟨o,ho,hc⟩
 unfold Builtin.«reversed.__new__»
 refine wpAny_bind (wpAny_of_eq (newClass_reversed _) ?_)
 try dsimp only
 refine wpAny_bind (wpAny_of_eq (a:=()) (by first | rfl | kernel_rfl) ?_)
 refine wpAny_bind (wpAny_of_eq (a:=()) (by first | rfl | kernel_rfl) ?_)
 try dsimp only
 refine wpAny_bind (wpAny_specialOf hT OC ?_)
 try dsimp only
 refine wpAny_bind (wpAny_bind (wpAny_isInstance (b:=false) hT LI ?_))
 simp only [Bool.false_eq_true,if_false]
 refine wpAny_bind (wpAny_specialOf hT Ll ?_)
 show wpAny _ _ (if ["tuple.__getitem__","str.__getitem__","bytes.__getitem__","bytearray.__getitem__","memoryview.__getitem__","numpy.ndarray.__getitem__","sqlite3.Row.__getitem__"].contains "tuple.__getitem__"=true then pure true else _) _ _ _
 rw [if_pos (by decide +kernel)]
 refine wpAny_pure ?_
 simp only [Bool.not_true,Bool.false_eq_true,if_false]
 refine wpAny_bind (len_tuple hl hfit ?_)
 refine wpAny_bind (wpAny_pure ?_)
 show wpAny _ _ (newObj (.type "reversed") (.fields [Value.ref l,rawInt ((items.size:Int) - 1)].toArray) >>= _) _ _ _
 exact wpAny_bind (wpAny_newObj_type (wpAny_pure (h _)))
theorem Ks{l:Addr}{items:Array Value}{Q:Value->Shared->Prop}(hl:IsTup s.heap l items)(hfit:(items.size:Int)<2 ^ 63)
  (h:∀tk,Q (.ref s.heap.objs.size) { s with heap:=s.heap.push (LR l ((items.size:Int) - 1)),toks:=tk }):wpAny (model prog w) A (call (.type "reversed") [.ref l]) Q E s:=by
 refine callType_codes (Q₁:=fun obj s₁=>s₁.TypeIs obj "reversed"/\Q obj s₁) called_reversed (F.typeCall_reversed_1 _) F.entry_object_init
  (Kp hl hfit fun tk=>⟨⟨_,Heap.get?_push_size _ rfl,rfl⟩,h tk⟩) fun obj s₁ h₁=>?_
 exact⟨h₁.1,F.args_object_init_2 obj _,object_init_meets called_reversed.init.lookup called_reversed.made (by decide) prog w A.in1 _ s₁ ⟨h₁.1,rfl,h₁.2⟩⟩
theorem IsRt.typeIs{a l:Addr}{i:Int}(x:IsRt s.heap a l i):s.TypeIs (.ref a) "reversed":=let ⟨o,ho,hc,_⟩:=x; ⟨o,ho,hc⟩
theorem IsRt.at{h h':Heap}{a l:Addr}{i:Int}(x:IsRt h a l i)(e:∀o,h.get? a=some o->h'.get? a=some o):IsRt h' a l i:=let ⟨o,ho,r⟩:=x; ⟨o,e _ ho,r⟩
theorem RP{it l:Addr}{i:Nat}{items:Array Value}{x:Value}{Q:Option Value->Shared->Prop}(hit:IsRt s.heap it l (i:Int))(hl:IsTup s.heap l items)(hx:items[i]?=some x)(hi:(i:Int)<2 ^ 63)
  (hQ:∀h' tk,IsRt h' it l ((i:Int) - 1)->Heap.SameBut it s.heap h'->Q (some x) { s with heap:=h',toks:=tk }):wpAny (model prog w) A (pyNext (.ref it)) Q E s:=by
 obtain⟨o,ho,hc,hd⟩:=id hit
 have hT:s.TypeIs (.ref l) "tuple":=by obtain⟨o,ho,hc,_⟩:=hl; exact⟨o,ho,hc⟩
 have hlt:i<items.size:=by
  rcases Nat.lt_or_ge i items.size with h | h
  ·exact h
  ·rw [Array.getElem?_eq_none h] at hx; cases hx
 unfold pyNext
 refine wpAny_bind (wpAny_attempt (wpAny_callSpecial?_slot (name:=Str.ofString "__next__") hit.typeIs slot_rev_next
  (wpAny_call_entry slot_rev_next hit.typeIs Ek ?_ (FI _))))
 unfold Builtin.«reversed.__next__»
 refine wpAny_bind (wpAny_of_eq (a:=(Value.ref it,[])) rfl ?_)
 try dsimp only
 refine wpAny_bind (wpAny_field ho hd (x:=.ref l) rfl ?_)
 refine wpAny_bind (wpAny_field ho hd (x:=rawInt (i:Int)) rfl ?_)
 show wpAny _ _ (if (i:Int)<0 then _ else _) _ _ s
 rw [if_neg (by omega)]
 refine wpAny_bind (wpAny_specialOf hT Ll ?_)
 simp only [Option.isNone_some,Bool.false_eq_true,if_false]
 refine wpAny_bind (wpAny_mkInt ?_)
 refine wpAny_bind (wpAny_attempt (getItem_tuple (s:={ s with toks:=s.toks+1 }) (j:=i) hl (by omega) hi (by unfold seqIndex?; simp; omega) hx ?_))
 refine wpAny_bind (wpAny_field ho hd (x:=rawInt (i:Int)) rfl ?_)
 show wpAny _ _ (setField (.ref it) 1 (rawInt ((i:Int) - 1)) >>= _) _ _ _
 refine wpAny_bind (wpAny_setField ho hd (by simp) ?_)
 refine wpAny_pure ⟨x,rfl,wpAny_pure (hQ _ _ ?_ (Heap.SameBut.update ..))⟩
 exact⟨_,Heap.get?_update_self _ ho (Obj.isFreed_of_fields (Obj.data_mapFields hd _)),(Obj.cls_mapFields ..).trans hc,by
  rw [Obj.data_mapFields hd]; simp⟩
theorem Ld{it l:Addr}{Q:Option Value->Shared->Prop}(hh:A.handled=none)(hit:IsRt s.heap it l (-1))
  (hQ:∀h',Heap.ExtBut it s.heap h'->Q none { s with heap:=h' }):wpAny (model prog w) A (pyNext (.ref it)) Q E s:=by
 obtain⟨o,ho,hc,hd⟩:=id hit
 unfold pyNext
 refine wpAny_bind (wpAny_attempt (wpAny_callSpecial?_slot (name:=Str.ofString "__next__") hit.typeIs slot_rev_next
  (wpAny_call_entry slot_rev_next hit.typeIs Ek ?_ (FI _))))
 unfold Builtin.«reversed.__next__»
 refine wpAny_bind (wpAny_of_eq (a:=(Value.ref it,[])) rfl ?_)
 try dsimp only
 refine wpAny_bind (wpAny_field ho hd (x:=.ref l) rfl ?_)
 refine wpAny_bind (wpAny_field ho hd (x:=rawInt (-1)) rfl ?_)
 show wpAny _ _ (if (-1:Int)<0 then _ else _) _ _ s
 rw [if_pos (by decide)]
 refine wpAny_bind (wpAny_rule ?_)
 refine wpAny_bind ?_
 show wpAny _ _ (setField (.ref it) 1 (rawInt (-1)) >>= fun _=>setField (.ref it) 0 .none) _ _ _
 refine wpAny_bind (wpAny_setField ho hd (by simp) ?_)
 have ho2:=Heap.get?_update_self (Obj.mapFields fun vs=>vs.set! 1 (rawInt (-1))) ho (Obj.isFreed_of_fields (Obj.data_mapFields hd _))
 refine wpAny_setField ho2 (Obj.data_mapFields hd _) (by simp) ?_
 refine wpAny_bind ?_
 show wpAny _ _ (newExc (.type "StopIteration") [] >>= _) _ _ _
 refine wpAny_bind ?_
 simp only [newExc,newTuple]
 refine wpAny_bind (wpAny_newObj_type ?_ (by size_fits))
 refine wpAny_bind (m:=firstArgMember _ _) (wpAny_of_eq (a:=Value.none) (by first | rfl | (simp only [firstArgMember]; rfl)) ?_)
 refine wpAny_newObj_type ?_ (by size_fits)
 simp only [raiseNew]
 refine wpAny_bind (wpAny_handled ?_)
 first | rw [show A.in1.handled=none from hh] | rw [hh]
 refine wpAny_bind (wpAny_pure (wpAny_throw ?_))
 refine wpAny_bind (wpAny_isInstance (T := "StopIteration") (b:=true) ⟨_,Heap.get?_push_size _ rfl,rfl⟩ isSubtype_stop ?_)
 refine wpAny_pure (hQ _ ?_)
 refine Heap.ExtBut.push (Heap.ExtBut.push ?_ _) _
 intro b o' hb e
 rw [Heap.get?_update_ne _ _ _ _ hb,Heap.get?_update_ne _ _ _ _ hb]
 exact e
theorem RX{it l:Addr}{i:Int}{Q:Value->Shared->Prop}(hit:IsRt s.heap it l i)(h:Q (.ref it) s):wpAny (model prog w) A (pyIter (.ref it)) Q E s:=by
 refine wpAny_pyIter_slot hit.typeIs E_ (wpAny_call_entry E_ hit.typeIs II ?_ (I_ _))
 show wpAny _ _ (ret (.ref it)) _ _ s
 exact wpAny_pure ⟨_,rfl,"reversed",_,hit.typeIs,slot_rev_next.lookup,h⟩
end
theorem Op{prog:Program}{w:World}{A:Around}(hh:A.handled=none)(I l:Addr)(hne:l≠I)(items:Array Value)(hs:(items.size:Int)<2 ^ 63) :
  Walks prog w A I [I,l] [I] items.size (fun i v=>items[items.size - 1 - i]?=some v) (fun i h=>i<=items.size/\IsRt h I l ((items.size:Int) - 1 - (i:Int))/\IsTup h l items) where
 sub:=fun b hb=>by simp at hb; simp [hb]
 frame:=fun _ _ _ x hk=>⟨x.1,x.2.1.at fun o e=>hk I (by simp) o e,let ⟨o,ho,r⟩:=x.2.2; ⟨o,hk l (by simp) o ho,r⟩⟩
 item:=fun i s Q E hi x hQ=>by
  have e:(items.size:Int) - 1 - (i:Int)=((items.size - 1 - i:Nat):Int):=by omega
  have hit:=x.2.1
  rw [e] at hit
  have hx:items[items.size - 1 - i]?=some (items[items.size - 1 - i]'(by omega)):=Array.getElem?_eq_getElem (by omega)
  refine RP hit x.2.2 hx (by omega) fun h' tk hit' hs'=>?_
  have e2:((items.size - 1 - i:Nat):Int) - 1=(items.size:Int) - 1 - ((i+1:Nat):Int):=by omega
  rw [e2] at hit'
  exact hQ _ h' tk hx ⟨hi,hit',let ⟨o,ho,r⟩:=x.2.2; ⟨o,(hs'.2 l hne).trans ho,r⟩⟩ fun b o hb eo=>hs'.extBut b o (fun h=>hb (by simp [h])) eo
 done:=fun s Q E x hQ=>by
  have e:(items.size:Int) - 1 - (items.size:Int)=-1:=by omega
  have hit:=x.2.1
  rw [e] at hit
  exact Ld hh hit fun h' he'=>hQ h' s.toks fun b o hb eo=>he' b o (fun h=>hb (by simp [h])) eo
 self:=fun _ _ _ _ x hQ=>RX x.2.1 hQ
theorem slot_rev_hint:Slot "reversed" "__length_hint__" "reversed.__length_hint__" :=
 .of (owner := "reversed") (n := "__length_hint__") (by rw [typeLookup_type,builtinLookup_eq_fast]; kernel_rfl) (by decide +kernel) (by decide +kernel) (by decide +kernel)
  (by first | exact .inl (by decide +kernel) | exact .inr (by decide +kernel)) (by rw [isSubtype_type]; kernel_rfl)
theorem IJ:entryFor table "reversed.__length_hint__"=some Builtin.«reversed.__length_hint__»:=entryFor_of_tree (by kernel_rfl)
theorem JA(a:Value):argsOk "reversed.__length_hint__" ⟨[a],[]⟩:=by
 unfold argsOk; rw [signature?_of (id := "reversed.__length_hint__") (n:=['_','_','t','n','i','h','_','h','t','g','n','e','l','_','_']) (o:=['d','e','s','r','e','v','e','r']) (by kernel_rfl) GQ]; kernel_rfl
theorem Q9{prog:Program}{w:World}{A:Around}{E:Value->Shared->Prop}{s:Shared}{I l:Addr}{items:Array Value}{Q:Bool->Shared->Prop}(hit:IsRt s.heap I l ((items.size:Int) - 1))(hl:IsTup s.heap l items)(hz:items.size<=sizeLine)
  (hQ:∀b tk,s.toks<=tk->Q b { s with toks:=tk }):wpAny (model prog w) A (Builtin.List.listLengthHint (.ref I)) Q E s:=by
 have szl:=sizeLine_eq
 obtain⟨o,ho,hc,hd⟩:=id hit
 unfold Builtin.List.listLengthHint
 refine wpAny_bind (wpAny_specialOf hit.typeIs OD ?_)
 show wpAny _ A (specialOf (Value.ref I) (Str.ofString "__length_hint__") >>= _) _ _ _
 refine wpAny_bind (wpAny_specialOf hit.typeIs P8 ?_)
 (generalize hid:("reversed.__length_hint__" : String)=id0; wp_delta; rw [show splitId id0=some ("reversed","__length_hint__") from by subst hid; decide +kernel]; subst hid)
 refine wpAny_bind (wpAny_isInstance (b:=true) hit.typeIs F.sub_reversed_self ?_)
 simp only [Bool.not_true,Bool.false_eq_true,if_false]
 rw [if_neg (by decide +kernel)]
 refine wpAny_bind (wpAny_rule ?_)
 refine wpAny_bind (wpAny_of_eq (slot_rev_hint.bind _) ?_)
 refine wpAny_bind (wpAny_attempt (wpAny_call_entry slot_rev_hint hit.typeIs IJ ?_ (JA _)))
 unfold Builtin.«reversed.__length_hint__»
 refine wpAny_bind (wpAny_of_eq (a:=Value.ref I) rfl ?_)
 refine wpAny_bind (wpAny_field ho hd (x:=.ref l) rfl ?_)
 show wpAny _ _ (if (Value.ref l==Value.none)=true then _ else _) _ _ _
 rw [if_neg (show ¬((Value.ref l==Value.none)=true) from Bool.false_ne_true)]
 refine wpAny_bind (len_tuple hl (by omega) ?_)
 refine wpAny_bind (wpAny_pure ?_)
 refine wpAny_bind (wpAny_field ho hd (x:=rawInt ((items.size:Int) - 1)) rfl ?_)
 show wpAny _ _ (if (items.size:Int)<((items.size:Int) - 1)+1 then _ else _) _ _ _
 rw [if_neg (by omega)]
 refine wpAny_bind (wpAny_mkInt (wpAny_pure ⟨_,rfl,?_⟩))
 refine wpAny_bind (wpAny_pure ?_)
 show wpAny _ _ (if (!Builtin.List.listFitsIndex ((items.size:Int) - 1+1))=true then _ else _) _ _ _
 rw [if_neg (by unfold Builtin.List.listFitsIndex; simp; omega),if_neg (by omega),if_neg (by unfold Builtin.List.listTooLong; simp; omega)]
 exact wpAny_pure (hQ _ _ (Nat.le_trans (Nat.le_trans (Nat.le_succ _) (Nat.le_succ _)) (Nat.le_succ _)))
section
variable {prog:Program}{w:World}{A:Around}{E:Value->Shared->Prop}{s:Shared}{I:Addr}{fp wr:List Addr}{G:Array GenState->Array GenState->Prop}{n:Nat}{P:Nat->Value->Prop}{St:Nat->Shared->Prop}
theorem Mj{Q:List Value->Shared->Prop}(hH:∀(A:Around) (E:Value->Shared->Prop) (s':Shared) (Q:Bool->Shared->Prop),St 0 s'->(∀b tk,s'.toks<=tk->Q b { s' with toks:=tk })->wpAny (model prog w) A (Builtin.List.listLengthHint (.ref I)) Q E s')
  (W:WalksS prog w A.in1 I fp wr G n P St) (hT:∀i s,St i s->s.TypeIs (.ref I) "reversed") (hst:St 0 s) (hfp:∀b∈fp,b<s.heap.objs.size) (hI:I∈fp)
  (hQ:∀s' acc,Moved wr G s s'->ItemsOf P acc n->Q acc.toList s') (hn:n<=sizeLine):wpAny (model prog w) A (collect (.ref I)) Q E s:=by
 have hSf:s.heap.objs.size∉fp:=fun hm=>Nat.lt_irrefl _ (hfp _ hm)
 have hSI:s.heap.objs.size≠I:=fun e=>hSf (e▸hI)
 unfold collect
 refine wpAny_bind (wpAny_runValue (codeAny_builtin F.entry_proto_collect ?_))
 rw [Around.under_plainId F.plain_proto_collect _]
 show wpAny _ A.in1 (newList [] >>= fun l=>again (.builtin "list.__iadd__" ⟨[l,.ref I],[]⟩)) _ _ s
 refine wpAny_bind (wpAny_newObj_type ?_)
 refine wpAny_pure ⟨plainId_quiet F.plain_list_iadd _,codeAny_builtin F.entry_list_iadd ?_⟩
 rw [Around.under_plainId F.plain_list_iadd _]
 have hst₁:=W.frame 0 s (s.heap.push { cls:=.type "list",data:=.seq ([]:List Value).toArray }) s.toks hst (Nat.le_refl _) fun b _ o e=>Heap.get?_push_of_some _ e
 have hS₁:(s.heap.push { cls:=.type "list",data:=.seq ([]:List Value).toArray }).get? s.heap.objs.size=some { cls:=.type "list",data:=.seq ([]:List Value).toArray }:=Heap.get?_push_size _ rfl
 have h1:Builtin.List.listSameRef (.ref s.heap.objs.size) (.ref I)=false:=by simp [Builtin.List.listSameRef,hSI]
 show wpAny _ A.in1 (Builtin.List.listExtendWith (.ref s.heap.objs.size) (.ref I) (.ref s.heap.objs.size)) _ _ _
 unfold Builtin.List.listExtendWith
 refine wpAny_bind (wpAny_typeOf (hT 0 _ hst₁) ?_)
 rw [if_neg (by rw [h1]; decide)]
 refine wpAny_bind (W.self 0 _ _ _ hst₁ ?_)
 refine wpAny_bind (wpAny_holding ?_)
 refine hH _ _ _ _ hst₁ fun b tk htk=>?_
 have fin:∀(h:Heap) (c₁ tk':Nat),s.toks<=tk'->St 0 { s with heap:=h,toks:=tk' }->h.get? s.heap.objs.size=some { cls:=.type "list",data:=.seq #[] c₁ }->(∀b o,b≠s.heap.objs.size->s.heap.get? b=some o->h.get? b=some o) ->
   ∀R:Result->Shared->Prop,(∀s' acc c,s'.heap.get? s.heap.objs.size=some { cls:=.type "list",dict:=none,data:=.seq acc c,slots:=#[] }->Moved wr G s s'->ItemsOf P acc n->R (.ok (.ret (.ref s.heap.objs.size))) s') ->
   codeAny (model prog w) A (.builtin "list.extend.loop" ⟨[.ref s.heap.objs.size,.ref I,.ref s.heap.objs.size],[]⟩) R { s with heap:=h,toks:=tk' }:=by
  intro h c₁ tk' ht st0 hS hk R hR
  refine codeAny_extend_loopS W hn _ hSf _ n 0 _ _ _ rfl (Nat.zero_le _) st0 hS (ItemsOf.nil P) fun s' acc' c' hm hS' hacc=>hR s' acc' c' hS' ⟨fun b o hb e=>hm.heap b o (fun hmem=>?_) (hk b o (Nat.ne_of_lt (Heap.lt_size e)) e),hm.gens,hm.drawn,hm.os,Nat.le_trans ht hm.toks⟩ hacc
  rcases List.mem_cons.mp hmem with e' | hmem
  ·exact absurd (Heap.lt_size e) (by rw [e']; exact Nat.lt_irrefl _)
  ·exact hb hmem
 have last:∀s' acc c,s'.heap.get? s.heap.objs.size=some { cls:=.type "list",dict:=none,data:=.seq acc c,slots:=#[] }->Moved wr G s s'->ItemsOf P acc n->wpAny (model prog w) A (load s.heap.objs.size >>= fun o=>match o.data with
   | .seq xs _=>pure xs.toList
   | _=>unsupported "internal:collect") Q E s':=fun s' acc c h1 h2 h3=>wpAny_bind (wpAny_load h1 (wpAny_pure (hQ s' acc h2 h3)))
 have st2:=W.frame 0 _ (s.heap.push { cls:=.type "list",data:=.seq ([]:List Value).toArray }) tk hst₁ htk fun b _ o e=>e
 refine wpAny_ite_split (fun _=>?_) (fun _=>wpAny_pure ⟨plainId_quiet F.plain_extend_loop _,fin _ 0 tk htk st2 hS₁ (fun b o _ e=>Heap.get?_push_of_some _ e) _ last⟩)
 refine wpAny_bind (wpAny_rule ?_)
 refine wpAny_bind ?_
 show wpAny _ _ (updateSeq s.heap.objs.size (·.push .none) >>= fun _=>updateSeq s.heap.objs.size (·.pop)) _ _ _
 refine wpAny_bind (wpAny_updateSeq hS₁ rfl ?_)
 have hS₂:=Heap.get?_update_self (Obj.mapSeq (·.push Value.none)) hS₁ rfl
 refine wpAny_updateSeq (hz:=by seq_fits) hS₂ rfl ?_
 have hS₃:=Heap.get?_update_self (Obj.mapSeq (·.pop)) hS₂ rfl
 refine wpAny_pure ⟨plainId_quiet F.plain_extend_loop _,fin _ _ tk htk ?_ hS₃ (fun b o hb e=>?_) _ last⟩
 ·refine W.frame 0 { s with heap:=s.heap.push { cls:=.type "list",data:=.seq ([]:List Value).toArray },toks:=tk } _ tk st2 (Nat.le_refl _) fun b hb o e=>?_
  have hbS:b≠s.heap.objs.size:=fun h=>hSf (h▸hb)
  exact(Heap.get?_update_other _ _ (Ne.symm hbS)).trans ((Heap.get?_update_other _ _ (Ne.symm hbS)).trans e)
 ·exact(Heap.get?_update_other _ _ (Ne.symm hb)).trans ((Heap.get?_update_other _ _ (Ne.symm hb)).trans (Heap.get?_push_of_some _ e))
theorem Iw{Q₁:Value->Shared->Prop}(hH:∀(A:Around) (E:Value->Shared->Prop) (s':Shared) (Q:Bool->Shared->Prop),St 0 s'->(∀b tk,s'.toks<=tk->Q b { s' with toks:=tk })->wpAny (model prog w) A (Builtin.List.listLengthHint (.ref I)) Q E s')(W:WalksS prog w A.in1.in1 I fp wr G n P St)(hT:∀i s,St i s->s.TypeIs (.ref I) "reversed")(hst:St 0 s)(hfp:∀b∈fp,b<s.heap.objs.size)(hI:I∈fp)
  (h:∀s' acc,Moved wr G s s'->ItemsOf P acc n->Q₁ (.ref s'.heap.objs.size) { s' with heap:=s'.heap.push { cls:=.type "tuple",data:=.seq acc } }) (hsz:n<=sizeLine) :
  codeAny (model prog w) A (.call (.builtin "tuple.__new__") ⟨[.type "tuple",.ref I],[]⟩) (wants Q₁ E) s:=by
 refine codeAny_of_tree ?_
 show wpAny _ A.in1 (do checkBuiltinCall "tuple.__new__" ⟨[.type "tuple",.ref I],[]⟩; again (.builtin "tuple.__new__" ⟨[.type "tuple",.ref I],[]⟩)) _ _ s
 refine wpAny_bind (wpAny_of_eq (F.newCall_tuple_1 _) (wpAny_pure ⟨plainId_quiet F.plain_tuple_new _,codeAny_builtin F.entry_tuple_new ?_⟩))
 rw [Around.under_plainId F.plain_tuple_new _]
 have hsub:=sub_tuple_self
 have hinit:=init_tuple_lookup
 have hmh:=madeHere_tuple
 have hTI:=hT 0 s hst
 wp_walk using wpAny_typeOf hTI,Mj (hn:=hsz) hH W hT hst hfp hI
 intro s' acc hm hacc
 show wpAny _ _ (Builtin.Tuple.tupleExact acc.toList.toArray >>= fun v=>ret v) _ _ _
 unfold Builtin.Tuple.tupleExact
 refine wpAny_bind (wpAny_newObj_type ?_ (by show acc.toList.toArray.size<=sizeLine; simp only [Array.toArray_toList]; rw [hacc.1]; exact hsz))
 refine wpAny_pure ?_
 have e:acc.toList.toArray=acc:=by simp
 rw [e]
 exact h s' acc hm hacc
theorem Iy{Q:Value->Shared->Prop}(hH:∀(A:Around) (E:Value->Shared->Prop) (s':Shared) (Q:Bool->Shared->Prop),St 0 s'->(∀b tk,s'.toks<=tk->Q b { s' with toks:=tk })->wpAny (model prog w) A (Builtin.List.listLengthHint (.ref I)) Q E s')(W:WalksS prog w A.in1.in1.in1 I fp wr G n P St)(hT:∀i s,St i s->s.TypeIs (.ref I) "reversed")(hst:St 0 s)(hfp:∀b∈fp,b<s.heap.objs.size)(hI:I∈fp)
  (hQ:∀s' acc,Moved wr G s s'->ItemsOf P acc n->Q (.ref s'.heap.objs.size) { s' with heap:=s'.heap.push { cls:=.type "tuple",data:=.seq acc } }) (hsz:n<=sizeLine) :
  wpAny (model prog w) A (call (.type "tuple") [.ref I]) Q E s:=by
 refine callType_codes (Q₁:=fun obj s₁=>s₁.TypeIs obj "tuple"/\Q obj s₁) F.called_tuple (F.typeCall_tuple_1 _) F.entry_object_init
  (Iw (hsz:=hsz) hH W hT hst hfp hI fun s' acc hm hacc=>⟨⟨_,Heap.get?_push_size _ rfl,rfl⟩,hQ s' acc hm hacc⟩) fun obj s₁ h₁=>?_
 exact⟨h₁.1,F.args_object_init_2 obj _,object_init_meets F.called_tuple.init.lookup F.called_tuple.made (by decide) prog w A.in1 _ s₁ ⟨h₁.1,rfl,h₁.2⟩⟩
end
section
variable {X:Cx}{e:Expr}{te:TE}{p1 p2 q1 q2:Pos}
def Ow(K:Frag)(te:TE):TE:=fun σ H Q=>te σ H fun x H1=>∃l xs,x=.ref l/\SqT K H1 l xs/\∀r,H1 r=none->Q (.ref r) (BA H1 r (.tup xs.reverse))
theorem MS(hc:X.calm=true)(he:PE X e te)(hg1:Gl X "tuple")(hm1:X.mg "tuple"=none)(hg2:Gl X "reversed")(hm2:X.mg "reversed"=none)(h1:starEach [Expr.Call (.Name "reversed" p2) [e] [] q2] X.env=[(false,eval (Expr.Call (.Name "reversed" p2) [e] [] q2) X.env)]:=by rfl)
  (h2:starEach [e] X.env=[(false,eval e X.env)]:=by rfl):PE X (.Call (.Name "tuple" p1) [.Call (.Name "reversed" p2) [e] [] q2] [] q1) (Ow X.K te):=by
 intro pins s σ H Q I h
 refine wpAny_Call_Name_kw (FQ I hg1 hm1 boot_tuple ?_)
 refine PyProof.Rows.callWith_type1 ?_ h1 rfl
 rw [h1]
 refine Calls.spliced_cons ?_
 refine wpAny_Call_Name_kw (FQ I hg2 hm2 Iz ?_)
 refine PyProof.Rows.callWith_type1 ?_ h2 rfl
 rw [h2]
 refine Calls.spliced_cons (Bp (he pins s σ H _ I h) fun u s1 ⟨x,H1,I1,r1,l,xs,ex,hq,q⟩=>Calls.spliced_nil ?_)
 subst ex
 cases r1
 obtain⟨its,r',pl,hz⟩:=I1.tuple hq
 have hlen:=r'.length
 have hl:IsTup s1.heap l its.toArray:=pl
 have hlt:l<s1.heap.objs.size:=by obtain⟨_,e,_⟩:=id hl; exact Heap.lt_size e
 have hfit:((its.toArray.size:Nat):Int)<2 ^ 63:=by rw [List.size_toArray,← hlen]; have:=sizeLine_eq; omega
 refine Ks hl hfit fun tk0=>Calls.spliced_nil ?_
 have hn1:H1 s1.heap.objs.size=none:=I1.fresh
 have I2:Inv X pins σ H1 { s1 with heap:=s1.heap.push (LR l ((its.toArray.size:Int) - 1)),toks:=tk0 }:=I1.kept (t':=tk0) fun b o e=>Heap.get?_push_of_some _ e
 have fpk:GI X pins H1 s1.heap.objs.size:=I1.fpOk (Nat.le_refl _) hn1
 refine Iy (hH:=fun _ _ s' _ h hq=>Q9 (by have:=h.2.1; rw [show ((its.toArray.size:Nat):Int) - 1 - ((0:Nat):Int)=((its.toArray.size:Nat):Int) - 1 by omega] at this; exact this) h.2.2 (by rw [List.size_toArray,← hlen]; exact hz) hq) (s:={ s1 with heap:=s1.heap.push (LR l ((its.toArray.size:Int) - 1)),toks:=tk0 }) (Op (A:=X.A.in1.in1.in1) (I1.ok.hd hc) s1.heap.objs.size l (Nat.ne_of_lt hlt) its.toArray hfit).toS (fun i s' hs=>hs.2.1.typeIs) ⟨Nat.zero_le _,⟨_,Heap.get?_push_size _ rfl,rfl,by show Data.fields _=_; simp [LR]⟩,(let ⟨o,ho,r⟩:=hl; ⟨o,Heap.get?_push_of_some _ ho,r⟩)⟩ (fun b hb=>?_) List.mem_cons_self (fun s' acc hm hacc=>?_) (by rw [List.size_toArray,← hlen]; exact hz)
 ·rcases List.mem_cons.mp hb with rfl | hb
  ·exact Heap.lt_size (Heap.get?_push_size _ rfl)
  ·obtain rfl:=List.mem_singleton.mp hb
   exact Nat.lt_of_lt_of_le hlt (by show s1.heap.objs.size<=(s1.heap.push _).objs.size; rw [size_push']; exact Nat.le_succ _)
 ·obtain⟨h',g',d',tk',os'⟩:=s'
  have e1:g'=s1.gens:=hm.gens
  have e2:d'=s1.drawn:=hm.drawn
  have e3:os'=s1.os:=hm.os
  subst e1 e2 e3
  have I3':=I2.turnedL (h':=h') (t':=tk') (ch:=[s1.heap.objs.size]) (fun c hc=>by rw [List.mem_singleton.mp hc]; exact fpk) fun b o hb e=>hm.heap b o hb e
  have I3:Inv X pins σ H1 { s1 with heap:=h',toks:=tk' }:=I3'
  have hv:acc.toList=its.reverse:=by
   refine List.ext_getElem? fun i=>?_
   obtain⟨a1,a2⟩:=hacc
   have e0:acc.toList[i]?=acc[i]?:=by simp
   rw [e0]
   by_cases hi:i<its.length
   ·have hi2:i<acc.size:=by rw [a1,List.size_toArray]; exact hi
    have a3:=a2 i acc[i] (Array.getElem?_eq_getElem hi2)
    rw [List.getElem?_reverse hi,Array.getElem?_eq_getElem hi2,← a3,List.size_toArray]
    simp
   ·rw [List.getElem?_eq_none (by rw [List.length_reverse]; omega)]
    exact Array.getElem?_eq_none (by rw [a1,List.size_toArray]; omega)
  have hv2:acc=its.reverse.toArray:=by rw [← hv]
  have rr:Vals xs.reverse its.reverse:=r'.reverse
  refine⟨.ref h'.objs.size,BA H1 h'.objs.size (.tup xs.reverse),I3.laid (t':=tk') (fun b o e=>Heap.get?_push_of_some _ e) (Nat.le_refl _) (show ObjOk X.prog X.w _ _ _ (.tup xs.reverse) from⟨by rw [List.length_reverse]; exact hz,its.reverse,rr,by rw [hv2]; exact IsTup.new _ _⟩),rfl,q _ (I3.hok.fresh (Nat.le_refl _))⟩
end
end L2
namespace Dp
open PySem PySem.Spec PyProof.Rows L2
def HP(wa:DW):DW:=fun n ρ P=>wa n ρ fun d n1=>∃xs,d=.tup xs/\P (.tup xs.reverse) n1
section
variable {X:Cx}{a:Expr}{κa:Kd}{wa:DW}{p1 p2 q1 q2:Pos}
theorem IN(hc:X.calm=true)(ha:DE X a κa wa)(hg1:Gl X "tuple")(hm1:X.mg "tuple"=none)(hg2:Gl X "reversed")(hm2:X.mg "reversed"=none)(h1:starEach [Expr.Call (.Name "reversed" p2) [a] [] q2] X.env=[(false,eval (Expr.Call (.Name "reversed" p2) [a] [] q2) X.env)]:=by rfl)
  (h2:starEach [a] X.env=[(false,eval a X.env)]:=by rfl):DE X (.Call (.Name "tuple" p1) [.Call (.Name "reversed" p2) [a] [] q2] [] q1) .sh (HP wa):=by
 obtain⟨t,a1,a2⟩:=ha
 refine⟨_,MS hc a1 hg1 hm1 hg2 hm2 h1 h2,fun C M H n ρ σ P Q R w q=>?_⟩
 refine a2 C M H n ρ σ _ _ R w fun v H1 d n1 e1 f1 r1 p=>?_
 obtain⟨xs,rfl,p⟩:=p
 have R1:=R.step e1 f1
 obtain⟨ad,vs,rfl,hq,hs⟩:=(r1.tpOf R.dom R.vM).tup
 refine⟨ad,vs,rfl,hq.sq,fun r hr=>?_⟩
 have g:Grow H1 (BA H1 r (.tup vs.reverse)):=Av hr
 exact q _ _ (.tup xs.reverse) n1 (e1.trans g.ext) (f1.grow g) (DP R1.dom hr (hs.reverse)) p
end
end Dp
namespace Nt
open PySem PySem.Spec PyProof.Rows L2 Dp
def Rp(N:Net)(s x:Str):Prop:=∃d,Wk N s x d
structure FK (N:Net) (s:Str) (ks:List AY):Prop where
 nd:ks.Nodup
 dom:∀k∈ks,∃x:Str,k=.inr x
 mem:∀x:Str,.inr x∈ks↔Rp N s x
def Qq(N:Net)(s:Str)(d:D):Prop:=∃ts:List BI,d=enc ⟨N.ps,ts⟩/\(∀t∈ts,t∈N.ts)/\ts.Pairwise A_/\(∀x,Rp N s x->Rp ⟨N.ps,ts⟩ s x)/\∃ks,FK N s ks/\ts.length+1=ks.length
noncomputable def HU(N:Net)(s:Str)(d:D):Bool:=@decide (Qq N s d) (Classical.propDecidable _)
theorem treeB_iff{N:Net}{s:Str}{d:D}:HU N s d=true↔Qq N s d:=by
 unfold HU
 exact @decide_eq_true_iff _ (Classical.propDecidable _)
def C3:W2:=fun ss n P=>∃(N:Net) (s:Str) (d:D),ss=[.sh (enc N),.sh (.str s),.sh d]/\Ft N/\N.ps.length<=24/\s∈N.ps/\fine (10 ^ 41) d/\DU d<=200000/\Gg d<=90/\P (.bl (HU N s d)) n
def Dk:W2:=fun ss n P=>ss=[.fd]/\1<=n/\∀(e:D),fine (10 ^ 30) e->DU e<=250->Gg e<=2->P e (n - 1)
inductive T0:D->Prop
 | s (x:Str):T0 (.str x)
 | i (k:Int):T0 (.int k)
 | t (xs:List D) (h:∀x,x∈xs->T0 x):T0 (.tup xs)
def FY(j:Nat):W2:=fun ss n P=>∃(d:D) (nm:List Str) (i:Nat),ss=[.fd,.sh d,.sh (.tup (nm.map .str)),.sh (.int i)]/\i<=j/\T0 d/\fine (10 ^ 7) d/\nm≠[]/\nm.length<=24/\(∀x∈nm,P2 x)/\DU d<=50000/\3*j+3<=n/\∀(e:D) (n':Nat),fine (10 ^ 30) e->DU e<=2*DU d+500->Gg e<=Gg d+3->n - (3*j+3)<=n'->P e n'
def Dx:W2:=fun ss n P=>∃(N:Net) (s:Str),ss=[.fd,.sh (enc N),.sh (.str s)]/\Ft N/\N.ps.length<=7/\N.ts.length<=12/\s∈N.ps/\200<=n/\∀(es:List D) (n':Nat),(∀e∈es,fine (10 ^ 30) e/\DU e<=150000/\Gg e<=20)->1<=es.length->es.length<=40->n - 200<=n'->P (.lst es) n'
def E3:W2:=fun ss n P=>∃ts:List BI,ss=[.fd,.sh (.tup (ts.map AT))]/\ts.length+1<=n/\ts.length<=60/\∀(us:List BI) (n':Nat),us.Sublist ts->n - 1 - ts.length<=n'->P (.tup (us.map AT)) n'
def Dt:Ad:=(Aj (Bx (EG (Af (Ag FJ (AG (AZ (AC 0)) (AG (AZ (AC 2)) Ai))))) (BZ (wC (D.bl false))) BN)
 (Aj (Bl 3 (CK QE (AD (Ag Gn (AG (AZ (AC 0)) (AG (AZ (AC 1)) Ai))) AR)))
 (BZ (LD (AV (G8 false) (CK QE (AD (Ag Gn (AG (AZ (AC 2)) (AG (AZ (AC 1)) Ai))) AR)) (AC 3)) (AV (G8 false) (CK C_ (AD (AV BC (AC 2) (wC (D.int 1))) AR)) (AV Dr (AC 3) (wC (D.int 1))))))))
def FG:Ad:=(Aj (Bl 2 (AV Ax (wC (D.int 1)) (Ag BM (AG (A3 0) (AG (AZ (wC (D.int 4))) Ai)))))
 (BZ (CK Bk (AD (Cg [some 0,some 2,none] (BY (AC 1)) (Ak 2) (Af (AV (f2 fun i j=>D.bl (decide (j<i))) (Ag BM (AG (A3 0) (AG (AZ (AV Ax (wC (D.int 1)) (AC 1))) Ai))) (wC (D.int 0)))) (AC 2)) AR))))
def GD:Ad:=(Aj (Bl 1 (DH (AD (wC D.non) (AD (wC (D.bl true)) (AD (wC (D.int 0)) (AD (wC (D.int 1)) (AD (ST (wC (D.int 1))) (AD (wC (D.int 7)) (AD (wC (D.str "a")) (AD (wC (D.str "in")) (AD (wC (D.str "")) (AD (Bh AR) (AD (DH AR) (AD (Bh (AD (wC (D.str "a")) AR)) (AD (DH (AD (wC (D.str "a")) AR)) (AD (Bh (AD (wC (D.str "in")) (AD (Bh AR) AR))) (AD (AV (Rf Mt fun i j=>D.int (i ^ j.toNat)) (wC (D.int 10)) (wC (D.int 30))) (AD (Bh (AD (wC (D.str "a")) (AD (wC (D.str "a")) AR))) AR))))))))))))))))))
 (BZ (AV BC (AC 1) (Ag BM (AG (A3 0) (AG (AZ (wC (D.int 16))) Ai))))))
def GF:Ad:=(Aj (Bx (EG (Af (Ag FJ (AG (AZ (AC 0)) (AG (AZ (AC 2)) Ai))))) (BZ (wC (D.bl false))) BN)
 (Aj (Bl 3 (CK Mh (AD (Ag CH (AG (FL (AV BC (AC 0) (wC (D.int 1)))) (AG (AZ (AC 1)) Ai))) AR)))
 (BZ (LD (AV Re (CK Mh (AD (Ag CH (AG (FL (AV BC (AC 2) (wC (D.int 1)))) (AG (AZ (AC 1)) Ai))) AR)) (AC 3)) (AV Re (CK C_ (AD (AV BC (AC 2) (wC (D.int 1))) AR)) (AV Dr (CK C_ (AD (AC 3) AR)) (wC (D.int 1))))))))
def FH(Wbent:W2):Ad:=(Aj (Bl 4 (Ag BM (AG (A3 0) (AG (AZ (wC (D.int 9))) Ai))))
 (Aj (Bx (Af (GM "tuple" (AC 1))) (Aj (Bl 5 (Ag BM (AG (A3 0) (AG (AZ (AV Ax (CK C_ (AD (AC 1) AR)) (wC (D.int 1)))) Ai))))
 (Aj (Bx (HQ (Af (AV (f2 fun i j=>D.bl (decide (j<i))) (AC 4) (wC (D.int 3)))) (HQ (Af (AV FT (AC 5) (CK C_ (AD (AC 1) AR)))) (Af (AV (f2 fun i j=>D.bl (decide (j<i))) (AC 3) (wC (D.int 0)))))) (Aj (Bl 6 (Ag Wbent (AG (A3 0) (AG (AZ (AV BC (AC 1) (AC 5))) (AG (AZ (AC 2)) (AG (AZ (AV Dr (AC 3) (wC (D.int 1)))) Ai))))))
 (BZ (AV Ax (AV Ax (JC Dh (AC 1) BX (B_ (AC 5))) (Bh (AD (AC 6) AR))) (JC Dh (AC 1) (B_ (AV Ax (AC 5) (wC (D.int 1)))) BX)))) BN)
 (Aj (Bx (Fb (Af (AV (G8 false) (AC 4) (wC (D.int 0)))) (Af (AV (G8 false) (AC 4) (wC (D.int 4))))) (BZ (AV Ax (JC Dh (AC 1) BX (B_ (AC 5))) (JC Dh (AC 1) (B_ (AV Ax (AC 5) (wC (D.int 1)))) BX))) BN)
 (Aj (Bx (Af (AV (G8 false) (AC 4) (wC (D.int 1)))) (BZ (AV Ax (AV Ax (JC Dh (AC 1) BX (B_ (AC 5))) (JC Dh (AC 1) (B_ (AC 5)) (B_ (AV Ax (AC 5) (wC (D.int 1)))))) (JC Dh (AC 1) (B_ (AC 5)) BX))) BN)
 (Aj (Bx (Af (AV (G8 false) (AC 4) (wC (D.int 2)))) (BZ (AV Ax (AV Ax (JC Dh (AC 1) BX (B_ (AC 5))) (Bh (AD (Ag Dk (AG (A3 0) Ai)) AR))) (JC Dh (AC 1) (B_ (AC 5)) BX))) BN)
 (BZ (AV BC (DH (AD (CK Gb (AD (AC 1) AR)) (AD (HP (AC 1)) AR))) (Ag BM (AG (A3 0) (AG (AZ (wC (D.int 2))) Ai)))))))))) BN)
 (Aj (Bx (HQ (Af (GM "str" (AC 1))) (Af (AV (f2 fun i j=>D.bl (decide (j<i))) (AC 4) (wC (D.int 1))))) (BZ (AV BC (AC 2) (Ag BM (AG (A3 0) (AG (AZ (CK C_ (AD (AC 2) AR))) Ai))))) BN)
 (Aj (Bx (HQ (Af (GM "int" (AC 1))) (Af (AV (f2 fun i j=>D.bl (decide (j<i))) (AC 4) (wC (D.int 1))))) (BZ (AV BC (DH (AD (AV Ax (AC 1) (wC (D.int 1))) (AD (AV Dr (AC 1) (wC (D.int 1))) (AD (AV (G8 false) (AC 1) (wC (D.int 1))) (AD (AV Ax (AC 1) (AV (Rf Mt fun i j=>D.int (i ^ j.toNat)) (wC (D.int 10)) (wC (D.int 6)))) (AD (wC (D.int 0)) (AD (AV Dr (AC 1) (wC (D.int 7))) (AD (AV Ax (AC 1) (wC (D.int 13))) AR)))))))) (AV Dr (AC 4) (wC (D.int 2))))) BN)
 (BZ (Ag Dk (AG (A3 0) Ai)))))))
def Ky:Ad:=(Aj (EO (ED (AD (wC (D.int 4)) AR)) (Ak 9) (Jz 6 "list" Eg (AD (Ag (FY 3) (AG (A3 0) (AG (AZ (AC 5)) (AG (AZ (AV BC (AC 1) (wC (D.int 0)))) (AG (AZ (wC (D.int 3))) Ai))))) AR)))
 (BZ (AV Ax (Az 6) (DH (AD (Ag Dk (AG (A3 0) Ai)) AR)))))
def Kv:Ad:=(Aj (Jz 6 "list" Eg (AD (AV BC (AC 5) (wC (D.int 1))) AR))
 Ky)
def Kw:Ad:=(Aj (Jz 6 "list" Eg (AD (Bh (AD (CK Gb (AD (AV BC (AC 1) (wC (D.int 0))) AR)) (AD (AV BC (AC 5) (wC (D.int 1))) AR))) AR))
 Kv)
def Kx:Ad:=(Aj (Jz 6 "list" Eg (AD (Bh (AD (AV BC (AC 1) (wC (D.int 0))) (AD (T8 (AV BC (AC 5) (wC (D.int 1))) (ST (wC (D.int 1)))) AR))) AR))
 Kw)
def Kz:Ad:=(Aj (Jz 6 "list" Eg (AD (Bh (AD (CK Bk (AD (Cg [some 3,none] (BY (AV BC (AC 1) (wC (D.int 0)))) (Ak 1) (Af (AV (Kc false) (AC 1) (AC 0))) (AC 1)) AR)) (AD (AV BC (AC 5) (wC (D.int 1))) AR))) AR))
 Kx)
def Kt:Ad:=(Aj (Bx (Af (AV Mi (AC 7) (DH AR))) (Aj (Bl 8 (AV BC (AC 7) (Ag BM (AG (A3 0) (AG (AZ (CK C_ (AD (AC 7) AR))) Ai)))))
 (Aj (Jz 6 "list" Eg (AD (Bh (AD (AV BC (AC 1) (wC (D.int 0))) (AD (CK Bk (AD (CK CZ (AD (AV Ax (AV BC (AC 5) (wC (D.int 1))) (Bh (AD (AC 8) AR))) AR)) AR)) AR))) AR))
 (EO (ED (AD (CK Lo (AD (wC (D.int 3)) (AD (CK C_ (AD (AV BC (AC 5) (wC (D.int 1))) AR)) AR))) AR)) (Ak 9) (Jz 6 "list" Eg (AD (Bh (AD (AV BC (AC 1) (wC (D.int 0))) (AD (CK Bk (AD (CK CZ (AD (AV Ax (AV Ax (JC Dh (AV BC (AC 5) (wC (D.int 1))) BX (B_ (AC 9))) (JC Dh (AV BC (AC 5) (wC (D.int 1))) (B_ (AV Ax (AC 9) (wC (D.int 1)))) BX)) (Bh (AD (AC 8) AR))) AR)) AR)) AR))) AR))))) BN)
 Kz)
def K0:Ad:=(Aj (Bl 7 (Cg [some 5,none] (BY (AV BC (AC 1) (wC (D.int 1)))) (Ak 1) (Af (AV (QF true) (AC 1) (AV BC (AC 0) (wC (D.int 1))))) (AC 1)))
 Kt)
def Ku:Ad:=(Aj (Jz 6 "list" Eg (AD (Bh (AD (AV BC (AC 1) (wC (D.int 0))) (AD (Ag E3 (AG (A3 0) (AG (AZ (AV BC (AC 5) (wC (D.int 1)))) Ai))) AR))) AR))
 K0)
def K3:Ad:=(Aj (Jz 6 "list" Eg (AD (Bh (AD (AV BC (AC 1) (wC (D.int 0))) (AD (Ag E3 (AG (A3 0) (AG (AZ (AV BC (AC 1) (wC (D.int 1)))) Ai))) AR))) AR))
 Ku)
def EM:Ad:=(Aj (Bl 3 (Ru (Ag CH (AG (FL (AV BC (AC 1) (wC (D.int 1)))) (AG (AZ (AC 2)) Ai)))))
 (Aj (Bl 4 (Bh (AD (AV BC (AC 1) (wC (D.int 0))) (AD (CK Bk (AD (Cg [some 3,none] (BY (AV BC (AC 1) (wC (D.int 1)))) (Ak 1) (Af (AV (Kc false) (AV BC (AC 1) (wC (D.int 0))) (AC 0))) (AC 1)) AR)) AR))))
 (Aj (Bl 5 (Ag Go (AG (A3 0) (AG (AZ (AC 4)) Ai))))
 (Aj (EC 6 (DH (AD (AC 5) (AD (Ag Go (AG (A3 0) (AG (AZ (AC 1)) Ai))) (AD (Ag G2 (AG (AZ (AC 1)) Ai)) (AD (Ag G2 (AG (AZ (AC 4)) Ai)) (AD (AC 1) (AD (Bh (AD (AV BC (AC 1) (wC (D.int 0))) (AD (Bh AR) AR))) AR))))))))
 K3))))
def K4:Ad:=(Aj (Bl 7 (AV BC (AV BC (AC 4) (AC 6)) (AV (Rf (fun _ j=>0<j) fun i j=>D.int (i % j)) (AC 5) (CK C_ (AD (AV BC (AC 4) (AC 6)) AR)))))
 (Aj (Bl 8 (Ag C3 (AG (AZ (AV BC (AC 2) (AC 6))) (AG (AZ (AV BC (AC 3) (AC 6))) (AG (AZ (AC 7)) Ai)))))
 (Bx (Fb (EG (Af (GM "bool" (AC 8)))) (Af (AV (G8 true) (AC 8) (Ag C3 (AG (AZ (AV BC (AC 2) (AC 6))) (AG (AZ (AV BC (AC 3) (AC 6))) (AG (AZ (AC 7)) Ai))))))) (BZ (wC (D.bl false))) BN)))
def L0:Ad:=(Aj (EO (ED (AD (wC (D.int 2)) AR)) (Ak 6) (EO (BY (AV BC (AV BC (AC 2) (AC 6)) (wC (D.int 0)))) (Ak 9) (Aj (Bl 10 (Ag G2 (AG (AZ (AV BC (AC 2) (AC 6))) Ai)))
 (Bx (Af (AV (G8 true) (Ag C3 (AG (AZ (AV BC (AC 2) (AC 6))) (AG (AZ (AC 9)) (AG (AZ (AC 10)) Ai)))) (Ag C3 (AG (AZ (AV BC (AC 2) (AC 6))) (AG (AZ (AC 9)) (AG (AZ (AC 10)) Ai)))))) (BZ (wC (D.bl false))) BN))))
 (BZ (wC (D.bl true))))
def IV:Ad:=(Aj (EO (ED (AD (CK QD (AD (CK C_ (AD (AV BC (AC 4) (wC (D.int 0))) AR)) (AD (CK C_ (AD (AV BC (AC 4) (wC (D.int 1))) AR)) AR))) AR)) (Ak 5) (EO (ED (AD (wC (D.int 2)) AR)) (Ak 6) K4))
 L0)
def Js:Ad:=(Aj (Bl 2 (DH (AD (Ag Gk (AG (A3 1) (AG (AZ (wC (D.int 7))) (AG (AZ (wC (D.int 12))) Ai)))) (AD (Ag Gk (AG (A3 1) (AG (AZ (wC (D.int 7))) (AG (AZ (wC (D.int 12))) Ai)))) AR))))
 (Aj (Bl 3 (Cg [some 1,none] (BY (AC 2)) (Ak 1) E4 (AV BC (AV BC (AC 1) (wC (D.int 0))) (Ag BM (AG (A3 0) (AG (AZ (CK C_ (AD (AV BC (AC 1) (wC (D.int 0))) AR))) Ai))))))
 (Aj (Bl 4 (Cg [some 1,some 2,some 3,none] (ED (AD (wC (D.int 2)) AR)) (Ak 3) E4 (Ag Dx (AG (A3 0) (AG (AZ (AV BC (AC 1) (AC 3))) (AG (AZ (AV BC (AC 2) (AC 3))) Ai))))))
 IV)))
theorem Nx{N:Net}(a b c:D):EQ N (.tup [a,b,c])=(GK c&&(N.ts.map AT).any fun y=>Ej y (.tup [a,b,c])):=by
 rw [Bool.eq_iff_iff,tofB_iff,Bool.and_eq_true,List.any_eq_true]
 constructor
 ·rintro ⟨t,ht,e⟩
  have e3:c=.int t.len:=by injection e with e; injection e with _ e; injection e with _ e; injection e
  exact⟨by rw [e3]; rfl,AT t,List.mem_map.mpr ⟨t,ht,rfl⟩,by rw [e]; exact Kf t⟩
 ·rintro ⟨hw,y,hy,e⟩
  obtain⟨t,ht,rfl⟩:=List.mem_map.mp hy
  obtain⟨z,e2,hz⟩:=Jj e
  have e3:c=z:=by injection e2 with e; injection e with _ e; injection e with _ e; injection e
  subst e3
  rw [e2]
  cases c with
  | int i=>exact⟨t,ht,by rw [hz i rfl]; rfl⟩
  | _=>cases hw
theorem Mz{N:Net}{d:D}(h:∀a b c,d≠.tup [a,b,c]):EQ N d=false:=by
 rw [Bool.eq_false_iff]
 intro z
 obtain⟨t,_,e⟩:=tofB_iff.mp z
 exact h _ _ _ e
def TQ(ts:List BI):D->Bool
 | .int k=>BP (By (ts.getD k.toNat ⟨"","",0⟩)) (By (ts.getD (k.toNat+1) ⟨"","",0⟩))
 | _=>true
theorem Rn(ts:List BI):Oj (ts.map AT)=true↔∀k,k+1<ts.length->BP (By (ts.getD k ⟨"","",0⟩)) (By (ts.getD (k+1) ⟨"","",0⟩))=true:=by
 induction ts with
 | nil=>exact⟨fun _ k h=>absurd h (by simp),fun _=>rfl⟩
 | cons s r ih =>
  cases r with
  | nil=>exact⟨fun _ k h=>absurd h (by simp),fun _=>rfl⟩
  | cons t r =>
   show ((Oi (AT s) (AT t)==some true)&&Oj ((t::r).map AT))=true↔_
   rw [Bool.and_eq_true,ih,Hv]
   constructor
   ·rintro ⟨h1,h2⟩ k hk
    cases k with
    | zero=>exact Option.some.inj (eq_of_beq h1)
    | succ k=>exact h2 k (by simpa using hk)
   ·intro h
    have h0:=h 0 (by simp)
    exact⟨by rw [show BP (By s) (By t)=true from h0]; rfl,fun k hk=>h (k+1) (by simpa using hk)⟩
theorem Tg(ts:List BI)(m:Nat)(hm:m=(((ts.length:Nat):Int) - 1).toNat):(EU 0 m).all (TQ ts)=Oj (ts.map AT):=by
 rw [Bool.eq_iff_iff,Rn,List.all_eq_true]
 constructor
 ·intro h k hk
  have:=h (.int (0+(k:Int))) (List.mem_map.mpr ⟨k,List.mem_range.mpr (by omega),rfl⟩)
  have e:TQ ts (.int (0+(k:Int)))=BP (By (ts.getD (0+(k:Int)).toNat ⟨"","",0⟩)) (By (ts.getD ((0+(k:Int)).toNat+1) ⟨"","",0⟩)):=rfl
  rw [e,show (0+(k:Int)).toNat=k by omega] at this
  exact this
 ·intro h d hd
  obtain⟨k,hk,rfl⟩:=DJ hd
  have e:TQ ts (.int (0+(k:Int)))=BP (By (ts.getD (0+(k:Int)).toNat ⟨"","",0⟩)) (By (ts.getD ((0+(k:Int)).toNat+1) ⟨"","",0⟩)):=rfl
  rw [e,show (0+(k:Int)).toNat=k by omega]
  exact h k (by omega)
section
variable {ss:List Slot}{n:Nat}{Pd:D->Nat->Prop}
theorem Ij(h:E3 ss n Pd):FG (EE Pd) n (ss++List.replicate 1 .no):=by
 obtain⟨ts,rfl,hn,l60,p⟩:=h
 unfold FG
 refine⟨4,rfl,by decide,by decide,by omega,fun sh s0 s1=>?_⟩
 refine⟨by show (ts.map AT).length<=10000000; rw [List.length_map]; omega,?_⟩
 have go:∀(rest done acc:List BI) (m:Nat) (s:Slot),done++rest=ts->acc.Sublist done->n - 1 - done.length<=m ->
   Da (Ak 2) (Af (AV (f2 fun i j=>D.bl (decide (j<i))) (Ag BM (AG (A3 0) (AG (AZ (AV Ax (wC (D.int 1)) (AC 1))) Ai))) (wC (D.int 0)))) (AC 2) (fun acc n2=>Pd (.tup acc) n2) (rest.map AT) (acc.map AT) m [.fd,.sh (.int (1+sh)),s]:=by
  intro rest
  induction rest with
  | nil =>
   intro done acc m s e h1 h2
   rw [List.append_nil] at e
   subst e
   exact p acc m h1 h2
  | cons t rest ih =>
   intro done acc m s e h1 h2
   have hl:done.length+(rest.length+1)=ts.length:=by rw [← e,List.length_append,List.length_cons]
   have e':(done++[t])++rest=ts:=by rw [List.append_assoc]; exact e
   refine⟨_,rfl,by omega,by omega,by omega,fun r r0 r1=>?_⟩
   refine CY (fun _=>?_) fun _=>?_
   ·have:=ih (done++[t]) (acc++[t]) (m - 1) (.sh (AT t)) e' (h1.append (List.Sublist.refl [t])) (by rw [List.length_append,List.length_singleton]; omega)
    rw [List.map_append] at this
    exact this
   ·exact ih (done++[t]) acc (m - 1) (.sh (AT t)) e' (h1.trans (List.sublist_append_left _ _)) (by rw [List.length_append,List.length_singleton]; omega)
 exact go ts [] [] _ _ rfl (List.Sublist.refl _) (by simp)
theorem GP(h:FJ ss n Pd):Dv (EE Pd) n (ss++List.replicate 1 .no):=by
 obtain⟨N,d,rfl,ok,l1,l2,hf,hs,hd,p⟩:=h
 have szl:=PySem.sizeLine_eq
 have layi:∀i:Int,DV (.int i):=fun i=>⟨rfl,rfl,Nat.zero_le _⟩
 have layp:DV (.tup (N.ps.map .str)):=GW ok.names
 unfold Dv
 cases d with
 | tup zs =>
  by_cases hz:zs.length=2
  ·obtain⟨x,y,rfl⟩:∃x y,zs=[x,y]:=by
    match zs,hz with
    | [x,y],_=>exact⟨x,y,rfl⟩
   have f1:fine (10 ^ 41) x:=hf.1
   have hd':max (Gg x) (max (Gg y) 0)+1<=90:=hd
   have hs':DU x+1+(DU y+1+0)<=200000:=hs
   refine⟨_,_,rfl,rfl,layi _,layi _,?_⟩
   refine CY (fun c=>absurd c (by show ¬(!Ej (.int 2) (.int 2))=true; decide)) fun _=>?_
   refine⟨_,AH (j:=0) rfl,_,AH (j:=0) rfl,D8 (B:=10 ^ 41) (by decide) f1 (by omega),layp,?_⟩
   refine CY (fun c=>?_) fun c=>?_
   ·have:E9 N (.tup [x,y])=false:=by
     rw [Bool.eq_false_iff]
     intro z
     obtain⟨ts,e,_⟩:=thinB_iff.mp z
     have e1:x=.tup (N.ps.map .str):=by injection e with e; injection e
     rw [eqD_strs.mpr e1] at c
     cases c
    rw [this] at p
    exact p
   ·have ex:Ej x (.tup (N.ps.map .str))=true:=by
     cases e:Ej x (.tup (N.ps.map .str)) with
     | true=>rfl
     | false=>rw [e] at c; exact absurd rfl c
    refine⟨_,AH (j:=1) rfl,?_⟩
    cases y with
    | tup xs =>
     rw [← JK ok,ex,Bool.true_and] at p
     have f2:FD (10 ^ 41) xs:=hf.2.1
     have dx:IZ xs<=88:=by have:max (Gg x) (max (IZ xs+1) 0)+1<=90:=hd'; omega
     have hl:=KS xs
     have sx:Cv xs<=200000:=by have:DU x+1+(Cv xs+1+0)<=200000:=hs'; omega
     refine E5 ⟨_,AH (j:=1) rfl,?_⟩
     have go:∀(vs us:List D) (s2:Slot),xs=us++vs->us.all (EQ N)=true->Be (Ak 2) (Bx (Fb (EG (Af (GM "tuple" (AC 2)))) (Fb (Af (AV Mi (CK C_ (AD (AC 2) AR)) (wC (D.int 3)))) (Fb (EG (Af (Ag Di (AG (AZ (AV BC (AC 2) (wC (D.int 2)))) Ai)))) (Af (AV (QF true) (AC 2) (AV BC (AC 0) (wC (D.int 1)))))))) (BZ (wC (D.bl false))) BN)
       { EE Pd with nx:=fun n ρ=>(BZ (CK Lq (AD (Cg [some 1,none] (ED (AD (AV Dr (CK C_ (AD (AV BC (AC 1) (wC (D.int 1))) AR)) (wC (D.int 1))) AR)) (Ak 1) E4 (AV FT (AV BC (AV BC (AC 0) (wC (D.int 1))) (AC 1)) (AV BC (AV BC (AC 0) (wC (D.int 1))) (AV Ax (AC 1) (wC (D.int 1)))))) AR))) (EE Pd) n ρ } vs n [.sh (enc N),.sh (.tup [x,.tup xs]),s2]:=by
      intro vs
      induction vs with
      | nil =>
       intro us s2 e ha
       rw [List.append_nil] at e
       subst e
       obtain⟨ts,rfl,hts⟩:=HX ha
       rw [ha,Bool.true_and] at p
       have tl:=Hw ts
       have tl2:(ts.map AT).length=ts.length:=List.length_map ..
       refine⟨_,AH (j:=1) rfl,_,_,rfl,rfl,_,rfl,⟨by omega,by omega⟩,by rw [DK]; omega,?_⟩
       refine CS (fun e=>.bl (TQ ts e)) (fun ρ=>∃s,ρ=[.sh (.tup [x,.tup (ts.map AT)]),s]) _ _ _ _ ?_ ⟨_,rfl⟩ ?_
       ·rintro d hd ρ m' nx ⟨s,rfl⟩ hnx
        obtain⟨k,hk,rfl⟩:=DJ hd
        have k1:k<ts.length:=by omega
        have k2:k+1<ts.length:=by omega
        have g1:(ts.map AT)[k]?=some (AT ts[k]):=by rw [List.getElem?_map,List.getElem?_eq_getElem k1]; rfl
        have g2:(ts.map AT)[k+1]?=some (AT ts[k+1]):=by rw [List.getElem?_map,List.getElem?_eq_getElem k2]; rfl
        refine⟨_,AH (j:=1) rfl,AT ts[k],by rw [show (0+(k:Int))=((k:Nat):Int) by omega]; exact AH g1,_,AH (j:=1) rfl,AT ts[k+1],by rw [show (0+(k:Int)+1)=((k+1:Nat):Int) by omega]; exact AH g2,?_⟩
        refine NU (Hv _ _) ?_
        have e1:ts.getD k ⟨"","",0⟩=ts[k]:=by rw [List.getD_eq_getElem?_getD,List.getElem?_eq_getElem k1]; rfl
        have e2:ts.getD (k+1) ⟨"","",0⟩=ts[k+1]:=by rw [List.getD_eq_getElem?_getD,List.getElem?_eq_getElem k2]; rfl
        have:=hnx [.sh (.tup [x,.tup (ts.map AT)]),.sh (.int (0+(k:Int)))] ⟨_,rfl⟩
        rw [show TQ ts (.int (0+(k:Int)))=BP (By ts[k]) (By ts[k+1]) by show BP (By (ts.getD (0+(k:Int)).toNat ⟨"","",0⟩)) (By (ts.getD ((0+(k:Int)).toNat+1) ⟨"","",0⟩))=_; rw [show (0+(k:Int)).toNat=k by omega,e1,e2]] at this
        exact this
       ·rw [List.nil_append]
        show Lq [D.lst ((EU 0 (((ts.map AT).length:Int) - 1).toNat).map fun e=>D.bl (TQ ts e))] fun z=>Pd z n
        refine Lp (l:=EU 0 (((ts.map AT).length:Int) - 1).toNat) (p:=TQ ts) ?_
        rw [Tg ts _ (by rw [tl2])]
        exact p
      | cons d vs ih =>
       intro us s2 e ha
       have hm:d∈xs:=by rw [e]; exact List.mem_append_right _ List.mem_cons_self
       have bad:EQ N d=false->Pd (.bl false) n:=fun z=>by
        have:xs.all (EQ N)=false:=by rw [e,List.all_append,List.all_cons,z]; simp
        rw [this] at p
        exact p
       have good:EQ N d=true->∀s2,Be _ _ _ vs n [.sh (enc N),.sh (.tup [x,.tup xs]),s2]:=fun z s2=>ih (us++[d]) s2 (by rw [e,List.append_assoc]; rfl) (by rw [List.all_append,ha,List.all_cons,z]; rfl)
       cases d with
       | tup zs =>
        by_cases hz3:zs.length=3
        ·obtain⟨a,b',c,rfl⟩:∃a b c,zs=[a,b,c]:=by
          match zs,hz3 with
          | [a,b,c],_=>exact⟨a,b,c,rfl⟩
         refine⟨_,_,rfl,rfl,layi _,layi _,?_⟩
         refine CY (fun c=>absurd c (by show ¬(!Ej (.int 3) (.int 3))=true; decide)) fun _=>?_
         refine⟨_,AH (j:=2) rfl,[_],rfl,rfl,?_⟩
         have ld:DV (.tup [a,b',c]):=D8 (B:=10 ^ 41) (by decide) (fines_iff.mp f2 _ hm) (by have:=dps_le.mp dx _ hm; omega)
         have tt:=Nx (N:=N) a b' c
         cases w:GK c with
         | false =>
          rw [w] at tt
          show if (!GK c)=true then _ else _
          rw [w]
          exact Ef (bad tt)
         | true =>
          rw [w,Bool.true_and] at tt
          show if (!GK c)=true then _ else _
          rw [w]
          refine E5 ⟨_,AH (j:=1) rfl,ld,(Ec ok fun _ h=>h).1,_,rfl,?_⟩
          have fin:∀b:Bool,EQ N (.tup [a,b',c])=b->(if (!b)=true then Pd (.bl false) n else Be _ _ _ vs n [.sh (enc N),.sh (.tup [x,.tup xs]),.sh (.tup [a,b',c])]):=fun b hb=>by
           cases b with
           | false=>exact Ef (bad hb)
           | true=>exact E5 (good hb _)
          exact fin _ tt
        ·refine⟨_,_,rfl,rfl,layi _,layi _,?_⟩
         have hb:=bad (Mz fun a b c e=>hz3 (by injection e with e; rw [e]; rfl))
         refine CY (fun _=>hb) fun c=>absurd ?_ c
         show (!((zs.length:Int)==3))=true
         rw [Bool.not_eq_true',beq_eq_false_iff_ne]
         omega
       | _=>exact bad (Mz fun a b c e=>by cases e)
     exact go xs [] _ rfl rfl
    | _ =>
     rw [ET (fun p xs e=>by cases e)] at p
     exact Ef p
  ·refine⟨_,_,rfl,rfl,layi _,layi _,?_⟩
   rw [ET (fun p xs e=>hz (by injection e with e; rw [e]; rfl))] at p
   refine CY (fun _=>p) fun c=>absurd ?_ c
   show (!((zs.length:Int)==2))=true
   rw [Bool.not_eq_true',beq_eq_false_iff_ne]
   omega
 | _ =>
  rw [ET (fun p xs e=>by cases e)] at p
  exact p
theorem Ma{α:Type}[DecidableEq α]:∀{l2 l1:List α},l2.Nodup->(∀x∈l2,x∈l1)->l2.length<=l1.length
 | [],_,_,_=>Nat.zero_le _
 | a::r,l1,nd,h=>by
  have h1:=h a List.mem_cons_self
  have nr:=List.nodup_cons.mp nd
  have:=Ma (l2:=r) (l1:=l1.erase a) nr.2 fun x hx=>(List.mem_erase_of_ne (fun e=>nr.1 (by rw [← e]; exact hx))).mpr (h x (List.mem_cons_of_mem _ hx))
  rw [List.length_erase_of_mem h1] at this
  have:=List.length_pos_of_mem h1
  rw [List.length_cons]
  omega
theorem S6{α:Type}[DecidableEq α]{l2 l1:List α}(nd:l2.Nodup)(h:∀x∈l2,x∈l1)(hl:l1.length<=l2.length):∀x∈l1,x∈l2:=fun x hx=>by
 refine Decidable.byContradiction fun hn=>?_
 have:=Ma (l2:=x::l2) (l1:=l1) (List.nodup_cons.mpr ⟨hn,nd⟩) fun y hy=>by
  rcases List.mem_cons.mp hy with rfl | hy
  ·exact hx
  ·exact h y hy
 rw [List.length_cons] at this
 omega
theorem QJ{ps:List Str}:∀{ts us:List BI},ts.map AT=us.map AT->ts=us
 | [],[],_=>rfl
 | [],_::_,h=>by cases h
 | _::_,[],h=>by cases h
 | t::ts,u::us,h=>by
  have h1:AT t=AT u:=by injection h
  have h2:ts.map AT=us.map AT:=by injection h
  have e:t=u:=by
   obtain⟨a,b,c⟩:=t
   obtain⟨a',b',c'⟩:=u
   injection h1 with e
   injection e with e1 e
   injection e with e2 e
   injection e with e3 _
   injection e1 with e1
   injection e2 with e2
   injection e3 with e3
   subst e1 e2 e3
   rfl
  rw [e,QJ (ps:=ps) h2]
theorem HW{N:Net}(okn:Ft N){ts:List BI}(h1:∀t∈ts,t∈N.ts)(h2:ts.Pairwise A_)(h3:ts.length<=60):Ft ⟨N.ps,ts⟩:=⟨O3 okn.1 h1 h2,okn.2.1,h3⟩
theorem Hz{N:Net}{s:Str}{ks:List AY}{ds:List D}{F:L9}(M:Dmap ks ds IK F)(T:To N s F):FK N s ks:=by
 refine⟨M.nd,M.dom,fun x=>?_⟩
 rw [M.mem x]
 constructor
 ·intro h
  cases e:F x with
  | none=>exact absurd e h
  | some dp=>exact⟨dp.1,(T.least x dp.1 dp.2 e).1⟩
 ·rintro ⟨d,w⟩
  exact T.all x d w
theorem Jb{N:Net}{s:Str}{ks:List AY}{ds:List D}{K:Kn}(M:Dmap ks ds D.int K)(T:LTold N s K):FK N s ks:=by
 refine⟨M.nd,M.dom,fun x=>?_⟩
 rw [M.mem x]
 constructor
 ·intro h
  cases e:K x with
  | none=>exact absurd e h
  | some d=>exact⟨d,(T.least x d e).1⟩
 ·rintro ⟨d,w⟩
  exact T.all x d w
theorem FR{N M:Net}{s:Str}{k1 k2:List AY}(h1:FK N s k1)(h2:FK M s k2)(h:∀x,Rp N s x↔Rp M s x):k1.Perm k2:=by
 refine(List.perm_ext_iff_of_nodup h1.nd h2.nd).mpr fun k=>?_
 constructor
 ·intro hk
  obtain⟨x,rfl⟩:=h1.dom k hk
  exact(h2.mem x).mpr ((h x).mp ((h1.mem x).mp hk))
 ·intro hk
  obtain⟨x,rfl⟩:=h2.dom k hk
  exact(h1.mem x).mpr ((h x).mpr ((h2.mem x).mp hk))
theorem Hi{N:Net}{s:Str}{ts:List BI}(h:∀t∈ts,t∈N.ts){x:Str}(w:Rp ⟨N.ps,ts⟩ s x):Rp N s x:=⟨w.choose,Wk.mono (N:=⟨N.ps,ts⟩) h w.choose_spec⟩
theorem M9{N:Net}{s:Str}{ts:List BI}(h:∀t∈ts,t∈N.ts){k1 k2:List AY}(h1:FK N s k1)(h2:FK ⟨N.ps,ts⟩ s k2)(hl:k2.length=k1.length):∀x,Rp N s x->Rp ⟨N.ps,ts⟩ s x:=by
 intro x hx
 have sub:∀k∈k2,k∈k1:=fun k hk=>by
  obtain⟨y,rfl⟩:=h2.dom k hk
  exact(h1.mem y).mpr (Hi h ((h2.mem y).mp hk))
 exact(h2.mem x).mp (S6 h2.nd sub (by omega) _ ((h1.mem x).mpr hx))
theorem Mx{N:Net}{s:Str}{ts:List BI}(h1:∀t∈ts,t∈N.ts)(h2:ts.Pairwise A_){k1 k2:List AY}(K1:FK N s k1)(K2:FK ⟨N.ps,ts⟩ s k2):HU N s (enc ⟨N.ps,ts⟩)=(((k2.length:Int)==(k1.length:Int))&&((ts.length:Int)==(k1.length:Int) - 1)):=by
 have pos:∀{ks:List AY},FK N s ks->ks.length=k1.length:=fun h=>(FR h K1 fun _=>Iff.rfl).length_eq
 rw [Bool.eq_iff_iff,treeB_iff,Bool.and_eq_true,beq_iff_eq,beq_iff_eq]
 constructor
 ·rintro ⟨us,e,_,_,h3,ks,hk,hl⟩
  have eu:us=ts:=by
   injection e with e
   injection e with _ e
   injection e with e _
   injection e with e
   exact(QJ (ps:=N.ps) e).symm
  subst eu
  have:=(FR K2 K1 fun x=>⟨Hi h1,h3 x⟩).length_eq
  have:=pos hk
  omega
 ·rintro ⟨e1,e2⟩
  exact⟨ts,rfl,h1,h2,M9 h1 K1 K2 (by omega),k1,K1,by omega⟩
theorem JI{N:Net}{s:Str}{d:D}(h:E9 N d=false):HU N s d=false:=by
 rw [Bool.eq_false_iff]
 intro z
 obtain⟨ts,e,h1,h2,_⟩:=treeB_iff.mp z
 have:LA N d:=⟨ts,e,h1,h2⟩
 rw [thinB_iff.mpr this] at h
 cases h
theorem Fe{N:Net}(ok:N.Ok){ts:List BI}(h1:∀t∈ts,t∈N.ts)(h2:ts.Pairwise A_):ts.length<=N.ts.length:=by
 have nd:ts.Nodup:=h2.imp fun h e=>by
  subst e
  rcases h with h | ⟨_,h⟩
  ·exact BT _ h
  ·exact BT _ h
 exact Ma nd h1
theorem Fn(h:C3 ss n Pd):Dt (EE Pd) n (ss++List.replicate 1 .no):=by
 obtain⟨N,s,d,rfl,okn,l24,hs,hf,hz,hd,p⟩:=h
 unfold Dt
 refine⟨N,d,rfl,okn.1,l24,okn.2.2,hf,hz,hd,?_⟩
 cases t:E9 N d with
 | false =>
  rw [JI t] at p
  exact Ef p
 | true =>
  obtain⟨ts,rfl,h1,h2⟩:=thinB_iff.mp t
  have l60:=Fe okn.1 h1 h2
  have okT:=HW okn h1 h2 (by have:=okn.2.2; omega)
  refine E5 ⟨N,s,rfl,okn,hs,fun k1 d1 F1 M1 T1=>?_⟩
  refine⟨_,k1,d1,rfl,rfl,M1.len,?_⟩
  refine⟨⟨N.ps,ts⟩,s,rfl,okT,hs,fun k2 d2 F2 M2 T2=>?_⟩
  refine⟨_,k2,d2,rfl,rfl,M2.len,?_⟩
  have ti:=Mx h1 h2 (Hz M1 T1) (Hz M2 T2)
  have p2:Pd (.bl (((k2.length:Int)==(k1.length:Int))&&((ts.length:Int)==(k1.length:Int) - 1))) n:=by rw [← ti]; exact p
  refine K7 (b1:=((k2.length:Int)==(k1.length:Int))) (b2:=((ts.length:Int)==(k1.length:Int) - 1)) (P:=Pd) (n:=n) (k:=fun P=>_) (fun _ hp=>?_) p2
  refine⟨_,AH (j:=1) rfl,_,_,rfl,rfl,?_⟩
  rw [List.length_map]
  exact hp
theorem GX:∀{ks:List AY},(∀k∈ks,∃x:Str,k=.inr x)->∃ss:List Str,ks=ss.map Sum.inr
 | [],_=>⟨[],rfl⟩
 | k::ks,h=>by
  obtain⟨x,rfl⟩:=h k List.mem_cons_self
  obtain⟨ss,e⟩:=GX fun j hj=>h j (List.mem_cons_of_mem _ hj)
  exact⟨x::ss,by rw [e]; rfl⟩
theorem N5{l1 l2:List Str}(h1:EV l1)(h2:EV l2)(p:l1.Perm l2):l1=l2:=KH (fun a b x y=>absurd (List.lt_trans x y) (BT _)) p h1 h2
theorem JZ{ps:List Str}(h:∀p∈ps,P2 p):DV (.lst (ps.map .str)):=GW h
theorem OY{xs ys:List Str}:Ej (.lst (xs.map .str)) (.lst (ys.map .str))=decide (xs=ys):=by
 rw [Bool.eq_iff_iff,decide_eq_true_eq]
 constructor
 ·intro h
  have h:(xs.map D.str)=ys.map D.str:=Eh (xs:=xs.map .str) (ps:=ys) h
  have inj:∀{a b:List Str},a.map D.str=b.map D.str->a=b:=by
   intro a
   induction a with
   | nil=>intro b h; cases b with | nil=>rfl | cons _ _=>cases h
   | cons x a ih =>
    intro b h
    cases b with
    | nil=>cases h
    | cons y b =>
     have h1:D.str x=D.str y:=by injection h
     have h2:a.map D.str=b.map D.str:=by injection h
     injection h1 with h1
     rw [h1,ih h2]
  exact inj h
 ·rintro rfl
  exact Ei xs
theorem Pt{ss:List Str}(h:(ss.map (Sum.inr:Str->AY)).Nodup):ss.Nodup:=by
 rw [List.Nodup,List.pairwise_map] at h
 exact h.imp fun h e=>h (by rw [e])
theorem KA(h:C3 ss n Pd):GF (EE Pd) n (ss++List.replicate 1 .no):=by
 obtain⟨N,s,d,rfl,okn,l24,hs,hf,hz,hd,p⟩:=h
 have szl:=PySem.sizeLine_eq
 have layi:∀i:Int,DV (.int i):=fun i=>⟨rfl,rfl,Nat.zero_le _⟩
 unfold GF
 refine⟨N,d,rfl,okn.1,l24,okn.2.2,hf,hz,hd,?_⟩
 cases t:E9 N d with
 | false =>
  rw [JI t] at p
  exact Ef p
 | true =>
  obtain⟨ts,rfl,h1,h2⟩:=thinB_iff.mp t
  have l60:=Fe okn.1 h1 h2
  have okT:=HW okn h1 h2 (by have:=okn.2.2; omega)
  have nm:∀(x:Str),x∈N.ps->x.length<=sizeLine:=fun x hx=>by have:=(okn.1.names x hx).2.1; omega
  refine E5 ⟨_,AH (j:=1) rfl,N,s,_,N.ts,rfl,rfl,fun _=>Iff.rfl,okn,hs,fun k1 d1 K1 M1 L1=>?_⟩
  have R1:=Jb M1 L1
  obtain⟨s1,e1⟩:=GX M1.dom
  have in1:∀x∈s1,x∈N.ps:=fun x hx=>L1.ins x ((M1.mem x).mp (by rw [e1]; exact List.mem_map.mpr ⟨x,hx,rfl⟩))
  have nd1:s1.Nodup:=Pt (by rw [← e1]; exact M1.nd)
  have c1:k1.length=s1.length:=by rw [e1,List.length_map]
  have b1:=M1.le L1.ins
  refine⟨_,k1,d1,s1,rfl,rfl,M1.len,e1,by omega,fun x hx=>nm x (in1 x hx),fun z1 p1 q1=>?_⟩
  refine⟨_,AH (j:=1) rfl,⟨N.ps,ts⟩,s,_,ts,rfl,rfl,fun _=>Iff.rfl,okT,hs,fun k2 d2 K2 M2 L2=>?_⟩
  have R2:=Jb M2 L2
  obtain⟨s2,e2⟩:=GX M2.dom
  have in2:∀x∈s2,x∈N.ps:=fun x hx=>L2.ins x ((M2.mem x).mp (by rw [e2]; exact List.mem_map.mpr ⟨x,hx,rfl⟩))
  have nd2:s2.Nodup:=Pt (by rw [← e2]; exact M2.nd)
  have c2:k2.length=s2.length:=by rw [e2,List.length_map]
  have b2:k2.length<=N.ps.length:=M2.le L2.ins
  refine⟨_,k2,d2,s2,rfl,rfl,M2.len,e2,by omega,fun x hx=>nm x (in2 x hx),fun z2 p2 q2=>?_⟩
  have n1:∀x∈z1,P2 x:=fun x hx=>okn.1.names x (in1 x (p1.mem_iff.mp hx))
  have n2:∀x∈z2,P2 x:=fun x hx=>okn.1.names x (in2 x (p2.mem_iff.mp hx))
  have m1:=p1.length_eq
  have m2:=p2.length_eq
  refine⟨JZ n2,JZ n1,?_⟩
  have eb:Ej (.lst (z2.map .str)) (.lst (z1.map .str))=((k2.length:Int)==(k1.length:Int)):=by
   rw [OY,Bool.eq_iff_iff,decide_eq_true_eq,beq_iff_eq]
   constructor
   ·intro e
    rw [e] at m2
    omega
   ·intro e
    have hr:=M9 h1 R1 R2 (by omega)
    have kp:=FR R2 R1 fun x=>⟨Hi h1,hr x⟩
    have sp:s2.Perm s1:=by
     refine(List.perm_ext_iff_of_nodup nd2 nd1).mpr fun x=>?_
     have:=kp.mem_iff (a:=.inr x)
     rw [e1,e2] at this
     have mm:∀l:List Str,(Sum.inr x:AY)∈l.map Sum.inr↔x∈l:=fun l=>by
      rw [List.mem_map]
      exact⟨fun⟨y,hy,e⟩=>by rw [← Sum.inr.inj e]; exact hy,fun h=>⟨x,h,rfl⟩⟩
     rw [mm,mm] at this
     exact this
    exact N5 (De q2 (p2.nodup_iff.mpr nd2)) (De q1 (p1.nodup_iff.mpr nd1)) (p2.trans (sp.trans p1.symm))
  have ti:=Mx h1 h2 R1 R2
  have p2:Pd (.bl (Ej (.lst (z2.map .str)) (.lst (z1.map .str))&&((ts.length:Int)==(k1.length:Int) - 1))) n:=by rw [eb,← ti]; exact p
  refine K7 (b1:=Ej (.lst (z2.map .str)) (.lst (z1.map .str))) (b2:=((ts.length:Int)==(k1.length:Int) - 1)) (P:=Pd) (n:=n) (k:=fun P=>_) (fun _ hp=>?_) p2
  refine⟨_,AH (j:=1) rfl,_,_,rfl,rfl,_,_,rfl,rfl,layi _,layi _,?_⟩
  have ee:Ej (.int (((ts.map AT).length:Nat):Int)) (.int ((((z1.map D.str).length:Nat):Int) - 1))=((ts.length:Int)==(k1.length:Int) - 1):=by
   show ((((ts.map AT).length:Nat):Int)==(((z1.map D.str).length:Nat):Int) - 1)=_
   rw [List.length_map,List.length_map,m1,c1]
  show Pd (.bl (Ej (.int (((ts.map AT).length:Nat):Int)) (.int ((((z1.map D.str).length:Nat):Int) - 1)))) n
  rw [ee]
  exact hp
theorem PL(h:Dk ss n Pd):GD (EE Pd) n (ss++List.replicate 1 .no):=by
 obtain⟨rfl,hn,p⟩:=h
 have szl:=PySem.sizeLine_eq
 have base:∀z∈[D.non,.bl true,.int 0,.int 1,.int (-1),.int 7,.str "a",.str "in",.str "",.tup [],.lst [],.tup [.str "a"],.lst [.str "a"],.tup [.str "in",.tup []],.int (10 ^ (30:Int).toNat),.tup [.str "a",.str "a"]],fine (10 ^ 30) z/\DU z<=250/\Gg z<=2:=by
  have sg:∀x∈[("a" : Str),"in",""],(∀c∈cs x,c<1114112)/\x.length<=9:=by decide +kernel
  have fa:fine (10 ^ 30) (.str "a"):=(sg _ (by simp)).1
  have fi:fine (10 ^ 30) (.str "in"):=(sg _ (by simp)).1
  have za:DU (.str "a")<=9:=(sg _ (by simp)).2
  have zi:DU (.str "in")<=9:=(sg _ (by simp)).2
  have hi:∀i:Int,i.natAbs<=10 ^ 30->fine (10 ^ 30) (.int i):=fun i h=>h
  intro z hz'
  simp only [List.mem_cons,List.not_mem_nil,or_false] at hz'
  rcases hz' with rfl | rfl | rfl | rfl | rfl | rfl | rfl | rfl | rfl | rfl | rfl | rfl | rfl | rfl | rfl | rfl
  ·exact⟨trivial,Nat.zero_le _,Nat.zero_le _⟩
  ·exact⟨trivial,Nat.zero_le _,Nat.zero_le _⟩
  ·exact⟨hi _ (by decide),by show 200<=_; omega,Nat.zero_le _⟩
  ·exact⟨hi _ (by decide),by show 200<=_; omega,Nat.zero_le _⟩
  ·exact⟨hi _ (by decide),by show 200<=_; omega,Nat.zero_le _⟩
  ·exact⟨hi _ (by decide),by show 200<=_; omega,Nat.zero_le _⟩
  ·exact⟨fa,by omega,Nat.zero_le _⟩
  ·exact⟨fi,by omega,Nat.zero_le _⟩
  ·exact⟨(sg "" (by simp)).1,Nat.le_trans (sg "" (by simp)).2 (by omega),Nat.zero_le _⟩
  ·exact⟨trivial,Nat.zero_le _,by show 0+1<=_; omega⟩
  ·exact⟨trivial,Nat.zero_le _,by show 0+1<=_; omega⟩
  ·exact⟨⟨fa,trivial⟩,by show DU (.str "a")+1+0<=_; omega,by show max 0 0+1<=_; decide⟩
  ·exact⟨⟨fa,trivial⟩,by show DU (.str "a")+1+0<=_; omega,by show max 0 0+1<=_; decide⟩
  ·exact⟨⟨fi,trivial,trivial⟩,by show DU (.str "in")+1+(0+1+0)<=_; omega,by show max 0 (max (0+1) 0)+1<=_; decide⟩
  ·exact⟨hi _ (by decide),by show 200<=_; omega,Nat.zero_le _⟩
  ·exact⟨⟨fa,fa,trivial⟩,by show DU (.str "a")+1+(DU (.str "a")+1+0)<=_; omega,by show max 0 (max 0 0)+1<=_; decide⟩
 unfold GD
 refine⟨1,rfl,(by decide:0<=sizeLine),(by decide:0<=sizeLine),(by decide:1<=sizeLine),(by decide:1<=sizeLine),(by decide:0<=sizeLine),(by decide:2<=sizeLine),⟨by decide,by decide,by decide⟩,(by decide:2<=sizeLine),(by decide:16<=sizeLine),?_⟩
 refine⟨16,rfl,by decide,by decide,by omega,fun r r0 r1=>?_⟩
 obtain⟨k,rfl⟩:∃k:Nat,r=(k:Int):=⟨r.toNat,by omega⟩
 have hk:k<16:=by omega
 generalize hzs:[D.non,.bl true,.int 0,.int 1,.int (-1),.int 7,.str "a",.str "in",.str "",.tup [],.lst [],.tup [.str "a"],.lst [.str "a"],.tup [.str "in",.tup []],.int (10 ^ (30:Int).toNat),.tup [.str "a",.str "a"]]=zs at base
 have hk':k<zs.length:=by rw [← hzs]; exact hk
 obtain⟨g1,g2,g3⟩:=base zs[k] (List.getElem_mem hk')
 refine⟨zs[k],?_,p _ g1 g2 g3⟩
 subst hzs
 exact AH (List.getElem?_eq_getElem hk')
theorem JQ{Wr:W2}{j:Nat}(hrec:∀ss n P,j≠0->FY (j - 1) ss n P->Wr ss n P)(h0:FY j ss n Pd):FH Wr (EE Pd) n (ss++List.replicate 3 .no):=by
 obtain⟨d,nm,i,rfl,hi,hT,hf,hne,h24,hnm,hz,hn,p⟩:=h0
 have szl:=PySem.sizeLine_eq
 have odd:∀m:Nat,n - 1<=m->Dk [.fd] m Pd:=fun m hm=>⟨rfl,by omega,fun e f1 f2 f3=>p e _ f1 (by omega) (by omega) (by omega)⟩
 unfold FH
 refine⟨9,rfl,by decide,by decide,by omega,fun w w0 w1=>?_⟩
 cases hT with
 | s x =>
  refine CY (fun c=>?_) fun c=>odd (n - 1) (by omega)
  have hl:(nm.map D.str).length=nm.length:=List.length_map ..
  have hp:=List.length_pos_iff.mpr hne
  refine⟨_,_,rfl,rfl,_,rfl,by omega,by omega,by omega,fun r r0 r1=>?_⟩
  obtain⟨y,hy,ey⟩:=K5 (ps:=nm) r0 (by omega)
  refine⟨_,ey,?_⟩
  have hN:=hnm y hy
  exact p _ _ (show ∀c∈cs y,c<1114112 from fun c hc=>by have:=hN.2.2 c hc; omega) (by show y.length<=_; have:=hN.2.1; omega) (Nat.zero_le _) (by omega)
 | i k =>
  have hk:k.natAbs<=10 ^ 7:=hf
  refine CY (fun c=>?_) fun c=>odd (n - 1) (by omega)
  have hw:1<w:=of_decide_eq_true c
  refine⟨⟨by decide,by decide,by decide⟩,(by decide:7<=sizeLine),?_⟩
  obtain⟨a,ha⟩:∃a:Nat,w - 2=(a:Int):=⟨(w - 2).toNat,by omega⟩
  have ha7:a<7:=by omega
  have base:∀z∈[D.int (k+1),.int (k - 1),.bl (k==1),.int (k+10 ^ (6:Int).toNat),.int 0,.int (k - 7),.int (k+13)],fine (10 ^ 30) z/\DU z<=200/\Gg z<=0:=by
   have e6:(10:Int) ^ (6:Int).toNat=1000000:=by decide
   have hi:∀i:Int,i.natAbs<=10 ^ 30->fine (10 ^ 30) (.int i):=fun i h=>h
   intro z hz'
   simp only [List.mem_cons,List.not_mem_nil,or_false] at hz'
   rcases hz' with rfl | rfl | rfl | rfl | rfl | rfl | rfl
   ·exact⟨hi _ (by omega),Nat.le_refl _,Nat.zero_le _⟩
   ·exact⟨hi _ (by omega),Nat.le_refl _,Nat.zero_le _⟩
   ·exact⟨trivial,Nat.zero_le _,Nat.zero_le _⟩
   ·exact⟨hi _ (by rw [e6]; omega),Nat.le_refl _,Nat.zero_le _⟩
   ·exact⟨hi _ (by decide),Nat.le_refl _,Nat.zero_le _⟩
   ·exact⟨hi _ (by omega),Nat.le_refl _,Nat.zero_le _⟩
   ·exact⟨hi _ (by omega),Nat.le_refl _,Nat.zero_le _⟩
  generalize hzs:[D.int (k+1),.int (k - 1),.bl (k==1),.int (k+10 ^ (6:Int).toNat),.int 0,.int (k - 7),.int (k+13)]=zs at base
  have hk':a<zs.length:=by rw [← hzs]; exact ha7
  obtain⟨g1,g2,g3⟩:=base zs[a] (List.getElem_mem hk')
  refine⟨zs[a],?_,p _ _ g1 (by omega) (by omega) (by omega)⟩
  subst hzs
  rw [ha]
  exact AH (List.getElem?_eq_getElem hk')
 | t xs hx =>
  have hl:=Ex xs
  have hz2:Cv xs<=50000:=hz
  have hl1:(DU (.tup xs))=Cv xs:=rfl
  have fx:∀(ys:List D),(∀y∈ys,y∈xs\/(fine (10 ^ 30) y/\Gg y<=IZ xs+3))->Cv ys<=2*Cv xs+500->(∀m,n - (3*j+3)<=m->Pd (.tup ys) m)/\∀m,n - (3*j+3)<=m->Pd (.lst ys) m:=fun ys hy hs=>by
   have f1:FD (10 ^ 30) ys:=fines_iff.mpr fun y h=>(hy y h).elim (fun h=>(fines_iff.mp hf y h).mono (by decide)) And.left
   have:=dps_le.mpr fun y h=>(hy y h).elim (fun h=>Nat.le_trans (dps_le.mp (Nat.le_refl (IZ xs)) y h) (Nat.le_add_right _ 3)) And.right
   have f3:IZ ys+1<=IZ xs+1+3:=by omega
   exact⟨fun m hm=>p _ m f1 (by rw [hl1]; exact hs) f3 hm,fun m hm=>p _ m f1 (by rw [hl1]; exact hs) f3 hm⟩
  refine⟨_,_,rfl,rfl,(xs.length:Int)+1,rfl,by omega,by omega,by omega,fun a a0 a1=>?_⟩
  have c1:=HA xs none (some a)
  have c2:=HA xs (some (a+1)) none
  have c3:=HA xs (some a) (some (a+1))
  have c4:=HA xs (some a) none
  have d1:=Ex (Dp.Bj xs none (some a))
  have d2:=Ex (Dp.Bj xs (some (a+1)) none)
  have d3:=Ex (Dp.Bj xs (some a) (some (a+1)))
  have d4:=Ex (Dp.Bj xs (some a) none)
  have three:=Ob xs a a0
  have e1:(Dp.Bj xs none (some a)++Dp.Bj xs (some a) (some (a+1))).length=_:=List.length_append
  have back:(Aj (Bx (Fb (Af (AV (G8 false) (AC 4) (wC (D.int 0)))) (Af (AV (G8 false) (AC 4) (wC (D.int 4))))) (BZ (AV Ax (JC Dh (AC 1) BX (B_ (AC 5))) (JC Dh (AC 1) (B_ (AV Ax (AC 5) (wC (D.int 1)))) BX))) BN)
 (Aj (Bx (Af (AV (G8 false) (AC 4) (wC (D.int 1)))) (BZ (AV Ax (AV Ax (JC Dh (AC 1) BX (B_ (AC 5))) (JC Dh (AC 1) (B_ (AC 5)) (B_ (AV Ax (AC 5) (wC (D.int 1)))))) (JC Dh (AC 1) (B_ (AC 5)) BX))) BN)
 (Aj (Bx (Af (AV (G8 false) (AC 4) (wC (D.int 2)))) (BZ (AV Ax (AV Ax (JC Dh (AC 1) BX (B_ (AC 5))) (Bh (AD (Ag Dk (AG (A3 0) Ai)) AR))) (JC Dh (AC 1) (B_ (AC 5)) BX))) BN)
 (BZ (AV BC (DH (AD (CK Gb (AD (AC 1) AR)) (AD (HP (AC 1)) AR))) (Ag BM (AG (A3 0) (AG (AZ (wC (D.int 2))) Ai)))))))) (EE Pd) (n - 1 - 1) [.fd,.sh (.tup xs),.sh (.tup (nm.map .str)),.sh (.int i),.sh (.int w),.sh (.int a),.no]:=by
   have r1:(∀m,n - (3*j+3)<=m->Pd (.tup (Dp.Bj xs none (some a)++Dp.Bj xs (some (a+1)) none)) m):=(fx _ (fun y h=>.inl ((List.mem_append.mp h).elim DC DC)) (by rw [Bv]; omega)).1
   refine CY (fun _=>⟨by omega,r1 _ (by omega)⟩) fun _=>CY (fun _=>⟨by omega,r1 _ (by omega)⟩) fun _=>?_
   refine CY (fun _=>⟨by omega,by omega,(fx _ (fun y h=>.inl ((List.mem_append.mp h).elim (fun h=>(List.mem_append.mp h).elim DC DC) DC)) (by rw [Bv,Bv]; omega)).1 _ (by omega)⟩) fun _=>?_
   refine CY (fun _=>?_) fun _=>?_
   ·refine⟨rfl,by omega,fun e f1 f2 f3=>?_⟩
    have z1:Cv [e]=DU e+1+0:=rfl
    have e2:(Dp.Bj xs none (some a)++[e]).length=_:=List.length_append
    have e3:[e].length=1:=rfl
    have tot:Cv (Dp.Bj xs none (some a))+Cv (Dp.Bj xs (some a) none)<=2*Cv xs:=by omega
    refine⟨(by decide:1<=sizeLine),by omega,by omega,(fx _ (fun y h=>?_) (by rw [Bv,Bv]; omega)).1 _ (by omega)⟩
    rcases List.mem_append.mp h with h | h
    ·rcases List.mem_append.mp h with h | h
     ·exact .inl (DC h)
     ·rw [List.mem_singleton.mp h]
      exact .inr ⟨f1,by omega⟩
    ·exact .inl (DC h)
   ·refine⟨xs,rfl,(by decide:2<=sizeLine),2,rfl,by decide,by decide,by omega,fun r r0 r1=>?_⟩
    rcases (by omega:r=0\/r=1) with rfl | rfl
    ·exact⟨_,AH (j:=0) rfl,(fx xs (fun y h=>.inl h) (by omega)).2 _ (by omega)⟩
    ·exact⟨_,AH (j:=1) rfl,(fx xs.reverse (fun y h=>.inl (List.mem_reverse.mp h)) (by rw [M6]; omega)).1 _ (by omega)⟩
  refine CY (fun _=>⟨_,_,rfl,rfl,CY (fun ca=>CY (fun cd=>?_) fun _=>back) fun _=>back⟩) fun _=>back
  have ha:a<(xs.length:Int):=of_decide_eq_true ca
  have hi0:(0:Int)<(i:Int):=of_decide_eq_true cd
  obtain⟨k,rfl⟩:∃k:Nat,a=(k:Int):=⟨a.toNat,by omega⟩
  have hk:k<xs.length:=by omega
  refine⟨xs[k],AH (List.getElem?_eq_getElem hk),?_⟩
  have hm:xs[k]∈xs:=List.getElem_mem hk
  have hsx:=Q6 hm
  refine hrec _ _ _ (by omega) ⟨xs[k],nm,i - 1,by rw [show (((i - 1:Nat)):Int)=(i:Int) - 1 by omega],by omega,hx _ hm,fines_iff.mp hf _ hm,hne,h24,hnm,by omega,by omega,fun e n' f1 f2 f3 f4=>?_⟩
  have hput:=Sn hk e
  have e2:(Dp.Bj xs none (some (k:Int))++[e]).length=_:=List.length_append
  have e3:[e].length=1:=rfl
  have hdx:=dps_le.mp (Nat.le_refl (IZ xs)) _ hm
  refine⟨(by decide:1<=sizeLine),by omega,by omega,(fx _ (fun y h=>?_) (by omega)).1 _ (by omega)⟩
  rcases List.mem_append.mp h with h | h
  ·rcases List.mem_append.mp h with h | h
   ·exact .inl (DC h)
   ·rw [List.mem_singleton.mp h]
    exact .inr ⟨f1,by omega⟩
  ·exact .inl (DC h)
def Gd(e:D):Prop:=fine (10 ^ 30) e/\DU e<=150000/\Gg e<=20
def Ol(e:D):Prop:=fine 1000001 e/\DU e<=28000/\Gg e<=2
theorem Ff{xs:List D}(h:∀d∈xs,item d)(l:xs.length<=61):Ol (.tup xs)/\Ol (.lst xs):=by
 have f:=fines_iff.mpr fun d hd=>(h d hd).1
 have z:=J1 (k:=451) fun d hd=>Nat.succ_le_succ (h d hd).2.1
 have d:=dps_le.mpr fun d hd=>(h d hd).2.2
 have z2:Cv xs<=28000:=by omega
 exact⟨⟨f,z2,Nat.succ_le_succ d⟩,f,z2,Nat.succ_le_succ d⟩
theorem TN{a:D}(h:Ol a):Gd a:=⟨h.1.mono (by decide),by have:=h.2.1; omega,by have:=h.2.2; omega⟩
theorem Dg{a b:D}(ha:Ol a)(hb:Ol b):Gd (.tup [a,b]):=by
 refine⟨⟨ha.1.mono (by decide),hb.1.mono (by decide),trivial⟩,?_,?_⟩
 ·show DU a+1+(DU b+1+0)<=150000
  have:=ha.2.1
  have:=hb.2.1
  omega
 ·show max (Gg a) (max (Gg b) 0)+1<=20
  have:=ha.2.2
  have:=hb.2.2
  omega
theorem Q2(N:Net):T0 (enc N):=by
 refine .t _ fun x hx=>?_
 simp only [List.mem_cons,List.not_mem_nil,or_false] at hx
 rcases hx with rfl | rfl
 ·refine .t _ fun y hy=>?_
  obtain⟨z,_,rfl⟩:=List.mem_map.mp hy
  exact .s z
 ·refine .t _ fun y hy=>?_
  obtain⟨t,_,rfl⟩:=List.mem_map.mp hy
  refine .t _ fun z hz=>?_
  simp only [List.mem_cons,List.not_mem_nil,or_false] at hz
  rcases hz with rfl | rfl | rfl
  ·exact .s _
  ·exact .s _
  ·exact .i _
section
variable {N:Net}{s:Str}{ts:List BI}{pc:D}{ks:List AY}{ds:List D}
theorem EI(okn:Ft N):Ol (.tup (N.ps.map .str))/\Ol (.lst (N.ps.map .str)):=Ff (fun d hd=>by
 obtain⟨x,hx,rfl⟩:=List.mem_map.mp hd
 exact DF (okn.1.names x hx)) (by rw [List.length_map]; have:=okn.2.1; omega)
theorem EH(okn:Ft N){us:List BI}(h:∀t∈us,t∈N.ts)(l:us.length<=61):Ol (.tup (us.map AT))/\Ol (.lst (us.map AT)):=Ff (fun d hd=>by
 obtain⟨t,ht,rfl⟩:=List.mem_map.mp hd
 exact Ee okn.1 _ (List.mem_map.mpr ⟨t,h t ht,rfl⟩)) (by rw [List.length_map]; omega)
theorem PH(okn:Ft N)(l7:N.ps.length<=7)(hs:s∈N.ps)(h1:∀t∈ts,t∈N.ts)(l12:ts.length<=12)(p:∀(es:List D) (n':Nat),(∀e∈es,Gd e)->1<=es.length->es.length<=40->n - 200<=n'->Pd (.lst es) n')(L:List D)(m:Nat)(s7 s8 s9:Slot)(gL:∀e∈L,Gd e)(lL:L.length<=30)(n200:200<=n)(hm:n<=m+151) :
  Ky (EE Pd) m [.fd,.sh (enc N),.sh (.str s),.sh (.fdi ks ds),.sh pc,.sh (enc ⟨N.ps,ts⟩),.ow (.lst L),s7,s8,s9]:=by
 have szl:=PySem.sizeLine_eq
 have ge:Gd (enc ⟨N.ps,ts⟩):=Dg (EI okn).1 (EH okn h1 (by omega)).1
 have ze:DU (enc ⟨N.ps,ts⟩)<=10000:=by
  show Cv (N.ps.map D.str)+1+(Cv (ts.map AT)+1+0)<=10000
  have a1:=J1 (k:=451) (ds:=N.ps.map D.str) fun d hd=>by
   obtain⟨x,hx,rfl⟩:=List.mem_map.mp hd
   exact Nat.succ_le_succ (DF (okn.1.names x hx)).2.1
  have a2:=J1 (k:=451) (ds:=ts.map AT) fun d hd=>by
   obtain⟨t,ht,rfl⟩:=List.mem_map.mp hd
   exact Nat.succ_le_succ (Ee okn.1 _ (List.mem_map.mpr ⟨t,h1 t ht,rfl⟩)).2.1
  rw [List.length_map] at a1 a2
  omega
 unfold Ky
 refine⟨4,rfl,⟨by decide,by decide⟩,?_⟩
 refine Co (fun k m' ρ=>n<=m'+151+12*(4 - k)/\k<=4/\∃(L:List D) (s9:Slot),(∀e∈L,Gd e)/\L.length+k<=34/\ρ=[.fd,.sh (enc N),.sh (.str s),.sh (.fdi ks ds),.sh pc,.sh (enc ⟨N.ps,ts⟩),.ow (.lst L),s7,s8,s9]) ?_ _ _ _ ?_ ⟨by rw [DK]; omega,by decide,L,_,gL,by rw [DK]; omega,rfl⟩
 ·rintro m' ρ ⟨h1,_,L,s9,g,l,rfl⟩
  refine⟨rfl,by omega,fun e f1 f2 f3=>⟨(by decide:1<=sizeLine),by show L.length+1<=_; omega,p _ _ (fun x hx=>?_) (by rw [List.length_append]; show 1<=_+1; omega) (by rw [List.length_append]; show _+1<=40; omega) (by omega)⟩⟩
  rcases List.mem_append.mp hx with hx | hx
  ·exact g x hx
  ·rw [List.mem_singleton.mp hx]
   exact⟨f1,by omega,by omega⟩
 ·rintro k d m' ρ nx hd ⟨h1',hk,L,s9,g,l,rfl⟩ hnx
  refine⟨_,rfl,rfl,_,AH (j:=0) rfl,enc ⟨N.ps,ts⟩,N.ps,3,rfl,Nat.le_refl _,Q2 _,?_,?_,by omega,okn.1.names,?_,by omega,fun e n' f1 f2 f3 f4=>⟨_,_,rfl,rfl,by omega,hnx _ _ ⟨by omega,by omega,_,_,fun x hx=>?_,by rw [List.length_append,List.length_singleton]; omega,rfl⟩⟩⟩
  ·exact⟨(EI okn).1.1.mono (by decide),(EH okn h1 (by omega)).1.1.mono (by decide),trivial⟩
  ·exact List.ne_nil_of_mem hs
  ·have:=ze
   omega
  ·rcases List.mem_append.mp hx with hx | hx
   ·exact g x hx
   ·rw [List.mem_singleton.mp hx]
    have dz:Gg (enc ⟨N.ps,ts⟩)<=3:=by
     show max (Gg (.tup (N.ps.map .str))) (max (Gg (.tup (ts.map AT))) 0)+1<=3
     have:=(EI okn).1.2.2
     have:=(EH okn h1 (by omega:ts.length<=61)).1.2.2
     omega
    exact⟨f1,by omega,by omega⟩
theorem Db{L:List D}{e:D}(g:∀e∈L,Gd e)(h:Gd e):∀x∈L++[e],Gd x:=fun x hx=>by
 rcases List.mem_append.mp hx with hx | hx
 ·exact g x hx
 ·rw [List.mem_singleton.mp hx]; exact h
theorem C1(L:List D)(e:D):(L++[e]).length=L.length+1:=by rw [List.length_append,List.length_singleton]
def pin(ks:List AY)(ds:List D):D->Bool
 | .str x=>(Bb ks ds (.inr x)).isSome
 | _=>false
theorem PC(okn:Ft N)(l7:N.ps.length<=7)(l12n:N.ts.length<=12)(hs:s∈N.ps)(h1:∀t∈ts,t∈N.ts)(h2:ts.Pairwise A_)(l12:ts.length<=12)(p:∀(es:List D) (n':Nat),(∀e∈es,Gd e)->1<=es.length->es.length<=40->n - 200<=n'->Pd (.lst es) n')(L:List D)(m:Nat)(s7 s8 s9:Slot)(gL:∀e∈L,Gd e)(lL:L.length<=27)(n200:200<=n)(hm:n<=m+151) :
  Kv (EE Pd) m [.fd,.sh (enc N),.sh (.str s),.sh (.fdi ks ds),.sh pc,.sh (enc ⟨N.ps,ts⟩),.ow (.lst L),s7,s8,s9]:=by
 have szl:=PySem.sizeLine_eq
 have qp:=EI okn
 have qt:=EH okn h1 (by omega)
 have nx:=fun(L':List D) (e:D) (m:Nat) (g:∀e∈L',Gd e) (h:Gd e) (l:L'.length<=27)=>PH (ks:=ks) (ds:=ds) (pc:=pc) okn l7 hs h1 l12 p (L'++[e]) m s7 s8 s9 (Db g h) (by rw [C1]; omega) n200
 unfold Kv
 exact⟨_,rfl,rfl,_,AH (j:=1) rfl,_,_,rfl,rfl,by omega,nx L _ m gL (TN qt.1) lL hm⟩
theorem PD(okn:Ft N)(l7:N.ps.length<=7)(l12n:N.ts.length<=12)(hs:s∈N.ps)(h1:∀t∈ts,t∈N.ts)(h2:ts.Pairwise A_)(l12:ts.length<=12)(p:∀(es:List D) (n':Nat),(∀e∈es,Gd e)->1<=es.length->es.length<=40->n - 200<=n'->Pd (.lst es) n')(L:List D)(m:Nat)(s7 s8 s9:Slot)(gL:∀e∈L,Gd e)(lL:L.length<=26)(n200:200<=n)(hm:n<=m+151) :
  Kw (EE Pd) m [.fd,.sh (enc N),.sh (.str s),.sh (.fdi ks ds),.sh pc,.sh (enc ⟨N.ps,ts⟩),.ow (.lst L),s7,s8,s9]:=by
 have szl:=PySem.sizeLine_eq
 have qp:=EI okn
 have qt:=EH okn h1 (by omega)
 have nx:=fun(L':List D) (e:D) (m:Nat) (g:∀e∈L',Gd e) (h:Gd e) (l:L'.length<=26)=>PC (ks:=ks) (ds:=ds) (pc:=pc) okn l7 l12n hs h1 h2 l12 p (L'++[e]) m s7 s8 s9 (Db g h) (by rw [C1]; omega) n200
 unfold Kw
 exact⟨_,rfl,rfl,_,AH (j:=0) rfl,_,AH (j:=1) rfl,(by decide:2<=sizeLine),_,_,rfl,rfl,by omega,nx L _ m gL (Dg qp.2 qt.1) lL hm⟩
theorem PF(okn:Ft N)(l7:N.ps.length<=7)(l12n:N.ts.length<=12)(hs:s∈N.ps)(h1:∀t∈ts,t∈N.ts)(h2:ts.Pairwise A_)(l12:ts.length<=12)(p:∀(es:List D) (n':Nat),(∀e∈es,Gd e)->1<=es.length->es.length<=40->n - 200<=n'->Pd (.lst es) n')(L:List D)(m:Nat)(s7 s8 s9:Slot)(gL:∀e∈L,Gd e)(lL:L.length<=25)(n200:200<=n)(hm:n<=m+151) :
  Kx (EE Pd) m [.fd,.sh (enc N),.sh (.str s),.sh (.fdi ks ds),.sh pc,.sh (enc ⟨N.ps,ts⟩),.ow (.lst L),s7,s8,s9]:=by
 have szl:=PySem.sizeLine_eq
 have qp:=EI okn
 have qt:=EH okn h1 (by omega)
 have nx:=fun(L':List D) (e:D) (m:Nat) (g:∀e∈L',Gd e) (h:Gd e) (l:L'.length<=25)=>PD (ks:=ks) (ds:=ds) (pc:=pc) okn l7 l12n hs h1 h2 l12 p (L'++[e]) m s7 s8 s9 (Db g h) (by rw [C1]; omega) n200
 unfold Kx
 have qr:Ol (.tup (ts.map AT).reverse):=(Ff (fun d hd=>by
  obtain⟨t,ht,rfl⟩:=List.mem_map.mp (List.mem_reverse.mp hd)
  exact Ee okn.1 _ (List.mem_map.mpr ⟨t,h1 t ht,rfl⟩)) (by rw [List.length_reverse,List.length_map]; omega)).1
 exact⟨_,rfl,rfl,_,AH (j:=0) rfl,_,AH (j:=1) rfl,1,rfl,rfl,(by decide:2<=sizeLine),_,_,rfl,rfl,by omega,nx L _ m gL (Dg qp.1 qr) lL hm⟩
theorem LT(okn:Ft N)(l7:N.ps.length<=7)(l12n:N.ts.length<=12)(hs:s∈N.ps)(h1:∀t∈ts,t∈N.ts)(h2:ts.Pairwise A_)(l12:ts.length<=12)(p:∀(es:List D) (n':Nat),(∀e∈es,Gd e)->1<=es.length->es.length<=40->n - 200<=n'->Pd (.lst es) n')(L:List D)(m:Nat)(s7 s8 s9:Slot)(gL:∀e∈L,Gd e)(lL:L.length<=24)(n200:200<=n)(hm:n<=m+151) :
  Kz (EE Pd) m [.fd,.sh (enc N),.sh (.str s),.sh (.fdi ks ds),.sh pc,.sh (enc ⟨N.ps,ts⟩),.ow (.lst L),s7,s8,s9]:=by
 have szl:=PySem.sizeLine_eq
 have qp:=EI okn
 have qt:=EH okn h1 (by omega)
 have nx:=fun(L':List D) (e:D) (m:Nat) (g:∀e∈L',Gd e) (h:Gd e) (l:L'.length<=24)=>PF (ks:=ks) (ds:=ds) (pc:=pc) okn l7 l12n hs h1 h2 l12 p (L'++[e]) m s7 s8 s9 (Db g h) (by rw [C1]; omega) n200
 unfold Kz
 refine⟨_,rfl,rfl,_,AH (j:=0) rfl,by rw [List.length_map]; omega,?_⟩
 refine Do (pin ks ds) id (fun ρ=>∃s,ρ=[.sh (.fdi ks ds),s]) _ _ _ _ ?_ ⟨_,rfl⟩ ?_
 ·rintro d hd ρ m nx sk ⟨s,rfl⟩ h1 h2
  obtain⟨x,hx,rfl⟩:=List.mem_map.mp hd
  refine⟨ks,ds,.inr x,rfl,rfl,?_⟩
  exact CY (fun c=>h1 _ ⟨_,rfl⟩ c) fun c=>h2 _ ⟨_,rfl⟩ (Bool.eq_false_iff.mpr c)
 rw [List.nil_append,List.map_id]
 have fl:Ol (.tup ((N.ps.map D.str).filter (pin ks ds))):=(Ff (fun d hd=>by
  obtain⟨x,hx,rfl⟩:=List.mem_map.mp (List.mem_filter.mp hd).1
  exact DF (okn.1.names x hx)) (Nat.le_trans (List.length_filter_le _ _) (by rw [List.length_map]; omega))).1
 exact⟨_,AH (j:=1) rfl,(by decide:2<=sizeLine),_,_,rfl,rfl,by omega,nx L _ m gL (Dg fl qt.1) lL hm⟩
theorem H_(ts:List BI):Np D9 (ts.map AT):=by
 refine⟨fun x hx=>?_,fun x hx y hy ka kb ea eb=>?_⟩
 ·obtain⟨t,_,rfl⟩:=List.mem_map.mp hx
  exact⟨By t,rfl,List.cons_ne_nil _ _⟩
 ·obtain⟨t,_,rfl⟩:=List.mem_map.mp hx
  obtain⟨u,_,rfl⟩:=List.mem_map.mp hy
  cases (show some (By t)=some ka from ea)
  cases (show some (By u)=some kb from eb)
  rfl
theorem IO(ts:List BI)(lo hi:Option Int):∃us:List BI,Dp.Bj (ts.map AT) lo hi=us.map AT/\(∀t∈us,t∈ts)/\us.length<=ts.length:=by
 refine⟨(ts.drop (HT.sIx ts.length 0 lo)).take (HT.sIx ts.length ts.length hi - HT.sIx ts.length 0 lo),?_,fun t ht=>List.mem_of_mem_drop (List.mem_of_mem_take ht),?_⟩
 ·unfold Dp.Bj
  rw [List.length_map,List.map_take,List.map_drop]
 ·rw [List.length_take,List.length_drop]
  omega
theorem O_(okn:Ft N)(l7:N.ps.length<=7)(l12n:N.ts.length<=12)(hs:s∈N.ps)(h1:∀t∈ts,t∈N.ts)(h2:ts.Pairwise A_)(l12:ts.length<=12)(p:∀(es:List D) (n':Nat),(∀e∈es,Gd e)->1<=es.length->es.length<=40->n - 200<=n'->Pd (.lst es) n')(L:List D)(m:Nat)(lf:List BI)(hlf:∀t∈lf,t∈N.ts)(llf:lf.length<=12)(s8 s9:Slot)(gL:∀e∈L,Gd e)(lL:L.length<=20)(n200:200<=n)(hm:n<=m+150) :
  Kt (EE Pd) m [.fd,.sh (enc N),.sh (.str s),.sh (.fdi ks ds),.sh pc,.sh (enc ⟨N.ps,ts⟩),.ow (.lst L),.sh (.lst (lf.map AT)),s8,s9]:=by
 have szl:=PySem.sizeLine_eq
 have qp:=EI okn
 unfold Kt
 refine⟨z0,(Ec okn.1 hlf).2,D8 (B:=0) (by decide) trivial (by decide),?_⟩
 refine CY (fun c=>?_) fun _=>LT okn l7 l12n hs h1 h2 l12 p L m _ _ _ gL (by omega) n200 (by omega)
 have lne:lf≠[]:=by
  rintro rfl
  exact absurd c (by decide)
 have lp:=List.length_pos_iff.mpr lne
 have ll:(lf.map AT).length=lf.length:=List.length_map ..
 refine⟨_,_,rfl,rfl,_,rfl,by omega,by omega,by omega,fun r r0 r1=>?_⟩
 obtain⟨k,rfl⟩:∃k:Nat,r=(k:Int):=⟨r.toNat,by omega⟩
 have hk:k<lf.length:=by omega
 have hu:lf[k]∈N.ts:=hlf _ (List.getElem_mem hk)
 refine⟨AT lf[k],by rw [show (k:Int)=((k:Nat):Int) from rfl]; exact AH (by rw [List.getElem?_map,List.getElem?_eq_getElem hk]; rfl),?_⟩
 generalize lf[k]=u at hu
 have tl:(ts.map AT).length=ts.length:=List.length_map ..
 have sq:∀us:List BI,us.length<=30->(∀t∈us,t∈ts\/t=u)->Ol (.tup (us.map AT)):=fun us hl hm=>(EH okn (us:=us) (fun t ht=>(hm t ht).elim (h1 t) fun e=>by rw [e]; exact hu) (by omega)).1
 refine⟨_,rfl,rfl,_,AH (j:=0) rfl,_,AH (j:=1) rfl,(by decide:1<=sizeLine),by show (ts.map AT).length+1<=_; omega,?_⟩
 refine⟨_,(ts++[u]).map AT,rfl,by rw [List.map_append]; rfl,by rw [List.length_map,List.length_append,List.length_singleton]; omega,H_ _,fun xs' hp0 ho=>?_⟩
 obtain⟨us,hp,rfl⟩:=Mw (g:=TX) (fun _=>rfl) hp0
 have lu:=hp.length_eq
 rw [List.length_append,List.length_singleton] at lu
 refine⟨z2,_,_,rfl,rfl,by omega,?_⟩
 have gu:Gd (.tup [.tup (N.ps.map .str),.tup (us.map AT)]):=Dg qp.1 (sq us (by omega) fun t ht=>by
  rcases List.mem_append.mp (hp.mem_iff.mp ht) with h | h
  ·exact .inl h
  ·exact .inr (List.mem_singleton.mp h))
 refine⟨_,AH (j:=1) rfl,_,_,rfl,rfl,_,rfl,⟨?_,?_⟩,?_⟩
 ·show -(2 ^ 62)<=(if (((ts.map AT).length:Nat):Int)<3 then (((ts.map AT).length:Nat):Int) else 3)
  split <;> omega
 ·show (if (((ts.map AT).length:Nat):Int)<3 then (((ts.map AT).length:Nat):Int) else 3)<2 ^ 62
  split <;> omega
 have rl:((if (((ts.map AT).length:Nat):Int)<3 then (((ts.map AT).length:Nat):Int) else 3)).toNat<=3:=by split <;> omega
 generalize ((if (((ts.map AT).length:Nat):Int)<3 then (((ts.map AT).length:Nat):Int) else 3)).toNat=q at rl
 refine Co (fun k m' ρ=>m'=m - 1/\∃(L':List D) (s9:Slot),(∀e∈L',Gd e)/\L'.length+k<=24/\ρ=[.fd,.sh (enc N),.sh (.str s),.sh (.fdi ks ds),.sh pc,.sh (enc ⟨N.ps,ts⟩),.ow (.lst L'),.sh (.lst (lf.map AT)),.sh (AT u),s9]) ?_ _ _ _ ?_ ⟨rfl,_,_,Db gL gu,by rw [DK,C1]; omega,rfl⟩
 ·rintro m' ρ ⟨rfl,L',s9,g,l,rfl⟩
  exact LT okn l7 l12n hs h1 h2 l12 p L' (m - 1) _ _ _ g (by omega) n200 (by omega)
 ·rintro k' d m' ρ nx hd ⟨rfl,L',s9,g,l,rfl⟩ hnx
  obtain⟨j,hj,rfl⟩:=DJ hd
  obtain⟨u1,e1,m1,k1⟩:=IO ts none (some (0+(j:Int)))
  obtain⟨u2,e2,m2,k2⟩:=IO ts (some (0+(j:Int)+1)) none
  have t1:(u1.map AT).length=u1.length:=List.length_map ..
  have t2:(u2.map AT).length=u2.length:=List.length_map ..
  refine⟨_,rfl,rfl,_,AH (j:=0) rfl,_,AH (j:=1) rfl,_,AH (j:=1) rfl,?_,(by decide:1<=sizeLine),?_,?_⟩
  ·show (Dp.Bj (ts.map AT) none (some (0+(j:Int)))).length+(Dp.Bj (ts.map AT) (some (0+(j:Int)+1)) none).length<=_
   rw [e1,e2]
   omega
  ·show (Dp.Bj (ts.map AT) none (some (0+(j:Int)))++Dp.Bj (ts.map AT) (some (0+(j:Int)+1)) none).length+1<=_
   rw [e1,e2,List.length_append]
   omega
  refine⟨_,(u1++u2++[u]).map AT,rfl,?_,by rw [List.length_map,List.length_append,List.length_append,List.length_singleton]; omega,H_ _,fun xs' hp0 ho=>?_⟩
  ·show some (Dp.Bj (ts.map AT) none (some (0+(j:Int)))++Dp.Bj (ts.map AT) (some (0+(j:Int)+1)) none++[AT u])=_
   rw [e1,e2,List.map_append,List.map_append]
   rfl
  obtain⟨vs,hp,rfl⟩:=Mw (g:=TX) (fun _=>rfl) hp0
  have lv:=hp.length_eq
  rw [List.length_append,List.length_append,List.length_singleton] at lv
  refine⟨z2,_,_,rfl,rfl,by omega,hnx _ _ ⟨rfl,_,_,Db g (Dg qp.1 (sq vs (by omega) fun t ht=>?_)),by rw [C1]; omega,rfl⟩⟩
  rcases List.mem_append.mp (hp.mem_iff.mp ht) with h | h
  ·rcases List.mem_append.mp h with h | h
   ·exact .inl (m1 t h)
   ·exact .inl (m2 t h)
  ·exact .inr (List.mem_singleton.mp h)
theorem PJ(okn:Ft N)(l7:N.ps.length<=7)(l12n:N.ts.length<=12)(hs:s∈N.ps)(h1:∀t∈ts,t∈N.ts)(h2:ts.Pairwise A_)(l12:ts.length<=12)(p:∀(es:List D) (n':Nat),(∀e∈es,Gd e)->1<=es.length->es.length<=40->n - 200<=n'->Pd (.lst es) n')(L:List D)(m:Nat)(s7 s8 s9:Slot)(gL:∀e∈L,Gd e)(lL:L.length<=20)(n200:200<=n)(hm:n<=m+150) :
  K0 (EE Pd) m [.fd,.sh (enc N),.sh (.str s),.sh (.fdi ks ds),.sh pc,.sh (enc ⟨N.ps,ts⟩),.ow (.lst L),s7,s8,s9]:=by
 unfold K0
 refine⟨_,AH (j:=1) rfl,by show (N.ts.map AT).length<=10000000; rw [List.length_map]; omega,?_⟩
 refine Do (fun d=>!((ts.map AT).any fun y=>Ej y d)) id (fun ρ=>∃s,ρ=[.sh (enc ⟨N.ps,ts⟩),s]) _ _ _ _ ?_ ⟨_,rfl⟩ ?_
 ·rintro d hd ρ m nx sk ⟨s,rfl⟩ g1 g2
  obtain⟨t,ht,rfl⟩:=List.mem_map.mp hd
  refine⟨_,AH (j:=1) rfl,RU okn.1 ht,(Ec okn.1 h1).1,_,rfl,?_⟩
  exact CY (fun c=>g1 _ ⟨_,rfl⟩ c) fun c=>g2 _ ⟨_,rfl⟩ (Bool.eq_false_iff.mpr c)
 ·rw [List.nil_append,List.map_id]
  have e:(N.ts.map AT).filter (fun d=>!((ts.map AT).any fun y=>Ej y d))=(N.ts.filter fun t=>decide (t∉ts)).map AT:=by
   rw [List.filter_map]
   congr 1
   refine List.filter_congr fun t _=>?_
   show (!((ts.map AT).any fun y=>Ej y (AT t)))=decide (t∉ts)
   rw [Nd,decide_not]
  rw [e]
  exact O_ okn l7 l12n hs h1 h2 l12 p L m _ (fun t ht=>(List.mem_filter.mp ht).1) (Nat.le_trans (List.length_filter_le _ _) l12n) _ _ gL lL n200 hm
theorem PB(okn:Ft N)(l7:N.ps.length<=7)(l12n:N.ts.length<=12)(hs:s∈N.ps)(h1:∀t∈ts,t∈N.ts)(h2:ts.Pairwise A_)(l12:ts.length<=12)(p:∀(es:List D) (n':Nat),(∀e∈es,Gd e)->1<=es.length->es.length<=40->n - 200<=n'->Pd (.lst es) n')(L:List D)(m:Nat)(s7 s8 s9:Slot)(gL:∀e∈L,Gd e)(lL:L.length<=19)(n200:200<=n)(hm:n<=m+137) :
  Ku (EE Pd) m [.fd,.sh (enc N),.sh (.str s),.sh (.fdi ks ds),.sh pc,.sh (enc ⟨N.ps,ts⟩),.ow (.lst L),s7,s8,s9]:=by
 have szl:=PySem.sizeLine_eq
 unfold Ku
 refine⟨_,rfl,rfl,_,AH (j:=0) rfl,_,AH (j:=1) rfl,ts,rfl,by omega,by omega,fun us n' sb hn=>⟨z2,_,_,rfl,rfl,by omega,?_⟩⟩
 exact PJ okn l7 l12n hs h1 h2 l12 p _ n' _ _ _ (Db gL (Dg (EI okn).1 (EH okn (fun t ht=>h1 t (sb.subset ht)) (by have:=sb.length_le; omega)).1)) (by rw [C1]; omega) n200 (by omega)
theorem PK(okn:Ft N)(l7:N.ps.length<=7)(l12n:N.ts.length<=12)(hs:s∈N.ps)(h1:∀t∈ts,t∈N.ts)(h2:ts.Pairwise A_)(l12:ts.length<=12)(p:∀(es:List D) (n':Nat),(∀e∈es,Gd e)->1<=es.length->es.length<=40->n - 200<=n'->Pd (.lst es) n')(L:List D)(m:Nat)(s7 s8 s9:Slot)(gL:∀e∈L,Gd e)(lL:L.length<=18)(n200:200<=n)(hm:n<=m+124) :
  K3 (EE Pd) m [.fd,.sh (enc N),.sh (.str s),.sh (.fdi ks ds),.sh pc,.sh (enc ⟨N.ps,ts⟩),.ow (.lst L),s7,s8,s9]:=by
 have szl:=PySem.sizeLine_eq
 unfold K3
 refine⟨_,rfl,rfl,_,AH (j:=0) rfl,_,AH (j:=1) rfl,N.ts,rfl,by omega,by omega,fun us n' sb hn=>⟨z2,_,_,rfl,rfl,by omega,?_⟩⟩
 exact PB okn l7 l12n hs h1 h2 l12 p _ n' _ _ _ (Db gL (Dg (EI okn).1 (EH okn (fun t ht=>sb.subset ht) (by have:=sb.length_le; omega)).1)) (by rw [C1]; omega) n200 (by omega)
theorem LS(h:Dx ss n Pd):EM (EE Pd) n (ss++List.replicate 7 .no):=by
 obtain⟨N,s,rfl,okn,l7,l12,hs,n200,p⟩:=h
 have szl:=PySem.sizeLine_eq
 have p':∀(es:List D) (n':Nat),(∀e∈es,Gd e)->1<=es.length->es.length<=40->n - 200<=n'->Pd (.lst es) n':=fun es n' g=>p es n' g
 unfold EM
 refine⟨_,AH (j:=1) rfl,N,s,_,N.ts,rfl,rfl,fun _=>Iff.rfl,okn,hs,fun ks ds K M L=>?_⟩
 refine⟨ks,ds,rfl,?_,?_⟩
 ·rw [MZ,List.all_eq_true]
  intro d hd
  obtain⟨i,hi⟩:=List.getElem?_of_mem hd
  have il:=(List.getElem?_eq_some_iff.mp hi).1
  have ik:i<ks.length:=by rw [M.len]; exact il
  obtain⟨x,ex⟩:=M.dom _ (List.getElem_mem ik)
  obtain⟨a,ea⟩:=QN M hi (by rw [List.getElem?_eq_getElem ik,ex])
  rw [ea]
  rfl
 refine⟨_,AH (j:=0) rfl,_,AH (j:=1) rfl,by show (N.ts.map AT).length<=10000000; rw [List.length_map]; omega,?_⟩
 refine Do (fun d=>match d with | .tup (.str a::_)=>(Bb ks ds (.inr a)).isSome | _=>false) id (fun ρ=>∃s,ρ=[.sh (.fdi ks ds),s]) _ _ _ _ ?_ ⟨_,rfl⟩ ?_
 ·rintro d hd ρ m nx sk ⟨s,rfl⟩ h1 h2
  obtain⟨t,ht,rfl⟩:=List.mem_map.mp hd
  refine⟨_,AH (j:=0) rfl,ks,ds,.inr t.a,rfl,rfl,?_⟩
  exact CY (fun c=>h1 _ ⟨_,rfl⟩ c) fun c=>h2 _ ⟨_,rfl⟩ (Bool.eq_false_iff.mpr c)
 rw [List.nil_append,List.map_id]
 have e:(N.ts.map AT).filter (fun d=>match d with | .tup (.str a::_)=>(Bb ks ds (.inr a)).isSome | _=>false)=(N.ts.filter fun t=>(Bb ks ds (.inr t.a)).isSome).map AT:=by
  rw [List.filter_map]
  rfl
 rw [e]
 have okP:Ft ⟨N.ps,N.ts.filter fun t=>(Bb ks ds (.inr t.a)).isSome⟩:=HW okn (fun t ht=>(List.mem_filter.mp ht).1) (okn.1.trise.filter _) (Nat.le_trans (List.length_filter_le _ _) (by omega))
 have lP:=List.length_filter_le (fun t:BI=>(Bb ks ds (.inr t.a)).isSome) N.ts
 have mP:∀t∈N.ts.filter fun t=>(Bb ks ds (.inr t.a)).isSome,t∈N.ts:=fun t ht=>(List.mem_filter.mp ht).1
 generalize (N.ts.filter fun t=>(Bb ks ds (.inr t.a)).isSome)=pt at okP lP mP
 refine⟨z2,⟨N.ps,pt⟩,rfl,okP,by show pt.length<=_; omega,fun ts n1 h1 h2 _ hn1=>?_⟩
 have h1':∀t∈ts,t∈N.ts:=fun t ht=>mP t (h1 t ht)
 have lt:=Fe okn.1 h1' h2
 have hn1':n - pt.length<=n1:=hn1
 refine⟨N,rfl,okn,by omega,fun ts2 n2 h3 h4 _ hn2=>⟨N,rfl,okn,fun o1 q1 _=>⟨⟨N.ps,pt⟩,rfl,okP,fun o2 q2 _=>⟨_,AH (j:=0) rfl,z0,z2,(by decide:6<=sizeLine),?_⟩⟩⟩⟩
 have lt2:=Fe okn.1 h3 h4
 have ge:∀us:List BI,(∀t∈us,t∈N.ts)->us.length<=61->Gd (.tup [.tup (N.ps.map .str),.tup (us.map AT)]):=fun us h l=>Dg (EI okn).1 (EH okn h l).1
 refine PK okn l7 l12 hs h1' h2 (by omega) p' _ n2 _ _ _ (fun x hx=>?_) (by show 6<=18; omega) n200 (by omega)
 simp only [List.mem_cons,List.not_mem_nil,or_false] at hx
 rcases hx with rfl | rfl | rfl | rfl | rfl | rfl
 ·exact ge ts h1' (by omega)
 ·exact ge ts2 h3 (by omega)
 ·exact ge _ (fun t ht=>(sub_mem.mp ht).1) (Nat.le_trans (List.length_filter_le _ _) (by omega))
 ·exact ge _ (fun t ht=>mP t (sub_mem (N:=⟨N.ps,pt⟩).mp ht).1) (Nat.le_trans (List.length_filter_le _ _) (by show pt.length<=_; omega))
 ·exact ge N.ts (fun t h=>h) (by omega)
 ·exact ge [] (fun t h=>by cases h) (by decide)
end
end
theorem LU{Ns Ps Es:List D}{j:Nat}{N:Net}{x:Str}{es:List D}{kk:Int}{D2:E2}{m:Nat}{s7 s8 s9 s10:Slot}(k0:0<=kk)(e1:Ns[j]?=some (enc N))(e2:Ps[j]?=some (.str x))(e3:Es[j]?=some (.lst es))(okn:Ft N)(l24:N.ps.length<=24)(hx:x∈N.ps)(g:∀e∈es,Gd e)(l1:1<=es.length)(l40:es.length<=40)
  (nx:∀s7 s8,D2.nx m [.no,.fd,.sh (.lst Ns),.sh (.lst Ps),.sh (.lst Es),.sh (.int kk),.sh (.int (0+(j:Int))),s7,s8,s9,s10]) :
  K4 D2 m [.no,.fd,.sh (.lst Ns),.sh (.lst Ps),.sh (.lst Es),.sh (.int kk),.sh (.int (0+(j:Int))),s7,s8,s9,s10]:=by
 have a1:atI Ns (0+(j:Int))=some (enc N):=by rw [Int.zero_add]; exact AH e1
 have a2:atI Ps (0+(j:Int))=some (.str x):=by rw [Int.zero_add]; exact AH e2
 have a3:atI Es (0+(j:Int))=some (.lst es):=by rw [Int.zero_add]; exact AH e3
 unfold K4
 refine⟨_,a3,_,a3,_,_,rfl,rfl,by omega,?_⟩
 obtain⟨q,hq⟩:∃q:Nat,kk % (es.length:Int)=(q:Int):=⟨(kk % (es.length:Int)).toNat,by have:=Int.emod_nonneg kk (by omega:(es.length:Int)≠0); omega⟩
 have hql:q<es.length:=by have:=Int.emod_lt_of_pos kk (by omega:(0:Int)<(es.length:Int)); omega
 obtain⟨f1,f2,f3⟩:=g es[q] (List.getElem_mem hql)
 refine⟨es[q],by rw [hq]; exact AH (List.getElem?_eq_getElem hql),?_⟩
 generalize es[q]=e at f1 f2 f3
 refine⟨_,a1,_,a2,N,x,e,rfl,okn,l24,hx,f1.mono (by decide),by omega,by omega,?_⟩
 refine⟨_,a1,_,a2,N,x,e,rfl,okn,l24,hx,f1.mono (by decide),by omega,by omega,?_⟩
 refine CY (fun c=>absurd c ?_) fun _=>nx _ _
 cases HU N x e <;> decide
theorem ML:Js { nx:=fun _ _=>False,rt:=fun d _=>d=.bl true } 3000 (.no::.fd::List.replicate 9 .no):=by
 have szl:=PySem.sizeLine_eq
 unfold Js
 refine⟨7,12,rfl,by decide,by decide,by decide,by decide,by decide,fun N1 n1 ok1 _ a1 b1 hn1=>?_⟩
 refine⟨7,12,rfl,by decide,by decide,by decide,by decide,by omega,fun N2 n2 ok2 _ a2 b2 hn2=>⟨z2,?_⟩⟩
 have okn1:Ft N1:=⟨ok1,by omega,by omega⟩
 have okn2:Ft N2:=⟨ok2,by omega,by omega⟩
 have hp1:(N1.ps.map D.str).length=N1.ps.length:=List.length_map ..
 have hp2:(N2.ps.map D.str).length=N2.ps.length:=List.length_map ..
 refine⟨by show 2<=10000000; decide,?_⟩
 refine⟨_,AH (j:=0) rfl,_,AH (j:=0) rfl,_,_,rfl,rfl,_,rfl,by omega,by omega,by omega,fun r r0 r1=>?_⟩
 obtain⟨x1,hx1,e1⟩:=K5 r0 (by omega:r<(N1.ps.length:Int))
 refine⟨_,e1,?_⟩
 refine⟨_,AH (j:=0) rfl,_,AH (j:=0) rfl,_,_,rfl,rfl,_,rfl,by omega,by omega,by omega,fun r r0 r1=>?_⟩
 obtain⟨x2,hx2,e2⟩:=K5 r0 (by omega:r<(N2.ps.length:Int))
 refine⟨_,e2,?_⟩
 refine⟨2,rfl,⟨by decide,by decide⟩,by decide,?_⟩
 refine⟨_,rfl,_,rfl,N1,x1,rfl,okn1,a1,b1,hx1,by omega,fun es1 m1 g1 c1 d1 hm1=>?_⟩
 refine⟨_,rfl,_,rfl,N2,x2,rfl,okn2,a2,b2,hx2,by omega,fun es2 m2 g2 c2 d2 hm2=>?_⟩
 have tail:∀m s5 s6 s7 s8 s9 s10,L0 { nx:=fun _ _=>False,rt:=fun d _=>d=.bl true } m [.no,.fd,.sh (.lst [enc N1,enc N2]),.sh (.lst [.str x1,.str x2]),.sh (.lst [.lst es1,.lst es2]),s5,s6,s7,s8,s9,s10]:=by
  intro m s5 s6 s7 s8 s9 s10
  refine⟨2,rfl,⟨by decide,by decide⟩,?_⟩
  refine Co (fun k m' ρ=>∃s6 s9 s10,ρ=[.no,.fd,.sh (.lst [enc N1,enc N2]),.sh (.lst [.str x1,.str x2]),.sh (.lst [.lst es1,.lst es2]),s5,s6,s7,s8,s9,s10]) ?_ _ _ _ ?_ ⟨_,_,_,rfl⟩
  ·rintro m' ρ ⟨s6,s9,s10,rfl⟩
   rfl
  ·rintro k d m' ρ nx hd ⟨s6,s9,s10,rfl⟩ hnx
   obtain⟨j,hj,rfl⟩:=DJ hd
   obtain⟨N,eN,okn,l24⟩:∃N:Net,[enc N1,enc N2][j]?=some (enc N)/\Ft N/\N.ps.length<=24:=by
    match j,hj with
    | 0,_=>exact⟨N1,rfl,okn1,by omega⟩
    | 1,_=>exact⟨N2,rfl,okn2,by omega⟩
   have aN:atI [enc N1,enc N2] (0+(j:Int))=some (enc N):=by rw [Int.zero_add]; exact AH eN
   refine⟨_,aN,_,AH (j:=0) rfl,?_⟩
   refine Co (fun k m' ρ=>∃s9 s10,ρ=[.no,.fd,.sh (.lst [enc N1,enc N2]),.sh (.lst [.str x1,.str x2]),.sh (.lst [.lst es1,.lst es2]),s5,.sh (.int (0+(j:Int))),s7,s8,s9,s10]) ?_ _ _ _ ?_ ⟨_,_,rfl⟩
   ·rintro m' ρ ⟨s9,s10,rfl⟩
    exact hnx _ _ ⟨_,_,_,rfl⟩
   ·rintro k2 d m' ρ nx2 hd2 ⟨s9,s10,rfl⟩ hnx2
    obtain⟨y,hy,rfl⟩:=List.mem_map.mp hd2
    refine⟨_,aN,N,rfl,okn,fun ord hp hb=>?_⟩
    have gT:Gd (enc (sub N (Hx [] ord))):=Dg (EI okn).1 (EH okn (fun t ht=>(sub_mem.mp ht).1) (Nat.le_trans (List.length_filter_le _ _) (by have:=okn.2.2; omega))).1
    obtain⟨f1,f2,f3⟩:=gT
    generalize enc (sub N (Hx [] ord))=e at f1 f2 f3
    refine⟨_,aN,N,y,e,rfl,okn,l24,hy,f1.mono (by decide),by omega,by omega,?_⟩
    refine⟨_,aN,N,y,e,rfl,okn,l24,hy,f1.mono (by decide),by omega,by omega,?_⟩
    refine CY (fun c=>absurd c ?_) fun _=>hnx2 _ _ ⟨_,_,rfl⟩
    cases HU N y e <;> decide
 show IV _ m2 [.no,.fd,.sh (.lst [enc N1,enc N2]),.sh (.lst [.str x1,.str x2]),.sh (.lst [.lst es1,.lst es2]),.no,.no,.no,.no,.no,.no]
 unfold IV
 refine⟨_,AH (j:=0) rfl,_,_,rfl,rfl,_,AH (j:=1) rfl,_,_,rfl,rfl,_,rfl,⟨?_,?_⟩,?_⟩
 ·show -(2 ^ 62)<=(if (es1.length:Int)<(es2.length:Int) then (es2.length:Int) else (es1.length:Int))
  split <;> omega
 ·show (if (es1.length:Int)<(es2.length:Int) then (es2.length:Int) else (es1.length:Int))<2 ^ 62
  split <;> omega
 refine Co (fun k m' ρ=>∃s5 s6 s7 s8,ρ=[.no,.fd,.sh (.lst [enc N1,enc N2]),.sh (.lst [.str x1,.str x2]),.sh (.lst [.lst es1,.lst es2]),s5,s6,s7,s8,.no,.no]) ?_ _ _ _ ?_ ⟨_,_,_,_,rfl⟩
 ·rintro m' ρ ⟨s5,s6,s7,s8,rfl⟩
  exact tail _ _ _ _ _ _ _
 ·rintro k d m' ρ nx hd ⟨s5,s6,s7,s8,rfl⟩ hnx
  obtain⟨kk,hkk,rfl⟩:=DJ hd
  refine⟨2,rfl,⟨by decide,by decide⟩,?_⟩
  refine Co (fun k m' ρ=>∃s6 s7 s8,ρ=[.no,.fd,.sh (.lst [enc N1,enc N2]),.sh (.lst [.str x1,.str x2]),.sh (.lst [.lst es1,.lst es2]),.sh (.int (0+(kk:Int))),s6,s7,s8,.no,.no]) ?_ _ _ _ ?_ ⟨_,_,_,rfl⟩
  ·rintro m' ρ ⟨s6,s7,s8,rfl⟩
   exact hnx _ _ ⟨_,_,_,_,rfl⟩
  ·rintro k2 d m' ρ nx2 hd2 ⟨s6,s7,s8,rfl⟩ hnx2
   obtain⟨j,hj,rfl⟩:=DJ hd2
   match j,hj with
   | 0,_=>exact LU (j:=0) (N:=N1) (x:=x1) (es:=es1) (by omega) rfl rfl rfl okn1 (by omega) hx1 g1 c1 d1 fun s7 s8=>hnx2 _ _ ⟨_,_,_,rfl⟩
   | 1,_=>exact LU (j:=1) (N:=N2) (x:=x2) (es:=es2) (by omega) rfl rfl rfl okn2 (by omega) hx2 g2 c2 d2 fun s7 s8=>hnx2 _ _ ⟨_,_,_,rfl⟩
end Nt
namespace K32
open PySem PySem.Spec PyProof.Rows L2 Dp Nt
section
variable {P:Program}{w:World}{K:Frag}{mg:Str->Option Value}{base:Heap}
theorem LQ:Ar ["thing"] ["thing"] (AI Ci):=by constructor <;> first | rfl | decide +kernel
theorem LY{f:Addr}{fd:FuncData}(T:Txt K mg)(F:Fun K "is_whole" "is_whole" Ci f fd):Bq P w K mg base Dy 1 f fd ["thing"] (Fg K .sh Di 1):=by
 exact IF F LQ (by decide) (fun cdv A outer s H E hr=>(AM (Am (El (CD HE (dv 0) rfl T.n_isinstance rfl T.n_int (by decide +kernel)) (FX (QQ (CD Hy (dv 0) rfl T.n_isinstance rfl T.n_bool (by decide +kernel)))))))) (fun ss n Pd hl hw=>Gs hw)
theorem Hb:Ar ["count","thing"] ["count","thing"] (AI Bs):=by constructor <;> first | rfl | decide +kernel
theorem Hr{f:Addr}{fd:FuncData}(T:Txt K mg)(F:Fun K "is_tuple_of" "is_tuple_of" Bs f fd):Bq P w K mg base Dy 1 f fd ["count","thing"] (Fg K .sh Et 2):=by
 exact IF F Hb (by decide) (fun cdv A outer s H E hr=>(AM (Am (El (CD Cs (dv 1) rfl T.n_isinstance rfl T.n_tuple (by decide +kernel)) (FX (DR C5 E7 (AW Au CA rfl T.n_len PySem.boot_len (AJ (dv 1) AQ)) (dv 0) (Ah _))))))) (fun ss n Pd hl hw=>Hg hw)
theorem J7:Ar ["things"] ["things"] (AI CN):=by constructor <;> first | rfl | decide +kernel
theorem KM{f:Addr}{fd:FuncData}(T:Txt K mg)(F:Fun K "is_rising" "is_rising" CN f fd):Bq P w K mg base Dy 1 f fd ["things"] (Fg K .sh GH 1):=by
 exact IF F J7 (by decide) (fun cdv A outer s H E hr=>(AM (Am (AW (IT rfl) Qo rfl T.n_all PyProof.Rows.boot_all (AJ (CI rfl [("ahead" : Str),("behind" : Str)] [none,none] (Rh rfl T.n_zip (AJ (dv 0) (AJ (CF Df CG (dv 0) (A7 AE) BQ) AQ))) (fun _ _ _ _ _=>(Gh rfl (Bg (Ae (i:=0) (show List.Nodup [("ahead" : Str),("behind" : Str)] by decide +kernel) rfl (Or.inl rfl)) (Bg (Ae (i:=1) (show List.Nodup [("ahead" : Str),("behind" : Str)] by decide +kernel) rfl (Or.inl rfl)) Ez)))) (fun _ _ _ _ _=>DA) (fun _ _ _ _ _=>(DR (EZ hr) G1 (dv 0) (dv 1) (Ah _))) (by kernel_rfl)) AQ))))) (fun ss n Pd hl hw=>KC hw)
theorem sc_steps_of:Ar ["net","steps","place","a","b","length"] ["net"] (AI Ch):=⟨rfl,rfl,rfl,by decide +kernel,rfl,by decide +kernel,by decide +kernel⟩
theorem LX{f:Addr}{fd:FuncData}(F:Fun K "steps_of" "steps_of" Ch f fd):Bq P w K mg base Dy 1 f fd ["net"] (Fg K .sh K_ 1):=by
 refine F.ok (k:=0) sc_steps_of (fun vs H Q E h=>h.1) (fun cdv A outer s H vs Q E hr h=>?_)
 obtain⟨hl,F0,U,V',M,n,ss,Pd,ra,⟨N,rfl,ok,lp,lt,p⟩,q⟩:=h
 obtain⟨dom,fU,uV,vM,fd0,pa⟩:=ra
 cases pa with
 | cons r1 pa =>
 cases pa
 obtain⟨v,e1,h1⟩:=r1.1
 cases e1
 obtain⟨an,vs,rfl,hn,v1,r,rfl,hp,v2,r2,rfl,ht,e2⟩:=h1
 cases (show r2=[] from e2)
 obtain⟨ap,us,rfl,hpn,hps⟩:=hp
 obtain⟨at_,ws,rfl,htn,hts⟩:=ht
 have nd:=sc_steps_of.nd
 have hu:=Jg hr
 have szl:=PySem.sizeLine_eq
 have lus:us.length=N.ps.length:=by rw [hps.length,List.length_map]
 have lws:ws.length=N.ts.length:=by rw [hts.length,List.length_map]
 refine⟨_,BU (EW (i:=1) nd rfl (Or.inl rfl) Hn)
  (BU (KF PassesOwn.never rfl (Ph (EJ ix_tup (pv 0) A0 (fun _ _=>rfl))) (Fq (i:=2) nd rfl (Or.inl rfl)) (DZ (HB hu (pv 1) (pv 2) Hn rfl)))
  (BU (KF PassesOwn.never rfl (Ph (EJ ix_tup (pv 0) A0 (fun _ _=>rfl))) (Pj rfl (Fp (Fq (i:=3) nd rfl (Or.inl rfl)) (Fp (Fq (i:=4) nd rfl (Or.inl rfl)) (Fp (Fq (i:=5) nd rfl (Or.inl rfl)) NH))))
   (BU (HB hu (KJ hu (pv 1) (pv 3) (fun _ _=>rfl)) (pv 4) (pv 5) rfl) (DZ (HB hu (KJ hu (pv 1) (pv 4) (fun _ _=>rfl)) (pv 3) (pv 5) rfl))))
  (DZ (FN (Pl (pv 1)))))),?_⟩
 refine fun d hd=>?_
 have old0:∀b o,H b=some o->BA H d (.dK []) b=some o:=fun b o e=>by rw [AU (BB e hd)]; exact e
 have SqN:∀H':Hp,(∀b o,H b=some o->H' b=some o)->SqT K H' an [.ref ap,.ref at_]:=fun H' o=>SqT.of (o _ _ hn.2)
 have SqP:∀H':Hp,(∀b o,H b=some o->H' b=some o)->SqT K H' ap us:=fun H' o=>SqT.of (o _ _ hpn.2)
 have SqW:∀H':Hp,(∀b o,H b=some o->H' b=some o)->SqT K H' at_ ws:=fun H' o=>SqT.of (o _ _ htn.2)
 refine⟨_,rfl,an,_,0,_,rfl,rfl,SqN _ old0,rfl,ap,rfl,⟨_,SqP _ old0⟩,?_⟩
 refine NR (xs:=us) (fun i σ H'=>∃(as:List (Str×Addr)) (x2 x3 x4 x5:Option V),σ=[some (.ref an),some (.ref d),x2,x3,x4,x5]/\as.map (·.1)=N.ps.take i/\Stp H d as (fun _=>[]) H') ?_ (fun i σ H' hi ⟨as,x2,x3,x4,x5,e,hm,st⟩=>SqP _ st.old) ?_ ?_
 ·exact⟨[],_,_,_,_,rfl,rfl,old0,hd,Ab,(fun x hx=>by cases hx),List.nodup_nil,List.nodup_nil⟩
 ·rintro i x σ H' hx ⟨as,x2,x3,x4,x5,rfl,hm,st⟩
  have hi:i<N.ps.length:=by rw [← lus]; exact(List.getElem?_eq_some_iff.mp hx).1
  obtain⟨x',hx',hAt⟩:=hps.get (i:=i) (d:=.str N.ps[i]) (by rw [List.getElem?_map,List.getElem?_eq_getElem hi]; rfl)
  rw [hx] at hx'
  cases hx'
  obtain⟨rfl,_⟩:=hAt
  intro q hq
  have las:as.length<=i:=by have:=congrArg List.length hm; rw [List.length_map,List.length_take] at this; omega
  have nq:d≠q:=fun e=>by rw [← e,st.top] at hq; cases hq
  have las2:(as.map fun x=>((.inr x.1:AY),V.ref x.2)).length=as.length:=List.length_map ..
  refine⟨_,rfl,_,rfl,d,_,rfl,DPut.k (k:=.inr N.ps[i]) (by rw [AU nq]; exact st.top) (by omega),?_⟩
  refine⟨as++[(N.ps[i],q)],_,_,_,_,rfl,?_,st.more hq ?_ rfl⟩
  ·rw [List.map_append,hm,List.take_succ,List.getElem?_eq_getElem hi]; rfl
  ·rw [hm]; exact MY (J9 ok.rise) hi
 ·rintro σ H' ⟨as,x2,x3,x4,x5,rfl,hm,st⟩
  rw [lus,List.take_length] at hm
  refine⟨_,rfl,an,_,1,_,rfl,rfl,SqN _ st.old,rfl,at_,rfl,⟨_,SqW _ st.old⟩,?_⟩
  refine NR (xs:=ws) (fun i σ H'=>∃(x2 x3 x4 x5:Option V),σ=[some (.ref an),some (.ref d),x2,x3,x4,x5]/\Stp H d as (fun p=>(Fa (N.ts.take i) p).map kv) H') ⟨_,_,_,_,rfl,st⟩ (fun i σ H' hi ⟨x2,x3,x4,x5,e,st⟩=>SqW _ st.old) ?_ ?_
  ·rintro i x σ H' hx ⟨x2,x3,x4,x5,rfl,st⟩
   have hi:i<N.ts.length:=by rw [← lws]; exact(List.getElem?_eq_some_iff.mp hx).1
   obtain⟨x',hx',hAt⟩:=hts.get (i:=i) (d:=AT N.ts[i]) (by rw [List.getElem?_map,List.getElem?_eq_getElem hi]; rfl)
   rw [hx] at hx'
   cases hx'
   have hmem:N.ts[i]∈N.ts:=List.getElem_mem hi
   have hsnoc:N.ts.take (i+1)=N.ts.take i++[N.ts[i]]:=by rw [List.take_succ,List.getElem?_eq_getElem hi]; rfl
   have hpre:(N.ts.take (i+1)).Pairwise A_:=ok.trise.sublist (List.take_sublist _ _)
   have hlt2:∀s∈N.ts.take (i+1),cs s.a<cs s.b:=fun s hs=>(ok.tin s (List.mem_of_mem_take hs)).2.2.1
   rw [hsnoc] at hpre hlt2
   have new:=QI hpre hlt2
   have ltk:(N.ts.take i).length<=1000:=by rw [List.length_take]; omega
   generalize N.ts[i]=t at hAt hmem hsnoc new
   generalize N.ts.take i=ts at hsnoc new st ltk
   obtain⟨m1,m2,m3,_⟩:=ok.tin t hmem
   have hab:t.a≠t.b:=fun e=>by rw [e] at m3; exact List.lt_irrefl _ m3
   obtain⟨ta,tb,tl⟩:=t
   obtain⟨tt,us3,rfl,htt,hit⟩:=hAt
   obtain⟨va,r3,rfl,⟨rfl,_⟩,vb,r4,rfl,⟨rfl,_⟩,vl,r5,rfl,rfl,e5⟩:=hit
   cases (show r5=[] from e5)
   rw [← hm] at m1 m2
   obtain⟨⟨xa,pa⟩,ha,ea⟩:=List.mem_map.mp m1
   obtain⟨⟨xb,pb⟩,hb,eb⟩:=List.mem_map.mp m2
   have ea':ta=xa:=ea.symm
   have eb':tb=xb:=eb.symm
   subst ea' eb'
   clear ea eb
   replace hab:ta≠tb:=hab
   replace new:tb∉(Fa ts ta).map (·.1)/\ta∉(Fa ts tb).map (·.1):=new
   have ga:=DGet.k (k:=.inr ta) st.top
   rw [G9 st.nms ha] at ga
   have l1:=NK ts ta
   refine⟨tt,_,rfl,SqT.of (st.old _ _ htt.2),rfl,_,_,rfl,_,_,rfl,_,_,rfl,rfl,?_⟩
   refine⟨_,rfl,_,rfl,_,rfl,d,_,rfl,ga,_,rfl,pa,_,rfl,DPut.k (k:=.inr tb) (st.inn _ ha).2.2 (by show ((Fa ts ta).map kv).length<sizeLine; rw [List.length_map]; omega),?_⟩
   have st1:=st.put (tb2:=fun p=>(Fa ts p++if ta=p then [(tb,tl)] else []).map kv) ha (kvs:=DL ((Fa ts ta).map kv) (.inr tb) (.int tl)) (by rw [NE new.1,if_pos rfl]) (fun q hq=>by rw [if_neg (Ne.symm hq),List.append_nil])
   have gb:=DGet.k (k:=.inr tb) st1.top
   rw [G9 st1.nms hb] at gb
   have l2:=NK ts tb
   have ib:=(st1.inn _ hb).2.2
   simp only [if_neg hab,List.append_nil] at ib
   refine⟨_,rfl,_,rfl,_,rfl,d,_,rfl,gb,_,rfl,pb,_,rfl,DPut.k (k:=.inr ta) ib (by rw [List.length_map]; omega),?_⟩
   refine⟨_,_,_,_,rfl,st1.put hb ?_ fun q hq=>?_⟩
   ·show (Fa (N.ts.take (i+1)) tb).map kv=_
    rw [hsnoc,Le,NE new.2]
    show ((Fa ts tb++((if ta=tb then [(tb,tl)] else [])++if tb=tb then [(ta,tl)] else [])).map kv)=_
    rw [if_neg hab,if_pos rfl]; rfl
   ·show (Fa (N.ts.take (i+1)) q).map kv=_
    rw [hsnoc,Le]
    show ((Fa ts q++((if ta=q then [(tb,tl)] else [])++if tb=q then [(ta,tl)] else [])).map kv)=_
    rw [if_neg (Ne.symm hq),List.append_nil]
  ·rintro σ H' ⟨x2,x3,x4,x5,rfl,st⟩
   rw [lws,List.take_length] at st
   have old:∀(f:Addr->Obj) b o,H b=some o->E6 H' (as.map (·.2)) f b=some o:=fun f b o e=>by
    rw [DN (fun hm=>by obtain⟨x,hx,e2⟩:=List.mem_map.mp hm; have:=(st.inn x hx).1; rw [e2,e] at this; cases this)]
    exact st.old b o e
   refine⟨_,rfl,(as.map fun(x:Str×Addr)=>x.2),fun b hb=>?_,fun f=>q (.ref d) (E6 H' (as.map fun(x:Str×Addr)=>x.2) f) (GN N) n (fun b o e=>⟨o,old f b o e,fun _=>rfl⟩) (fun g hg=>?_) (show At K M (E6 H' (as.map fun(x:Str×Addr)=>x.2) f) (GN N) (.ref d) from st.at_ dom hm f) p⟩
   ·obtain⟨x,hx,rfl⟩:=List.mem_map.mp hb
    exact⟨_,(st.inn x hx).2.2⟩
   ·obtain⟨a,r,cells,hf,hcf,hc,rest⟩:=fd0 g hg
    exact⟨a,r,cells,old f _ _ hf,hcf,⟨hc.1,old f _ _ hc.2⟩,rest⟩
theorem J6:Ar ["net","thing"] ["net","thing"] (AI CM):=by constructor <;> first | rfl | decide +kernel
theorem KL{f:Addr}{fd:FuncData}(T:Txt K mg)(G_is_whole:CJ P w K mg base "is_whole" 1 ["thing"] .sh Di)(F:Fun K "is_tie_of" "is_tie_of" CM f fd):Bq P w K mg base Dy 2 f fd ["net","thing"] (Fg K .sh Qp 2):=by
 exact IF F J6 (by decide) (fun cdv A outer s H E hr=>(AM (Am (El (DR (S3 hr) Ql (dv 1) (AS AL Al (dv 0) AE) (by with_unfolding_all rfl)) (FX (AK G_is_whole (hr.mono (by decide)) rfl (AB (AX (AS AL Al (dv 1) AE)) AO))))))) (fun ss n Pd hl hw=>KB hw)
theorem MJ:Ar ["net","thing"] ["net","thing"] (AI DD):=by constructor <;> first | rfl | decide +kernel
theorem MX{f:Addr}{fd:FuncData}(T:Txt K mg)(G_is_rising:CJ P w K mg base "is_rising" 1 ["things"] .sh GH)(G_is_tie_of:CJ P w K mg base "is_tie_of" 2 ["net","thing"] .sh Qp)(G_is_tuple_of:CJ P w K mg base "is_tuple_of" 1 ["count","thing"] .sh Et)(F:Fun K "is_thin" "is_thin" DD f fd):Bq P w K mg base Dy 3 f fd ["net","thing"] (Fg K .sh FJ 2):=by
 exact IF F MJ (by decide) (fun cdv A outer s H E hr=>(AF (BV (DTW.dt (FE (EB (CC (AK G_is_tuple_of (hr.mono (by decide)) rfl (AB (AX AE) (AB (AX (dv 1)) AO))))) (Gc (EB (CC (CD Cs (AS AL Al (dv 1) AE) rfl T.n_isinstance rfl T.n_tuple (by decide +kernel))))))) (AM (Am EL)) As)
 (AM (Am (El (DR (MU hr) Qm (AS AL Al (dv 1) AE) (AS AL Al (dv 0) AE) (Ah _)) (El (AW (IT rfl) Qo rfl T.n_all PyProof.Rows.boot_all (AJ (CI rfl [("net" : Str),("tie" : Str)] [some 0,none] (Cy (AS AL Al (dv 1) AE)) (fun _ _ _ _ _=>(Ae (i:=1) (show List.Nodup [("net" : Str),("tie" : Str)] by decide +kernel) rfl (Or.inl rfl))) (fun _ _ _ _ _=>DA) (fun _ _ _ _ _=>(AK G_is_tie_of (hr.mono (by decide)) rfl (AB (AX (dv 0)) (AB (AX (dv 1)) AO)))) (by kernel_rfl)) AQ)) (FX (AK G_is_rising (hr.mono (by decide)) rfl (AB (AX (AS AL Al (dv 1) AE)) AO))))))))) (fun ss n Pd hl hw=>MM hw)
theorem Ie:Ar ["waiting","found"] ["waiting","found"] (AI B3):=by constructor <;> first | rfl | decide +kernel
theorem Il{f:Addr}{fd:FuncData}(T:Txt K mg)(F:Fun K "nearest_of" "nearest_of" B3 f fd):Bq P w K mg base Dy 1 f fd ["waiting","found"] (Fg K .sh L7 2):=by
 exact IF F Ie (by decide) (fun cdv A outer s H E hr=>(AM (Am (AS AL Al (AW (Oc hr) Tj rfl T.n_min boot_min (AJ (CI rfl [("found" : Str),("place" : Str)] [some 1,none] (Cy (HF 0)) (fun _ _ _ _ _=>(Ae (i:=1) (show List.Nodup [("found" : Str),("place" : Str)] by decide +kernel) rfl (Or.inl rfl))) (fun _ _ _ _ _=>DA) (fun _ _ _ _ _=>(Ay (AA (AS AL Al (DB hr (HF 0) (dv 1)) AE) (AA (dv 1) AN)))) (by kernel_rfl)) AQ)) AE)))) (fun ss n Pd hl hw=>Ih hw)
theorem sc_least_ways:Ar ["net","start","steps","found","waiting","place","other","step","length"] ["net","start"] (AI B4):=by constructor <;> first | rfl | decide +kernel
theorem Im{f:Addr}{fd:FuncData}(T:Txt K mg)(G_nearest_of:CJ P w K mg base "nearest_of" 1 ["waiting","found"] .sh L7)(G_steps_of:CJ P w K mg base "steps_of" 1 ["net"] .sh K_)(F:Fun K "least_ways" "least_ways" B4 f fd):Bq P w K mg base Dy 2 f fd ["net","start"] (Fg K .fr Gn 2):=by
 exact IF F sc_least_ways (by decide) (fun cdv A outer s H E hr=>(AF (Aw (i:=2) sc_least_ways.nd rfl (Or.inl rfl) (AK G_steps_of (hr.mono (by decide)) rfl (AB (AX (dv 0)) AO)))
 (AF (Cw (i:=3) sc_least_ways.nd rfl (Or.inl rfl) (Lv (dv 1) (Ay (AA AE (AA QU AN)))))
 (AF (Cw (i:=4) sc_least_ways.nd rfl (Or.inl rfl) (Bi (AA (dv 1) AN)))
 (AF (IM PassesOwn.never (TW (HF 4)) (AF (Aw (i:=5) sc_least_ways.nd rfl (Or.inl rfl) (AK G_nearest_of (hr.mono (by decide)) rfl (AB (Jk (HF 4)) (AB (Jk (HF 3)) AO))))
 (AF (DQ 4 PySem.F.plainAttrs_list PySem.F.slot_list_remove PySem.F.type_list_remove (OH hr) Uw (pv 4) (AA (dv 5) AN))
 (AM (Cb PassesOwn.never rfl (QP (DB hr (dv 2) (dv 5))) (Gh rfl (Bg (Ae (i:=6) sc_least_ways.nd rfl (Or.inl rfl)) (Bg (Ae (i:=7) sc_least_ways.nd rfl (Or.inl rfl)) Ez))) (AF (Aw (i:=8) sc_least_ways.nd rfl (Or.inl rfl) (Ac Aa An (AS AL Al (DB hr (HF 3) (dv 5)) AE) (dv 7)))
 (AM (BV (Ap (JV hr) L6 (dv 6) (HF 3) (by with_unfolding_all rfl)) (AF (DQ 4 PySem.F.plainAttrs_list PySem.F.slot_list_append PySem.F.type_list_append BL Dw (pv 4) (AA (dv 6) AN))
 (AM (Fx (i:=3) hr (pv 3) (dv 6) (Ay (AA (dv 8) (AA (dv 5) AN)))))) (AM (BV (Ap (EZ hr) G1 (dv 8) (AS AL Al (DB hr (HF 3) (dv 6)) AE) (Ah _)) (AM (Fx (i:=3) hr (pv 3) (dv 6) (Ay (AA (dv 8) (AA (dv 5) AN))))) As))))))))))
 (AM (NY 3 (pv 3)))))))) (fun ss n Pd hl hw=>Ii hw)
theorem sc_is_tree_from:Ar ["net","place","thing","many"] ["net","place","thing"] (AI Bm):=by constructor <;> first | rfl | decide +kernel
theorem G4{f:Addr}{fd:FuncData}(T:Txt K mg)(G_is_thin:CJ P w K mg base "is_thin" 3 ["net","thing"] .sh FJ)(G_least_ways:CJ P w K mg base "least_ways" 2 ["net","start"] .fr Gn)(F:Fun K "is_tree_from" "is_tree_from" Bm f fd):Bq P w K mg base Dy 4 f fd ["net","place","thing"] (Fg K .sh C3 3):=by
 exact IF F sc_is_tree_from (by decide) (fun cdv A outer s H E hr=>(AF (BV (EB (CC (AK G_is_thin (hr.mono (by decide)) rfl (AB (AX (dv 0)) (AB (AX (dv 2)) AO))))) (AM (Am EL)) As)
 (AF (Aw (i:=3) sc_is_tree_from.nd rfl (Or.inl rfl) (AW Jn Qi rfl T.n_len PySem.boot_len (AJ (AK G_least_ways (hr.mono (by decide)) rfl (AB (AX (dv 0)) (AB (AX (dv 1)) AO))) AQ)))
 (AM (Am (El (DR C5 E7 (AW Jn Qi rfl T.n_len PySem.boot_len (AJ (AK G_least_ways (hr.mono (by decide)) rfl (AB (AX (dv 2)) (AB (AX (dv 1)) AO))) AQ)) (dv 3) (Ah _)) (FX (DR C5 E7 (AW Au CA rfl T.n_len PySem.boot_len (AJ (AS AL Al (dv 2) AE) AQ)) (Ac Bw Cf (dv 3) AE) (Ah _))))))))) (fun ss n Pd hl hw=>Fn hw)
theorem sc__law_names:Ar ["_law_feed_here","_law_many","_law_some_here","_law_first"] ["_law_feed_here","_law_many"] (AI B7):=by constructor <;> first | rfl | decide +kernel
theorem Iq{f:Addr}{fd:FuncData}(T:Txt K mg)(G__law_next:CJ P w K mg base "_law_next" 1 ["_law_feed_here","_law_many"] .sh BM)(F:Fun K "_law_names" "_law_names" B7 f fd):Bq P w K mg base Dy 2 f fd ["_law_feed_here","_law_many"] (Fg K .sh Eu 2):=by
 exact IF F sc__law_names (by decide) (fun cdv A outer s H E hr=>(AF (Aw (i:=2) sc__law_names.nd rfl (Or.inr rfl) (Bi (AA A1 (AA A1 (AA A1 (AA A1 (AA A1 (AA A1 (AA A1 (AA A1 (AA A1 (AA A1 (AA A1 (AA A1 AN))))))))))))))
 (AF (Aw (i:=2) sc__law_names.nd rfl (Or.inr rfl) (Ac Aa An (dv 2) (Bi (AA A1 (AA A1 (AA A1 (AA A1 (AA A1 (AA A1 (AA A1 (AA A1 (AA A1 (AA A1 (AA A1 (AA A1 AN)))))))))))))))
 (AF (Aw (i:=3) sc__law_names.nd rfl (Or.inr rfl) (AK G__law_next (hr.mono (by decide)) rfl (AB (A4 0) (AB (AX AE) AO))))
 (AM (Am (BS BD Ce rfl T.n_tuple boot_tuple (AJ (AW Mm Ro rfl T.n_sorted boot_sorted (AJ (CI rfl [("_law_some_here" : Str),("_law_first" : Str),("_law_k" : Str)] [some 2,some 3,none] (DI.c (B9 rfl T.n_range (AJ (dv 1) AQ))) (fun _ _ _ _ _=>(Ae (i:=2) (show List.Nodup [("_law_some_here" : Str),("_law_first" : Str),("_law_k" : Str)] by decide +kernel) rfl (Or.inl rfl))) (fun _ _ _ _ _=>DA) (fun _ _ _ _ _=>(AS AL Al (dv 0) (Ac D1 Er (Ac Aa An (dv 1) (dv 2)) AE))) (by kernel_rfl)) AQ)) AQ)))))))) (fun ss n Pd hl hw=>He hw)
theorem Hc:Ar ["_law_feed_here","_law_way"] ["_law_feed_here","_law_way"] (AI Bu):=by constructor <;> first | rfl | decide +kernel
theorem Ht{f:Addr}{fd:FuncData}(T:Txt K mg)(G__law_next:CJ P w K mg base "_law_next" 1 ["_law_feed_here","_law_many"] .sh BM)(F:Fun K "_law_length" "_law_length" Bu f fd):Bq P w K mg base Dy 2 f fd ["_law_feed_here","_law_way"] (Fg K .sh Gm 2):=by
 exact IF F Hc (by decide) (fun cdv A outer s H E hr=>(AF (BV (Ap (EZ hr) G1 (dv 1) AE (Ah _)) (AM (Am (Ac Aa An AE (AK G__law_next (hr.mono (by decide)) rfl (AB (A4 0) (AB (AX (AS AL Al (Bi (AA AE (AA AE (AA AE AN)))) (dv 1))) AO)))))) As)
 (AF (BV (Ap C5 E7 (dv 1) AE (Ah _)) (AM (Am (Ac Aa An AE (AK G__law_next (hr.mono (by decide)) rfl (AB (A4 0) (AB (AX AE) AO)))))) As)
 (AM (Am (Ac Bw Cf (Ac GR Er AE AE) (AK G__law_next (hr.mono (by decide)) rfl (AB (A4 0) (AB (AX AE) AO))))))))) (fun ss n Pd hl hw=>G3 hw)
theorem sc__law_net:Ar ["_law_feed_here","_law_most","_law_ties","_law_places","_law_free","_law_a","_law_way","_law_many","_law_found","_law_k","_law_b"] ["_law_feed_here","_law_most","_law_ties"] (AI Ck):=by constructor <;> first | rfl | decide +kernel
theorem La{f:Addr}{fd:FuncData}(T:Txt K mg)(G__law_length:CJ P w K mg base "_law_length" 2 ["_law_feed_here","_law_way"] .sh Gm)(G__law_names:CJ P w K mg base "_law_names" 2 ["_law_feed_here","_law_many"] .sh Eu)(G__law_next:CJ P w K mg base "_law_next" 1 ["_law_feed_here","_law_many"] .sh BM)(F:Fun K "_law_net" "_law_net" Ck f fd):Bq P w K mg base Dy 3 f fd ["_law_feed_here","_law_most","_law_ties"] (Fg K .sh Gk 3):=by
 exact IF F sc__law_net (by decide) (fun cdv A outer s H E hr=>(AF (Aw (i:=3) sc__law_net.nd rfl (Or.inl rfl) (AK G__law_names (hr.mono (by decide)) rfl (AB (A4 0) (AB (AX (Ac Aa An AE (AK G__law_next (hr.mono (by decide)) rfl (AB (A4 0) (AB (AX (Ac Bw Cf (dv 1) AE)) AO))))) AO))))
 (AF (Cw (i:=4) sc__law_net.nd rfl (Or.inl rfl) (Bi AN))
 (AF (Cb PassesOwn.never rfl (FW (dv 3)) (Ae (i:=5) sc__law_net.nd rfl (Or.inr rfl)) (AM (DQ 4 PySem.F.plainAttrs_list PySem.F.slot_list_extend PySem.F.type_list_extend OI Ux (pv 4) (AA (CI rfl [("_law_a" : Str),("_law_b" : Str)] [some 5,none] (Cy (dv 3)) (fun _ _ _ _ _=>(Ae (i:=1) (show List.Nodup [("_law_a" : Str),("_law_b" : Str)] by decide +kernel) rfl (Or.inl rfl))) (fun _ _ _ _ _=>(Fy (Ap (EZ hr) G1 (dv 0) (dv 1) (Ah _)))) (fun _ _ _ _ _=>(Ay (AA (dv 0) (AA (dv 1) AN)))) (by kernel_rfl)) AN))))
 (AF (Aw (i:=6) sc__law_net.nd rfl (Or.inl rfl) (AK G__law_next (hr.mono (by decide)) rfl (AB (A4 0) (AB (AX AE) AO))))
 (AF (Aw (i:=7) sc__law_net.nd rfl (Or.inl rfl) (Ac Bw Cf (dv 2) (AK G__law_next (hr.mono (by decide)) rfl (AB (A4 0) (AB (AX (Ac Aa An (Ac HC Er (dv 2) AE) AE)) AO)))))
 (AF (BV (Ap C5 E7 (AK G__law_next (hr.mono (by decide)) rfl (AB (A4 0) (AB (AX AE) AO))) AE (Ah _)) (AM (Aw (i:=7) sc__law_net.nd rfl (Or.inl rfl) (AK G__law_next (hr.mono (by decide)) rfl (AB (A4 0) (AB (AX AE) AO))))) As)
 (AF (Cw (i:=8) sc__law_net.nd rfl (Or.inl rfl) (Bi AN))
 (AF (Cb PassesOwn.never rfl (B9 rfl T.n_range (AJ (AW (Jm rfl) Qh rfl T.n_min boot_min (AJ (dv 7) (AJ (AW Au CA rfl T.n_len PySem.boot_len (AJ (HF 4) AQ)) AQ))) AQ)) (Ae (i:=9) sc__law_net.nd rfl (Or.inl rfl)) (AF (NZ (i:=4) (pv 4) (AK G__law_next (hr.mono (by decide)) rfl (AB (A4 0) (AB (AX (AW Au CA rfl T.n_len PySem.boot_len (AJ (HF 4) AQ))) AO))) (Gh rfl (Bg (Ae (i:=5) sc__law_net.nd rfl (Or.inr rfl)) (Bg (Ae (i:=10) sc__law_net.nd rfl (Or.inl rfl)) Ez))))
 (AM (DQ 8 PySem.F.plainAttrs_list PySem.F.slot_list_append PySem.F.type_list_append BL Dw (pv 8) (AA (Ay (AA (dv 5) (AA (dv 10) (AA (AK G__law_length (hr.mono (by decide)) rfl (AB (A4 0) (AB (AX (dv 6)) AO))) AN)))) AN)))))
 (AM (Am (Ay (AA (dv 3) (AA (BS BD Ce rfl T.n_tuple boot_tuple (AJ (AW Cu E1 rfl T.n_sorted boot_sorted (AJ (HF 8) AQ)) AQ)) AN)))))))))))))) (fun ss n Pd hl hw=>J_ hw)
theorem sc__law_order:Ar ["_law_ties","_law_some_here"] ["_law_ties"] (AI B6):=by constructor <;> first | rfl | decide +kernel
theorem Ip{f:Addr}{fd:FuncData}(T:Txt K mg)(F:Fun K "_law_order" "_law_order" B6 f fd):Bq P w K mg base Dy 1 f fd ["_law_ties"] (Fg K .fr IY 1):=by
 exact IF F sc__law_order (by decide) (fun cdv A outer s H E hr=>(AF (Aw (i:=1) sc__law_order.nd rfl (Or.inl rfl) (AW Cu E1 rfl T.n_sorted boot_sorted (AJ (CI rfl [("_law_tie" : Str)] [none] (Cy (dv 0)) (fun _ _ _ _ _=>(Ae (i:=0) (show List.Nodup [("_law_tie" : Str)] by decide +kernel) rfl (Or.inl rfl))) (fun _ _ _ _ _=>DA) (fun _ _ _ _ _=>(Ay (AA (AS AL Al (dv 0) AE) (AA (AS AL Al (dv 0) AE) (AA (AS AL Al (dv 0) AE) AN))))) (by kernel_rfl)) AQ)))
 (AM (Am (CI rfl [("_law_length_here" : Str),("_law_a" : Str),("_law_b" : Str)] [none,none,none] (Cy (dv 1)) (fun _ _ _ _ _=>(Gh rfl (Bg (Ae (i:=0) (show List.Nodup [("_law_length_here" : Str),("_law_a" : Str),("_law_b" : Str)] by decide +kernel) rfl (Or.inl rfl)) (Bg (Ae (i:=1) (show List.Nodup [("_law_length_here" : Str),("_law_a" : Str),("_law_b" : Str)] by decide +kernel) rfl (Or.inl rfl)) (Bg (Ae (i:=2) (show List.Nodup [("_law_length_here" : Str),("_law_a" : Str),("_law_b" : Str)] by decide +kernel) rfl (Or.inl rfl)) Ez))))) (fun _ _ _ _ _=>DA) (fun _ _ _ _ _=>(Ay (AA (dv 1) (AA (dv 2) (AA (dv 0) AN))))) (by kernel_rfl)))))) (fun ss n Pd hl hw=>Hd hw)
theorem sc__law_lengths:Ar ["_law_ties","_law_place","_law_known","_law_grew","_law_a","_law_b","_law_length_here","_law_one","_law_other"] ["_law_ties","_law_place"] (AI Bn):=by constructor <;> first | rfl | decide +kernel
theorem G5{f:Addr}{fd:FuncData}(T:Txt K mg)(F:Fun K "_law_lengths" "_law_lengths" Bn f fd):Bq P w K mg base Dy 1 f fd ["_law_ties","_law_place"] (Fg K .fr CH 2):=by
 exact IF F sc__law_lengths (by decide) (fun cdv A outer s H E hr=>(AF (Cw (i:=2) sc__law_lengths.nd rfl (Or.inl rfl) (Lv (dv 1) AE))
 (AF (Aw (i:=3) sc__law_lengths.nd rfl (Or.inl rfl) EL)
 (AF (IM PassesOwn.never (CC (dv 3)) (AF (Aw (i:=3) sc__law_lengths.nd rfl (Or.inl rfl) EL)
 (AM (Rg PassesOwn.never rfl (pv 0) (Gh rfl (Bg (Ae (i:=4) sc__law_lengths.nd rfl (Or.inl rfl)) (Bg (Ae (i:=5) sc__law_lengths.nd rfl (Or.inl rfl)) (Bg (Ae (i:=6) sc__law_lengths.nd rfl (Or.inl rfl)) Ez)))) (AM (Cb PassesOwn.never rfl (FW (Bi (AA (Ay (AA (dv 4) (AA (dv 5) AN))) (AA (Ay (AA (dv 5) (AA (dv 4) AN))) AN)))) (Gh rfl (Bg (Ae (i:=7) sc__law_lengths.nd rfl (Or.inl rfl)) (Bg (Ae (i:=8) sc__law_lengths.nd rfl (Or.inl rfl)) Ez))) (AM (BV (DTW.dt (EA (Ap (MV hr) Qn (dv 7) (HF 2) (by with_unfolding_all rfl)) (D_ (Ap (EZ hr) G1 (Ac Aa An (DB hr (HF 2) (dv 7)) (dv 6)) (Rj hr (HF 2) (dv 8) (Ac GR Er AE AE)) (Ah _))))) (AF (Fx (i:=2) hr (pv 2) (dv 8) (Ac Aa An (DB hr (HF 2) (dv 7)) (dv 6)))
 (AM (Aw (i:=3) sc__law_lengths.nd rfl (Or.inl rfl) EL))) As))))))))
 (AM (NY 2 (pv 2))))))) (fun ss n Pd hl hw=>GO hw)
theorem Ig:Ar ["_law_thing"] ["_law_thing"] (AI B5):=by constructor <;> first | rfl | decide +kernel
theorem Io{f:Addr}{fd:FuncData}(T:Txt K mg)(F:Fun K "_law_whole" "_law_whole" B5 f fd):Bq P w K mg base Dy 1 f fd ["_law_thing"] (Fg K .sh Di 1):=by
 exact IF F Ig (by decide) (fun cdv A outer s H E hr=>(AM (Am (El (CD HE (dv 0) rfl T.n_isinstance rfl T.n_int (by decide +kernel)) (FX (QQ (CD Hy (dv 0) rfl T.n_isinstance rfl T.n_bool (by decide +kernel)))))))) (fun ss n Pd hl hw=>Gs hw)
theorem sc__law_is_thin:Ar ["_law_net_here","_law_thing","_law_tie"] ["_law_net_here","_law_thing"] (AI Bo):=by constructor <;> first | rfl | decide +kernel
theorem G6{f:Addr}{fd:FuncData}(T:Txt K mg)(G__law_whole:CJ P w K mg base "_law_whole" 1 ["_law_thing"] .sh Di)(F:Fun K "_law_is_thin" "_law_is_thin" Bo f fd):Bq P w K mg base Dy 2 f fd ["_law_net_here","_law_thing"] (Fg K .sh FJ 2):=by
 exact IF F sc__law_is_thin (by decide) (fun cdv A outer s H E hr=>(AF (BV (DTW.dt (FE (EB (CC (CD Cs (dv 1) rfl T.n_isinstance rfl T.n_tuple (by decide +kernel)))) (FE (Ap (Hq hr) L5 (AW Au CA rfl T.n_len PySem.boot_len (AJ (dv 1) AQ)) AE (Ah _)) (FE (Ap (Hq hr) L5 (AS AL Al (dv 1) AE) (AS AL Al (dv 0) AE) (Ah _)) (Gc (EB (CC (CD Cs (AS AL Al (dv 1) AE) rfl T.n_isinstance rfl T.n_tuple (by decide +kernel))))))))) (AM (Am EL)) As)
 (AF (Cb PassesOwn.never rfl (FW (AS AL Al (dv 1) AE)) (Ae (i:=2) sc__law_is_thin.nd rfl (Or.inl rfl)) (AM (BV (DTW.dt (FE (EB (CC (CD Cs (dv 2) rfl T.n_isinstance rfl T.n_tuple (by decide +kernel)))) (FE (Ap (Hq hr) L5 (AW Au CA rfl T.n_len PySem.boot_len (AJ (dv 2) AQ)) AE (Ah _)) (FE (EB (CC (AK G__law_whole (hr.mono (by decide)) rfl (AB (AX (AS AL Al (dv 2) AE)) AO)))) (Gc (Ap (JU hr) Ql (dv 2) (AS AL Al (dv 0) AE) (by with_unfolding_all rfl))))))) (AM (Am EL)) As)))
 (AM (Am (AW (IT rfl) Qo rfl T.n_all PyProof.Rows.boot_all (AJ (CI rfl [("_law_thing" : Str),("_law_k" : Str)] [some 1,none] (DI.c (B9 rfl T.n_range (AJ (Ac Bw Cf (AW Au CA rfl T.n_len PySem.boot_len (AJ (AS AL Al (dv 1) AE) AQ)) AE) AQ))) (fun _ _ _ _ _=>(Ae (i:=1) (show List.Nodup [("_law_thing" : Str),("_law_k" : Str)] by decide +kernel) rfl (Or.inl rfl))) (fun _ _ _ _ _=>DA) (fun _ _ _ _ _=>(DR (EZ hr) G1 (AS AL Al (AS AL Al (dv 0) AE) (dv 1)) (AS AL Al (AS AL Al (dv 0) AE) (Ac Aa An (dv 1) AE)) (Ah _))) (by kernel_rfl)) AQ))))))) (fun ss n Pd hl hw=>GP hw)
theorem sc__law_least_tree:Ar ["_law_net_here","_law_piece","_law_place","_law_kept","_law_tie","_law_one","_law_other"] ["_law_net_here"] (AI BK):=by constructor <;> first | rfl | decide +kernel
theorem FP{f:Addr}{fd:FuncData}(T:Txt K mg)(G__law_order:CJ P w K mg base "_law_order" 1 ["_law_ties"] .fr IY)(F:Fun K "_law_least_tree" "_law_least_tree" BK f fd):Bq P w K mg base Dy 2 f fd ["_law_net_here"] (Fg K .sh G2 1):=by
 exact IF F sc__law_least_tree (by decide) (fun cdv A outer s H E hr=>(AF (Cw (i:=1) sc__law_least_tree.nd rfl (Or.inl rfl) QT)
 (AF (Cb PassesOwn.never rfl (FW (AS AL Al (dv 0) AE)) (Ae (i:=2) sc__law_least_tree.nd rfl (Or.inl rfl)) (AM (Fx (i:=1) hr (pv 1) (dv 2) (dv 2))))
 (AF (Cw (i:=3) sc__law_least_tree.nd rfl (Or.inl rfl) (Bi AN))
 (AF (Cb PassesOwn.never rfl (FW (AK G__law_order (hr.mono (by decide)) rfl (AB (AX (AS AL Al (dv 0) AE)) AO))) (Ae (i:=4) sc__law_least_tree.nd rfl (Or.inl rfl)) (AF (Aw (i:=5) sc__law_least_tree.nd rfl (Or.inl rfl) (DB hr (HF 1) (AS AL Al (dv 4) AE)))
 (AF (Aw (i:=6) sc__law_least_tree.nd rfl (Or.inl rfl) (DB hr (HF 1) (AS AL Al (dv 4) AE)))
 (AM (BV (Ap Pn Ti (dv 5) (dv 6) (Ah _)) (AF (DQ 3 PySem.F.plainAttrs_list PySem.F.slot_list_append PySem.F.type_list_append BL Dw (pv 3) (AA (dv 4) AN))
 (AM (Cb PassesOwn.never rfl (FW (AS AL Al (dv 0) AE)) (Ae (i:=2) sc__law_least_tree.nd rfl (Or.inl rfl)) (AM (BV (Ap C5 E7 (DB hr (HF 1) (dv 2)) (dv 6) (Ah _)) (AM (Fx (i:=1) hr (pv 1) (dv 2) (dv 5))) As))))) As)))))
 (AM (Am (Ay (AA (AS AL Al (dv 0) AE) (AA (BS BD Ce rfl T.n_tuple boot_tuple (AJ (AW Cu E1 rfl T.n_sorted boot_sorted (AJ (HF 3) AQ)) AQ)) AN)))))))))) (fun ss n Pd hl hw=>Hf hw)
theorem sc__law_some:Ar ["_law_feed_here","_law_ties","_law_share"] ["_law_feed_here","_law_ties"] (AI CO):=by constructor <;> first | rfl | decide +kernel
theorem KO{f:Addr}{fd:FuncData}(T:Txt K mg)(G__law_next:CJ P w K mg base "_law_next" 1 ["_law_feed_here","_law_many"] .sh BM)(F:Fun K "_law_some" "_law_some" CO f fd):Bq P w K mg base Dy 2 f fd ["_law_feed_here","_law_ties"] (Fg K .sh E3 2):=by
 exact IF F sc__law_some (by decide) (fun cdv A outer s H E hr=>(AF (Aw (i:=2) sc__law_some.nd rfl (Or.inr rfl) (Ac Aa An AE (AK G__law_next (hr.mono (by decide)) rfl (AB (A4 0) (AB (AX AE) AO)))))
 (AM (Am (BS BD Ce rfl T.n_tuple boot_tuple (AJ (CI rfl [("_law_feed_here" : Str),("_law_share" : Str),("_law_tie" : Str)] [some 0,some 2,none] (Cy (dv 1)) (fun _ _ _ _ _=>(Ae (i:=2) (show List.Nodup [("_law_feed_here" : Str),("_law_share" : Str),("_law_tie" : Str)] by decide +kernel) rfl (Or.inl rfl))) (fun _ _ _ _ _=>(Fy (Ap D4 GG (AK G__law_next (hr.mono (by decide)) rfl (AB (A4 0) (AB (AX (Ac Aa An AE (dv 1))) AO))) AE (Ah _)))) (fun _ _ _ _ _=>(dv 2)) (by kernel_rfl)) AQ)))))) (fun ss n Pd hl hw=>Ij hw)
theorem sc__law_any_tree:Ar ["_law_feed_here","_law_net_here","_law_left","_law_kept","_law_tie"] ["_law_feed_here","_law_net_here"] (AI Ba):=by constructor <;> first | rfl | decide +kernel
theorem GT{f:Addr}{fd:FuncData}(T:Txt K mg)(G__law_lengths:CJ P w K mg base "_law_lengths" 1 ["_law_ties","_law_place"] .fr CH)(G__law_next:CJ P w K mg base "_law_next" 1 ["_law_feed_here","_law_many"] .sh BM)(F:Fun K "_law_any_tree" "_law_any_tree" Ba f fd):Bq P w K mg base Dy 2 f fd ["_law_feed_here","_law_net_here"] (Fg K .sh Go 2):=by
 exact IF F sc__law_any_tree (by decide) (fun cdv A outer s H E hr=>(AF (Cw (i:=2) sc__law_any_tree.nd rfl (Or.inl rfl) (BS Cc HK rfl T.n_list boot_list (AJ (AS AL Al (dv 1) AE) AQ)))
 (AF (Cw (i:=3) sc__law_any_tree.nd rfl (Or.inl rfl) (Bi AN))
 (AF (IM PassesOwn.never (Ap (Hq hr) L5 (HF 2) (Bi AN) (Ah _)) (AF (NZ (i:=2) (pv 2) (AK G__law_next (hr.mono (by decide)) rfl (AB (A4 0) (AB (AX (AW Au CA rfl T.n_len PySem.boot_len (AJ (HF 2) AQ))) AO))) (Ae (i:=4) sc__law_any_tree.nd rfl (Or.inl rfl)))
 (AM (BV (Ap (JV hr) L6 (AS AL Al (dv 4) AE) (AK G__law_lengths (hr.mono (by decide)) rfl (AB (Jk (HF 3)) (AB (AX (AS AL Al (dv 4) AE)) AO))) (by with_unfolding_all rfl)) (AM (DQ 3 PySem.F.plainAttrs_list PySem.F.slot_list_append PySem.F.type_list_append BL Dw (pv 3) (AA (dv 4) AN))) As))))
 (AM (Am (Ay (AA (AS AL Al (dv 1) AE) (AA (BS BD Ce rfl T.n_tuple boot_tuple (AJ (AW Cu E1 rfl T.n_sorted boot_sorted (AJ (HF 3) AQ)) AQ)) AN))))))))) (fun ss n Pd hl hw=>Fl hw)
theorem sc__law_odd:Ar ["_law_feed_here","_law_some_here"] ["_law_feed_here"] (AI Cj):=by constructor <;> first | rfl | decide +kernel
theorem LZ{f:Addr}{fd:FuncData}(T:Txt K mg)(G__law_next:CJ P w K mg base "_law_next" 1 ["_law_feed_here","_law_many"] .sh BM)(F:Fun K "_law_odd" "_law_odd" Cj f fd):Bq P w K mg base Dy 2 f fd ["_law_feed_here"] (Fg K .sh Dk 1):=by
 exact IF F sc__law_odd (by decide) (fun cdv A outer s H E hr=>(AF (Aw (i:=1) sc__law_odd.nd rfl (Or.inl rfl) (Bi (AA QU (AA EL (AA AE (AA AE (AA (QR AE) (AA AE (AA A1 (AA A1 (AA A1 (AA (Ay AN) (AA (Bi AN) (AA (Ay (AA A1 AN)) (AA (Bi (AA A1 AN)) (AA (Ay (AA A1 (AA (Ay AN) AN))) (AA (Ac GR Er AE AE) (AA (Ay (AA A1 (AA A1 AN))) AN))))))))))))))))))
 (AM (Am (AS AL Al (dv 1) (AK G__law_next (hr.mono (by decide)) rfl (AB (A4 0) (AB (AX AE) AO)))))))) (fun ss n Pd hl hw=>PL hw)
theorem sc__law_bent:Ar ["_law_feed_here","_law_thing","_law_names_here","_law_deep","_law_way","_law_at","_law_inner"] ["_law_feed_here","_law_thing","_law_names_here","_law_deep"] (AI CQ):=by constructor <;> first | rfl | decide +kernel
theorem Fs{f:Addr}{fd:FuncData}(T:Txt K mg)(G__law_next:CJ P w K mg base "_law_next" 1 ["_law_feed_here","_law_many"] .sh BM)(G__law_odd:CJ P w K mg base "_law_odd" 2 ["_law_feed_here"] .sh Dk)(F:Fun K "_law_bent" "_law_bent" CQ f fd)(m:mg "_law_bent"=some (.ref f))(b:Binds K fd ["_law_feed_here","_law_thing","_law_names_here","_law_deep"] []):∀j,Bq P w K mg base Dy (3+j) f fd ["_law_feed_here","_law_thing","_law_names_here","_law_deep"] (Fg K .sh (FY j) 4)
 | 0=>by
  have G__law_bent:CJ P w K mg base "_law_bent" 2 ["_law_feed_here","_law_thing","_law_names_here","_law_deep"] .sh (fun _ _ _=>False):=BG F m b (fun _ _ _ h=>h.elim) (F.ok (k:=1) sc__law_bent (fun vs H Q E h=>h.1) (fun cdv A outer s H vs Q E hr h=>by obtain⟨_,_,_,_,_,_,_,_,_,hw,_⟩:=h; exact hw.elim))
  exact IF (k:=2) F sc__law_bent (by decide) (fun cdv A outer s H E hr=>(AF (Aw (i:=4) sc__law_bent.nd rfl (Or.inl rfl) (AK G__law_next (hr.mono (by omega)) rfl (AB (A4 0) (AB (AX AE) AO))))
 (AF (BV (CC (CD Cs (dv 1) rfl T.n_isinstance rfl T.n_tuple (by decide +kernel))) (AF (Aw (i:=5) sc__law_bent.nd rfl (Or.inl rfl) (AK G__law_next (hr.mono (by omega)) rfl (AB (A4 0) (AB (AX (Ac Aa An (AW Au CA rfl T.n_len PySem.boot_len (AJ (dv 1) AQ)) AE)) AO))))
 (AF (BV (DTW.dt (EA (Ap D4 GG (dv 4) AE (Ah _)) (EA (Ap (EZ hr) G1 (dv 5) (AW Au CA rfl T.n_len PySem.boot_len (AJ (dv 1) AQ)) (Ah _)) (D_ (Ap D4 GG (dv 3) AE (Ah _)))))) (AF (Aw (i:=6) sc__law_bent.nd rfl (Or.inl rfl) (AK G__law_bent (hr.mono (Nat.le_refl _)) rfl (AB (A4 0) (AB (AX (AS AL Al (dv 1) (dv 5))) (AB (AX (dv 2)) (AB (AX (Ac Bw Cf (dv 3) AE)) AO))))))
 (AM (Am (Ac Aa An (Ac Aa An (CF Df CG (dv 1) BQ (A7 (dv 5))) (Ay (AA (dv 6) AN))) (CF Df CG (dv 1) (A7 (Ac Aa An (dv 5) AE)) BQ))))) As)
 (AF (BV (DTW.dt (FE (Ap C5 E7 (dv 4) AE (Ah _)) (Gc (Ap C5 E7 (dv 4) AE (Ah _))))) (AM (Am (Ac Aa An (CF Df CG (dv 1) BQ (A7 (dv 5))) (CF Df CG (dv 1) (A7 (Ac Aa An (dv 5) AE)) BQ)))) As)
 (AF (BV (Ap C5 E7 (dv 4) AE (Ah _)) (AM (Am (Ac Aa An (Ac Aa An (CF Df CG (dv 1) BQ (A7 (dv 5))) (CF Df CG (dv 1) (A7 (dv 5)) (A7 (Ac Aa An (dv 5) AE)))) (CF Df CG (dv 1) (A7 (dv 5)) BQ)))) As)
 (AF (BV (Ap C5 E7 (dv 4) AE (Ah _)) (AM (Am (Ac Aa An (Ac Aa An (CF Df CG (dv 1) BQ (A7 (dv 5))) (Ay (AA (AK G__law_odd (hr.mono (by omega)) rfl (AB (A4 0) AO)) AN))) (CF Df CG (dv 1) (A7 (dv 5)) BQ)))) As)
 (AM (Am (AS AL Al (Bi (AA (BS Cc HK rfl T.n_list boot_list (AJ (dv 1) AQ)) (AA (IN rfl (dv 1) rfl T.n_tuple rfl T.n_reversed) AN))) (AK G__law_next (hr.mono (by omega)) rfl (AB (A4 0) (AB (AX AE) AO))))))))))) As)
 (AF (BV (DTW.dt (EA (CC (CD NN (dv 1) rfl T.n_isinstance rfl T.n_str (by decide +kernel))) (D_ (Ap D4 GG (dv 4) AE (Ah _))))) (AM (Am (AS AL Al (dv 2) (AK G__law_next (hr.mono (by omega)) rfl (AB (A4 0) (AB (AX (AW Au CA rfl T.n_len PySem.boot_len (AJ (dv 2) AQ))) AO)))))) As)
 (AF (BV (DTW.dt (EA (CC (CD HE (dv 1) rfl T.n_isinstance rfl T.n_int (by decide +kernel))) (D_ (Ap D4 GG (dv 4) AE (Ah _))))) (AM (Am (AS AL Al (Bi (AA (Ac Aa An (dv 1) AE) (AA (Ac Bw Cf (dv 1) AE) (AA (DR C5 E7 (dv 1) AE (Ah _)) (AA (Ac Aa An (dv 1) (Ac GR Er AE AE)) (AA AE (AA (Ac Bw Cf (dv 1) AE) (AA (Ac Aa An (dv 1) AE) AN)))))))) (Ac Bw Cf (dv 4) AE)))) As)
 (AM (Am (AK G__law_odd (hr.mono (by omega)) rfl (AB (A4 0) AO))))))))) (fun ss n Pd hl hw=>JQ (fun _ _ _ h _=>absurd rfl h) hw)
 | j+1=>by
  have G__law_bent:CJ P w K mg base "_law_bent" (3+j) ["_law_feed_here","_law_thing","_law_names_here","_law_deep"] .sh (FY j):=BG F m b (fun _ _ _ h=>by obtain⟨_,_,_,e,_⟩:=h; rw [e]; rfl) (Fs T G__law_next G__law_odd F m b j)
  exact IF (k:=3+j) F sc__law_bent (by decide) (fun cdv A outer s H E hr=>(AF (Aw (i:=4) sc__law_bent.nd rfl (Or.inl rfl) (AK G__law_next (hr.mono (by omega)) rfl (AB (A4 0) (AB (AX AE) AO))))
 (AF (BV (CC (CD Cs (dv 1) rfl T.n_isinstance rfl T.n_tuple (by decide +kernel))) (AF (Aw (i:=5) sc__law_bent.nd rfl (Or.inl rfl) (AK G__law_next (hr.mono (by omega)) rfl (AB (A4 0) (AB (AX (Ac Aa An (AW Au CA rfl T.n_len PySem.boot_len (AJ (dv 1) AQ)) AE)) AO))))
 (AF (BV (DTW.dt (EA (Ap D4 GG (dv 4) AE (Ah _)) (EA (Ap (EZ hr) G1 (dv 5) (AW Au CA rfl T.n_len PySem.boot_len (AJ (dv 1) AQ)) (Ah _)) (D_ (Ap D4 GG (dv 3) AE (Ah _)))))) (AF (Aw (i:=6) sc__law_bent.nd rfl (Or.inl rfl) (AK G__law_bent (hr.mono (Nat.le_refl _)) rfl (AB (A4 0) (AB (AX (AS AL Al (dv 1) (dv 5))) (AB (AX (dv 2)) (AB (AX (Ac Bw Cf (dv 3) AE)) AO))))))
 (AM (Am (Ac Aa An (Ac Aa An (CF Df CG (dv 1) BQ (A7 (dv 5))) (Ay (AA (dv 6) AN))) (CF Df CG (dv 1) (A7 (Ac Aa An (dv 5) AE)) BQ))))) As)
 (AF (BV (DTW.dt (FE (Ap C5 E7 (dv 4) AE (Ah _)) (Gc (Ap C5 E7 (dv 4) AE (Ah _))))) (AM (Am (Ac Aa An (CF Df CG (dv 1) BQ (A7 (dv 5))) (CF Df CG (dv 1) (A7 (Ac Aa An (dv 5) AE)) BQ)))) As)
 (AF (BV (Ap C5 E7 (dv 4) AE (Ah _)) (AM (Am (Ac Aa An (Ac Aa An (CF Df CG (dv 1) BQ (A7 (dv 5))) (CF Df CG (dv 1) (A7 (dv 5)) (A7 (Ac Aa An (dv 5) AE)))) (CF Df CG (dv 1) (A7 (dv 5)) BQ)))) As)
 (AF (BV (Ap C5 E7 (dv 4) AE (Ah _)) (AM (Am (Ac Aa An (Ac Aa An (CF Df CG (dv 1) BQ (A7 (dv 5))) (Ay (AA (AK G__law_odd (hr.mono (by omega)) rfl (AB (A4 0) AO)) AN))) (CF Df CG (dv 1) (A7 (dv 5)) BQ)))) As)
 (AM (Am (AS AL Al (Bi (AA (BS Cc HK rfl T.n_list boot_list (AJ (dv 1) AQ)) (AA (IN rfl (dv 1) rfl T.n_tuple rfl T.n_reversed) AN))) (AK G__law_next (hr.mono (by omega)) rfl (AB (A4 0) (AB (AX AE) AO))))))))))) As)
 (AF (BV (DTW.dt (EA (CC (CD NN (dv 1) rfl T.n_isinstance rfl T.n_str (by decide +kernel))) (D_ (Ap D4 GG (dv 4) AE (Ah _))))) (AM (Am (AS AL Al (dv 2) (AK G__law_next (hr.mono (by omega)) rfl (AB (A4 0) (AB (AX (AW Au CA rfl T.n_len PySem.boot_len (AJ (dv 2) AQ))) AO)))))) As)
 (AF (BV (DTW.dt (EA (CC (CD HE (dv 1) rfl T.n_isinstance rfl T.n_int (by decide +kernel))) (D_ (Ap D4 GG (dv 4) AE (Ah _))))) (AM (Am (AS AL Al (Bi (AA (Ac Aa An (dv 1) AE) (AA (Ac Bw Cf (dv 1) AE) (AA (DR C5 E7 (dv 1) AE (Ah _)) (AA (Ac Aa An (dv 1) (Ac GR Er AE AE)) (AA AE (AA (Ac Bw Cf (dv 1) AE) (AA (Ac Aa An (dv 1) AE) AN)))))))) (Ac Bw Cf (dv 4) AE)))) As)
 (AM (Am (AK G__law_odd (hr.mono (by omega)) rfl (AB (A4 0) AO))))))))) (fun ss n Pd hl hw=>JQ (j:=j+1) (fun _ _ _ _ h=>h) hw)
theorem sc__law_due:Ar ["_law_net_here","_law_place","_law_thing","_law_come_to"] ["_law_net_here","_law_place","_law_thing"] (AI Cl):=by constructor <;> first | rfl | decide +kernel
theorem Lb{f:Addr}{fd:FuncData}(T:Txt K mg)(G__law_is_thin:CJ P w K mg base "_law_is_thin" 2 ["_law_net_here","_law_thing"] .sh FJ)(G__law_lengths:CJ P w K mg base "_law_lengths" 1 ["_law_ties","_law_place"] .fr CH)(F:Fun K "_law_due" "_law_due" Cl f fd):Bq P w K mg base Dy 3 f fd ["_law_net_here","_law_place","_law_thing"] (Fg K .sh C3 3):=by
 exact IF F sc__law_due (by decide) (fun cdv A outer s H E hr=>(AF (BV (EB (CC (AK G__law_is_thin (hr.mono (by decide)) rfl (AB (AX (dv 0)) (AB (AX (dv 2)) AO))))) (AM (Am EL)) As)
 (AF (Aw (i:=3) sc__law_due.nd rfl (Or.inl rfl) (AW (IS rfl) Nj rfl T.n_sorted boot_sorted (AJ (AK G__law_lengths (hr.mono (by decide)) rfl (AB (Jk (AS AL Al (dv 0) AE)) (AB (AX (dv 1)) AO))) AQ)))
 (AM (Am (El (DR (MU hr) Qm (AW (IS rfl) Nj rfl T.n_sorted boot_sorted (AJ (AK G__law_lengths (hr.mono (by decide)) rfl (AB (Jk (AS AL Al (dv 2) AE)) (AB (AX (dv 1)) AO))) AQ)) (dv 3) (Ah _)) (FX (DR (MU hr) Qm (AW Au CA rfl T.n_len PySem.boot_len (AJ (AS AL Al (dv 2) AE) AQ)) (Ac Bw Cf (AW Au CA rfl T.n_len PySem.boot_len (AJ (dv 3) AQ)) AE) (Ah _))))))))) (fun ss n Pd hl hw=>KA hw)
theorem sc__law_things:Ar ["_law_feed_here","_law_net_here","_law_place","_law_come_to","_law_piece","_law_tree","_law_some_here","_law_left","_law_one","_law_k"] ["_law_feed_here","_law_net_here","_law_place"] (AI Bt):=by constructor <;> first | rfl | decide +kernel
theorem Hs{f:Addr}{fd:FuncData}(T:Txt K mg)(G__law_any_tree:CJ P w K mg base "_law_any_tree" 2 ["_law_feed_here","_law_net_here"] .sh Go)(G__law_bent:CJ P w K mg base "_law_bent" 6 ["_law_feed_here","_law_thing","_law_names_here","_law_deep"] .sh (FY 3))(G__law_least_tree:CJ P w K mg base "_law_least_tree" 2 ["_law_net_here"] .sh G2)(G__law_lengths:CJ P w K mg base "_law_lengths" 1 ["_law_ties","_law_place"] .fr CH)(G__law_next:CJ P w K mg base "_law_next" 1 ["_law_feed_here","_law_many"] .sh BM)(G__law_odd:CJ P w K mg base "_law_odd" 2 ["_law_feed_here"] .sh Dk)(G__law_some:CJ P w K mg base "_law_some" 2 ["_law_feed_here","_law_ties"] .sh E3)(F:Fun K "_law_things" "_law_things" Bt f fd):Bq P w K mg base Dy 7 f fd ["_law_feed_here","_law_net_here","_law_place"] (Fg K .sh Dx 3):=by
 exact IF F sc__law_things (by decide) (fun cdv A outer s H E hr=>(AF (Aw (i:=3) sc__law_things.nd rfl (Or.inr rfl) (TZ (AK G__law_lengths (hr.mono (by decide)) rfl (AB (Jk (AS AL Al (dv 1) AE)) (AB (AX (dv 2)) AO)))))
 (AF (Aw (i:=4) sc__law_things.nd rfl (Or.inl rfl) (Ay (AA (AS AL Al (dv 1) AE) (AA (BS BD Ce rfl T.n_tuple boot_tuple (AJ (CI rfl [("_law_come_to" : Str),("_law_tie" : Str)] [some 3,none] (Cy (AS AL Al (dv 1) AE)) (fun _ _ _ _ _=>(Ae (i:=1) (show List.Nodup [("_law_come_to" : Str),("_law_tie" : Str)] by decide +kernel) rfl (Or.inl rfl))) (fun _ _ _ _ _=>(Fy (Ap (MV hr) Qn (AS AL Al (dv 1) AE) (dv 0) (by with_unfolding_all rfl)))) (fun _ _ _ _ _=>(dv 1)) (by kernel_rfl)) AQ)) AN))))
 (AF (Aw (i:=5) sc__law_things.nd rfl (Or.inr rfl) (AK G__law_any_tree (hr.mono (by decide)) rfl (AB (A4 0) (AB (AX (dv 4)) AO))))
 (AF (Cw (i:=6) sc__law_things.nd rfl (Or.inl rfl) (Bi (AA (dv 5) (AA (AK G__law_any_tree (hr.mono (by decide)) rfl (AB (A4 0) (AB (AX (dv 1)) AO))) (AA (AK G__law_least_tree (hr.mono (by decide)) rfl (AB (AX (dv 1)) AO)) (AA (AK G__law_least_tree (hr.mono (by decide)) rfl (AB (AX (dv 4)) AO)) (AA (dv 1) (AA (Ay (AA (AS AL Al (dv 1) AE) (AA (Ay AN) AN))) AN))))))))
 (AF (DQ 6 PySem.F.plainAttrs_list PySem.F.slot_list_append PySem.F.type_list_append BL Dw (pv 6) (AA (Ay (AA (AS AL Al (dv 1) AE) (AA (AK G__law_some (hr.mono (by decide)) rfl (AB (A4 0) (AB (AX (AS AL Al (dv 1) AE)) AO))) AN))) AN))
 (AF (DQ 6 PySem.F.plainAttrs_list PySem.F.slot_list_append PySem.F.type_list_append BL Dw (pv 6) (AA (Ay (AA (AS AL Al (dv 1) AE) (AA (AK G__law_some (hr.mono (by decide)) rfl (AB (A4 0) (AB (AX (AS AL Al (dv 5) AE)) AO))) AN))) AN))
 (AF (NX (i:=7) sc__law_things.nd rfl (Or.inl rfl) rfl [("_law_tree" : Str),("_law_tie" : Str)] [some 5,none] (Cy (AS AL Al (dv 1) AE)) (fun _ _ _ _ _=>(Ae (i:=1) (show List.Nodup [("_law_tree" : Str),("_law_tie" : Str)] by decide +kernel) rfl (Or.inl rfl))) (fun _ _ _ _ _=>(Fy (Ap (JU hr) Ql (dv 1) (AS AL Al (dv 0) AE) (by with_unfolding_all rfl)))) (fun _ _ _ _ _=>(dv 1)) (by kernel_rfl))
 (AF (BV (Ap (Hq hr) L5 (dv 7) (Bi AN) (Ah _)) (AF (Aw (i:=8) sc__law_things.nd rfl (Or.inl rfl) (AS AL Al (dv 7) (AK G__law_next (hr.mono (by decide)) rfl (AB (A4 0) (AB (AX (AW Au CA rfl T.n_len PySem.boot_len (AJ (dv 7) AQ))) AO)))))
 (AF (DQ 6 PySem.F.plainAttrs_list PySem.F.slot_list_append PySem.F.type_list_append BL Dw (pv 6) (AA (Ay (AA (AS AL Al (dv 1) AE) (AA (BS BD Ce rfl T.n_tuple boot_tuple (AJ (AW Cu E1 rfl T.n_sorted boot_sorted (AJ (Ac Aa An (AS AL Al (dv 5) AE) (Ay (AA (dv 8) AN))) AQ)) AQ)) AN))) AN))
 (AM (Cb PassesOwn.never rfl (B9 rfl T.n_range (AJ (AW (Jm rfl) Qh rfl T.n_min boot_min (AJ AE (AJ (AW Au CA rfl T.n_len PySem.boot_len (AJ (AS AL Al (dv 5) AE) AQ)) AQ))) AQ)) (Ae (i:=9) sc__law_things.nd rfl (Or.inl rfl)) (AM (DQ 6 PySem.F.plainAttrs_list PySem.F.slot_list_append PySem.F.type_list_append BL Dw (pv 6) (AA (Ay (AA (AS AL Al (dv 1) AE) (AA (BS BD Ce rfl T.n_tuple boot_tuple (AJ (AW Cu E1 rfl T.n_sorted boot_sorted (AJ (Ac Aa An (Ac Aa An (CF Df CG (AS AL Al (dv 5) AE) BQ (A7 (dv 9))) (CF Df CG (AS AL Al (dv 5) AE) (A7 (Ac Aa An (dv 9) AE)) BQ)) (Ay (AA (dv 8) AN))) AQ)) AQ)) AN))) AN))))))) As)
 (AF (DQ 6 PySem.F.plainAttrs_list PySem.F.slot_list_append PySem.F.type_list_append BL Dw (pv 6) (AA (Ay (AA (BS BD Ce rfl T.n_tuple boot_tuple (AJ (CI rfl [("_law_come_to" : Str),("_law_one" : Str)] [some 3,none] (Cy (AS AL Al (dv 1) AE)) (fun _ _ _ _ _=>(Ae (i:=1) (show List.Nodup [("_law_come_to" : Str),("_law_one" : Str)] by decide +kernel) rfl (Or.inl rfl))) (fun _ _ _ _ _=>(Fy (Ap (MV hr) Qn (dv 1) (dv 0) (by with_unfolding_all rfl)))) (fun _ _ _ _ _=>(dv 1)) (by kernel_rfl)) AQ)) (AA (AS AL Al (dv 5) AE) AN))) AN))
 (AF (DQ 6 PySem.F.plainAttrs_list PySem.F.slot_list_append PySem.F.type_list_append BL Dw (pv 6) (AA (Ay (AA (AS AL Al (dv 1) AE) (AA (TY (AS AL Al (dv 5) AE) (QR AE)) AN))) AN))
 (AF (DQ 6 PySem.F.plainAttrs_list PySem.F.slot_list_append PySem.F.type_list_append BL Dw (pv 6) (AA (Ay (AA (BS Cc HK rfl T.n_list boot_list (AJ (AS AL Al (dv 1) AE) AQ)) (AA (AS AL Al (dv 5) AE) AN))) AN))
 (AF (DQ 6 PySem.F.plainAttrs_list PySem.F.slot_list_append PySem.F.type_list_append BL Dw (pv 6) (AA (AS AL Al (dv 5) AE) AN))
 (AF (Cb PassesOwn.never rfl (B9 rfl T.n_range (AJ AE AQ)) (Ae (i:=9) sc__law_things.nd rfl (Or.inl rfl)) (AM (DQ 6 PySem.F.plainAttrs_list PySem.F.slot_list_append PySem.F.type_list_append BL Dw (pv 6) (AA (AK G__law_bent (hr.mono (by decide)) rfl (AB (A4 0) (AB (AX (dv 5)) (AB (AX (AS AL Al (dv 1) AE)) (AB (AX AE) AO))))) AN))))
 (AM (Am (Ac Aa An (HF 6) (Bi (AA (AK G__law_odd (hr.mono (by decide)) rfl (AB (A4 0) AO)) AN))))))))))))))))))) (fun ss n Pd hl hw=>LS hw)
end
section
variable {P:Program}{w:World}{K:Frag}{mg:Str->Option Value}{base:Heap}
theorem J8:Ar ["_law_script"] ["_law_script"] (AI CP):=by constructor <;> first | rfl | decide +kernel
theorem KP{f:Addr}{fd:FuncData}(T:Txt K mg)(F:Fun K "_law_feed" "_law_feed" CP f fd):Bq P w K mg base Dy 1 f fd ["_law_script"] (J3 K):=by
 refine F.ok J8 (fun vs H Q E h=>?_) (fun cdv A outer s H vs Q E hr h=>?_)
 ·obtain⟨a,ns,rfl,_⟩:=h
  rfl
 ·obtain⟨a,ns,rfl,⟨hl,hS⟩,q⟩:=h
  refine⟨_,DZ (FN (MT (B8 (JS Cc rfl T.n_list boot_list (B8 (LV sl_list (pv 0) NG (NF A0)) DM)) (B8 A0 (B8 A0 DM))))),?_⟩
  refine⟨_,rfl,63,rfl,a,_,rfl,hS,fun p hp=>⟨p,_,rfl,.inl (SqL.of Ab),fun c hc=>⟨by show 3<=sizeLine; decide,fun g hg=>?_⟩⟩⟩
  rw [Uu hl] at hg ⊢
  have ncg:c≠g:=fun z=>by rw [← z,Ab] at hg; cases hg
  exact q c g _ ncg (by rw [AU ncg,Ab]) Ab
theorem sc_law:Ar ["_law_script","_law_feed_here","_law_nets","_law_places","_law_things_here","_law_k","_law_at","_law_thing","_law_found","_law_place","_law_tree"] ["_law_script"] (AI Fj):=by constructor <;> first | rfl | decide +kernel
theorem S5{f ff:Addr}{fd fdf:FuncData}(T:Txt K mg)(Gf:Bq P w K mg base Dy 1 ff fdf ["_law_script"] (J3 K))(mf:mg "_law_feed"=some (.ref ff))(kf:keepIn K (.ref ff)=true)(bf:Binds K fdf ["_law_script"] [])
  (G__law_due:CJ P w K mg base "_law_due" 3 ["_law_net_here","_law_place","_law_thing"] .sh C3) (G__law_least_tree:CJ P w K mg base "_law_least_tree" 2 ["_law_net_here"] .sh G2) (G__law_net:CJ P w K mg base "_law_net" 3 ["_law_feed_here","_law_most","_law_ties"] .sh Gk) (G__law_next:CJ P w K mg base "_law_next" 1 ["_law_feed_here","_law_many"] .sh BM) (G__law_things:CJ P w K mg base "_law_things" 7 ["_law_feed_here","_law_net_here","_law_place"] .sh Dx) (G_is_tree_from:CJ P w K mg base "is_tree_from" 4 ["net","place","thing"] .sh C3) (F:Fun K "law" "law" Fj f fd):Bq P w K mg base Dy 8 f fd ["_law_script"] (LP K):=by
 exact Ul (n0:=3000) F sc_law rfl (by decide) (fun cdv A outer s H E hr=>EW (i:=1) sc_law.nd rfl (Or.inr rfl) (NI Gf (hr.mono (by decide)) rfl mf kf bf .nil SD (B8 (pv 0) DM)))
  (fun cdv A outer s H E hr=>(AF (Aw (i:=2) sc_law.nd rfl (Or.inr rfl) (Bi (AA (AK G__law_net (hr.mono (by decide)) rfl (AB (A4 1) (AB (AX AE) (AB (AX AE) AO)))) (AA (AK G__law_net (hr.mono (by decide)) rfl (AB (A4 1) (AB (AX AE) (AB (AX AE) AO)))) AN))))
 (AF (Aw (i:=3) sc_law.nd rfl (Or.inr rfl) (CI rfl [("_law_feed_here" : Str),("_law_net_here" : Str)] [some 1,none] (Cy (dv 2)) (fun _ _ _ _ _=>(Ae (i:=1) (show List.Nodup [("_law_feed_here" : Str),("_law_net_here" : Str)] by decide +kernel) rfl (Or.inl rfl))) (fun _ _ _ _ _=>DA) (fun _ _ _ _ _=>(AS AL Al (AS AL Al (dv 1) AE) (AK G__law_next (hr.mono (by decide)) rfl (AB (A4 0) (AB (AX (AW Au CA rfl T.n_len PySem.boot_len (AJ (AS AL Al (dv 1) AE) AQ))) AO))))) (by kernel_rfl)))
 (AF (NX (i:=4) sc_law.nd rfl (Or.inl rfl) rfl [("_law_feed_here" : Str),("_law_nets" : Str),("_law_places" : Str),("_law_k" : Str)] [some 1,some 2,some 3,none] (DI.c (B9 rfl T.n_range (AJ AE AQ))) (fun _ _ _ _ _=>(Ae (i:=3) (show List.Nodup [("_law_feed_here" : Str),("_law_nets" : Str),("_law_places" : Str),("_law_k" : Str)] by decide +kernel) rfl (Or.inl rfl))) (fun _ _ _ _ _=>DA) (fun _ _ _ _ _=>(AK G__law_things (hr.mono (by decide)) rfl (AB (A4 0) (AB (AX (AS AL Al (dv 1) (dv 3))) (AB (AX (AS AL Al (dv 2) (dv 3))) AO))))) (by kernel_rfl))
 (AF (Cb PassesOwn.never rfl (B9 rfl T.n_range (AJ (AW (Od rfl) Tk rfl T.n_max boot_max (AJ (AW Au CA rfl T.n_len PySem.boot_len (AJ (AS AL Al (dv 4) AE) AQ)) (AJ (AW Au CA rfl T.n_len PySem.boot_len (AJ (AS AL Al (dv 4) AE) AQ)) AQ))) AQ)) (Ae (i:=5) sc_law.nd rfl (Or.inl rfl)) (AM (Cb PassesOwn.never rfl (B9 rfl T.n_range (AJ AE AQ)) (Ae (i:=6) sc_law.nd rfl (Or.inl rfl)) (AF (Aw (i:=7) sc_law.nd rfl (Or.inl rfl) (AS AL Al (AS AL Al (dv 4) (dv 6)) (Ac D1 Er (dv 5) (AW Au CA rfl T.n_len PySem.boot_len (AJ (AS AL Al (dv 4) (dv 6)) AQ)))))
 (AF (Aw (i:=8) sc_law.nd rfl (Or.inl rfl) (AK G_is_tree_from (hr.mono (by decide)) rfl (AB (AX (AS AL Al (dv 2) (dv 6))) (AB (AX (AS AL Al (dv 3) (dv 6))) (AB (AX (dv 7)) AO)))))
 (AM (BV (DTW.dt (FE (EB (CC (CD Hy (dv 8) rfl T.n_isinstance rfl T.n_bool (by decide +kernel)))) (Gc (Ap Pn Ti (dv 8) (AK G__law_due (hr.mono (by decide)) rfl (AB (AX (AS AL Al (dv 2) (dv 6))) (AB (AX (AS AL Al (dv 3) (dv 6))) (AB (AX (dv 7)) AO)))) (Ah _))))) (AM (Am EL)) As)))))))
 (AF (Cb PassesOwn.never rfl (B9 rfl T.n_range (AJ AE AQ)) (Ae (i:=6) sc_law.nd rfl (Or.inl rfl)) (AM (Cb PassesOwn.never rfl (FW (AS AL Al (AS AL Al (dv 2) (dv 6)) AE)) (Ae (i:=9) sc_law.nd rfl (Or.inl rfl)) (AF (Aw (i:=10) sc_law.nd rfl (Or.inl rfl) (AK G__law_least_tree (hr.mono (by decide)) rfl (AB (AX (AS AL Al (dv 2) (dv 6))) AO)))
 (AM (BV (Ap Pn Ti (AK G_is_tree_from (hr.mono (by decide)) rfl (AB (AX (AS AL Al (dv 2) (dv 6))) (AB (AX (dv 9)) (AB (AX (dv 10)) AO)))) (AK G__law_due (hr.mono (by decide)) rfl (AB (AX (AS AL Al (dv 2) (dv 6))) (AB (AX (dv 9)) (AB (AX (dv 10)) AO)))) (Ah _)) (AM (Am EL)) As))))))
 (AM (Am EL)))))))) ML
end
theorem Gv{β:Type}{g k:List Value->β}(us:List Value)(h:us.length=1)(c:∀a0:Value,g [a0]=k [a0]):g us=k us:=by
 match us,h with
 | [a0],_=>exact c a0
theorem EK{β:Type}{g k:List Value->β}(us:List Value)(h:us.length=2)(c:∀a0 a1:Value,g [a0,a1]=k [a0,a1]):g us=k us:=by
 match us,h with
 | [a0,a1],_=>exact c a0 a1
theorem NM{β:Type}{g k:List Value->β}(us:List Value)(h:us.length=3)(c:∀a0 a1 a2:Value,g [a0,a1,a2]=k [a0,a1,a2]):g us=k us:=by
 match us,h with
 | [a0,a1,a2],_=>exact c a0 a1 a2
theorem Ug{β:Type}{g k:List Value->β}(us:List Value)(h:us.length=4)(c:∀a0 a1 a2 a3:Value,g [a0,a1,a2,a3]=k [a0,a1,a2,a3]):g us=k us:=by
 match us,h with
 | [a0,a1,a2,a3],_=>exact c a0 a1 a2 a3
theorem all_mk{l:PySem.W.OpenLaw}{w:World}{K:Frag}{h:Heap}{mg:Str->Option Value}{fa:Addr}(X:K.In h)(G:h.Ns mainGlobals mg)(hfa:mg "law"=some (.ref fa))
  {f0 f1 f2 f3 f4 f5 f6 f7 f8 f9 f10 f11 f12 f13 f14 f15 f16 f17 f18 f19 f20 f21 f22 f23 f24 f25:Addr} {od0 an0 od1 an1 od2 an2 od3 an3 od4 an4 od5 an5 od6 an6 od7 an7 od8 an8 od9 an9 od10 an10 od11 an11 od12 an12 od13 an13 od14 an14 od15 an15 od16 an16 od17 an17 od18 an18 od19 an19 od20 an20 od21 an21 od22 an22 od23 an23 od24 an24 od25 an25:Option Addr} {sl0 sl1 sl2 sl3 sl4 sl5 sl6 sl7 sl8 sl9 sl10 sl11 sl12 sl13 sl14 sl15 sl16 sl17 sl18 sl19 sl20 sl21 sl22 sl23 sl24 sl25:Array (Option Value)} {oc0 kV0 dc0 pm0 cd0 ct0 oc1 kV1 dc1 pm1 cd1 ct1 oc2 kV2 dc2 pm2 cd2 ct2 oc3 kV3 dc3 pm3 cd3 ct3 oc4 kV4 dc4 pm4 cd4 ct4 oc5 kV5 dc5 pm5 cd5 ct5 oc6 kV6 dc6 pm6 cd6 ct6 oc7 kV7 dc7 pm7 cd7 ct7 oc8 kV8 dc8 pm8 cd8 ct8 oc9 kV9 dc9 pm9 cd9 ct9 oc10 kV10 dc10 pm10 cd10 ct10 oc11 kV11 dc11 pm11 cd11 ct11 oc12 kV12 dc12 pm12 cd12 ct12 oc13 kV13 dc13 pm13 cd13 ct13 oc14 kV14 dc14 pm14 cd14 ct14 oc15 kV15 dc15 pm15 cd15 ct15 oc16 kV16 dc16 pm16 cd16 ct16 oc17 kV17 dc17 pm17 cd17 ct17 oc18 kV18 dc18 pm18 cd18 ct18 oc19 kV19 dc19 pm19 cd19 ct19 oc20 kV20 dc20 pm20 cd20 ct20 oc21 kV21 dc21 pm21 cd21 ct21 oc22 kV22 dc22 pm22 cd22 ct22 oc23 kV23 dc23 pm23 cd23 ct23 oc24 kV24 dc24 pm24 cd24 ct24 oc25 kV25 dc25 pm25 cd25 ct25:Value}
  (a0:nsIn K mainGlobals "is_whole"=some (some (.ref f0))) (l0:K.lookup f0=some ⟨oc0,od0,.func (fnOf "is_whole" "is_whole" (Aq Ci) (Ao Ci) (AI Ci) .none kV0 dc0 pm0 an0 cd0 ct0),sl0⟩) (c0:codeIn K cd0 "is_whole"=true) (k0:keepIn K (.ref f0)=true)
  (a1:nsIn K mainGlobals "is_tuple_of"=some (some (.ref f1))) (l1:K.lookup f1=some ⟨oc1,od1,.func (fnOf "is_tuple_of" "is_tuple_of" (Aq Bs) (Ao Bs) (AI Bs) .none kV1 dc1 pm1 an1 cd1 ct1),sl1⟩) (c1:codeIn K cd1 "is_tuple_of"=true) (k1:keepIn K (.ref f1)=true)
  (a2:nsIn K mainGlobals "is_rising"=some (some (.ref f2))) (l2:K.lookup f2=some ⟨oc2,od2,.func (fnOf "is_rising" "is_rising" (Aq CN) (Ao CN) (AI CN) .none kV2 dc2 pm2 an2 cd2 ct2),sl2⟩) (c2:codeIn K cd2 "is_rising"=true) (k2:keepIn K (.ref f2)=true)
  (a3:nsIn K mainGlobals "steps_of"=some (some (.ref f3))) (l3:K.lookup f3=some ⟨oc3,od3,.func (fnOf "steps_of" "steps_of" (Aq Ch) (Ao Ch) (AI Ch) .none kV3 dc3 pm3 an3 cd3 ct3),sl3⟩) (c3:codeIn K cd3 "steps_of"=true) (k3:keepIn K (.ref f3)=true)
  (a4:nsIn K mainGlobals "is_tie_of"=some (some (.ref f4))) (l4:K.lookup f4=some ⟨oc4,od4,.func (fnOf "is_tie_of" "is_tie_of" (Aq CM) (Ao CM) (AI CM) .none kV4 dc4 pm4 an4 cd4 ct4),sl4⟩) (c4:codeIn K cd4 "is_tie_of"=true) (k4:keepIn K (.ref f4)=true)
  (a5:nsIn K mainGlobals "is_thin"=some (some (.ref f5))) (l5:K.lookup f5=some ⟨oc5,od5,.func (fnOf "is_thin" "is_thin" (Aq DD) (Ao DD) (AI DD) .none kV5 dc5 pm5 an5 cd5 ct5),sl5⟩) (c5:codeIn K cd5 "is_thin"=true) (k5:keepIn K (.ref f5)=true)
  (a6:nsIn K mainGlobals "nearest_of"=some (some (.ref f6))) (l6:K.lookup f6=some ⟨oc6,od6,.func (fnOf "nearest_of" "nearest_of" (Aq B3) (Ao B3) (AI B3) .none kV6 dc6 pm6 an6 cd6 ct6),sl6⟩) (c6:codeIn K cd6 "nearest_of"=true) (k6:keepIn K (.ref f6)=true)
  (a7:nsIn K mainGlobals "least_ways"=some (some (.ref f7))) (l7:K.lookup f7=some ⟨oc7,od7,.func (fnOf "least_ways" "least_ways" (Aq B4) (Ao B4) (AI B4) .none kV7 dc7 pm7 an7 cd7 ct7),sl7⟩) (c7:codeIn K cd7 "least_ways"=true) (k7:keepIn K (.ref f7)=true)
  (a8:nsIn K mainGlobals "is_tree_from"=some (some (.ref f8))) (l8:K.lookup f8=some ⟨oc8,od8,.func (fnOf "is_tree_from" "is_tree_from" (Aq Bm) (Ao Bm) (AI Bm) .none kV8 dc8 pm8 an8 cd8 ct8),sl8⟩) (c8:codeIn K cd8 "is_tree_from"=true) (k8:keepIn K (.ref f8)=true)
  (a9:nsIn K mainGlobals "_law_feed"=some (some (.ref f9))) (l9:K.lookup f9=some ⟨oc9,od9,.func (fnOf "_law_feed" "_law_feed" (Aq CP) (Ao CP) (AI CP) .none kV9 dc9 pm9 an9 cd9 ct9),sl9⟩) (c9:codeIn K cd9 "_law_feed"=true) (k9:keepIn K (.ref f9)=true)
  (a10:nsIn K mainGlobals "_law_next"=some (some (.ref f10))) (l10:K.lookup f10=some ⟨oc10,od10,.func (fnOf "_law_next" "_law_next" (Aq Bz) (Ao Bz) (AI Bz) .none kV10 dc10 pm10 an10 cd10 ct10),sl10⟩) (c10:codeIn K cd10 "_law_next"=true) (k10:keepIn K (.ref f10)=true)
  (a11:nsIn K mainGlobals "_law_names"=some (some (.ref f11))) (l11:K.lookup f11=some ⟨oc11,od11,.func (fnOf "_law_names" "_law_names" (Aq B7) (Ao B7) (AI B7) .none kV11 dc11 pm11 an11 cd11 ct11),sl11⟩) (c11:codeIn K cd11 "_law_names"=true) (k11:keepIn K (.ref f11)=true)
  (a12:nsIn K mainGlobals "_law_length"=some (some (.ref f12))) (l12:K.lookup f12=some ⟨oc12,od12,.func (fnOf "_law_length" "_law_length" (Aq Bu) (Ao Bu) (AI Bu) .none kV12 dc12 pm12 an12 cd12 ct12),sl12⟩) (c12:codeIn K cd12 "_law_length"=true) (k12:keepIn K (.ref f12)=true)
  (a13:nsIn K mainGlobals "_law_net"=some (some (.ref f13))) (l13:K.lookup f13=some ⟨oc13,od13,.func (fnOf "_law_net" "_law_net" (Aq Ck) (Ao Ck) (AI Ck) .none kV13 dc13 pm13 an13 cd13 ct13),sl13⟩) (c13:codeIn K cd13 "_law_net"=true) (k13:keepIn K (.ref f13)=true)
  (a14:nsIn K mainGlobals "_law_order"=some (some (.ref f14))) (l14:K.lookup f14=some ⟨oc14,od14,.func (fnOf "_law_order" "_law_order" (Aq B6) (Ao B6) (AI B6) .none kV14 dc14 pm14 an14 cd14 ct14),sl14⟩) (c14:codeIn K cd14 "_law_order"=true) (k14:keepIn K (.ref f14)=true)
  (a15:nsIn K mainGlobals "_law_lengths"=some (some (.ref f15))) (l15:K.lookup f15=some ⟨oc15,od15,.func (fnOf "_law_lengths" "_law_lengths" (Aq Bn) (Ao Bn) (AI Bn) .none kV15 dc15 pm15 an15 cd15 ct15),sl15⟩) (c15:codeIn K cd15 "_law_lengths"=true) (k15:keepIn K (.ref f15)=true)
  (a16:nsIn K mainGlobals "_law_whole"=some (some (.ref f16))) (l16:K.lookup f16=some ⟨oc16,od16,.func (fnOf "_law_whole" "_law_whole" (Aq B5) (Ao B5) (AI B5) .none kV16 dc16 pm16 an16 cd16 ct16),sl16⟩) (c16:codeIn K cd16 "_law_whole"=true) (k16:keepIn K (.ref f16)=true)
  (a17:nsIn K mainGlobals "_law_is_thin"=some (some (.ref f17))) (l17:K.lookup f17=some ⟨oc17,od17,.func (fnOf "_law_is_thin" "_law_is_thin" (Aq Bo) (Ao Bo) (AI Bo) .none kV17 dc17 pm17 an17 cd17 ct17),sl17⟩) (c17:codeIn K cd17 "_law_is_thin"=true) (k17:keepIn K (.ref f17)=true)
  (a18:nsIn K mainGlobals "_law_least_tree"=some (some (.ref f18))) (l18:K.lookup f18=some ⟨oc18,od18,.func (fnOf "_law_least_tree" "_law_least_tree" (Aq BK) (Ao BK) (AI BK) .none kV18 dc18 pm18 an18 cd18 ct18),sl18⟩) (c18:codeIn K cd18 "_law_least_tree"=true) (k18:keepIn K (.ref f18)=true)
  (a19:nsIn K mainGlobals "_law_some"=some (some (.ref f19))) (l19:K.lookup f19=some ⟨oc19,od19,.func (fnOf "_law_some" "_law_some" (Aq CO) (Ao CO) (AI CO) .none kV19 dc19 pm19 an19 cd19 ct19),sl19⟩) (c19:codeIn K cd19 "_law_some"=true) (k19:keepIn K (.ref f19)=true)
  (a20:nsIn K mainGlobals "_law_any_tree"=some (some (.ref f20))) (l20:K.lookup f20=some ⟨oc20,od20,.func (fnOf "_law_any_tree" "_law_any_tree" (Aq Ba) (Ao Ba) (AI Ba) .none kV20 dc20 pm20 an20 cd20 ct20),sl20⟩) (c20:codeIn K cd20 "_law_any_tree"=true) (k20:keepIn K (.ref f20)=true)
  (a21:nsIn K mainGlobals "_law_odd"=some (some (.ref f21))) (l21:K.lookup f21=some ⟨oc21,od21,.func (fnOf "_law_odd" "_law_odd" (Aq Cj) (Ao Cj) (AI Cj) .none kV21 dc21 pm21 an21 cd21 ct21),sl21⟩) (c21:codeIn K cd21 "_law_odd"=true) (k21:keepIn K (.ref f21)=true)
  (a22:nsIn K mainGlobals "_law_bent"=some (some (.ref f22))) (l22:K.lookup f22=some ⟨oc22,od22,.func (fnOf "_law_bent" "_law_bent" (Aq CQ) (Ao CQ) (AI CQ) .none kV22 dc22 pm22 an22 cd22 ct22),sl22⟩) (c22:codeIn K cd22 "_law_bent"=true) (k22:keepIn K (.ref f22)=true)
  (a23:nsIn K mainGlobals "_law_due"=some (some (.ref f23))) (l23:K.lookup f23=some ⟨oc23,od23,.func (fnOf "_law_due" "_law_due" (Aq Cl) (Ao Cl) (AI Cl) .none kV23 dc23 pm23 an23 cd23 ct23),sl23⟩) (c23:codeIn K cd23 "_law_due"=true) (k23:keepIn K (.ref f23)=true)
  (a24:nsIn K mainGlobals "_law_things"=some (some (.ref f24))) (l24:K.lookup f24=some ⟨oc24,od24,.func (fnOf "_law_things" "_law_things" (Aq Bt) (Ao Bt) (AI Bt) .none kV24 dc24 pm24 an24 cd24 ct24),sl24⟩) (c24:codeIn K cd24 "_law_things"=true) (k24:keepIn K (.ref f24)=true)
  (a25:nsIn K mainGlobals "law"=some (some (.ref f25))) (l25:K.lookup f25=some ⟨oc25,od25,.func (fnOf "law" "law" (Aq Fj) (Ao Fj) (AI Fj) .none kV25 dc25 pm25 an25 cd25 ct25),sl25⟩) (c25:codeIn K cd25 "law"=true) (k25:keepIn K (.ref f25)=true)
  (z_all:nsIn K mainGlobals "all"=some none)
  (z_bool:nsIn K mainGlobals "bool"=some none)
  (z_int:nsIn K mainGlobals "int"=some none)
  (z_isinstance:nsIn K mainGlobals "isinstance"=some none)
  (z_len:nsIn K mainGlobals "len"=some none)
  (z_list:nsIn K mainGlobals "list"=some none)
  (z_max:nsIn K mainGlobals "max"=some none)
  (z_min:nsIn K mainGlobals "min"=some none)
  (z_range:nsIn K mainGlobals "range"=some none)
  (z_reversed:nsIn K mainGlobals "reversed"=some none)
  (z_sorted:nsIn K mainGlobals "sorted"=some none)
  (z_str:nsIn K mainGlobals "str"=some none)
  (z_tuple:nsIn K mainGlobals "tuple"=some none)
  (z_zip:nsIn K mainGlobals "zip"=some none)
  : ∃fd:FuncData,(∀(s:Shared) (v:Value),BindsTo s fd ⟨[v],[]⟩ [("_law_script",v)])/\∀base:Heap,K.In base->base.Ns mainGlobals mg->Bq l.prog w K mg base Dy 8 fa fd ["_law_script"] (LP K):=by
 have e:=hfa.symm.trans (mg_of X G a25)
 cases e
 have T:Txt K mg:=⟨mg_none_of X G z_all,mg_none_of X G z_bool,mg_none_of X G z_int,mg_none_of X G z_isinstance,mg_none_of X G z_len,mg_none_of X G z_list,mg_none_of X G z_max,mg_none_of X G z_min,mg_none_of X G z_range,mg_none_of X G z_reversed,mg_none_of X G z_sorted,mg_none_of X G z_str,mg_none_of X G z_tuple,mg_none_of X G z_zip⟩
 have F0:=BH (st:=Ci) l0 c0 k0
 have b0:=F0.binds (ps:=["thing"]) fun _ _ _ _ _ _ us hl=>by revert hl; revert us; exact fun us hl=>Gv (g:=fun us=>bindArgs _ ⟨us,[]⟩) (k:=fun us=>pure (List.zip _ us)) us hl fun _=>rfl
 have F1:=BH (st:=Bs) l1 c1 k1
 have b1:=F1.binds (ps:=["count","thing"]) fun _ _ _ _ _ _ us hl=>by revert hl; revert us; exact fun us hl=>EK (g:=fun us=>bindArgs _ ⟨us,[]⟩) (k:=fun us=>pure (List.zip _ us)) us hl fun _ _=>rfl
 have F2:=BH (st:=CN) l2 c2 k2
 have b2:=F2.binds (ps:=["things"]) fun _ _ _ _ _ _ us hl=>by revert hl; revert us; exact fun us hl=>Gv (g:=fun us=>bindArgs _ ⟨us,[]⟩) (k:=fun us=>pure (List.zip _ us)) us hl fun _=>rfl
 have F3:=BH (st:=Ch) l3 c3 k3
 have b3:=F3.binds (ps:=["net"]) fun _ _ _ _ _ _ us hl=>by revert hl; revert us; exact fun us hl=>Gv (g:=fun us=>bindArgs _ ⟨us,[]⟩) (k:=fun us=>pure (List.zip _ us)) us hl fun _=>rfl
 have F4:=BH (st:=CM) l4 c4 k4
 have b4:=F4.binds (ps:=["net","thing"]) fun _ _ _ _ _ _ us hl=>by revert hl; revert us; exact fun us hl=>EK (g:=fun us=>bindArgs _ ⟨us,[]⟩) (k:=fun us=>pure (List.zip _ us)) us hl fun _ _=>rfl
 have F5:=BH (st:=DD) l5 c5 k5
 have b5:=F5.binds (ps:=["net","thing"]) fun _ _ _ _ _ _ us hl=>by revert hl; revert us; exact fun us hl=>EK (g:=fun us=>bindArgs _ ⟨us,[]⟩) (k:=fun us=>pure (List.zip _ us)) us hl fun _ _=>rfl
 have F6:=BH (st:=B3) l6 c6 k6
 have b6:=F6.binds (ps:=["waiting","found"]) fun _ _ _ _ _ _ us hl=>by revert hl; revert us; exact fun us hl=>EK (g:=fun us=>bindArgs _ ⟨us,[]⟩) (k:=fun us=>pure (List.zip _ us)) us hl fun _ _=>rfl
 have F7:=BH (st:=B4) l7 c7 k7
 have b7:=F7.binds (ps:=["net","start"]) fun _ _ _ _ _ _ us hl=>by revert hl; revert us; exact fun us hl=>EK (g:=fun us=>bindArgs _ ⟨us,[]⟩) (k:=fun us=>pure (List.zip _ us)) us hl fun _ _=>rfl
 have F8:=BH (st:=Bm) l8 c8 k8
 have b8:=F8.binds (ps:=["net","place","thing"]) fun _ _ _ _ _ _ us hl=>by revert hl; revert us; exact fun us hl=>NM (g:=fun us=>bindArgs _ ⟨us,[]⟩) (k:=fun us=>pure (List.zip _ us)) us hl fun _ _ _=>rfl
 have F9:=BH (st:=CP) l9 c9 k9
 have b9:=F9.binds (ps:=["_law_script"]) fun _ _ _ _ _ _ us hl=>by revert hl; revert us; exact fun us hl=>Gv (g:=fun us=>bindArgs _ ⟨us,[]⟩) (k:=fun us=>pure (List.zip _ us)) us hl fun _=>rfl
 have F10:=BH (st:=Bz) l10 c10 k10
 have b10:=F10.binds (ps:=["_law_feed_here","_law_many"]) fun _ _ _ _ _ _ us hl=>by revert hl; revert us; exact fun us hl=>EK (g:=fun us=>bindArgs _ ⟨us,[]⟩) (k:=fun us=>pure (List.zip _ us)) us hl fun _ _=>rfl
 have F11:=BH (st:=B7) l11 c11 k11
 have b11:=F11.binds (ps:=["_law_feed_here","_law_many"]) fun _ _ _ _ _ _ us hl=>by revert hl; revert us; exact fun us hl=>EK (g:=fun us=>bindArgs _ ⟨us,[]⟩) (k:=fun us=>pure (List.zip _ us)) us hl fun _ _=>rfl
 have F12:=BH (st:=Bu) l12 c12 k12
 have b12:=F12.binds (ps:=["_law_feed_here","_law_way"]) fun _ _ _ _ _ _ us hl=>by revert hl; revert us; exact fun us hl=>EK (g:=fun us=>bindArgs _ ⟨us,[]⟩) (k:=fun us=>pure (List.zip _ us)) us hl fun _ _=>rfl
 have F13:=BH (st:=Ck) l13 c13 k13
 have b13:=F13.binds (ps:=["_law_feed_here","_law_most","_law_ties"]) fun _ _ _ _ _ _ us hl=>by revert hl; revert us; exact fun us hl=>NM (g:=fun us=>bindArgs _ ⟨us,[]⟩) (k:=fun us=>pure (List.zip _ us)) us hl fun _ _ _=>rfl
 have F14:=BH (st:=B6) l14 c14 k14
 have b14:=F14.binds (ps:=["_law_ties"]) fun _ _ _ _ _ _ us hl=>by revert hl; revert us; exact fun us hl=>Gv (g:=fun us=>bindArgs _ ⟨us,[]⟩) (k:=fun us=>pure (List.zip _ us)) us hl fun _=>rfl
 have F15:=BH (st:=Bn) l15 c15 k15
 have b15:=F15.binds (ps:=["_law_ties","_law_place"]) fun _ _ _ _ _ _ us hl=>by revert hl; revert us; exact fun us hl=>EK (g:=fun us=>bindArgs _ ⟨us,[]⟩) (k:=fun us=>pure (List.zip _ us)) us hl fun _ _=>rfl
 have F16:=BH (st:=B5) l16 c16 k16
 have b16:=F16.binds (ps:=["_law_thing"]) fun _ _ _ _ _ _ us hl=>by revert hl; revert us; exact fun us hl=>Gv (g:=fun us=>bindArgs _ ⟨us,[]⟩) (k:=fun us=>pure (List.zip _ us)) us hl fun _=>rfl
 have F17:=BH (st:=Bo) l17 c17 k17
 have b17:=F17.binds (ps:=["_law_net_here","_law_thing"]) fun _ _ _ _ _ _ us hl=>by revert hl; revert us; exact fun us hl=>EK (g:=fun us=>bindArgs _ ⟨us,[]⟩) (k:=fun us=>pure (List.zip _ us)) us hl fun _ _=>rfl
 have F18:=BH (st:=BK) l18 c18 k18
 have b18:=F18.binds (ps:=["_law_net_here"]) fun _ _ _ _ _ _ us hl=>by revert hl; revert us; exact fun us hl=>Gv (g:=fun us=>bindArgs _ ⟨us,[]⟩) (k:=fun us=>pure (List.zip _ us)) us hl fun _=>rfl
 have F19:=BH (st:=CO) l19 c19 k19
 have b19:=F19.binds (ps:=["_law_feed_here","_law_ties"]) fun _ _ _ _ _ _ us hl=>by revert hl; revert us; exact fun us hl=>EK (g:=fun us=>bindArgs _ ⟨us,[]⟩) (k:=fun us=>pure (List.zip _ us)) us hl fun _ _=>rfl
 have F20:=BH (st:=Ba) l20 c20 k20
 have b20:=F20.binds (ps:=["_law_feed_here","_law_net_here"]) fun _ _ _ _ _ _ us hl=>by revert hl; revert us; exact fun us hl=>EK (g:=fun us=>bindArgs _ ⟨us,[]⟩) (k:=fun us=>pure (List.zip _ us)) us hl fun _ _=>rfl
 have F21:=BH (st:=Cj) l21 c21 k21
 have b21:=F21.binds (ps:=["_law_feed_here"]) fun _ _ _ _ _ _ us hl=>by revert hl; revert us; exact fun us hl=>Gv (g:=fun us=>bindArgs _ ⟨us,[]⟩) (k:=fun us=>pure (List.zip _ us)) us hl fun _=>rfl
 have F22:=BH (st:=CQ) l22 c22 k22
 have b22:=F22.binds (ps:=["_law_feed_here","_law_thing","_law_names_here","_law_deep"]) fun _ _ _ _ _ _ us hl=>by revert hl; revert us; exact fun us hl=>Ug (g:=fun us=>bindArgs _ ⟨us,[]⟩) (k:=fun us=>pure (List.zip _ us)) us hl fun _ _ _ _=>rfl
 have F23:=BH (st:=Cl) l23 c23 k23
 have b23:=F23.binds (ps:=["_law_net_here","_law_place","_law_thing"]) fun _ _ _ _ _ _ us hl=>by revert hl; revert us; exact fun us hl=>NM (g:=fun us=>bindArgs _ ⟨us,[]⟩) (k:=fun us=>pure (List.zip _ us)) us hl fun _ _ _=>rfl
 have F24:=BH (st:=Bt) l24 c24 k24
 have b24:=F24.binds (ps:=["_law_feed_here","_law_net_here","_law_place"]) fun _ _ _ _ _ _ us hl=>by revert hl; revert us; exact fun us hl=>NM (g:=fun us=>bindArgs _ ⟨us,[]⟩) (k:=fun us=>pure (List.zip _ us)) us hl fun _ _ _=>rfl
 have F25:=BH (st:=Fj) l25 c25 k25
 refine⟨fnOf "law" "law" (Aq Fj) (Ao Fj) (AI Fj) .none kV25 dc25 pm25 an25 cd25 ct25,fun s v=>.of_eq rfl,fun base _ _=>?_⟩
 have G_is_whole:CJ l.prog w K mg base "is_whole" 1 ["thing"] .sh Di:=BG F0 (mg_of X G a0) b0 (fun _ _ _ h=>JR h) (LY T  F0)
 have G_is_tuple_of:CJ l.prog w K mg base "is_tuple_of" 1 ["count","thing"] .sh Et:=BG F1 (mg_of X G a1) b1 (fun _ _ _ h=>by obtain⟨_,_,e,_⟩:=h; rw [e]; rfl) (Hr T  F1)
 have G_is_rising:CJ l.prog w K mg base "is_rising" 1 ["things"] .sh GH:=BG F2 (mg_of X G a2) b2 (fun _ _ _ h=>by obtain⟨_,_,e,_⟩:=h; rw [e]; rfl) (KM T  F2)
 have G_steps_of:CJ l.prog w K mg base "steps_of" 1 ["net"] .sh K_:=BG F3 (mg_of X G a3) b3 (fun _ _ _ h=>by obtain⟨_,e,_⟩:=h; rw [e]; rfl) (LX F3)
 have G_is_tie_of:CJ l.prog w K mg base "is_tie_of" 2 ["net","thing"] .sh Qp:=BG F4 (mg_of X G a4) b4 (fun _ _ _ h=>by obtain⟨_,_,e,_⟩:=h; rw [e]; rfl) (KL T G_is_whole F4)
 have G_is_thin:CJ l.prog w K mg base "is_thin" 3 ["net","thing"] .sh FJ:=BG F5 (mg_of X G a5) b5 (fun _ _ _ h=>by obtain⟨_,_,e,_⟩:=h; rw [e]; rfl) (MX T G_is_rising G_is_tie_of G_is_tuple_of F5)
 have G_nearest_of:CJ l.prog w K mg base "nearest_of" 1 ["waiting","found"] .sh L7:=BG F6 (mg_of X G a6) b6 (fun _ _ _ h=>by obtain⟨_,_,_,_,e,_⟩:=h; rw [e]; rfl) (Il T  F6)
 have G_least_ways:CJ l.prog w K mg base "least_ways" 2 ["net","start"] .fr Gn:=BG F7 (mg_of X G a7) b7 (fun _ _ _ h=>by obtain⟨_,_,e,_⟩:=h; rw [e]; rfl) (Im T G_nearest_of G_steps_of F7)
 have G_is_tree_from:CJ l.prog w K mg base "is_tree_from" 4 ["net","place","thing"] .sh C3:=BG F8 (mg_of X G a8) b8 (fun _ _ _ h=>by obtain⟨_,_,_,e,_⟩:=h; rw [e]; rfl) (G4 T G_is_thin G_least_ways F8)
 have Gf:=KP (P:=l.prog) (w:=w) (base:=base) T F9
 have G__law_next:CJ l.prog w K mg base "_law_next" 1 ["_law_feed_here","_law_many"] .sh BM:=BG F10 (mg_of X G a10) b10 (fun _ _ _ h=>by obtain⟨_,e,_⟩:=h; rw [e]; rfl) (RN F10 T.n_len)
 have G__law_names:CJ l.prog w K mg base "_law_names" 2 ["_law_feed_here","_law_many"] .sh Eu:=BG F11 (mg_of X G a11) b11 (fun _ _ _ h=>by obtain⟨_,e,_⟩:=h; rw [e]; rfl) (Iq T G__law_next F11)
 have G__law_length:CJ l.prog w K mg base "_law_length" 2 ["_law_feed_here","_law_way"] .sh Gm:=BG F12 (mg_of X G a12) b12 (fun _ _ _ h=>by obtain⟨_,e,_⟩:=h; rw [e]; rfl) (Ht T G__law_next F12)
 have G__law_net:CJ l.prog w K mg base "_law_net" 3 ["_law_feed_here","_law_most","_law_ties"] .sh Gk:=BG F13 (mg_of X G a13) b13 (fun _ _ _ h=>by obtain⟨_,_,e,_⟩:=h; rw [e]; rfl) (La T G__law_length G__law_names G__law_next F13)
 have G__law_order:CJ l.prog w K mg base "_law_order" 1 ["_law_ties"] .fr IY:=BG F14 (mg_of X G a14) b14 (fun _ _ _ h=>by obtain⟨_,_,e,_⟩:=h; rw [e]; rfl) (Ip T  F14)
 have G__law_lengths:CJ l.prog w K mg base "_law_lengths" 1 ["_law_ties","_law_place"] .fr CH:=BG F15 (mg_of X G a15) b15 (fun _ _ _ h=>by obtain⟨_,_,_,_,e,_⟩:=h; rw [e]; rfl) (G5 T  F15)
 have G__law_whole:CJ l.prog w K mg base "_law_whole" 1 ["_law_thing"] .sh Di:=BG F16 (mg_of X G a16) b16 (fun _ _ _ h=>JR h) (Io T  F16)
 have G__law_is_thin:CJ l.prog w K mg base "_law_is_thin" 2 ["_law_net_here","_law_thing"] .sh FJ:=BG F17 (mg_of X G a17) b17 (fun _ _ _ h=>by obtain⟨_,_,e,_⟩:=h; rw [e]; rfl) (G6 T G__law_whole F17)
 have G__law_least_tree:CJ l.prog w K mg base "_law_least_tree" 2 ["_law_net_here"] .sh G2:=BG F18 (mg_of X G a18) b18 (fun _ _ _ h=>by obtain⟨_,e,_⟩:=h; rw [e]; rfl) (FP T G__law_order F18)
 have G__law_some:CJ l.prog w K mg base "_law_some" 2 ["_law_feed_here","_law_ties"] .sh E3:=BG F19 (mg_of X G a19) b19 (fun _ _ _ h=>by obtain⟨_,e,_⟩:=h; rw [e]; rfl) (KO T G__law_next F19)
 have G__law_any_tree:CJ l.prog w K mg base "_law_any_tree" 2 ["_law_feed_here","_law_net_here"] .sh Go:=BG F20 (mg_of X G a20) b20 (fun _ _ _ h=>by obtain⟨_,e,_⟩:=h; rw [e]; rfl) (GT T G__law_lengths G__law_next F20)
 have G__law_odd:CJ l.prog w K mg base "_law_odd" 2 ["_law_feed_here"] .sh Dk:=BG F21 (mg_of X G a21) b21 (fun _ _ _ h=>by obtain⟨e,_⟩:=h; rw [e]; rfl) (LZ T G__law_next F21)
 have G__law_bent:CJ l.prog w K mg base "_law_bent" 6 ["_law_feed_here","_law_thing","_law_names_here","_law_deep"] .sh (FY 3):=BG F22 (mg_of X G a22) b22 (fun _ _ _ h=>by obtain⟨_,_,_,e,_⟩:=h; rw [e]; rfl) (Fs T G__law_next G__law_odd F22 (mg_of X G a22) b22 3)
 have G__law_due:CJ l.prog w K mg base "_law_due" 3 ["_law_net_here","_law_place","_law_thing"] .sh C3:=BG F23 (mg_of X G a23) b23 (fun _ _ _ h=>by obtain⟨_,_,_,e,_⟩:=h; rw [e]; rfl) (Lb T G__law_is_thin G__law_lengths F23)
 have G__law_things:CJ l.prog w K mg base "_law_things" 7 ["_law_feed_here","_law_net_here","_law_place"] .sh Dx:=BG F24 (mg_of X G a24) b24 (fun _ _ _ h=>by obtain⟨_,_,e,_⟩:=h; rw [e]; rfl) (Hs T G__law_any_tree G__law_bent G__law_least_tree G__law_lengths G__law_next G__law_odd G__law_some F24)
 exact S5 T Gf (mg_of X G a9) F9.kp b9 G__law_due G__law_least_tree G__law_net G__law_next G__law_things G_is_tree_from F25
theorem walk{l:PySem.W.OpenLaw}{q:Program}{loose:List Str}{XP:(Str->Option Value)->Heap->Prop}{YP:World->Heap->Prop}{d:DefRec}{K:Params->Frag}(hn:l.most=some 63)(hdf:d.params.defaults=[])
  (hY:∀(w:World) (h:Heap),YP w h->(K w.params).In h)
  (F:∀(w:World) (mg:Str->Option Value) (fa:Addr) (h:Heap),(K w.params).In h->h.Ns mainGlobals mg->mg d.name=some (.ref fa) ->
   ∃fd:FuncData,(∀(s:Shared) (u:Value),BindsTo s fd ⟨[u],[]⟩ [("_law_script",u)])/\∀base:Heap,(K w.params).In base->base.Ns mainGlobals mg->Bq l.prog w (K w.params) mg base Dy 8 fa fd ["_law_script"] (LP (K w.params))) :
  PySem.W.WalkO q loose XP YP l.row.toRowW d [] (fun f vs=>PySem.call f vs) :=
 L2.Mu (n:=63) (k:=8) (x := "_law_script") (CX:=fun _=>Dy) (sp:=fun w=>LP (K w.params)) hn (by decide) hdf ⟨rfl,by decide,by decide,rfl⟩ hY F (fun _ _ a ns hl _ hS=>⟨a,ns,rfl,⟨hl,hS⟩,fun _=>rfl⟩) fun _ _ _ _ _ z=>z
end K32
open PySem PySem.W PyProof.Rows
set_option maxRecDepth 100000 in
set_option maxHeartbeats 0 in
theorem PySem.Challenge.cw_thinnet_k32_trees_from_a_place_holds : PySem.Challenge.rw_thinnet_k32_trees_from_a_place.Holds := by
 w_on; o_law; k_head; (case hw=>w_witness2)
 k_fill
 refine K32.walk (l:=PySem.Challenge.rw_thinnet_k32_trees_from_a_place) rfl rfl (fun w h Y=>PySem.W.kIn_of Y) ?F
 case F =>
  intro w mg fa h KX G hmg
  refine' K32.all_mk KX G hmg ?a0 ?l0 ?c0 ?k0 ?a1 ?l1 ?c1 ?k1 ?a2 ?l2 ?c2 ?k2 ?a3 ?l3 ?c3 ?k3 ?a4 ?l4 ?c4 ?k4 ?a5 ?l5 ?c5 ?k5 ?a6 ?l6 ?c6 ?k6 ?a7 ?l7 ?c7 ?k7 ?a8 ?l8 ?c8 ?k8 ?a9 ?l9 ?c9 ?k9 ?a10 ?l10 ?c10 ?k10 ?a11 ?l11 ?c11 ?k11 ?a12 ?l12 ?c12 ?k12 ?a13 ?l13 ?c13 ?k13 ?a14 ?l14 ?c14 ?k14 ?a15 ?l15 ?c15 ?k15 ?a16 ?l16 ?c16 ?k16 ?a17 ?l17 ?c17 ?k17 ?a18 ?l18 ?c18 ?k18 ?a19 ?l19 ?c19 ?k19 ?a20 ?l20 ?c20 ?k20 ?a21 ?l21 ?c21 ?k21 ?a22 ?l22 ?c22 ?k22 ?a23 ?l23 ?c23 ?k23 ?a24 ?l24 ?c24 ?k24 ?a25 ?l25 ?c25 ?k25 ?z_all ?z_bool ?z_int ?z_isinstance ?z_len ?z_list ?z_max ?z_min ?z_range ?z_reversed ?z_sorted ?z_str ?z_tuple ?z_zip
  case a0=>k_is
  case l0=>k_is
  case c0=>k_is
  case k0=>k_is
  case a1=>k_is
  case l1=>k_is
  case c1=>k_is
  case k1=>k_is
  case a2=>k_is
  case l2=>k_is
  case c2=>k_is
  case k2=>k_is
  case a3=>k_is
  case l3=>k_is
  case c3=>k_is
  case k3=>k_is
  case a4=>k_is
  case l4=>k_is
  case c4=>k_is
  case k4=>k_is
  case a5=>k_is
  case l5=>k_is
  case c5=>k_is
  case k5=>k_is
  case a6=>k_is
  case l6=>k_is
  case c6=>k_is
  case k6=>k_is
  case a7=>k_is
  case l7=>k_is
  case c7=>k_is
  case k7=>k_is
  case a8=>k_is
  case l8=>k_is
  case c8=>k_is
  case k8=>k_is
  case a9=>k_is
  case l9=>k_is
  case c9=>k_is
  case k9=>k_is
  case a10=>k_is
  case l10=>k_is
  case c10=>k_is
  case k10=>k_is
  case a11=>k_is
  case l11=>k_is
  case c11=>k_is
  case k11=>k_is
  case a12=>k_is
  case l12=>k_is
  case c12=>k_is
  case k12=>k_is
  case a13=>k_is
  case l13=>k_is
  case c13=>k_is
  case k13=>k_is
  case a14=>k_is
  case l14=>k_is
  case c14=>k_is
  case k14=>k_is
  case a15=>k_is
  case l15=>k_is
  case c15=>k_is
  case k15=>k_is
  case a16=>k_is
  case l16=>k_is
  case c16=>k_is
  case k16=>k_is
  case a17=>k_is
  case l17=>k_is
  case c17=>k_is
  case k17=>k_is
  case a18=>k_is
  case l18=>k_is
  case c18=>k_is
  case k18=>k_is
  case a19=>k_is
  case l19=>k_is
  case c19=>k_is
  case k19=>k_is
  case a20=>k_is
  case l20=>k_is
  case c20=>k_is
  case k20=>k_is
  case a21=>k_is
  case l21=>k_is
  case c21=>k_is
  case k21=>k_is
  case a22=>k_is
  case l22=>k_is
  case c22=>k_is
  case k22=>k_is
  case a23=>k_is
  case l23=>k_is
  case c23=>k_is
  case k23=>k_is
  case a24=>k_is
  case l24=>k_is
  case c24=>k_is
  case k24=>k_is
  case a25=>k_is
  case l25=>k_is
  case c25=>k_is
  case k25=>k_is
  case z_all=>k_is
  case z_bool=>k_is
  case z_int=>k_is
  case z_isinstance=>k_is
  case z_len=>k_is
  case z_list=>k_is
  case z_max=>k_is
  case z_min=>k_is
  case z_range=>k_is
  case z_reversed=>k_is
  case z_sorted=>k_is
  case z_str=>k_is
  case z_tuple=>k_is
  case z_zip=>k_is
#print axioms PySem.Challenge.cw_thinnet_k32_trees_from_a_place_holds
